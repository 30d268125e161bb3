import PyProof.Rows.All
import Wide.All
import OpenK.AllK
import Wide.FinOn
import HandS.ForMost
import HandS.Style
import HandS.Strs
import HandS.IsInst
import HandS.Wide
import HandS.RaiseMore
import PyProof.ReprRoads
import KE.GoesEnum
import HandS.Rev
import HandS.Zip
import HandS.Star
import HandS.Conv
import PySem.Challenge.RW_bentplane_k16_numbers_of_steps_with_told
import HandS.Dict
import HandS.TupAny
set_option Elab.async false
set_option linter.all false
set_option maxRecDepth 100000
set_option maxHeartbeats 4000000
/-! General rules of mine: repr of data, index of a tuple of ints, a written dict with int keys, defs that know that no repr runs around them. -/
namespace BP
open PySem PySem.Spec PyProof.Rows L2

/-! ### repr of data -/
def rRepr (K : PySem.W.Frag) : List V → Hp → VK → Prop := fun xs H Q =>
  ∃ a d, xs = [.ref a] ∧ Dp K H (.ref a) d ∧ d.showable = true ∧ d.hasDict = false ∧ d.depth ≤ 40 ∧ d.shown.length ≤ sizeLine ∧ Q (.str d.shown) H
section
variable {X : Cx}
theorem call_repr_data (hg : X.A.guards = some []) (hu : X.A.units + 64 < cLine) : CallR X (.builtin "repr") (rRepr X.K) := by
  intro pins s σ H xs us Q I r h
  obtain ⟨a, d, rfl, hd, hs, hn, hdep, hz, q⟩ := h
  obtain ⟨u, rfl, ru⟩ := vals1 r
  have e : u = Value.ref a := ru
  subst e
  obtain ⟨as, rd⟩ := Dp.reads I d _ _ hd rfl
  refine repr_of_reads' rd hs (PyData.noDict_hsm hn) hg (by omega) (fun b o e => e) (fun h' u tk hk => ?_) hz
  exact ⟨.str d.shown, H, I.kept hk, ⟨_, rfl⟩, q⟩
end

/-! ### t.index(n) of a tuple of whole numbers -/
theorem flat_ints (ys : List Int) : (ys.map V.int).all flatV = true := by
  rw [List.all_map]
  exact List.all_eq_true.mpr fun _ _ => rfl
def rTupIx (K : PySem.W.Frag) : V → List V → Hp → VK → Prop := fun x xs H Q =>
  ∃ p, ∃ ys : List Int, ∃ z j, x = .ref p ∧ xs = [.int z] ∧ SqT K H p (ys.map V.int) ∧ ys[j]? = some z ∧ (∀ m, m < j → ys[m]? ≠ some z) ∧ Q (.int (j : Nat)) H
theorem mt_tupIx {X : Cx} : MtR X "tuple.index" (rTupIx X.K) := by
  intro pins s σ H x xs v us Q I rx rs h
  obtain ⟨p, ys, z, j, rfl, rfl, hq, hy, hno, q⟩ := h
  cases rx
  obtain ⟨u, rfl, t, rfl⟩ := vals1 rs
  obtain ⟨its, r, pl, hz⟩ := I.tuple hq
  obtain ⟨⟨cls, dd, dt, sl⟩, ho, hc, n, hd⟩ := pl
  simp only at hc hd
  subst hc hd
  have hl : its.toArray.size = ys.length := by
    rw [List.size_toArray, ← r.length, List.length_map]
  have hj : j < its.toArray.size := by
    rw [hl]
    exact (List.getElem?_eq_some_iff.mp hy).1
  have look : ∀ (m : Nat) (hm : m < its.toArray.size), ∃ y t', ys[m]? = some y ∧ its.toArray[m] = Value.int y t' := by
    intro m hm
    have hm' : m < ys.length := by
      rw [← hl]
      exact hm
    obtain ⟨w, hw, t', hw'⟩ := r.get (i := m) (x := .int ys[m]) (by simp [hm'])
    refine ⟨ys[m], t', List.getElem?_eq_getElem hm', ?_⟩
    have e := (List.getElem?_eq_some_iff.mp hw).2
    rw [← hw', ← e]
    simp
  have ev : ∀ (y : Int) (t' : Tok), eqU (.int z) (Value.int y t') = decide (y = z) := by
    intro y t'
    show eqV (.int y) (.int z) = _
    by_cases e : y = z
    · subst e
      simp [eqV]
    · simp [eqV, e]
  refine call_meets PySem.F.slot_tuple_index ⟨_, ho, rfl⟩ PySem.F.entry_tuple_index (PySem.F.args_tuple_index_2 _ _)
    (TI.tuple_indexAt p its.toArray n dd sl (.int z t) (eqU (.int z)) j hj ?_ ?_)
    ⟨ho, fun w hw => mem_eqAt (x := .int z) ⟨t, rfl⟩ rfl r (flat_ints ys) w (by simpa using hw), ⟨.int (j : Nat), H, I.tok _, ⟨_, rfl⟩, q⟩⟩
  · obtain ⟨y, t', h1, h2⟩ := look j hj
    rw [h2, ev]
    rw [hy] at h1
    cases h1
    exact decide_eq_true rfl
  · intro m hm hmj
    obtain ⟨y, t', h1, h2⟩ := look m hm
    rw [h2, ev]
    exact decide_eq_false fun e => hno m hmj (e ▸ h1)

/-! ### a dict of the module whose keys are whole numbers -/
def keysI (es : List DictEntry) : Bool := es.all fun e => match e.key with
  | .int i _ => e.hash == hashInt i
  | _ => false
def KDI (K : PySem.W.Frag) (d : Addr) (i : Int) (v : V) : Prop :=
  ∃ es n u, K.lookup d = some ⟨.type "dict", none, .dict es n, #[]⟩ ∧ keysI es.toList = true ∧ findBy Value.isInt es i = some u ∧ RelV v u
theorem ix_kint {X : Cx} : IxR X (fun x y H Q => ∃ p i v, x = .ref p ∧ y = .int i ∧ KDI X.K p i v ∧ Q v H) := by
  intro value slice pins s σ H x y v u Q I rx ry h hs
  obtain ⟨p, i, z, rfl, rfl, ⟨es, n, u0, hl, hk, e, ru⟩, q⟩ := h
  obtain rfl : v = Value.ref p := rx
  obtain ⟨t, rfl⟩ := ry
  have hm : s.heap.MapOf (intKind X.prog X.w) p (fun k => findBy Value.isInt es k) := by
    refine ⟨_, es, n, I.kIn _ _ hl, ⟨rfl, rfl, rfl⟩, rfl, fun e he => ?_, fun _ => rfl⟩
    have q := List.all_eq_true.mp hk e (Array.mem_toList_iff.mpr he)
    split at q
    · rename_i i t' ek
      refine ⟨i, ?_, beq_iff_eq.mp q⟩
      rw [ek]
      exact intKind_is X.prog X.w i t'
    · cases q
  exact tail_any hm.typeIs slot_dict_getitem.lookup (wpAny_getItem_of (intKind_is X.prog X.w i t) hm e ⟨z, H, I.tok _, ru, q⟩) hs
end BP
set_option Elab.async false
set_option linter.all false
set_option maxRecDepth 100000
set_option maxHeartbeats 4000000
/-! Defs that are called where no repr is under way: their promise may use that. -/
namespace BP
open PySem PySem.Spec PyProof.Rows L2

section
variable (P : Program) (w : World) (K : PySem.W.Frag) (mg : Str → Option Value) (base : Heap)
/-- as FnOk, but only where no guard is up -/
structure GFn (k : Nat) (f : Addr) (fd : FuncData) (ps : List Str) (sp : Sp) : Prop where
  len : ∀ vs H Q E, sp vs H Q E → vs.length = ps.length
  run : ∀ (A : Around) (outer : List Env) (s : Shared) (H : Hp) (args : Args) (us : List Value) (vs : List V) (Q : VK) (E : XK),
    A.guards = some [] → Room k A → Env0 P w K mg base A outer s H → BindsTo s fd args (ps.zip us) → Vals vs us → sp vs H Q E →
    codeAny (model P w) A (.call (.ref f) args) (CR CX0 outer P w H s Q E) s
end

section
variable {P : Program} {w : World} {K : PySem.W.Frag} {mg : Str → Option Value} {base : Heap}
theorem FnOk.g {k : Nat} {f : Addr} {fd : FuncData} {ps : List Str} {sp : Sp} (F : FnOk P w K mg base CX0 k f fd ps sp) : GFn P w K mg base k f fd ps sp :=
  ⟨F.len, fun A outer s H args us vs Q E _ hr => F.run A outer s H args us vs Q E hr⟩

theorem gfn_of {k : Nat} {f : Addr} {name qual : Str} {params : Arguments} {body : List Stmt} {scope : Scope} {dV kV doc pm cdv ct oc : Value} {an od : Option Addr} {osl : Array (Option Value)} {N ps : List Str} {sp : Sp}
    (look : K.lookup f = some ⟨oc, od, .func (PySem.W.fnOf name qual params body scope dV kV doc pm an cdv ct), osl⟩) (code : PySem.W.codeIn K cdv qual = true) (S : FnScope N ps scope)
    (len : ∀ vs H Q E, sp vs H Q E → vs.length = ps.length)
    (hb : ∀ (A : Around) (outer : List Env) (s : Shared) (H : Hp) (vs : List V) (Q : VK) (E : XK), A.guards = some [] → Room k (A.deeper (envOfC qual scope s.heap.objs.size f cdv)) → sp vs H Q E →
      ∃ t, PSs (cxOf CX0 P w K mg base N qual scope f cdv A outer s H E) body t ∧ t { nx := fun _ H' => Q .non H', rt := Q } (start N vs) H) :
    GFn P w K mg base (k + 1) f (PySem.W.fnOf name qual params body scope dV kV doc pm an cdv ct) ps sp := by
  refine ⟨len, fun A outer s H args us vs Q E hg room env bnd rel want => ?_⟩
  have hl := len _ _ _ _ want
  have inK : K.In s.heap := env.mod.kin.keeps fun b o e => (env.bs b o e).1
  have noLim : s.heap.NoLimit := env.mod.nolimit.keeps fun b o e => (env.bs b o e).1
  have kinds : ∀ y ∈ ps.zip us, scope.names.lookup y.1 = some .local ∨ (scope.names.lookup y.1 = some .cell ∧ ((cellsFrom (s.heap.objs.size + 1) scope.names []).lookup y.1).isSome = true) := by
    intro ⟨n, v⟩ hy
    cases S.par n (List.of_mem_zip hy).1 with
    | inl q => exact .inl q
    | inr q => exact .inr ⟨q, PySem.W.cellsFrom_some _ _ _ (.inl q)⟩
  refine codeAny_call_function room.depth (inK _ _ look) rfl S.co S.gen rfl
    (PySem.W.codeRec_of inK code) (bnd _ _ _ _ ?_)
  refine wpAny_newFunctionEnv_cells S.kind kinds fun env1 he s1 x => ?_
  subst he
  refine ⟨noLim.keeps x.toInCall.keep, codeAny_func ?_⟩
  obtain ⟨t, ht, hq⟩ := hb A outer s H vs Q E hg (room.deeper _) want
  have inv0 : Inv (cxOf CX0 P w K mg base N qual scope f cdv A outer s H E) [] (start N vs) H s1 :=
    inv_start S room.hd env hl rel x
  refine wpAny_mono (ht.run [] s1 (start N vs) H _ inv0 hq) (fun fl s' hs => ?_) fun _ _ z => z
  cases fl with
  | ret u =>
    obtain ⟨v, σ', H', J, rv, q⟩ := hs
    exact ⟨v, H', J.os, J.bare, J.base, J.hok, rv, q⟩
  | next =>
    obtain ⟨σ', H', J, q⟩ := hs
    exact ⟨V.non, H', J.os, J.bare, J.base, J.hok, rfl, q⟩
  | brk =>
    obtain ⟨_, _, _, q⟩ := hs
    exact q.elim
  | cont =>
    obtain ⟨_, _, _, q⟩ := hs
    exact q.elim

/-- by the text's def -/
theorem gok {x qual : Str} {st : Stmt} {f : Addr} {fd : FuncData} {N ps : List Str} {k : Nat} {sp : Sp} (F : Fun K x qual st f fd) (S : FnScope N ps (defScope st)) (len : ∀ vs H Q E, sp vs H Q E → vs.length = ps.length)
    (hb : ∀ (cdv : Value) (A : Around) (outer : List Env) (s : Shared) (H : Hp) (vs : List V) (Q : VK) (E : XK), A.guards = some [] → Room k (A.deeper (envOfC qual (defScope st) s.heap.objs.size f cdv)) → sp vs H Q E →
      ∃ t, PSs (cxOf CX0 P w K mg base N qual (defScope st) f cdv A outer s H E).nox (defBody st) t ∧ t { nx := fun _ H' => Q .non H', rt := Q } (start N vs) H) : GFn P w K mg base (k + 1) f fd ps sp := by
  obtain ⟨oc, od, kV, doc, pm, an, cdv, ct, osl, rfl, lk, cd⟩ := F.ex
  refine gfn_of lk cd S len fun A outer s H vs Q E hg hr want => ?_
  obtain ⟨t, h, q⟩ := hb cdv A outer s H vs Q E hg hr want
  exact ⟨t, h.nox, q⟩
end

section
variable {X : Cx} {k : Nat} {f : Addr} {fd : FuncData} {ps : List Str} {sp : Sp} {E : XK} {x : Str} {p pos : Pos} {e : Expr} {es : List Expr} {t : TA}
theorem pe_callG (F : GFn X.prog X.w X.K X.mg X.base k f fd ps sp) (gd : X.A.guards = some []) (hr : Room k X.A) (hg : Gl X x) (hm : X.mg x = some (.ref f)) (hk : PySem.W.keepIn X.K (.ref f) = true)
    (hb : Binds X.K fd ps []) (hx : Passes CX0 X E)
    (ha : PA X (e :: es) t) (hdb : (x == ("__debug__" : Str)) = false := by decide) (he : starEach (e :: es) X.env = (false, eval e X.env) :: starEach es X.env := by rfl)
    (hpl : (backTo pos (starEach es X.env)).any (·.1) = false := by rfl) :
    PE X (.Call (.Name x p) (e :: es) [] pos) (tCall sp [] E t) := by
  refine ⟨fun pins s σ H Q I h => wpAny_Call_Name_kw (ld_glob I hg hm ?_ hdb)⟩
  have args := ha.run pos pins s σ H _ I h
  refine PySem.W.callWith_K (h₀ := X.base) I.ok.mod.kin hk (thn args fun us s1 h1 => ?_) he hpl
  obtain ⟨vs, H1, I1, r, q⟩ := h1
  refine ⟨I1.kIn, ?_⟩
  have q' : sp vs H1 Q E := by
    have q0 : sp (vs ++ []) H1 Q E := q
    rw [List.append_nil] at q0
    exact q0
  have hl : (us ++ []).length = ps.length := by
    rw [List.append_nil, ← r.length]
    exact F.len _ _ _ _ q'
  have bd := hb s1 us I1.kIn hl
  rw [List.append_nil] at bd
  refine wpAny_call (codeAny_mono (F.run X.A X.stack s1 H1 ⟨us, []⟩ us vs Q E gd hr I1.env0 bd r q') fun res s' hq => ?_)
  match res, hq with
  | .error er, hq => exact hx pins σ H1 s1 er s' I1 hq
  | .ok (.ret u), hq => exact I1.after hq
end

/-! ### the law's own call -/
section
variable {P : Program} {w : World} {K : PySem.W.Frag} {mg mb : Str → Option Value} {k : Nat} {fa a : Addr} {fd : FuncData} {x : Str} {sp : Sp} {s₁ : Shared} {vs : List Value} {ns : List Int}
/-- what the caller of the law wants -/
def Fine (s₀ : Shared) (r : Result) (s' : Shared) : Prop :=
  r = .ok (.ret (.bool true)) ∧ OldK s₀.heap s'.heap ∧ s'.os = s₀.os ∧ AllBare s'.gens
theorem law_core (KX : K.In s₁.heap) (hns : s₁.heap.Ns mainGlobals mg) (hb : s₁.heap.Ns builtinsNs mb) (hbb : ∀ x : Str, x ≠ "__name__" → mb x = bootBuiltins x) (hlim : s₁.heap.NoLimit) (hg : s₁.gens = #[])
    (ha : s₁.heap.get? a = some { cls := .type "list", data := .seq vs.toArray }) (hr : Room k callerA)
    (F : ∀ base : Heap, K.In base → base.Ns mainGlobals mg → GFn P w K mg base k fa fd [x] sp) (hbind : ∀ (s : Shared) (u : Value), BindsTo s fd ⟨[u], []⟩ [(x, u)])
    (H : Hp) (only : Only H) (ok : HOk P w H s₁.heap) (hA : ∀ b, H b ≠ none → b = a) (hK : H a ≠ none → K.lookup a = none)
    (want : sp [.ref a] H (fun v _ => v = .bl true) fun _ _ _ => False) :
    codeAny (model P w) callerA (.call (.ref fa) ⟨[.ref a], []⟩) (Fine s₁) s₁ := by
  have at_a : ∀ {b : Addr} {o : Obj}, s₁.heap.get? b = some o → H b ≠ none → o = { cls := .type "list", data := .seq vs.toArray } := by
    intro b o e n
    rw [hA b n, ha] at e
    exact (Option.some.inj e).symm
  have free : ∀ {b : Addr} {o : Obj} {es : Array DictEntry} {ep : Nat}, s₁.heap.get? b = some o → o.data = .dict es ep → H b = none := by
    intro b o es ep e d
    refine Classical.byContradiction fun n => ?_
    rw [at_a e n] at d
    exact nomatch d
  have keepNs : ∀ {b : Addr} {m : Str → Option Value}, s₁.heap.Ns b m → (hidT s₁.heap H).Ns b m := by
    intro b m z
    obtain ⟨o, es, ep, e, d, r⟩ := z
    exact ⟨o, es, ep, hidT_get e (free e d), d, r⟩
  have KB : K.In (hidT s₁.heap H) := by
    intro b o e
    refine hidT_get (KX b o e) (Classical.byContradiction fun n => ?_)
    have eb := hA b n
    subst eb
    rw [hK n] at e
    cases e
  obtain ⟨mc, lim1, lim2⟩ := hlim
  have M : Mod K mg (hidT s₁.heap H) := ⟨KB, keepNs hns, ⟨mb, keepNs hb, hbb⟩, ⟨mc, keepNs lim1, lim2⟩⟩
  have env : Env0 P w K mg (hidT s₁.heap H) callerA [] s₁ H := by
    refine ⟨rfl, M, fun b o e => of_hidT e, Nat.le_of_eq (hidT_size _ _), trivial, fun b z => ?_, ok, .of_eq hg⟩
    exact absurd (show b ∈ ([] : List Addr) from z) (by simp)
  have run := (F _ KB (keepNs hns)).run callerA [] s₁ H ⟨[.ref a], []⟩ [.ref a] [.ref a] _ _ rfl hr env (hbind s₁ (.ref a)) (.cons rfl .nil) want
  refine codeAny_mono run fun r s' h => ?_
  match r, h with
  | .error e, h => exact False.elim h
  | .ok (.ret u), ⟨v, H', os, bare, un, ok', rv, q⟩ =>
    have q' : v = .bl true := q
    subst q'
    have ru : u = Value.bool true := rv
    subst ru
    refine ⟨rfl, OldK.of_keep fun b o e => ?_, os, bare⟩
    cases hb : H b with
    | none => exact un.keep b o e hb (fun z => absurd (show b ∈ ([] : List Addr) from z) (by simp)) (by simp)
    | some t =>
      cases only b with
      | inl z =>
        rw [hb] at z
        cases z
      | inr z =>
        obtain ⟨ob, xs, z⟩ := z
        have one := (ok b _ z).1
        have two := (ok' b _ (un.frzs b ob _ z)).1
        rw [e] at one
        cases one
        exact two

theorem law_callG (KX : K.In s₁.heap) (hns : s₁.heap.Ns mainGlobals mg) (hb : s₁.heap.Ns builtinsNs mb) (hbb : ∀ x : Str, x ≠ "__name__" → mb x = bootBuiltins x) (hlim : s₁.heap.NoLimit) (hg : s₁.gens = #[])
    (ha : s₁.heap.get? a = some { cls := .type "list", data := .seq vs.toArray }) (hi : IntsAre vs ns) (hl : ns.length ≤ sizeLine) (hr : Room k callerA)
    (F : ∀ base : Heap, K.In base → base.Ns mainGlobals mg → GFn P w K mg base k fa fd [x] sp) (hbind : ∀ (s : Shared) (u : Value), BindsTo s fd ⟨[u], []⟩ [(x, u)])
    (want : ∀ H : Hp, Only H → SqL K H a (ns.map V.int) → sp [.ref a] H (fun v _ => v = .bl true) fun _ _ _ => False) :
    codeAny (model P w) callerA (.call (.ref fa) ⟨[.ref a], []⟩) (Fine s₁) s₁ := by
  have rv := vals_ints hi
  cases hk : K.lookup a with
  | some o =>
    have e := KX a o hk
    rw [ha] at e
    cases e
    have nowhere : ∀ b : Addr, (fun _ => none : Hp) b ≠ none → b = a := fun b z => absurd rfl z
    refine law_core KX hns hb hbb hlim hg ha hr F hbind (fun _ => none) (fun _ => .inl rfl) (fun b u z => nomatch z) nowhere (fun z => absurd rfl z) (want _ (fun _ => .inl rfl) (.inr ?_))
    refine ⟨_, vs.toArray, _, hk, rfl, rfl, rfl, ?_, by simpa using rv⟩
    rw [List.size_toArray, hi.length]
    exact hl
  | none =>
    let H : Hp := upd (fun _ => none) a (.frz { cls := .type "list", data := .seq vs.toArray } (.lst (ns.map V.int)))
    have off : ∀ b, b ≠ a → H b = none := fun b n => upd_ne n
    have on : H a = _ := upd_same
    refine law_core KX hns hb hbb hlim hg ha hr F hbind H (fun b => ?_) (fun b u z => ?_) (fun b z => Classical.byContradiction fun n => z (off b n)) (fun _ => hk) (want H (fun b => ?_) (.inl (.inr ⟨_, on⟩)))
    · by_cases n : b = a
      · subst n
        exact .inr ⟨_, _, on⟩
      · exact .inl (off b n)
    · by_cases n : b = a
      · subst n
        rw [on] at z
        cases z
        refine ⟨ha, ?_, vs, _, rv, ha⟩
        rw [List.length_map]
        exact hl
      · rw [off b n] at z
        cases z
    · by_cases n : b = a
      · subst n
        exact .inr ⟨_, _, on⟩
      · exact .inl (off b n)
end

theorem walkG {l : PySem.W.OpenLaw} {n k : Nat} {q : Program} {loose : List Str} {XP : (Str → Option Value) → Heap → Prop} {YP : World → Heap → Prop} {d : DefRec} {K : Params → PySem.W.Frag} {sp : World → Sp} {x : Str}
    (hn : l.most = some n) (hn2 : n ≤ sizeLine) (hdf : d.params.defaults = []) (hr : Room k callerA) (hY : ∀ (w : World) (h : Heap), YP w h → (K w.params).In h)
    (F : ∀ (w : World) (mg : Str → Option Value) (fa : Addr) (h : Heap), (K w.params).In h → h.Ns mainGlobals mg → mg d.name = some (.ref fa) →
      ∃ fd : FuncData, (∀ (s : Shared) (u : Value), BindsTo s fd ⟨[u], []⟩ [(x, u)]) ∧
        ∀ base : Heap, (K w.params).In base → base.Ns mainGlobals mg → GFn l.prog w (K w.params) mg base k fa fd [x] (sp w))
    (want : ∀ (w : World) (H : Hp) (a : Addr) (ns : List Int), ns.length ≤ n → Only H → SqL (K w.params) H a (ns.map V.int) → sp w [.ref a] H (fun v _ => v = .bl true) fun _ _ _ => False) :
    PySem.W.WalkO q loose XP YP l.row.toRowW d [] (fun f vs => PySem.call f vs) := by
  refine Att.attach_call hn hdf fun w s₀ s₁ mg mb fa o pm cd doc a vs ns G Y ho hd hcd hmg hobj hints hlen hg => ?_
  have KX := hY w _ Y
  obtain ⟨fd, hb, hF⟩ := F w mg fa _ KX G.T.g hmg
  exact law_callG KX G.T.g G.T.b G.T.builtins G.T.nolimit hg hobj hints (Nat.le_trans hlen hn2) hr hF hb (fun H o sq => want w H a ns hlen o sq)
end BP
set_option Elab.async false
set_option linter.all false
set_option maxRecDepth 100000
set_option maxHeartbeats 4000000
/-! Calls by keywords alone. -/
namespace BP
open PySem PySem.Spec PyProof.Rows L2
section
variable {X : Cx} {CX : CXT} {k : Nat} {f : Addr} {fd : FuncData} {ps ks : List Str} {sp : Sp} {E : XK} {x : Str} {p pos : Pos} {kws : List Keyword} {tk : TA} {g : List Value → List Value → List Value} {gV : List V → List V → List V}
theorem pe_callK0 (F : FnOk X.prog X.w X.K X.mg X.base CX k f fd ps sp) (hr : Room k X.A) (hg : Gl X x) (hm : X.mg x = some (.ref f)) (hk : PySem.W.keepIn X.K (.ref f) = true)
    (hb : KBinds X.K fd ps ks g gV) (hx : Passes CX X E) (hkw : PK X kws tk)
    (hall : (backToKw pos (keywordEach kws X.env)).all (·.1.isSome) = true := by rfl)
    (hks : (backToKw pos (keywordEach kws X.env)).filterMap (·.1) = ks := by rfl)
    (hdb : (x == ("__debug__" : Str)) = false := by decide)
    (hpl : ((backTo pos (starEach [] X.env)).any (·.1) || (backToKw pos (keywordEach kws X.env)).any (·.1.isNone)) = false := by rfl) :
    PE X (.Call (.Name x p) [] kws pos) (tCallK sp gV E tNil tk) := by
  refine ⟨fun pins s σ H Q I h => wpAny_Call_Name_kw (ld_glob I hg hm ?_ hdb)⟩
  have run := hkw.run pos pins s σ H _ I h
  refine PySem.W.callWith_KW0 (h₀ := X.base) I.ok.mod.kin hk hall (thn run fun ws s2 hh => ?_) hpl
  obtain ⟨zs, H2, I2, rz, q2⟩ := hh
  refine ⟨I2.kIn, ?_⟩
  rw [hks]
  exact run_fnk (us := []) F hr hb hx I2 .nil rz q2
end
/-- two keywords, the other way round -/
def sw2 {α : Type} : List α → List α → List α
  | [], x :: y :: _ => [y, x]
  | _, _ => []
/-- three keywords: the last two, then the first one -/
def sw3 {α : Type} : List α → List α → List α
  | [], x :: y :: z :: _ => [y, z, x]
  | _, _ => []
/-- three keywords, backwards -/
def rv3 {α : Type} : List α → List α → List α
  | [], x :: y :: z :: _ => [z, y, x]
  | _, _ => []
theorem sw2_rel : ∀ {vs : List V} {us : List Value} {zs : List V} {ws : List Value}, Vals vs us → Vals zs ws → Vals (sw2 vs zs) (sw2 us ws)
  | _, _, _, _, .nil, .cons a (.cons b _) => .cons b (.cons a .nil)
  | _, _, _, _, .nil, .nil => .nil
  | _, _, _, _, .nil, .cons _ .nil => .nil
  | _, _, _, _, .cons _ _, .nil => .nil
  | _, _, _, _, .cons _ _, .cons _ .nil => .nil
  | _, _, _, _, .cons _ _, .cons _ (.cons _ _) => .nil
theorem sw3_rel : ∀ {vs : List V} {us : List Value} {zs : List V} {ws : List Value}, Vals vs us → Vals zs ws → Vals (sw3 vs zs) (sw3 us ws)
  | _, _, _, _, .nil, .cons a (.cons b (.cons c _)) => .cons b (.cons c (.cons a .nil))
  | _, _, _, _, .nil, .nil => .nil
  | _, _, _, _, .nil, .cons _ .nil => .nil
  | _, _, _, _, .nil, .cons _ (.cons _ .nil) => .nil
  | _, _, _, _, .cons _ _, .nil => .nil
  | _, _, _, _, .cons _ _, .cons _ .nil => .nil
  | _, _, _, _, .cons _ _, .cons _ (.cons _ .nil) => .nil
  | _, _, _, _, .cons _ _, .cons _ (.cons _ (.cons _ _)) => .nil
theorem rv3_rel : ∀ {vs : List V} {us : List Value} {zs : List V} {ws : List Value}, Vals vs us → Vals zs ws → Vals (rv3 vs zs) (rv3 us ws)
  | _, _, _, _, .nil, .cons a (.cons b (.cons c _)) => .cons c (.cons b (.cons a .nil))
  | _, _, _, _, .nil, .nil => .nil
  | _, _, _, _, .nil, .cons _ .nil => .nil
  | _, _, _, _, .nil, .cons _ (.cons _ .nil) => .nil
  | _, _, _, _, .cons _ _, .nil => .nil
  | _, _, _, _, .cons _ _, .cons _ .nil => .nil
  | _, _, _, _, .cons _ _, .cons _ (.cons _ .nil) => .nil
  | _, _, _, _, .cons _ _, .cons _ (.cons _ (.cons _ _)) => .nil
section
variable {K : PySem.W.Frag} {x qual : Str} {st : Stmt} {f : Addr} {fd : FuncData}
theorem kb_sw2 {a b : Str} (F : Fun K x qual st f fd)
    (h : ∀ (kV doc pm : Value) (an : Option Addr) (cdv ct u v : Value), bindArgs (PySem.W.fnOf x qual (defArgs st) (defBody st) (defScope st) .none kV doc pm an cdv ct) ⟨[], [(b, u), (a, v)]⟩ = pure [(a, v), (b, u)]) : KBinds K fd [a, b] [b, a] sw2 sw2 := by
  obtain ⟨oc, od, kV, doc, pm, an, cdv, ct, osl, rfl, _⟩ := F.ex
  refine ⟨fun s us ws _ hl => ?_, sw2_rel⟩
  match us, ws, hl with
  | [], u :: v :: r, _ => exact .of_eq (h kV doc pm an cdv ct u v)
theorem kb_sw3 {a b c : Str} (F : Fun K x qual st f fd)
    (h : ∀ (kV doc pm : Value) (an : Option Addr) (cdv ct u v w : Value), bindArgs (PySem.W.fnOf x qual (defArgs st) (defBody st) (defScope st) .none kV doc pm an cdv ct) ⟨[], [(c, u), (a, v), (b, w)]⟩ = pure [(a, v), (b, w), (c, u)]) : KBinds K fd [a, b, c] [c, a, b] sw3 sw3 := by
  obtain ⟨oc, od, kV, doc, pm, an, cdv, ct, osl, rfl, _⟩ := F.ex
  refine ⟨fun s us ws _ hl => ?_, sw3_rel⟩
  match us, ws, hl with
  | [], u :: v :: w :: r, _ => exact .of_eq (h kV doc pm an cdv ct u v w)
theorem kb_rv3 {a b c : Str} (F : Fun K x qual st f fd)
    (h : ∀ (kV doc pm : Value) (an : Option Addr) (cdv ct u v w : Value), bindArgs (PySem.W.fnOf x qual (defArgs st) (defBody st) (defScope st) .none kV doc pm an cdv ct) ⟨[], [(c, u), (b, v), (a, w)]⟩ = pure [(a, w), (b, v), (c, u)]) : KBinds K fd [a, b, c] [c, b, a] rv3 rv3 := by
  obtain ⟨oc, od, kV, doc, pm, an, cdv, ct, osl, rfl, _⟩ := F.ex
  refine ⟨fun s us ws _ hl => ?_, rv3_rel⟩
  match us, ws, hl with
  | [], u :: v :: w :: r, _ => exact .of_eq (h kV doc pm an cdv ct u v w)
end
end BP
set_option Elab.async false
set_option linter.all false
set_option maxRecDepth 100000
set_option maxHeartbeats 4000000
/-! The ten fields: sums and products of numbers below q, reckoned, and what holds of them. No Python here. -/
namespace Fld
def fields : List Nat := [2, 3, 4, 5, 7, 8, 9, 11, 13, 16]
def chr : Nat → Nat
  | 4 => 2 | 8 => 2 | 16 => 2 | 9 => 3 | q => q
/-- a with w: w^k = w + 1 -/
def up (q a : Nat) : Nat := if 2 * a < q then 2 * a else Nat.xor (2 * a - q) 3
def mul2 (q a b : Nat) : Nat :=
  let a1 := up q a
  let a2 := up q a1
  let a3 := up q a2
  Nat.xor (Nat.xor (if b % 2 = 1 then a else 0) (if b / 2 % 2 = 1 then a1 else 0)) (Nat.xor (if b / 4 % 2 = 1 then a2 else 0) (if b / 8 % 2 = 1 then a3 else 0))
def S (q a b : Nat) : Nat := match q with
  | 4 => Nat.xor a b | 8 => Nat.xor a b | 16 => Nat.xor a b
  | 9 => (a % 3 + b % 3) % 3 + 3 * ((a / 3 + b / 3) % 3)
  | q => (a + b) % q
def M (q a b : Nat) : Nat := match q with
  | 4 => mul2 4 a b | 8 => mul2 8 a b | 16 => mul2 16 a b
  | 9 => (a % 3 * (b % 3) + a / 3 * (b / 3)) % 3 + 3 * ((a % 3 * (b / 3) + a / 3 * (b % 3) + a / 3 * (b / 3)) % 3)
  | q => a * b % q
def below (n : Nat) (p : Nat → Bool) : Bool := (List.range n).all p
theorem of_below {n : Nat} {p : Nat → Bool} (h : below n p = true) {a : Nat} (ha : a < n) : p a = true :=
  List.all_eq_true.mp h a (List.mem_range.mpr ha)
/-- a, a a, .. -/
def pw (q a : Nat) : Nat → Nat
  | 0 => 1
  | n + 1 => M q (pw q a n) a
def inv (q a : Nat) : Nat := ((List.range q).find? fun b => M q a b == 1).getD 0
def ord (q a : Nat) : Nat := ((List.range q).find? fun n => n != 0 && pw q a n == 1).getD 0
/-- the law's sum of digits, from the unit on, k digits more -/
def dsum (p a b unit : Nat) : Nat → Nat
  | 0 => 0
  | k + 1 => (a / unit + b / unit) % p * unit + dsum p a b (unit * p) k
/-- the number of digits -/
def len : Nat → Nat
  | 4 => 2 | 8 => 3 | 16 => 4 | 9 => 2 | _ => 1
def okField (q : Nat) : Bool :=
  decide (1 < q) && decide (q ≤ 16) && decide (1 < chr q) && decide (chr q ≤ q) && decide (chr q ^ len q = q) &&
  below q (fun a => below q fun b => decide (M q a b < q) && decide (S q a b < q) && decide (M q a b = M q b a) && decide (dsum (chr q) a b 1 (len q) = S q a b) &&
    below q fun c => decide (M q c (S q a b) = S q (M q c a) (M q c b)) && decide (M q (M q a b) c = M q a (M q c b))) &&
  below (chr q) (fun a => below (chr q) fun b => decide (M q a b = a * b % chr q)) &&
  below q (fun a => decide (M q 0 a = 0) && decide (M q 1 a = a) && decide (M q a 0 = 0) && decide (M q a 1 = a)) &&
  below (len q) (fun k => decide ((if chr q < q then pw q (chr q) k else chr q ^ k) = chr q ^ k)) &&
  decide (chr q = q ∨ pw q (chr q) (len q) = 1 + chr q) &&
  below q (fun a => decide (a = 0) || (decide (1 ≤ ord q a) && decide (ord q a < q) && decide (pw q a (ord q a) = 1) && (below (ord q a) fun n => decide (n = 0) || decide (pw q a n ≠ 1)) &&
    decide (inv q a < q) && decide (M q a (inv q a) = 1) && below (inv q a) fun b => decide (M q a b ≠ 1))) &&
  below q (fun n => decide (n = 0) || decide (((List.range (q - 1)).filter fun i => n % ord q (i + 1) == 0).length = Nat.gcd n (q - 1)))
theorem all_ok : fields.all okField = true := by decide +kernel
theorem ok {q : Nat} (h : q ∈ fields) : okField q = true := List.all_eq_true.mp all_ok q h

section
variable {q : Nat} (h : q ∈ fields)
include h
theorem gt1 : 1 < q := by
  have o := ok h
  simp only [okField, Bool.and_eq_true, decide_eq_true_eq] at o
  omega
theorem le16 : q ≤ 16 := by
  have o := ok h
  simp only [okField, Bool.and_eq_true, decide_eq_true_eq] at o
  omega
theorem chr_gt : 1 < chr q := by
  have o := ok h
  simp only [okField, Bool.and_eq_true, decide_eq_true_eq] at o
  omega
theorem chr_le : chr q ≤ q := by
  have o := ok h
  simp only [okField, Bool.and_eq_true, decide_eq_true_eq] at o
  omega
theorem chr_len : chr q ^ len q = q := by
  have o := ok h
  simp only [okField, Bool.and_eq_true, decide_eq_true_eq] at o
  omega
theorem two {a b : Nat} (ha : a < q) (hb : b < q) : M q a b < q ∧ S q a b < q ∧ M q a b = M q b a ∧ dsum (chr q) a b 1 (len q) = S q a b := by
  have o := ok h
  unfold okField at o
  simp only [Bool.and_eq_true] at o
  have t := of_below (of_below o.1.1.1.1.1.1.2 ha) hb
  simp only [Bool.and_eq_true, decide_eq_true_eq] at t
  exact ⟨t.1.1.1.1, t.1.1.1.2, t.1.1.2, t.1.2⟩
theorem three {a b c : Nat} (ha : a < q) (hb : b < q) (hc : c < q) : M q c (S q a b) = S q (M q c a) (M q c b) ∧ M q (M q a b) c = M q a (M q c b) := by
  have o := ok h
  unfold okField at o
  simp only [Bool.and_eq_true] at o
  have t := of_below (of_below o.1.1.1.1.1.1.2 ha) hb
  simp only [Bool.and_eq_true] at t
  have u := of_below t.2 hc
  simp only [Bool.and_eq_true, decide_eq_true_eq] at u
  exact u
theorem small {a b : Nat} (ha : a < chr q) (hb : b < chr q) : M q a b = a * b % chr q := by
  have o := ok h
  unfold okField at o
  simp only [Bool.and_eq_true] at o
  have t := of_below (of_below o.1.1.1.1.1.2 ha) hb
  exact of_decide_eq_true t
theorem one {a : Nat} (ha : a < q) : M q 0 a = 0 ∧ M q 1 a = a ∧ M q a 0 = 0 ∧ M q a 1 = a := by
  have o := ok h
  unfold okField at o
  simp only [Bool.and_eq_true] at o
  have t := of_below o.1.1.1.1.2 ha
  simp only [Bool.and_eq_true, decide_eq_true_eq] at t
  exact ⟨t.1.1.1, t.1.1.2, t.1.2, t.2⟩
theorem root {k : Nat} (hk : k < len q) : (if chr q < q then pw q (chr q) k else chr q ^ k) = chr q ^ k := by
  have o := ok h
  unfold okField at o
  simp only [Bool.and_eq_true] at o
  exact of_decide_eq_true (of_below o.1.1.1.2 hk)
theorem next : chr q = q ∨ pw q (chr q) (len q) = 1 + chr q := by
  have o := ok h
  unfold okField at o
  simp only [Bool.and_eq_true] at o
  exact of_decide_eq_true o.1.1.2
theorem unit {a : Nat} (ha : a < q) (h0 : a ≠ 0) : 1 ≤ ord q a ∧ ord q a < q ∧ pw q a (ord q a) = 1 ∧ (∀ n, n < ord q a → n ≠ 0 → pw q a n ≠ 1) ∧ inv q a < q ∧ M q a (inv q a) = 1 ∧ ∀ b, b < inv q a → M q a b ≠ 1 := by
  have o := ok h
  unfold okField at o
  simp only [Bool.and_eq_true] at o
  have t := of_below o.1.2 ha
  rw [Bool.or_eq_true] at t
  rcases t with t | t
  · exact absurd (of_decide_eq_true t) h0
  · simp only [Bool.and_eq_true, decide_eq_true_eq] at t
    refine ⟨t.1.1.1.1.1.1, t.1.1.1.1.1.2, t.1.1.1.1.2, fun n hn n0 => ?_, t.1.1.2, t.1.2, fun b hb => of_decide_eq_true (of_below t.2 hb)⟩
    have u := of_below t.1.1.1.2 hn
    rw [Bool.or_eq_true] at u
    rcases u with u | u
    · exact absurd (of_decide_eq_true u) n0
    · exact of_decide_eq_true u
theorem many {n : Nat} (hn : n < q) (h0 : n ≠ 0) : ((List.range (q - 1)).filter fun i => n % ord q (i + 1) == 0).length = Nat.gcd n (q - 1) := by
  have o := ok h
  unfold okField at o
  simp only [Bool.and_eq_true] at o
  have t := of_below o.2 hn
  rw [Bool.or_eq_true] at t
  rcases t with t | t
  · exact absurd (of_decide_eq_true t) h0
  · exact of_decide_eq_true t

/-! ### powers -/
theorem pw_lt {a : Nat} (ha : a < q) : ∀ n, pw q a n < q
  | 0 => gt1 h
  | n + 1 => (two h (pw_lt ha n) ha).1
theorem assoc {a b c : Nat} (ha : a < q) (hb : b < q) (hc : c < q) : M q (M q a b) c = M q a (M q b c) := by
  rw [(three h ha hb hc).2, (two h hb hc).2.2.1]
theorem pw_add {a : Nat} (ha : a < q) (m : Nat) : ∀ n, pw q a (m + n) = M q (pw q a m) (pw q a n)
  | 0 => ((one h (pw_lt h ha m)).2.2.2).symm
  | n + 1 => by
    show M q (pw q a (m + n)) a = M q (pw q a m) (M q (pw q a n) a)
    rw [pw_add ha m n, assoc h (pw_lt h ha m) (pw_lt h ha n) ha]
theorem pw_sq {a : Nat} (ha : a < q) : ∀ n, pw q (M q a a) n = pw q a (2 * n)
  | 0 => rfl
  | n + 1 => by
    show M q (pw q (M q a a) n) (M q a a) = pw q a (2 * n + 1 + 1)
    rw [pw_sq ha n, ← assoc h (pw_lt h ha _) ha ha]
    rfl
theorem pw_ord {a : Nat} (ha : a < q) (h0 : a ≠ 0) : ∀ k, pw q a (k * ord q a) = 1
  | 0 => by rw [Nat.zero_mul]; rfl
  | k + 1 => by
    rw [Nat.succ_mul, pw_add h ha, pw_ord ha h0 k, (unit h ha h0).2.2.1, (one h (gt1 h)).2.1]
theorem pw_mod {a : Nat} (ha : a < q) (h0 : a ≠ 0) (n : Nat) : pw q a (n % ord q a) = pw q a n := by
  have e : n / ord q a * ord q a + n % ord q a = n := by
    rw [Nat.mul_comm]
    exact Nat.div_add_mod n (ord q a)
  have p := pw_add h ha (n / ord q a * ord q a) (n % ord q a)
  rw [e, pw_ord h ha h0, (one h (pw_lt h ha _)).2.1] at p
  exact p.symm
theorem pw_zero : ∀ n, n ≠ 0 → pw q 0 n = 0
  | 0, z => absurd rfl z
  | n + 1, _ => (one h (pw_lt h (Nat.lt_trans Nat.zero_lt_one (gt1 h)) n)).2.2.1
end
end Fld
set_option Elab.async false
set_option linter.all false
set_option maxRecDepth 100000
set_option maxHeartbeats 4000000
/-! Data over the layer: lists of numbers, lists of such lists, written tables, the deck of a law's draws. -/
namespace BP
open PySem PySem.Spec PyProof.Rows L2

/-! ### numbers as values -/
abbrev iv (ns : List Nat) : List V := ns.map fun n => V.int (n : Nat)
abbrev dat (ns : List Int) : PyData := .list (ns.map PyData.int)
abbrev datN (ns : List Nat) : PyData := .list (ns.map fun n => PyData.int (n : Nat))
abbrev datR (rows : List (List Nat)) : PyData := .list (rows.map datN)
theorem dpAll_ints {K : PySem.W.Frag} {H : Hp} : ∀ ns : List Int, DpAll K H (ns.map V.int) (ns.map PyData.int)
  | [] => .nil
  | n :: r => .cons (.int n) (dpAll_ints r)
theorem dpAll_nats {K : PySem.W.Frag} {H : Hp} : ∀ ns : List Nat, DpAll K H (iv ns) (ns.map fun n => PyData.int (n : Nat))
  | [] => .nil
  | n :: r => .cons (.int (n : Nat)) (dpAll_nats r)
theorem dp_ints {K : PySem.W.Frag} {H : Hp} {a : Addr} {ns : List Int} (h : SqL K H a (ns.map V.int)) : Dp K H (.ref a) (dat ns) := .lst h (dpAll_ints ns)
theorem dp_nats {K : PySem.W.Frag} {H : Hp} {a : Addr} {ns : List Nat} (h : SqL K H a (iv ns)) : Dp K H (.ref a) (datN ns) := .lst h (dpAll_nats ns)
theorem canLay_ints : ∀ ns : List Int, PyData.canLayAll0 (ns.map PyData.int) = true
  | [] => by simp [PyData.canLayAll0]
  | n :: r => by simp [PyData.canLayAll0, PyData.canLay0, canLay_ints r]
theorem depth_ints : ∀ ns : List Int, PyData.depthAll (ns.map PyData.int) = 0
  | [] => by simp [PyData.depthAll]
  | n :: r => by simp [PyData.depthAll, PyData.depth, depth_ints r]
theorem shaped_ints (ns : List Int) : SeqAt.shaped (dat ns) = true := by
  unfold SeqAt.shaped dat
  simp [PyData.canLay0, canLay_ints, PyData.depth, depth_ints]
theorem shaped_nats (ns : List Nat) : SeqAt.shaped (datN ns) = true := by
  have e : datN ns = dat (ns.map fun (n : Nat) => (n : Int)) := by
    unfold datN dat
    rw [List.map_map]
    rfl
  rw [e]
  exact shaped_ints _
theorem eqv_nil (ns : List Int) : PyData.eqv (dat ns) (dat []) = ns.isEmpty := by
  cases ns with
  | nil => simp [PyData.eqv, PyData.eqvAll]
  | cons n r => simp [PyData.eqv, PyData.eqvAll]
theorem eqvAll_refl : ∀ ns : List Nat, PyData.eqvAll (ns.map fun n => PyData.int (n : Nat)) (ns.map fun n => PyData.int (n : Nat)) = true
  | [] => by simp [PyData.eqvAll]
  | n :: r => by simp [PyData.eqvAll, PyData.eqv, eqvAll_refl r]
theorem eqv_refl_nats (ns : List Nat) : PyData.eqv (datN ns) (datN ns) = true := by
  unfold datN
  simp [PyData.eqv, eqvAll_refl]

/-! ### heaps -/
theorem same_new {H : Hp} {p : Addr} {o : HO} (h : H p = none) : Same H (upd H p o) := fun b x e => by
  rw [upd_ne (ne_of_none e h)]
  exact e
/-- all stands as it stood, but what is at d and at c -/
def But (d c : Addr) (H H' : Hp) : Prop := ∀ b x, b ≠ d → b ≠ c → H b = some x → H' b = some x
theorem But.of {d c : Addr} {H H' : Hp} (h : Same H H') : But d c H H' := fun b x _ _ e => h b x e
theorem But.refl {d c : Addr} {H : Hp} : But d c H H := fun b x _ _ e => e
theorem But.trans {d c : Addr} {H H' H'' : Hp} (h : But d c H H') (k : But d c H' H'') : But d c H H'' := fun b x n m e => k b x n m (h b x n m e)

/-- at D a list of lists of numbers, none of them at c -/
def Rows (c : Addr) (H : Hp) (D : Addr) (rows : List (List Nat)) : Prop :=
  ∃ ps : List Addr, D ≠ c ∧ (∀ p ∈ ps, p ≠ c) ∧ H D = some (.lst (ps.map V.ref)) ∧ ps.length = rows.length ∧ ∀ (i : Nat) (p : Addr) (r : List Nat), ps[i]? = some p → rows[i]? = some r → H p = some (.lst (iv r))
theorem Rows.same {c : Addr} {H H' : Hp} {D : Addr} {rows : List (List Nat)} (h : Rows c H D rows) (s : Same H H') : Rows c H' D rows := by
  obtain ⟨ps, n1, n2, h1, h2, h3⟩ := h
  exact ⟨ps, n1, n2, s _ _ h1, h2, fun i p r a b => s _ _ (h3 i p r a b)⟩
theorem dpAll_rows {K : PySem.W.Frag} {H : Hp} : ∀ (ps : List Addr) (rows : List (List Nat)), ps.length = rows.length → (∀ (i : Nat) (p : Addr) (r : List Nat), ps[i]? = some p → rows[i]? = some r → H p = some (.lst (iv r))) → DpAll K H (ps.map V.ref) (rows.map datN)
  | [], [], _, _ => .nil
  | p :: ps, r :: rows, hl, h => by
    refine .cons (dp_nats (.inl (.inl (h 0 p r rfl rfl)))) (dpAll_rows ps rows (by simpa using hl) fun i p' r' a b => ?_)
    exact h (i + 1) p' r' (by simpa using a) (by simpa using b)
  | [], _ :: _, hl, _ => by simp at hl
  | _ :: _, [], hl, _ => by simp at hl
theorem Rows.dp {K : PySem.W.Frag} {c : Addr} {H : Hp} {D : Addr} {rows : List (List Nat)} (h : Rows c H D rows) : Dp K H (.ref D) (datR rows) := by
  obtain ⟨ps, _, _, h1, h2, h3⟩ := h
  exact .lst (.inl (.inl h1)) (dpAll_rows ps rows h2 h3)
/-- one row is read -/
theorem Rows.row {c : Addr} {H : Hp} {D : Addr} {rows : List (List Nat)} (h : Rows c H D rows) {i : Nat} {r : List Nat} (e : rows[i]? = some r) : ∃ (ps : List Addr) (p : Addr), H D = some (.lst (ps.map V.ref)) ∧ (ps.map V.ref)[i]? = some (.ref p) ∧ H p = some (.lst (iv r)) := by
  obtain ⟨ps, _, _, h1, h2, h3⟩ := h
  have hi : i < ps.length := by
    rw [h2]
    exact (List.getElem?_eq_some_iff.mp e).1
  refine ⟨ps, ps[i], h1, ?_, h3 i _ r (List.getElem?_eq_getElem hi) e⟩
  rw [List.getElem?_map, List.getElem?_eq_getElem hi]
  rfl
/-- the table of f over the numbers below q -/
def tab (f : Nat → Nat → Nat) (q : Nat) : List (List Nat) := (List.range q).map fun a => (List.range q).map (f a)
theorem tab_row {f : Nat → Nat → Nat} {q a : Nat} (h : a < q) : (tab f q)[a]? = some ((List.range q).map (f a)) := by
  unfold tab
  rw [List.getElem?_map, List.getElem?_range h]
  rfl
theorem iv_at {f : Nat → Nat} {q b : Nat} (h : b < q) : (iv ((List.range q).map f))[b]? = some (.int (f b : Nat)) := by
  unfold iv
  rw [List.getElem?_map, List.getElem?_map, List.getElem?_range h]
  rfl

/-! ### written tables -/
def intOf : Value → Option Int
  | .int i _ => some i
  | _ => none
def rowIs (K : PySem.W.Frag) (v : Value) (r : List Nat) : Bool := match v with
  | .ref p => (match K.lookup p with
    | some ⟨.type "tuple", none, .seq its _, _⟩ => decide (its.size ≤ sizeLine) && decide (its.toList.map intOf = r.map fun (n : Nat) => some ((n : Nat) : Int))
    | _ => false)
  | _ => false
def tabIs (K : PySem.W.Frag) (d : Addr) (f : Nat → Nat → Nat → Nat) : Bool := match K.lookup d with
  | some ⟨.type "dict", none, .dict es _, sl⟩ => decide (sl.size = 0) && keysI es.toList && Fld.fields.all fun q => (match findBy Value.isInt es (q : Nat) with
    | some (.ref p) => (match K.lookup p with
      | some ⟨.type "tuple", none, .seq its _, _⟩ => decide (its.size = q) && Fld.below q fun a => rowIs K (its.toList.getD a .none) ((List.range q).map (f q a))
      | _ => false)
    | _ => false)
  | _ => false
theorem vals_of_ints : ∀ {us : List Value} {r : List Nat}, us.map intOf = r.map (fun (n : Nat) => some ((n : Nat) : Int)) → Vals (iv r) us
  | [], [], _ => .nil
  | u :: us, n :: r, h => by
    injection h with h1 h2
    refine .cons ?_ (vals_of_ints h2)
    cases u with
    | int i t => exact ⟨t, by rw [Option.some.inj h1]⟩
    | _ => cases h1
  | [], _ :: _, h => nomatch h
  | _ :: _, [], h => nomatch h
theorem row_is {K : PySem.W.Frag} {v : Value} {r : List Nat} (h : rowIs K v r = true) : ∃ p, v = .ref p ∧ (∀ H, SqT K H p (iv r)) ∧ ∃ o, K.lookup p = some o ∧ o.cls = .type "tuple" ∧ o.dict = none := by
  unfold rowIs at h
  split at h
  · rename_i p
    split at h
    · rename_i its n sl e
      rw [Bool.and_eq_true, decide_eq_true_eq, decide_eq_true_eq] at h
      exact ⟨p, rfl, fun H => .inr ⟨_, its, n, e, rfl, rfl, h.1, vals_of_ints h.2⟩, _, e, rfl, rfl⟩
    · cases h
  · cases h
/-- the table's entry at q: a tuple of the rows -/
def TabAt (K : PySem.W.Frag) (d : Addr) (f : Nat → Nat → Nat → Nat) (q : Nat) : Prop :=
  ∃ p vs, KDI K d (q : Nat) (.ref p) ∧ (∀ H, SqT K H p vs) ∧ ∀ a, a < q → ∃ r, vs[a]? = some (.ref r) ∧ (∀ H, SqT K H r (iv ((List.range q).map (f q a)))) ∧ ∃ o, K.lookup r = some o ∧ o.cls = .type "tuple" ∧ o.dict = none
theorem refs_of {K : PySem.W.Frag} {g : Nat → List Nat} : ∀ (us : List Value) , (∀ a, a < us.length → rowIs K (us.getD a .none) (g a) = true) → ∃ vs, Vals vs us ∧ ∀ a, a < us.length → ∃ r, vs[a]? = some (.ref r) ∧ (∀ H, SqT K H r (iv (g a))) ∧ ∃ o, K.lookup r = some o ∧ o.cls = .type "tuple" ∧ o.dict = none
  | us, h => by
    induction us generalizing g with
    | nil => exact ⟨[], .nil, fun a ha => absurd ha (Nat.not_lt_zero _)⟩
    | cons u us ih =>
      obtain ⟨p, e, hp, ho⟩ := row_is (h 0 (Nat.succ_pos _))
      have e' : u = .ref p := e
      subst e'
      obtain ⟨vs, hv, hr⟩ := ih (g := fun a => g (a + 1)) fun a ha => h (a + 1) (Nat.succ_lt_succ ha)
      refine ⟨V.ref p :: vs, .cons rfl hv, fun a ha => ?_⟩
      cases a with
      | zero => exact ⟨p, rfl, hp, ho⟩
      | succ a => exact hr a (Nat.lt_of_succ_lt_succ ha)
theorem tab_at {K : PySem.W.Frag} {d : Addr} {f : Nat → Nat → Nat → Nat} (h : tabIs K d f = true) {q : Nat} (hq : q ∈ Fld.fields) : TabAt K d f q := by
  unfold tabIs at h
  split at h
  · rename_i es n sl0 e
    rw [Bool.and_eq_true, Bool.and_eq_true, decide_eq_true_eq] at h
    have z : sl0 = #[] := Array.eq_empty_of_size_eq_zero h.1.1
    subst z
    have t := List.all_eq_true.mp h.2 q hq
    split at t
    · rename_i p ep
      split at t
      · rename_i its m sl e2
        rw [Bool.and_eq_true, decide_eq_true_eq] at t
        have hl : its.toList.length = q := by
          rw [Array.length_toList]
          exact t.1
        obtain ⟨vs, hv, hr⟩ := refs_of (K := K) (g := fun a => (List.range q).map (f q a)) its.toList fun a ha => by
          rw [hl] at ha
          exact Fld.of_below t.2 ha
        have sz : its.size ≤ sizeLine := by
          rw [t.1]
          exact Nat.le_trans (Fld.le16 hq) (by decide)
        refine ⟨p, vs, ⟨es, n, _, e, h.1.2, ep, rfl⟩, fun H => .inr ⟨_, its, m, e2, rfl, rfl, sz, hv⟩, fun a ha => hr a ?_⟩
        rw [hl]
        exact ha
      · cases t
    · cases t
  · cases h

/-! ### the deck -/
abbrev kC : Key := Sum.inr "left"
abbrev kM : Key := Sum.inr "mixed"
abbrev kD : Key := Sum.inr "draws"
theorem st1 : ¬ Str.ofString "left" = Str.ofString "mixed" := by decide +kernel
theorem st2 : ¬ Str.ofString "left" = Str.ofString "draws" := by decide +kernel
theorem st3 : ¬ Str.ofString "mixed" = Str.ofString "draws" := by decide +kernel
theorem ne1 : ¬ kC = kM := by decide +kernel
theorem ne2 : ¬ kC = kD := by decide +kernel
theorem ne3 : ¬ kM = kD := by decide +kernel
abbrev deckD (c : Addr) (m n : Int) : List (Key × V) := [(kC, .ref c), (kM, .int m), (kD, .int n)]
theorem deck_C {c : Addr} {m n : Int} : valV (deckD c m n) kC = some (.ref c) := valV_pos rfl
theorem deck_M {c : Addr} {m n : Int} : valV (deckD c m n) kM = some (.int m) := by
  rw [valV_neg ne1]
  exact valV_pos rfl
theorem deck_D {c : Addr} {m n : Int} : valV (deckD c m n) kD = some (.int n) := by
  rw [valV_neg ne2, valV_neg ne3]
  exact valV_pos rfl
theorem deck_put {c : Addr} {m n k : Int} : putK (deckD c m n) kD (.int k) = deckD c m k := by
  unfold putK
  rw [if_pos (by simp)]
  simp [deckD, st2, st3]
theorem deck_merge {c : Addr} {m n : Int} : mergeK [] (deckD c m n) = deckD c m n := by
  have a1 : putK ([] : List (Key × V)) kC (.ref c) = [(kC, .ref c)] := by
    unfold putK
    rw [if_neg (by simp)]
    rfl
  have a2 : putK [(kC, V.ref c)] kM (.int m) = [(kC, .ref c), (kM, .int m)] := by
    unfold putK
    rw [if_neg (by simp [st1])]
    rfl
  have a3 : putK [(kC, V.ref c), (kM, .int m)] kD (.int n) = deckD c m n := by
    unfold putK
    rw [if_neg (by simp [st2, st3])]
    rfl
  show putK (putK (putK [] kC (.ref c)) kM (.int m)) kD (.int n) = _
  rw [a1, a2, a3]
/-- at d the dict of a deck, at c its list of cells -/
def Deck (H : Hp) (d c : Addr) : Prop :=
  ∃ (cells : List Int) (m n : Int), H d = some (.dK (deckD c m n)) ∧ H c = some (.lst (cells.map V.int)) ∧ cells.length ≤ 63 ∧ 0 ≤ m ∧ m < 2147483647
theorem Deck.same {H H' : Hp} {d c : Addr} (h : Deck H d c) (s : Same H H') : Deck H' d c := by
  obtain ⟨cells, m, n, h1, h2, h3⟩ := h
  exact ⟨cells, m, n, s _ _ h1, s _ _ h2, h3⟩
theorem Deck.lst {H : Hp} {d c p : Addr} {xs : List V} (h : Deck H d c) (e : H p = some (.lst xs)) (n : p ≠ c) : p ≠ d := by
  obtain ⟨cells, m, k, h1, _⟩ := h
  exact ne_of e h1 (fun z => by cases z)
theorem Rows.but {H H' : Hp} {d c D : Addr} {rows : List (List Nat)} (h : Rows c H D rows) (k : Deck H d c) (b : But d c H H') : Rows c H' D rows := by
  obtain ⟨ps, n1, n2, h1, h2, h3⟩ := h
  refine ⟨ps, n1, n2, b _ _ (k.lst h1 n1) n1 h1, h2, fun i p r hp hr => ?_⟩
  have np := n2 p (List.mem_of_getElem? hp)
  have e := h3 i p r hp hr
  exact b _ _ (k.lst e np) np e
/-- a new thing is neither -/
theorem Deck.new {H : Hp} {d c p : Addr} (h : Deck H d c) (e : H p = none) : p ≠ d ∧ p ≠ c := by
  obtain ⟨cells, m, k, h1, h2, _⟩ := h
  refine ⟨fun z => ?_, fun z => ?_⟩
  · rw [z, h1] at e
    cases e
  · rw [z, h2] at e
    cases e
end BP
set_option Elab.async false
set_option linter.all false
set_option maxRecDepth 100000
set_option maxHeartbeats 4000000
/-! enumerate of a tuple. -/
namespace BP
open PySem PySem.Spec PyProof.Rows L2
theorem meets_enumT {v : Value} {o : Obj} {N : Heap → Prop} (B : Begins v o N) :
    Meets (Builtin.«enumerate.__new__» ⟨[.type "enumerate", v], []⟩) (fun _ R s => N s.heap ∧
      R (.ok (.ret (.ref (s.heap.push o).objs.size))) { s with heap := (s.heap.push o).push { cls := .type "enumerate", data := .fields #[.none, .bool false, .ref s.heap.objs.size, rawInt 0, .none, .none] } }) :=
  .of_wp fun prog w A R s h => by
    obtain ⟨hp, g, d, tk, os⟩ := s
    obtain ⟨h1, h⟩ := h
    have hsub := sub_enumerate
    have q1 : ∀ {A' : Around} {E : Value → Shared → Prop} {Q : Value → Shared → Prop}, Q (.ref hp.objs.size) ⟨hp.push o, g, d, tk, os⟩ → wpAny (model prog w) A' (pyIter v) Q E ⟨hp, g, d, tk, os⟩ := by
      intro A' E Q q
      exact B.iter prog w _ _ ⟨hp, g, d, tk, os⟩ _ h1 q
    wp_walk using q1
    refine wpAny_stack_any fun ss => wpAny_pure ?_
    split
    · rename_i c _ _ _ _ _
      cases (c == Value.type "enumerate")
      · wp_walk using q1
        exact ⟨_, rfl, h⟩
      · wp_walk using q1
        exact ⟨_, rfl, h⟩
    · wp_walk using q1
      exact ⟨_, rfl, h⟩
theorem call_enumT {prog : Program} {w : World} {A : Around} {E : Value → Shared → Prop} {s : Shared} {t : Addr} {items : Array Value} {Q : Value → Shared → Prop} (htup : s.heap.IsTuple t items)
    (h : ∀ g', IsEnum g' (s.heap.objs.size + 1) s.heap.objs.size 0 .none → g'.IsTupleIter s.heap.objs.size t 0 → g'.objs.size = s.heap.objs.size + 2 →
      (∀ b o, s.heap.get? b = some o → g'.get? b = some o) → Q (.ref (s.heap.objs.size + 1)) { s with heap := g' }) :
    wpAny (model prog w) A (call (.type "enumerate") [.ref t]) Q E s := by
  refine callType_new F.called_enumerate (by decide) (F.typeCall_enumerate_1 _) (F.newCall_enumerate_1 _) (fun obj => F.args_object_init_2 obj _) F.entry_enumerate_new (meets_enumT (begins_tuple t items)) ⟨htup, ?_⟩
  have hzz : (s.heap.push { cls := .type "tuple_iterator", data := .fields #[.ref t, .int 0 0] }).objs.size = s.heap.objs.size + 1 := Heap.size_push ..
  show _ ∧ _
  rw [hzz]
  have it0 : (s.heap.push { cls := .type "tuple_iterator", data := .fields #[.ref t, .int 0 0] }).get? s.heap.objs.size = some _ := Heap.get?_push_size _ rfl
  have hee : IsEnum ((s.heap.push { cls := .type "tuple_iterator", data := .fields #[.ref t, .int 0 0] }).push { cls := .type "enumerate", data := .fields #[.none, .bool false, .ref s.heap.objs.size, rawInt 0, .none, .none] }) (s.heap.objs.size + 1) s.heap.objs.size 0 .none := by
    have e := Heap.get?_push_size (s.heap.push { cls := .type "tuple_iterator", data := .fields #[.ref t, .int 0 0] }) (o := { cls := .type "enumerate", data := .fields #[.none, .bool false, .ref s.heap.objs.size, rawInt 0, .none, .none] }) rfl
    rw [hzz] at e
    exact e
  refine ⟨⟨_, hee, rfl⟩, h _ hee ⟨_, Heap.get?_push_of_some _ it0, rfl, rfl⟩ (by rw [Heap.size_push, hzz]) fun b o x => Heap.get?_push_of_some _ (Heap.get?_push_of_some _ x)⟩
/-- the tuple at a as it stands, each item in a new pair -/
def IteT (K : PySem.W.Frag) (a : Addr) : It :=
  ⟨fun i H => ∃ (xs : List V) (x : V), SqT K H a xs ∧ xs[i]? = some x,
   fun i H v H' => ∃ T x, v = .ref T ∧ H T = none ∧ H' = upd H T (.tup [.int (i : Nat), x]) ∧ ∀ xs, SqT K H a xs → xs[i]? = some x,
   fun i H => ∃ xs : List V, SqT K H a xs ∧ xs.length ≤ i⟩
theorem turn_enumT {P : Program} {w : World} {K : PySem.W.Frag} {elts : List Expr} {kk : Nat} {tpos : Pos} (a e it : Addr) (hai : a ≠ it) :
    Turn P w K (.Tuple elts kk tpos) (IteT K a) [e, it] e (fun i h => (∃ od, IsEnum h e it ((i : Nat) : Int) od) ∧ h.IsTupleIter it a i ∧ e ≠ it) where
  mem := by simp
  obj := fun i h ss b hb => by
    obtain ⟨⟨od, hee⟩, ⟨o, hoo, hcc, hdd⟩, _⟩ := ss
    have z : b = e ∨ b = it := by simpa using hb
    cases z with
    | inl z =>
      rw [z]
      exact ⟨_, hee, fun v q => nomatch q⟩
    | inr z =>
      rw [z]
      refine ⟨o, hoo, fun v q => ?_⟩
      rw [hdd] at q
      cases q
  keep := fun i h g' ss k => by
    obtain ⟨⟨od, hee⟩, hin, hnn⟩ := ss
    exact ⟨⟨od, k e (by simp) _ hee⟩, hin.at fun o q => k it (by simp) o q, hnn⟩
  item := by
    intro X hP hw hK hcc i pl0 s σ H E I hfp ss hgo
    subst hP hw hK
    obtain ⟨⟨od, hee⟩, hii, hnn⟩ := ss
    obtain ⟨xs, x, hq, hxx⟩ := hgo
    obtain ⟨ws, rvs, p, hzz⟩ := I.tuple hq
    obtain ⟨u, huu, ruu⟩ := rvs.get hxx
    have helt : e < s.heap.objs.size := Heap.lt_size hee
    have hil : it < s.heap.objs.size := by
      obtain ⟨_, y, _⟩ := hii
      exact Heap.lt_size y
    have hea : e ≠ a := fun z => by
      obtain ⟨o, hoo, hc1, _⟩ := p
      rw [← z, hee] at hoo
      cases hoo
      have h3 : (Value.type "enumerate") = Value.type "tuple" := hc1
      injection h3 with h3
      exact absurd h3 (by decide)
    have hil2 : i < ws.toArray.size := by
      rw [List.size_toArray]
      exact (List.getElem?_eq_some_iff.mp huu).1
    refine wpAny_pyNext_enum_itemD (Draws.tuple (prog := X.prog) (w := X.w) (A := X.A.in1) (I.ok.hd hcc) it a hai ws.toArray) hee ⟨hii, (show s.heap.IsTuple a ws.toArray from p)⟩ hil2 hnn (by simp [hnn, hea]) fun y g' tk hy hoo hst htT hsz hkk => ?_
    have ey : y = u := by
      have e1 : ws[i]? = some y := by simpa using hy
      rw [huu] at e1
      exact (Option.some.inj e1).symm
    subst ey
    refine ⟨_, rfl, wpAny_letOwnedTupleGo_enum (s := { s with heap := g', toks := tk + 1 }) hoo fun h'' he' sb => ?_⟩
    have hT2 := (sb.2 _ (Nat.ne_of_gt helt)).trans htT
    have new : ObjOk X.prog X.w (upd H s.heap.objs.size (.tup [.int (i : Nat), x])) h'' s.heap.objs.size (.tup [.int (i : Nat), x]) :=
      ⟨by show 2 ≤ sizeLine; decide, [.int i tk, y], .cons ⟨_, rfl⟩ (.cons ruu .nil), ⟨_, hT2, rfl, _, rfl⟩⟩
    have far : ∀ b, b ∉ [e, it] → b ≠ e ∧ b ≠ it := fun b hb => ⟨fun z => hb (by simp [z]), fun z => hb (by simp [z])⟩
    have J1 : Inv X pl0 σ (upd H s.heap.objs.size (.tup [.int (i : Nat), x])) { s with heap := h'', toks := tk + 1 } := by
      refine I.turnedNew (ch := [e, it]) (fun b ob hb q => ?_) hfp (Nat.le_refl _) new
      obtain ⟨n1, n2⟩ := far b hb
      exact (sb.2 b n1).trans (hkk b ob n1 n2 q)
    refine ⟨.ref s.heap.objs.size, _, J1, rfl, ⟨_, x, rfl, I.hok.fresh (Nat.le_refl _), rfl, fun ys hy => by rw [I.tuple_inj hy hq]; exact hxx⟩, ⟨⟨y, ?_⟩, hst.1.at fun o q => (sb.2 it (Ne.symm hnn)).trans q, hnn⟩, fun b hb => ?_⟩
    · have e1 : ((i + 1 : Nat) : Int) = (i : Int) + 1 := by omega
      rw [e1]
      exact he'
    · have hb' : b < s.heap.objs.size := by
        have z : b = e ∨ b = it := by simpa using hb
        cases z with
        | inl z => rw [z]; exact helt
        | inr z => rw [z]; exact hil
      rw [upd_ne (Nat.ne_of_lt hb')]
      exact (hfp b hb).1
  done := by
    intro X hP hw hK hcc i pl0 s σ H E I hfp ss hgo
    subst hP hw hK
    obtain ⟨⟨od, hee⟩, hii, hnn⟩ := ss
    obtain ⟨xs, hq, hxx⟩ := hgo
    obtain ⟨ws, rvs, p, hzz⟩ := I.tuple hq
    obtain ⟨f0, f1, f2, f3, f4, f5⟩ := hfp it (by simp)
    have hsq := rvs.length
    have T : s.TypeIs (.ref e) "enumerate" := ⟨_, hee, rfl⟩
    unfold pyNext
    refine wpAny_bind (wpAny_attempt (wpAny_callSpecial?_slot (name := Str.ofString "__next__") T F.slot_enumerate_next
      (wpAny_call_entry F.slot_enumerate_next T F.entry_enumerate_next ?_ (F.args_enumerate_next_1 _))))
    show wpAny _ _ (field (.ref e) 2 >>= _) _ _ _
    refine wpAny_bind (wpAny_field hee rfl (x := .ref it) rfl ?_)
    refine wpAny_bind (wpAny_nextOf_tuple_end (by exact I.ok.hd hcc) hii (show s.heap.IsTuple a ws.toArray from p) (by simp; omega) fun g' x eb hx' => ?_)
    obtain ⟨o, hoo, hcs⟩ := hx'
    refine wpAny_bind (wpAny_isInstance (T := "StopIteration") (b := true) ⟨o, hoo, hcs⟩ isSubtype_stop ?_)
    exact wpAny_pure ⟨rfl, I.turned (t' := s.toks) (fun b o hb q => eb b o hb q) f0 f1 f3 f4 f5⟩
  self := fun A i s Q E ss h => by
    obtain ⟨⟨_, hee⟩, _⟩ := ss
    exact wpAny_pyIter_enum hee h
def iEnumT (K : PySem.W.Frag) (ta : TA) : TI := fun σ H R => ta σ H fun vs H1 => ∃ a xs, vs = [.ref a] ∧ SqT K H1 a xs ∧ R (IteT K a) H1
theorem pi_enumT {X : Cx} {e : Expr} {ta : TA} {p pos tpos : Pos} {elts : List Expr} {kk : Nat} (hgo : Gl X "enumerate") (hmg : X.mg "enumerate" = none) (hargs : PA X [e] ta) (hst : starEach [e] X.env = [(false, eval e X.env)] := by rfl) :
    PI X (.Tuple elts kk tpos) (.Call (.Name "enumerate" p) [e] [] pos) (iEnumT X.K ta) := by
  refine ⟨fun pl0 s σ H R I h => ?_⟩
  refine Call_ (ld_blt I hgo hmg boot_enumerate (PyProof.Rows.callWith_type1 (thn (hargs.run pos pl0 s σ H _ I h) fun us sh1 hh => ?_) hst rfl))
  obtain ⟨vs, H1, J1, r1, a, xs, ex, hq, q⟩ := hh
  subst ex
  cases r1 with
  | cons r rr =>
    cases rr
    cases r
    obtain ⟨ws, rvs, p', hzz⟩ := J1.tuple hq
    have hal : a < sh1.heap.objs.size := by
      obtain ⟨o, hoo, _⟩ := p'
      exact Heap.lt_size hoo
    refine call_enumT (show sh1.heap.IsTuple a ws.toArray from p') fun g' hee hii hsz hkk => wpAny_pyIter_enum hee ?_
    have J2 : Inv X pl0 σ H1 { sh1 with heap := g' } := J1.kept (t' := sh1.toks) hkk
    refine ⟨sh1.heap.objs.size + 1, [sh1.heap.objs.size + 1, sh1.heap.objs.size], _, _, H1, rfl, J2, turn_enumT a (sh1.heap.objs.size + 1) sh1.heap.objs.size (Nat.ne_of_lt hal), ⟨⟨.none, hee⟩, hii, Nat.succ_ne_self _⟩, fun b hb => ?_, q⟩
    have z : b = sh1.heap.objs.size + 1 ∨ b = sh1.heap.objs.size := by simpa using hb
    have hbl : sh1.heap.objs.size ≤ b := by
      cases z with
      | inl z =>
        rw [z]
        exact Nat.le_add_right _ _
      | inr z =>
        rw [z]
        exact Nat.le_refl _
    exact J1.fpOk hbl (J1.hok.fresh hbl)
/-- for k, x in enumerate(t) -/
theorem for_enumT {K : PySem.W.Frag} {a : Addr} {xs : List V} {g : TG} {tb : TS} {D : Ends} {σ : L2.St} {H : Hp} (Inv0 : Nat → L2.St → Hp → Prop) (hst0 : Inv0 0 σ H) (hsq : ∀ i σ H, i ≤ xs.length → Inv0 i σ H → SqT K H a xs)
    (hst : ∀ (i : Nat) (x : V) (σ : L2.St) (H : Hp) (T : Addr), xs[i]? = some x → Inv0 i σ H → H T = none → g (.ref T) σ (upd H T (.tup [.int (i : Nat), x])) fun σ2 H2 => tb { D with nx := Inv0 (i + 1), ct := Inv0 (i + 1), bk := D.nx } σ2 H2)
    (hdd : ∀ σ H, Inv0 xs.length σ H → D.nx σ H) :
    ∃ W : Nat → Nat → L2.St → Hp → Prop, (∃ m, W 0 m σ H) ∧ ∀ i m σ H, W i m σ H →
      ((IteT K a).stop i H ∧ D.nx σ H) ∨ ((IteT K a).go i H ∧ ∃ N : L2.St → Hp → Prop, (∀ σ' H', N σ' H' → ∃ m', m' < m ∧ W (i + 1) m' σ' H') ∧ ∀ x H', (IteT K a).yld i H x H' → g x σ H' fun σ2 H2 => tb { D with nx := N, ct := N, bk := D.nx } σ2 H2) := by
  refine ⟨fun i m σ H => m = xs.length - i ∧ i ≤ xs.length ∧ Inv0 i σ H, ⟨xs.length, by simp, Nat.zero_le _, hst0⟩, ?_⟩
  rintro i m σ H ⟨rfl, hin, p⟩
  have q := hsq i σ H hin p
  by_cases hlt : i < xs.length
  · refine .inr ⟨⟨xs, xs[i], q, by simp [hlt]⟩, Inv0 (i + 1), fun σ' H' p' => ⟨xs.length - (i + 1), by omega, rfl, hlt, p'⟩, fun x H' y => ?_⟩
    obtain ⟨T, z, rfl, nT, rfl, f⟩ := y
    exact hst i z σ H T (f xs q) p nT
  · have e : i = xs.length := by omega
    subst e
    exact .inl ⟨⟨xs, q, Nat.le_refl _⟩, hdd σ H p⟩
end BP
set_option Elab.async false
set_option linter.all false
set_option maxRecDepth 100000
set_option maxHeartbeats 4000000
/-! How many straight maps, rows of bends and steps there are. No Python here. -/
namespace Cnt
open Fld
/-- the number that undoes a sum -/
def ng (q a : Nat) : Nat := match q with
  | 4 => a | 8 => a | 16 => a
  | 9 => (3 - a % 3) % 3 + 3 * ((3 - a / 3) % 3)
  | q => (q - a) % q
def bump (l : List Nat) (i x : Nat) : List Nat := l.set i (l.getD i 0 + x)
def zeros (q : Nat) : List Nat := List.replicate q 0
/-- how often a product is told, behind the first n numbers, and m more of the next one -/
def oft1 (q a : Nat) (l : List Nat) (m : Nat) : List Nat := (List.range m).foldl (fun l e => bump l (M q a e) 1) l
def oft (q n : Nat) : List Nat := (List.range n).foldl (fun l a => oft1 q a l q) (zeros q)
def mps1 (q : Nat) (o : List Nat) (a : Nat) (l : List Nat) (m : Nat) : List Nat := (List.range m).foldl (fun l e => bump l (S q a (ng q e)) (o.getD a 0 * o.getD e 0 * q * q)) l
def mps (q : Nat) (o : List Nat) (n : Nat) : List Nat := (List.range n).foldl (fun l a => mps1 q o a l q) (zeros q)
def mp (q : Nat) : List Nat := mps q (oft q q) q
def strt (q : Nat) : Nat := (q * q - 1) * (q * q - q) * q * q
theorem bump_len (l : List Nat) (i x : Nat) : (bump l i x).length = l.length := List.length_set
theorem foldl_succ {α : Type} (f : α → Nat → α) (x : α) (n : Nat) : (List.range (n + 1)).foldl f x = f ((List.range n).foldl f x) n := by
  rw [List.range_succ, List.foldl_append]
  rfl
def okCnt (q : Nat) : Bool := decide ((mp q).length = q) && decide ((mp q).drop 1 = List.replicate (q - 1) (strt q / (q - 1))) && decide (strt q / (q - 1) * (q - 1) = strt q) && below q fun a => decide (ng q a < q)
theorem all_cnt : fields.all okCnt = true := by decide +kernel
theorem ok16 {q : Nat} (h : q ∈ fields) : okCnt q = true := List.all_eq_true.mp all_cnt q h
end Cnt
namespace Cnt
open Fld
section
variable {q : Nat} (h : q ∈ fields)
include h
theorem mp_len : (mp q).length = q := by
  have o := ok16 h
  simp only [okCnt, Bool.and_eq_true, decide_eq_true_eq] at o
  exact o.1.1.1
theorem mp_drop : (mp q).drop 1 = List.replicate (q - 1) (strt q / (q - 1)) := by
  have o := ok16 h
  simp only [okCnt, Bool.and_eq_true, decide_eq_true_eq] at o
  exact o.1.1.2
theorem strt_div : strt q / (q - 1) * (q - 1) = strt q := by
  have o := ok16 h
  simp only [okCnt, Bool.and_eq_true, decide_eq_true_eq] at o
  exact o.1.2
theorem ng_lt {a : Nat} (ha : a < q) : ng q a < q := by
  have o := ok16 h
  simp only [okCnt, Bool.and_eq_true] at o
  have := of_below o.2 ha
  exact of_decide_eq_true this
theorem mp_sum : ((mp q).drop 1).sum = strt q := by
  have rp : ∀ (n x : Nat), (List.replicate n x).sum = n * x := by
    intro n x
    induction n with
    | zero => rw [Nat.zero_mul]; rfl
    | succ n ih => rw [List.replicate_succ, List.sum_cons, ih, Nat.succ_mul, Nat.add_comm]
  rw [mp_drop h, rp]
  have := strt_div h
  rw [Nat.mul_comm] at this
  exact this
theorem mp_at {d : Nat} (h1 : 1 ≤ d) (h2 : d < q) : (mp q)[d]? = some (strt q / (q - 1)) := by
  have e : ((mp q).drop 1)[d - 1]? = some (strt q / (q - 1)) := by
    rw [mp_drop h, List.getElem?_replicate, if_pos (by omega)]
  rw [List.getElem?_drop] at e
  rw [show 1 + (d - 1) = d by omega] at e
  exact e
end
/-! ### rows of bends -/
/-- the bends of a degree -/
def bds (q d : Nat) : Nat := (q - 1) * q ^ (d - 2)
def wts (q : Nat) (l : List Nat) : Nat := (l.map fun d => q * bds q d).prod
/-- a start, turns and bends of such degrees -/
def chs (q : Nat) : List Nat → Nat
  | [] => 1
  | d :: r => (q + 1) * bds q d * wts q r
theorem chs_snoc (q : Nat) (l : List Nat) (d : Nat) : chs q (l ++ [d]) = chs q l * ((if l.length = 0 then q + 1 else q) * bds q d) := by
  cases l with
  | nil => simp [chs, wts]
  | cons x r => simp [chs, wts, Nat.mul_assoc]
theorem chs_q (q : Nat) (l : List Nat) (h : l ≠ []) : q * chs q l = (q + 1) * wts q l := by
  cases l with
  | nil => exact absurd rfl h
  | cons d r =>
    show q * ((q + 1) * bds q d * wts q r) = (q + 1) * wts q (d :: r)
    have : wts q (d :: r) = q * bds q d * wts q r := by simp [wts]
    rw [this]
    ac_rfl
theorem wts_rev (q : Nat) (l : List Nat) : wts q l.reverse = wts q l := by
  induction l with
  | nil => rfl
  | cons d r ih =>
    have e : wts q (r.reverse ++ [d]) = wts q r.reverse * (q * bds q d) := by simp [wts]
    rw [List.reverse_cons, e, ih]
    show _ = wts q (d :: r)
    have : wts q (d :: r) = q * bds q d * wts q r := by simp [wts]
    rw [this, Nat.mul_comm]
theorem chs_rev {q : Nat} (hq : 0 < q) (l : List Nat) : chs q l.reverse = chs q l := by
  cases l with
  | nil => rfl
  | cons d r =>
    refine Nat.eq_of_mul_eq_mul_left hq ?_
    rw [chs_q q _ (by simp), chs_q q _ (by simp), wts_rev]
/-! ### rows of bends with a product of degrees -/
def dvs (n : Nat) : List Nat := [2, 3, 4, 5, 6].filter fun d => n % d == 0
def mbr (q : Nat) : Nat → Nat → Nat
  | 0, _ => 0
  | k + 1, n => if n = 1 then 1 else ((dvs n).map fun d => q * bds q d * mbr q k (n / d)).sum
/-- rows and what is left of the product -/
def nxt (x : List Nat × Nat) : List (List Nat × Nat) := if 1 < x.2 then (dvs x.2).map fun d => (x.1 ++ [d], x.2 / d) else []
def frt (n : Nat) : Nat → List (List Nat × Nat)
  | 0 => [([], n)]
  | t + 1 => (frt n t).flatMap nxt
def fnd (n : Nat) : Nat → List (List Nat)
  | 0 => []
  | t + 1 => fnd n t ++ ((frt n t).filter fun x => x.2 == 1).map Prod.fst
def ew (q : Nat) (l : List Nat) : Nat := if l = [] then q + 1 else q * chs q l
theorem ew_snoc (q : Nat) (l : List Nat) (d : Nat) : ew q (l ++ [d]) = ew q l * (q * bds q d) := by
  unfold ew
  rw [if_neg (by simp), chs_snoc]
  by_cases e : l = []
  · subst e
    simp [chs]
    ac_rfl
  · rw [if_neg e, if_neg (by simpa using e)]
    ac_rfl
def tot (q k : Nat) (f : List (List Nat × Nat)) : Nat := (f.map fun x => ew q x.1 * mbr q k x.2).sum
def dne (q : Nat) (f : List (List Nat × Nat)) : Nat := (f.map fun x => if x.2 = 1 then ew q x.1 else 0).sum
theorem sum_mul (c : Nat) (l : List Nat) : (l.map fun x => c * x).sum = c * l.sum := by
  induction l with
  | nil => rfl
  | cons x r ih => rw [List.map_cons, List.sum_cons, List.sum_cons, ih, Nat.mul_add]
theorem tot_one (q k : Nat) (x : List Nat × Nat) : (if x.2 = 1 then ew q x.1 else 0) + tot q k (nxt x) = (if x.2 = 0 then 0 else ew q x.1 * mbr q (k + 1) x.2) := by
  obtain ⟨l, n⟩ := x
  unfold tot nxt
  by_cases h1 : n = 1
  · subst h1
    simp [mbr]
  · by_cases h0 : n = 0
    · subst h0
      simp
    · rw [if_neg h1, if_neg h0, if_pos (show 1 < n by omega), List.map_map, Nat.zero_add]
      show _ = ew q l * (if n = 1 then 1 else ((dvs n).map fun d => q * bds q d * mbr q k (n / d)).sum)
      rw [if_neg h1, ← sum_mul, List.map_map]
      congr 1
      refine List.map_congr_left fun d _ => ?_
      show ew q (l ++ [d]) * mbr q k (n / d) = ew q l * (q * bds q d * mbr q k (n / d))
      rw [ew_snoc, Nat.mul_assoc]
theorem tot_app (q k : Nat) (f g : List (List Nat × Nat)) : tot q k (f ++ g) = tot q k f + tot q k g := by
  unfold tot
  rw [List.map_append, List.sum_append]
theorem tot_step (q k : Nat) : ∀ f : List (List Nat × Nat), (∀ x ∈ f, x.2 ≠ 0) → dne q f + tot q k (f.flatMap nxt) = tot q (k + 1) f
  | [], _ => rfl
  | x :: r, h => by
    have ih := tot_step q k r fun y hy => h y (List.mem_cons_of_mem _ hy)
    have o := tot_one q k x
    rw [if_neg (h x (List.mem_cons_self ..))] at o
    rw [List.flatMap_cons, tot_app]
    unfold dne tot at *
    rw [List.map_cons, List.map_cons, List.sum_cons, List.sum_cons, ← ih, ← o]
    omega
theorem dvs_le {n d : Nat} (h : d ∈ dvs n) : 2 ≤ d ∧ d ≤ 6 ∧ n % d = 0 := by
  unfold dvs at h
  rw [List.mem_filter] at h
  obtain ⟨h1, h2⟩ := h
  have : n % d = 0 := by simpa using h2
  simp at h1
  omega
theorem div_pos' {n d : Nat} (h : d ∈ dvs n) (hn : n ≠ 0) : n / d ≠ 0 := by
  obtain ⟨h1, h2, h3⟩ := dvs_le h
  have := Nat.div_add_mod n d
  intro e
  rw [e, h3] at this
  omega
theorem frt_ok (n : Nat) (hn : n ≠ 0) : ∀ t x, x ∈ frt n t → x.2 ≠ 0 ∧ x.2 * 2 ^ t ≤ n
  | 0, x, h => by
    rw [show frt n 0 = [([], n)] from rfl, List.mem_singleton] at h
    subst h
    exact ⟨hn, by simp⟩
  | t + 1, x, h => by
    rw [show frt n (t + 1) = (frt n t).flatMap nxt from rfl, List.mem_flatMap] at h
    obtain ⟨y, hy, hx⟩ := h
    obtain ⟨a, b⟩ := frt_ok n hn t y hy
    unfold nxt at hx
    split at hx
    · rw [List.mem_map] at hx
      obtain ⟨d, hd, rfl⟩ := hx
      refine ⟨div_pos' hd a, ?_⟩
      obtain ⟨d1, d2, d3⟩ := dvs_le hd
      show y.2 / d * 2 ^ (t + 1) ≤ n
      have e : y.2 / d * 2 ≤ y.2 := Nat.le_trans (Nat.mul_le_mul_left _ d1) (Nat.div_mul_le_self _ _)
      calc y.2 / d * 2 ^ (t + 1) = y.2 / d * 2 * 2 ^ t := by rw [Nat.pow_succ]; ac_rfl
        _ ≤ y.2 * 2 ^ t := Nat.mul_le_mul_right _ e
        _ ≤ n := b
    · cases hx
theorem frt_end {n : Nat} (hn : n ≠ 0) (t : Nat) (h : n < 2 ^ t) : frt n t = [] := by
  cases e : frt n t with
  | nil => rfl
  | cons x r =>
    obtain ⟨a, b⟩ := frt_ok n hn t x (by rw [e]; exact List.mem_cons_self ..)
    have : 1 * 2 ^ t ≤ x.2 * 2 ^ t := Nat.mul_le_mul_right _ (by omega)
    omega
theorem frt_ne (n : Nat) : ∀ t x, x ∈ frt n (t + 1) → x.1 ≠ []
  | t, x, h => by
    rw [show frt n (t + 1) = (frt n t).flatMap nxt from rfl, List.mem_flatMap] at h
    obtain ⟨y, hy, hx⟩ := h
    unfold nxt at hx
    split at hx
    · rw [List.mem_map] at hx
      obtain ⟨d, hd, rfl⟩ := hx
      simp
    · cases hx
theorem fnd_ne {n : Nat} (hn : n ≠ 1) : ∀ t l, l ∈ fnd n t → l ≠ []
  | 0, l, h => by cases h
  | t + 1, l, h => by
    rw [show fnd n (t + 1) = fnd n t ++ ((frt n t).filter fun x => x.2 == 1).map Prod.fst from rfl, List.mem_append] at h
    rcases h with h | h
    · exact fnd_ne hn t l h
    · rw [List.mem_map] at h
      obtain ⟨x, hx, rfl⟩ := h
      rw [List.mem_filter] at hx
      cases t with
      | zero =>
        obtain ⟨h1, h2⟩ := hx
        rw [show frt n 0 = [([], n)] from rfl, List.mem_singleton] at h1
        subst h1
        exact absurd (by simpa using h2) hn
      | succ t => exact frt_ne n t x hx.1
def sms (q : Nat) (f : List (List Nat)) : Nat := (f.map (chs q)).sum
theorem dne_eq (q : Nat) : ∀ f : List (List Nat × Nat), dne q f = (((f.filter fun x => x.2 == 1).map Prod.fst).map (ew q)).sum
  | [] => rfl
  | x :: r => by
    have ih := dne_eq q r
    unfold dne at *
    rw [List.map_cons, List.sum_cons, ih]
    by_cases h : x.2 = 1
    · rw [if_pos h, List.filter_cons_of_pos (by simpa using h)]
      simp
    · rw [if_neg h, List.filter_cons_of_neg (by simpa using h), Nat.zero_add]
theorem ew_sum (q : Nat) : ∀ f : List (List Nat), (∀ l ∈ f, l ≠ []) → (f.map (ew q)).sum = q * sms q f
  | [], _ => rfl
  | l :: r, h => by
    have ih := ew_sum q r fun y hy => h y (List.mem_cons_of_mem _ hy)
    rw [List.map_cons, List.sum_cons, ih]
    unfold ew sms
    rw [if_neg (h l (List.mem_cons_self ..)), List.map_cons, List.sum_cons, Nat.mul_add]
theorem rounds (q : Nat) {n : Nat} (h0 : n ≠ 0) (h1 : n ≠ 1) (k : Nat) : ∀ t, t ≤ k → q * sms q (fnd n t) + tot q (k - t) (frt n t) = (q + 1) * mbr q k n
  | 0, _ => by
    show q * 0 + ((q + 1) * mbr q k n + 0) = _
    simp
  | t + 1, ht => by
    have ih := rounds q h0 h1 k t (by omega)
    have e : k - t = k - (t + 1) + 1 := by omega
    rw [e, ← tot_step q _ _ fun x hx => (frt_ok n h0 t x hx).1, dne_eq] at ih
    rw [← ew_sum q _ (fnd_ne h1 _)]
    rw [← ew_sum q _ (fnd_ne h1 t)] at ih
    rw [show fnd n (t + 1) = fnd n t ++ ((frt n t).filter fun x => x.2 == 1).map Prod.fst from rfl, List.map_append, List.sum_append]
    rw [show frt n (t + 1) = (frt n t).flatMap nxt from rfl, ← ih]
    omega
/-- all rows of bends whose degrees have the product n -/
theorem all_rows {q n : Nat} (h0 : n ≠ 0) (h1 : n ≠ 1) (k : Nat) (h : n < 2 ^ k) : q * sms q (fnd n k) = (q + 1) * mbr q k n := by
  have := rounds q h0 h1 k k (Nat.le_refl _)
  rw [frt_end h0 k h] at this
  exact this
theorem fnd_one : ∀ t, fnd 1 (t + 1) = [[]] ∧ frt 1 (t + 1) = []
  | 0 => ⟨rfl, rfl⟩
  | t + 1 => by
    obtain ⟨a, b⟩ := fnd_one t
    refine ⟨?_, ?_⟩
    · rw [show fnd 1 (t + 1 + 1) = fnd 1 (t + 1) ++ ((frt 1 (t + 1)).filter fun x => x.2 == 1).map Prod.fst from rfl, a, b]
      rfl
    · rw [show frt 1 (t + 1 + 1) = (frt 1 (t + 1)).flatMap nxt from rfl, b]
      rfl
/-- what is asked of all degrees of pairs -/
def deg (q n : Nat) : Nat := if n = 1 then strt q else strt q * (q + 1) * mbr q 11 n / q
theorem deg_eq {q n : Nat} (hq : 0 < q) (h0 : n ≠ 0) (h : n ≤ 1000) : deg q n = sms q (fnd n 11) * strt q := by
  unfold deg
  by_cases h1 : n = 1
  · subst h1
    rw [if_pos rfl, (fnd_one 10).1]
    simp [sms, chs]
  · rw [if_neg h1, Nat.mul_assoc, ← all_rows h0 h1 11 (Nat.lt_of_le_of_lt h (by decide)), show strt q * (q * sms q (fnd n 11)) = q * (sms q (fnd n 11) * strt q) by ac_rfl, Nat.mul_div_cancel_left _ hq]
/-! ### sizes -/
def sq2 (f : List (List Nat × Nat)) : Nat := (f.map fun x => x.2 * x.2).sum
theorem sq_nxt (x : List Nat × Nat) (h : x.2 ≠ 0) : (if x.2 = 1 then 1 else 0) + sq2 (nxt x) ≤ x.2 * x.2 := by
  obtain ⟨l, n⟩ := x
  have h : n ≠ 0 := h
  show (if n = 1 then 1 else 0) + sq2 (nxt (l, n)) ≤ n * n
  unfold nxt
  by_cases h1 : n = 1
  · subst h1
    simp [sq2]
  · rw [if_neg h1, if_pos (show 1 < n by omega), Nat.zero_add]
    have w : ∀ d, 0 < d → (n / d) * (n / d) * (d * d) ≤ n * n := by
      intro d hd
      have e : n / d * d ≤ n := Nat.div_mul_le_self _ _
      calc (n / d) * (n / d) * (d * d) = (n / d * d) * (n / d * d) := by ac_rfl
        _ ≤ n * n := Nat.mul_self_le_mul_self e
    have w2 := w 2 (by decide)
    have w3 := w 3 (by decide)
    have w4 := w 4 (by decide)
    have w5 := w 5 (by decide)
    have w6 := w 6 (by decide)
    have gen : ∀ ds : List Nat, sq2 (((ds.filter fun d => n % d == 0).map fun d => (l ++ [d], n / d))) ≤ (ds.map fun d => n / d * (n / d)).sum := by
      intro ds
      induction ds with
      | nil => exact Nat.le_refl _
      | cons d r ih =>
        rw [List.map_cons, List.sum_cons]
        by_cases hd : n % d = 0
        · rw [List.filter_cons_of_pos (by simpa using hd)]
          unfold sq2 at *
          rw [List.map_cons, List.map_cons, List.sum_cons]
          show n / d * (n / d) + _ ≤ _
          omega
        · rw [List.filter_cons_of_neg (by simpa using hd)]
          omega
    have g := gen [2, 3, 4, 5, 6]
    simp only [List.map_cons, List.map_nil, List.sum_cons, List.sum_nil] at g
    refine Nat.le_trans g ?_
    generalize n / 2 * (n / 2) = a2 at *
    generalize n / 3 * (n / 3) = a3 at *
    generalize n / 4 * (n / 4) = a4 at *
    generalize n / 5 * (n / 5) = a5 at *
    generalize n / 6 * (n / 6) = a6 at *
    generalize n * n = b at *
    omega
theorem sq2_app (f g : List (List Nat × Nat)) : sq2 (f ++ g) = sq2 f + sq2 g := by
  unfold sq2
  rw [List.map_append, List.sum_append]
theorem sq_step : ∀ f : List (List Nat × Nat), (∀ x ∈ f, x.2 ≠ 0) → (f.filter fun x => x.2 == 1).length + sq2 (f.flatMap nxt) ≤ sq2 f
  | [], _ => Nat.le_refl _
  | x :: r, h => by
    have ih := sq_step r fun y hy => h y (List.mem_cons_of_mem _ hy)
    have o := sq_nxt x (h x (List.mem_cons_self ..))
    rw [List.flatMap_cons, sq2_app]
    have e : sq2 (x :: r) = x.2 * x.2 + sq2 r := rfl
    rw [e]
    by_cases h1 : x.2 = 1
    · rw [if_pos h1] at o
      rw [List.filter_cons_of_pos (by simpa using h1), List.length_cons]
      omega
    · rw [if_neg h1] at o
      rw [List.filter_cons_of_neg (by simpa using h1)]
      omega
theorem sizes {n : Nat} (hn : n ≠ 0) : ∀ t, (fnd n t).length + sq2 (frt n t) ≤ n * n
  | 0 => by
    show 0 + (n * n + 0) ≤ n * n
    omega
  | t + 1 => by
    have ih := sizes hn t
    have s := sq_step (frt n t) fun x hx => (frt_ok n hn t x hx).1
    rw [show fnd n (t + 1) = fnd n t ++ ((frt n t).filter fun x => x.2 == 1).map Prod.fst from rfl, List.length_append, List.length_map, show frt n (t + 1) = (frt n t).flatMap nxt from rfl]
    omega
theorem len_sq : ∀ f : List (List Nat × Nat), (∀ x ∈ f, x.2 ≠ 0) → f.length ≤ sq2 f
  | [], _ => Nat.le_refl _
  | x :: r, h => by
    have ih := len_sq r fun y hy => h y (List.mem_cons_of_mem _ hy)
    have e : sq2 (x :: r) = x.2 * x.2 + sq2 r := rfl
    have p : 1 * 1 ≤ x.2 * x.2 := Nat.mul_self_le_mul_self (Nat.pos_of_ne_zero (h x (List.mem_cons_self ..)))
    rw [e, List.length_cons]
    omega
theorem small {n : Nat} (h0 : n ≠ 0) (h : n ≤ 1000) (t : Nat) : (fnd n t).length + (frt n t).length ≤ 1000000 := by
  have a := sizes h0 t
  have b := len_sq (frt n t) fun x hx => (frt_ok n h0 t x hx).1
  have c : n * n ≤ 1000 * 1000 := Nat.mul_self_le_mul_self h
  omega
/-! ### bounds -/
theorem bds_le {q d : Nat} (hq : 0 < q) (h : q ≤ 16) (hd : d ≤ 6) : bds q d ≤ 2 ^ 20 := by
  unfold bds
  have a : q ^ (d - 2) ≤ 16 ^ 4 := Nat.le_trans (Nat.pow_le_pow_left h _) (Nat.pow_le_pow_right (by decide) (by omega))
  calc (q - 1) * q ^ (d - 2) ≤ 16 * 16 ^ 4 := Nat.mul_le_mul (by omega) a
    _ = 2 ^ 20 := by decide
theorem mbr_le {q : Nat} (hq : 0 < q) (h : q ≤ 16) : ∀ k n, mbr q k n ≤ (2 ^ 27) ^ k
  | 0, n => Nat.zero_le _
  | k + 1, n => by
    unfold mbr
    split
    · rw [← Nat.pow_mul]
      exact Nat.one_le_two_pow
    · have gen : ∀ ds : List Nat, (∀ d ∈ ds, d ≤ 6) → (ds.map fun d => q * bds q d * mbr q k (n / d)).sum ≤ ds.length * (2 ^ 24 * (2 ^ 27) ^ k) := by
        intro ds
        induction ds with
        | nil => intro _; exact Nat.zero_le _
        | cons d r ih =>
          intro hd
          have i := ih fun y hy => hd y (List.mem_cons_of_mem _ hy)
          have o : q * bds q d * mbr q k (n / d) ≤ 2 ^ 24 * (2 ^ 27) ^ k := by
            refine Nat.mul_le_mul ?_ (mbr_le hq h k _)
            calc q * bds q d ≤ 16 * 2 ^ 20 := Nat.mul_le_mul h (bds_le hq h (hd d (List.mem_cons_self ..)))
              _ = 2 ^ 24 := by decide
          rw [List.map_cons, List.sum_cons, List.length_cons, Nat.succ_mul]
          omega
      have g := gen (dvs n) fun d hd => (dvs_le hd).2.1
      have l5 : (dvs n).length ≤ 8 := Nat.le_trans (List.length_filter_le _ _) (by decide)
      refine Nat.le_trans g (Nat.le_trans (Nat.mul_le_mul_right _ l5) ?_)
      rw [Nat.pow_succ, ← Nat.mul_assoc]
      rw [Nat.mul_comm]
      exact Nat.mul_le_mul_left _ (by decide)
theorem wts_le {q : Nat} (hq : 0 < q) (h : q ≤ 16) : ∀ l : List Nat, (∀ d ∈ l, d ≤ 6) → wts q l ≤ (2 ^ 24) ^ l.length
  | [], _ => Nat.le_refl _
  | d :: r, hd => by
    have ih := wts_le hq h r fun y hy => hd y (List.mem_cons_of_mem _ hy)
    have e : wts q (d :: r) = q * bds q d * wts q r := by simp [wts]
    rw [e, List.length_cons, Nat.pow_succ, Nat.mul_comm]
    refine Nat.mul_le_mul ih ?_
    calc q * bds q d ≤ 16 * 2 ^ 20 := Nat.mul_le_mul h (bds_le hq h (hd d (List.mem_cons_self ..)))
      _ = 2 ^ 24 := by decide
theorem chs_le {q : Nat} (hq : 0 < q) (h : q ≤ 16) (l : List Nat) (hd : ∀ d ∈ l, d ≤ 6) : chs q l ≤ (2 ^ 25) ^ l.length := by
  cases l with
  | nil => exact Nat.le_refl _
  | cons d r =>
    have a := wts_le hq h r fun y hy => hd y (List.mem_cons_of_mem _ hy)
    show (q + 1) * bds q d * wts q r ≤ _
    rw [List.length_cons, Nat.pow_succ, Nat.mul_comm]
    refine Nat.mul_le_mul (Nat.le_trans a (Nat.pow_le_pow_left (by decide) _)) ?_
    calc (q + 1) * bds q d ≤ 32 * 2 ^ 20 := Nat.mul_le_mul (by omega) (bds_le hq h (hd d (List.mem_cons_self ..)))
      _ = 2 ^ 25 := by decide
theorem strt_le {q : Nat} (h : q ≤ 16) : strt q ≤ 2 ^ 24 := by
  unfold strt
  have a : q * q ≤ 16 * 16 := Nat.mul_self_le_mul_self h
  calc (q * q - 1) * (q * q - q) * q * q ≤ 256 * 256 * 16 * 16 := Nat.mul_le_mul (Nat.mul_le_mul (Nat.mul_le_mul (by omega) (by omega)) h) h
    _ = 2 ^ 24 := by decide
theorem log_lt {n k m : Nat} (h : n ≤ 2 ^ k) (hk : k < m) : n.log2 < m := by
  by_cases e : n = 0
  · subst e
    exact Nat.lt_of_le_of_lt (Nat.zero_le _) hk
  · exact (Nat.log2_lt e).mpr (Nat.lt_of_le_of_lt h (Nat.pow_lt_pow_right (by decide) hk))
end Cnt
set_option Elab.async false
set_option linter.all false
set_option maxRecDepth 100000
set_option maxHeartbeats 4000000
namespace BP
open PySem PySem.Spec PyProof.Rows L2
theorem Same.tupS {K : PySem.W.Frag} {H H' : Hp} {a : Addr} {xs : List V} (s : Same H H') (h : SqT K H a xs) : SqT K H' a xs := by
  rcases h with h | h
  · rcases h with h | ⟨o, h⟩
    · exact .inl (.inl (s _ _ h))
    · exact .inl (.inr ⟨o, s _ _ h⟩)
  · exact .inr h
theorem But.sqT {K : PySem.W.Frag} {d c : Addr} {H H' : Hp} (k : Deck H d c) (b : But d c H H') : ∀ (a : Addr) (xs : List V), SqT K H a xs → SqT K H' a xs := by
  intro a xs h
  obtain ⟨_, _, _, kd, kc, _⟩ := k
  rcases h with (h | ⟨o, h⟩) | h
  · exact .inl (.inl (b _ _ (ne_of h kd (by intro z; cases z)) (ne_of h kc (by intro z; cases z)) h))
  · exact .inl (.inr ⟨o, b _ _ (ne_of h kd (by intro z; cases z)) (ne_of h kc (by intro z; cases z)) h⟩)
  · exact .inr h
theorem Same.lstS {K : PySem.W.Frag} {H H' : Hp} {a : Addr} {xs : List V} (s : Same H H') (h : SqL K H a xs) : SqL K H' a xs := s.seq h
theorem tSeq_by {t rest : TS} {D : Ends} {σ : L2.St} {H : Hp} (I : L2.St → Hp → Prop) (k : ∀ σ' H', I σ' H' → rest D σ' H') (h : ∀ nx : L2.St → Hp → Prop, (∀ σ' H', I σ' H' → nx σ' H') → t { D with nx := nx } σ H) : tSeq t rest D σ H := h _ k
/-- repr of a number or of data -/
def rRep2 (K : PySem.W.Frag) : List V → Hp → VK → Prop := fun xs H Q =>
  (∃ i, xs = [.int i] ∧ i.natAbs.log2 < 1920 ∧ Q (.str (toString i)) H) ∨ rRepr K xs H Q
theorem call_rep2 {X : Cx} (hg : X.A.guards = some []) (hu : X.A.units + 64 < cLine) : CallR X (.builtin "repr") (rRep2 X.K) := by
  intro pins s σ H xs us Q I r h
  rcases h with h | h
  · exact SkE.call_repr_int pins s σ H xs us Q I r h
  · exact call_repr_data hg hu pins s σ H xs us Q I r h
end BP
namespace BP
open PySem PySem.Spec PyProof.Rows L2
theorem log330 {n : Nat} (h : n ≤ 2 ^ 330) : ((n : Nat) : Int).natAbs.log2 < 331 := by
  show n.log2 < 331
  exact Cnt.log_lt h (by decide)
theorem shown_nats {ns : List Nat} (h : ∀ n ∈ ns, n ≤ 2 ^ 330) (hl : ns.length ≤ 16) : (datN ns).shown.length ≤ sizeLine ∧ (datN ns).showable = true ∧ (datN ns).hasDict = false ∧ (datN ns).depth ≤ 40 := by
  have one : ∀ n : Nat, n ≤ 2 ^ 330 → PyData.leavesShort 332 (.int (n : Nat)) = true ∧ PyData.showable (.int (n : Nat)) = true ∧ PyData.weight (.int (n : Nat)) ≤ 331 := by
    intro n hn
    have l := log330 hn
    refine ⟨?_, ?_, ?_⟩
    · have z : (PyData.shown (.int (n : Nat))).length ≤ 332 := by
        have e : PyData.shown (.int (n : Nat)) = Str.ofString (toString ((n : Nat) : Int)) := by simp only [PyData.shown]
        rw [e, ofString_len]
        exact int_text_length_le (k := 331) (by decide) l
      simp only [PyData.leavesShort]
      exact decide_eq_true z
    · simp only [PyData.showable]
      exact decide_eq_true (by omega)
    · simp only [PyData.weight]
      split <;> omega
  have all : ∀ ns : List Nat, (∀ n ∈ ns, n ≤ 2 ^ 330) → PyData.leavesShortAll 332 (ns.map fun n => PyData.int (n : Nat)) = true ∧ PyData.showableAll (ns.map fun n => PyData.int (n : Nat)) = true ∧ PyData.weightAll (ns.map fun n => PyData.int (n : Nat)) ≤ 332 * ns.length ∧ PyData.canLayAll0 (ns.map fun n => PyData.int (n : Nat)) = true ∧ PyData.depthAll (ns.map fun n => PyData.int (n : Nat)) = 0 := by
    intro ns
    induction ns with
    | nil => intro _; simp [PyData.leavesShortAll, PyData.showableAll, PyData.weightAll, PyData.canLayAll0, PyData.depthAll]
    | cons n r ih =>
      intro h
      obtain ⟨a, b, c, d, e⟩ := ih fun y hy => h y (List.mem_cons_of_mem _ hy)
      obtain ⟨x, y, z⟩ := one n (h n (List.mem_cons_self ..))
      refine ⟨by simp [PyData.leavesShortAll, a, x], by simp [PyData.showableAll, b, y], ?_, by simp [PyData.canLayAll0, PyData.canLay0, d], by simp [PyData.depthAll, PyData.depth, e]⟩
      simp only [List.map_cons, PyData.weightAll, List.length_cons]
      omega
  obtain ⟨a, b, c, d, e⟩ := all ns h
  refine ⟨?_, by simp [PyData.showable, b], PyData.hasDict_of_canLay _ (by simp [PyData.canLay0, d]), by simp [PyData.depth, e]⟩
  have := PyData.shown_le 332 (by decide) (datN ns) (by simp [PyData.leavesShort, a])
  have w : (datN ns).weight ≤ 332 * 16 := by
    simp only [PyData.weight]
    exact Nat.le_trans c (Nat.mul_le_mul_left _ hl)
  refine Nat.le_trans this (Nat.le_trans (Nat.add_le_add_right (Nat.mul_le_mul_left _ w) _) (by decide))
theorem rep_nats {K : PySem.W.Frag} {H : Hp} {a : Addr} {ns : List Nat} {Q : VK} (h : ∀ n ∈ ns, n ≤ 2 ^ 330) (hl : ns.length ≤ 16) (hS : SqL K H a (iv ns)) (q : Q (.str (datN ns).shown) H) : rRep2 K [.ref a] H Q := by
  obtain ⟨h1, h2, h3, h4⟩ := shown_nats h hl
  exact .inr ⟨a, datN ns, rfl, dp_nats hS, h2, h3, h4, h1, q⟩
theorem rep_nat {K : PySem.W.Frag} {H : Hp} {n : Nat} {Q : VK} (h : n ≤ 2 ^ 330) (q : Q (.str (toString ((n : Nat) : Int))) H) : rRep2 K [.int (n : Nat)] H Q :=
  .inl ⟨_, rfl, Nat.lt_trans (log330 h) (by decide), q⟩
end BP
set_option Elab.async false
set_option linter.all false
set_option maxRecDepth 100000
set_option maxHeartbeats 4000000
set_option pp.maxSteps 400
/-! t[::-1] of a tuple. -/
namespace BP
open PySem PySem.Spec PyProof.Rows L2
theorem adjust_rev (n : Nat) : Builtin.Slice.sliceAdjust none none (-1) (n : Int) = ((n : Int) - 1, -1) := rfl
theorem places_rev (n : Nat) : Builtin.Slice.slicePlaces ((n : Int) - 1) (-1) (-1) = n := by
  unfold Builtin.Slice.slicePlaces
  rw [if_neg (by omega)]
  by_cases h : (n : Int) - 1 > -1
  · rw [if_pos h]
    have e : ((n : Int) - 1 - -1 - 1) / (- -1) = (n : Int) - 1 := by
      rw [show (- -1 : Int) = 1 by omega, Int.ediv_one]
      omega
    rw [e]
    omega
  · rw [if_neg h]
    omega
theorem pick_rev (xs : List Value) : ((List.range xs.length).filterMap fun (k : Nat) => xs.toArray[(((xs.length : Nat) : Int) - 1 + (k : Int) * -1).toNat]?).toArray = xs.reverse.toArray := by
  have e : ∀ n, n ≤ xs.length → ((List.range n).filterMap fun (k : Nat) => xs.toArray[(((xs.length : Nat) : Int) - 1 + (k : Int) * -1).toNat]?) = xs.reverse.take n := by
    intro n hn
    induction n with
    | zero => rfl
    | succ n ih =>
      rw [List.range_succ, List.filterMap_append, ih (by omega), List.take_add_one]
      have e1 : (((xs.length : Nat) : Int) - 1 + (n : Int) * -1).toNat = xs.length - 1 - n := by omega
      have e2 : xs.reverse[n]? = xs[xs.length - 1 - n]? := List.getElem?_reverse (by omega)
      have h3 : xs[xs.length - 1 - n]? = some (xs[xs.length - 1 - n]'(by omega)) := List.getElem?_eq_getElem _
      rw [e2, h3]
      congr 1
      show List.filterMap _ [n] = _
      rw [List.filterMap_cons, e1]
      rw [List.getElem?_toArray, h3]
      rfl
  rw [e xs.length (Nat.le_refl _), List.take_of_length_le (by rw [List.length_reverse]; exact Nat.le_refl _)]
section
variable {prog : Program} {w : World} {A : Around} {E : Value → Shared → Prop} {s : Shared}
theorem rev_applied {sl : Addr} {vl vu vs : Value} {n : Nat} {Q : Int × Int × Nat → Shared → Prop} (hs : s.heap.IsSliceOf sl vl vu vs) (pl : IsPart vl none) (pu : IsPart vu none) (pt : IsPart vs (some (-1)))
    (h : Q ((n : Int) - 1, -1, n) s) : wpAny (model prog w) A (Builtin.Slice.sliceApplied (.ref sl) (pure (n : Int))) Q E s := by
  obtain ⟨os, ho, hc, hd⟩ := hs
  unfold Builtin.Slice.sliceApplied Builtin.Slice.sliceFields
  refine wpAny_bind (wpAny_bind (wpAny_field ho hd (x := vl) rfl (wpAny_bind (wpAny_field ho hd (x := vu) rfl (wpAny_bind (wpAny_field ho hd (x := vs) rfl (wpAny_pure (wpAny_bind (HT.slicePart_ pt ?_)))))))))
  show wpAny _ _ (if ((-1 : Int) == 0) = true then _ else _) _ _ s
  rw [if_neg (by decide)]
  refine wpAny_bind (HT.slicePart_ pl (wpAny_bind (HT.slicePart_ pu (wpAny_bind (wpAny_pure ?_)))))
  show wpAny _ _ (pure ((n : Int) - 1, (-1 : Int), Builtin.Slice.slicePlaces ((n : Int) - 1) (-1) (-1))) _ _ s
  rw [places_rev]
  exact wpAny_pure h
theorem get_rev {t sl : Addr} {xs : List Value} {vl vu vs : Value} {Q : Value → Shared → Prop} (ht : IsTup s.heap t xs.toArray) (hs : s.heap.IsSliceOf sl vl vu vs) (pl : IsPart vl none) (pu : IsPart vu none) (pt : IsPart vs (some (-1)))
    (h : Q (.ref s.heap.objs.size) { s with heap := s.heap.push { cls := .type "tuple", data := .seq xs.reverse.toArray } }) (hz : xs.length ≤ sizeLine) : wpAny (model prog w) A (getItem (.ref t) (.ref sl)) Q E s := by
  have hfit : sizeOk (.seq xs.reverse.toArray) := by
    show xs.reverse.toArray.size ≤ sizeLine
    rw [List.size_toArray, List.length_reverse]
    exact hz
  obtain ⟨os, ho, hc, hd⟩ := id hs
  have hT : s.TypeIs (.ref sl) "slice" := ⟨os, ho, hc⟩
  unfold getItem
  (with_reducible refine wpAny_holding ?_); have _here := hT
  refine wpAny_bind (wpAny_sequenceKey ht.typeIs (by decide) (wpAny_bind (wpAny_callSpecial?_slot (name := Str.ofString "__getitem__") ht.typeIs PyProof.Rows.slot_tuple_getitem (wpAny_call_entry PyProof.Rows.slot_tuple_getitem ht.typeIs entry_tuple_getitem ?_ (args_tuple_getitem _ _)))))
  show wpAny _ _ (Builtin.Tuple.tupleItemsOf (Value.ref t) >>= _) _ _ s
  refine wpAny_bind (tupleItemsOf_ ht (wpAny_bind (wpAny_typeOf hT ?_)))
  rw [if_pos (by decide)]
  refine wpAny_bind (rev_applied hs pl pu pt ?_)
  rw [List.size_toArray]
  have hno : ¬ ((((xs.length : Nat) : Int) - 1 == 0 && (-1 : Int) == 1 && xs.length == xs.length) = true) := by
    intro q
    rw [Bool.and_eq_true, Bool.and_eq_true] at q
    exact absurd q.1.2 (by decide)
  show wpAny _ _ (if ((((xs.length : Nat) : Int) - 1 == 0 && (-1 : Int) == 1 && xs.length == xs.length) = true) then _ else _) _ _ s
  rw [if_neg hno, pick_rev]
  exact wpAny_bind (m := Builtin.Tuple.tupleExact _) (wpAny_newObj_type (wpAny_pure ⟨_, rfl, wpAny_pure h⟩) hfit)
end
section
variable {X : Cx} {e : Expr} {te : TE} {k : Nat} {p1 p2 p3 pos : Pos}
def tRevT (K : PySem.W.Frag) (te : TE) : TE := fun σ H Q => te σ H fun x H1 => ∃ a xs, x = .ref a ∧ SqT K H1 a xs ∧ ∀ p, H1 p = none → Q (.ref p) (upd H1 p (.tup xs.reverse))
theorem pe_revT (he : PE X e te) : PE X (.Subscript e (.Slice none none (some (.UnaryOp .USub (.Constant (.int 1) k p1) p2)) p3) pos) (tRevT X.K te) := by
  refine ⟨fun pins s σ H Q I h => Subscript_ (thn (he.run pins s σ H _ I h) fun v s1 ⟨x, H1, I1, r1, a, xs, ex, hx, q⟩ => ?_)⟩
  subst ex
  cases r1
  have minus : PO X (some (.UnaryOp .USub (.Constant (.int 1) k p1) p2)) _ := po_some (pe_un un_neg pe_int)
  have nothing1 := fun (s : Shared) (G : Hp) (J : Inv X pins σ G s) => po_none.run pins s σ G (fun o G' => o = none ∧ G' = G) J ⟨rfl, rfl⟩
  refine wpAny_Slice (thn (nothing1 s1 H1 I1) fun vl s2 ⟨l, H2, I2, pl, el, e2⟩ => ?_)
  subst el e2
  refine thn (nothing1 s2 H2 I2) fun vu s3 ⟨u, H3, I3, pu, eu, e3⟩ => ?_
  subst eu e3
  refine thn (minus.run pins s3 σ H3 (fun o G => o = some (-1) ∧ G = H3) I3 ⟨1, rfl, -1, rfl, rfl, rfl⟩) fun vs s4 ⟨o, H4, I4, pt, eo, e4⟩ => ?_
  subst eo e4
  have I5 : Inv X pins σ H4 { s4 with heap := s4.heap.push { cls := .type "slice", data := .fields #[vl, vu, vs] } } := I4.kept (t' := s4.toks) fun b ob z => Heap.get?_push_of_some _ z
  obtain ⟨its, r, ht, hz⟩ := I5.tuple hx
  refine tail_any (ops := [.ref a, .ref s4.heap.objs.size]) ht.typeIs PyProof.Rows.slot_tuple_getitem.lookup (get_rev ht (Heap.IsSliceOf.new _ vl vu vs) pl pu pt ?_ (by rw [← r.length]; exact hz)) (by with_unfolding_all rfl)
  refine ⟨.ref _, _, I5.laid (t' := s4.toks) (o := .tup xs.reverse) (fun b ob z => Heap.get?_push_of_some _ z) (Nat.le_refl _) ?_, rfl, q _ (I5.hok.fresh (Nat.le_refl _))⟩
  exact ⟨by rw [List.length_reverse]; exact hz, _, r.reverse, IsTup.new _ _⟩
end
end BP
set_option Elab.async false
set_option linter.all false
set_option maxRecDepth 100000
set_option maxHeartbeats 4000000
namespace K16
open PySem PySem.Spec PyProof.Rows L2 BP
def topS (i : Nat) : Stmt := PySem.Challenge.pw_bentplane_k16_numbers_of_steps_with_told.main.body.getD i (.Pass ⟨0, 0, 0, 0⟩)
abbrev sManyStraight : Stmt := topS 3
abbrev nManyStraight : List Str := ["q"]
abbrev pManyStraight : List Str := ["q"]
theorem scManyStraight : FnScope nManyStraight pManyStraight (defScope sManyStraight) := ⟨rfl, rfl, rfl, by decide +kernel, rfl, by decide +kernel, by decide +kernel⟩
abbrev sManyBends : Stmt := topS 4
abbrev nManyBends : List Str := ["q", "degree", "found", "_"]
abbrev pManyBends : List Str := ["q", "degree"]
theorem scManyBends : FnScope nManyBends pManyBends (defScope sManyBends) := ⟨rfl, rfl, rfl, by decide +kernel, rfl, by decide +kernel, by decide +kernel⟩
abbrev sManySteps : Stmt := topS 5
abbrev nManySteps : List Str := ["q", "degrees", "found", "at", "degree"]
abbrev pManySteps : List Str := ["q", "degrees"]
theorem scManySteps : FnScope nManySteps pManySteps (defScope sManySteps) := ⟨rfl, rfl, rfl, by decide +kernel, rfl, by decide +kernel, by decide +kernel⟩
abbrev sManyWith : Stmt := topS 6
abbrev nManyWith : List Str := ["q", "degrees", "determinant"]
abbrev pManyWith : List Str := ["q", "degrees", "determinant"]
theorem scManyWith : FnScope nManyWith pManyWith (defScope sManyWith) := ⟨rfl, rfl, rfl, by decide +kernel, rfl, by decide +kernel, by decide +kernel⟩
abbrev sManyOfDegree : Stmt := topS 7
abbrev nManyOfDegree : List Str := ["q", "degree"]
abbrev pManyOfDegree : List Str := ["q", "degree"]
theorem scManyOfDegree : FnScope nManyOfDegree pManyOfDegree (defScope sManyOfDegree) := ⟨rfl, rfl, rfl, by decide +kernel, rfl, by decide +kernel, by decide +kernel⟩
abbrev sManyBentRows : Stmt := topS 8
abbrev nManyBentRows : List Str := ["q", "degree", "firsts", "first"]
abbrev pManyBentRows : List Str := ["q", "degree"]
theorem scManyBentRows : FnScope nManyBentRows pManyBentRows (defScope sManyBentRows) := ⟨rfl, rfl, rfl, by decide +kernel, rfl, by decide +kernel, by decide +kernel⟩
abbrev sLDeck : Stmt := topS 10
abbrev nLDeck : List Str := ["_law_script", "_law_number", "_law_mixed", "_law_cell"]
abbrev pLDeck : List Str := ["_law_script", "_law_number"]
theorem scLDeck : FnScope nLDeck pLDeck (defScope sLDeck) := ⟨rfl, rfl, rfl, by decide +kernel, rfl, by decide +kernel, by decide +kernel⟩
abbrev sLDraw : Stmt := topS 11
abbrev nLDraw : List Str := ["_law_deck_here", "_law_many", "_law_figure", "_law_cell"]
abbrev pLDraw : List Str := ["_law_deck_here", "_law_many"]
theorem scLDraw : FnScope nLDraw pLDraw (defScope sLDraw) := ⟨rfl, rfl, rfl, by decide +kernel, rfl, by decide +kernel, by decide +kernel⟩
abbrev sLPick : Stmt := topS 12
abbrev nLPick : List Str := ["_law_deck_here", "_law_some"]
abbrev pLPick : List Str := ["_law_deck_here", "_law_some"]
theorem scLPick : FnScope nLPick pLPick (defScope sLPick) := ⟨rfl, rfl, rfl, by decide +kernel, rfl, by decide +kernel, by decide +kernel⟩
abbrev sLPowers : Stmt := topS 13
abbrev nLPowers : List Str := ["_law_q"]
abbrev pLPowers : List Str := ["_law_q"]
theorem scLPowers : FnScope nLPowers pLPowers (defScope sLPowers) := ⟨rfl, rfl, rfl, by decide +kernel, rfl, by decide +kernel, by decide +kernel⟩
abbrev sLPlus : Stmt := topS 14
abbrev nLPlus : List Str := ["_law_q", "_law_a", "_law_b"]
abbrev pLPlus : List Str := ["_law_q", "_law_a", "_law_b"]
theorem scLPlus : FnScope nLPlus pLPlus (defScope sLPlus) := ⟨rfl, rfl, rfl, by decide +kernel, rfl, by decide +kernel, by decide +kernel⟩
abbrev sLBy : Stmt := topS 15
abbrev nLBy : List Str := ["_law_q", "_law_a", "_law_b", "_law_powers_here"]
abbrev pLBy : List Str := ["_law_q", "_law_a", "_law_b"]
theorem scLBy : FnScope nLBy pLBy (defScope sLBy) := ⟨rfl, rfl, rfl, by decide +kernel, rfl, by decide +kernel, by decide +kernel⟩
abbrev sLLess : Stmt := topS 16
abbrev nLLess : List Str := ["_law_q", "_law_a"]
abbrev pLLess : List Str := ["_law_q", "_law_a"]
theorem scLLess : FnScope nLLess pLLess (defScope sLLess) := ⟨rfl, rfl, rfl, by decide +kernel, rfl, by decide +kernel, by decide +kernel⟩
abbrev sLSame : Stmt := topS 17
abbrev nLSame : List Str := ["_law_told", "_law_due"]
abbrev pLSame : List Str := ["_law_told", "_law_due"]
theorem scLSame : FnScope nLSame pLSame (defScope sLSame) := ⟨rfl, rfl, rfl, by decide +kernel, rfl, by decide +kernel, by decide +kernel⟩
abbrev sLMaps : Stmt := topS 18
abbrev nLMaps : List Str := ["_law_q", "_law_often", "_law_found", "_law_a", "_law_e", "_law_at", "_law_one", "_law_other"]
abbrev pLMaps : List Str := ["_law_q"]
theorem scLMaps : FnScope nLMaps pLMaps (defScope sLMaps) := ⟨rfl, rfl, rfl, by decide +kernel, rfl, by decide +kernel, by decide +kernel⟩
abbrev sLChoices : Stmt := topS 19
abbrev nLChoices : List Str := ["_law_q", "_law_degrees", "_law_found", "_law_at", "_law_degree", "_law_turn"]
abbrev pLChoices : List Str := ["_law_q", "_law_degrees"]
theorem scLChoices : FnScope nLChoices pLChoices (defScope sLChoices) := ⟨rfl, rfl, rfl, by decide +kernel, rfl, by decide +kernel, by decide +kernel⟩
abbrev sLTuples : Stmt := topS 20
abbrev nLTuples : List Str := ["_law_degree", "_law_found", "_law_front", "_law_turn", "_law_later", "_law_some", "_law_rest", "_law_d"]
abbrev pLTuples : List Str := ["_law_degree"]
theorem scLTuples : FnScope nLTuples pLTuples (defScope sLTuples) := ⟨rfl, rfl, rfl, by decide +kernel, rfl, by decide +kernel, by decide +kernel⟩
abbrev sLProduct : Stmt := topS 21
abbrev nLProduct : List Str := ["_law_deck_here", "_law_way", "_law_found", "_law_turn", "_law_more"]
abbrev pLProduct : List Str := ["_law_deck_here"]
theorem scLProduct : FnScope nLProduct pLProduct (defScope sLProduct) := ⟨rfl, rfl, rfl, by decide +kernel, rfl, by decide +kernel, by decide +kernel⟩
abbrev sLaw : Stmt := topS 22
abbrev nLaw : List Str := ["_law_script", "_law_deck_here", "_law_q", "_law_maps_here", "_law_turn", "_law_many", "_law_degrees", "_law_choices_here", "_law_told", "_law_degree", "_law_due", "_law_few", "_law_field", "_law_straight", "_law_number", "_law_at", "_law_some"]
abbrev pLaw : List Str := ["_law_script"]
theorem scLaw : FnScope nLaw pLaw (defScope sLaw) := ⟨rfl, rfl, rfl, by decide +kernel, rfl, by decide +kernel, by decide +kernel⟩
end K16
set_option Elab.async false
set_option linter.all false
set_option maxRecDepth 100000
set_option maxHeartbeats 4000000
set_option pp.maxSteps 1000
namespace BP
open PySem PySem.Spec PyProof.Rows L2 Fld
/-- a def that may be called by its name -/
structure Can (P : Program) (w : World) (K : PySem.W.Frag) (mg : Str → Option Value) (base : Heap) (x : Str) (k : Nat) (ps : List Str) (sp : Sp) (f : Addr) (fd : FuncData) : Prop where
  ok : FnOk P w K mg base CX0 k f fd ps sp
  g : mg x = some (.ref f)
  kp : PySem.W.keepIn K (.ref f) = true
  b : Binds K fd ps []
theorem ip_mul {X : Cx} : PIp X .Mult (rI CMul fun i j => .int (i * j)) := iop_mul
theorem cmr {i : Int} {q : Nat} (h : q ≤ 1000) : CMul i (q : Int) := .inr ⟨by omega, by omega⟩
theorem none_of {H H' : L2.Hp} {p : PySem.Addr} (s : L2.Same H H') (h : H' p = none) : H p = none := by
  cases e : H p with
  | none => rfl
  | some o =>
    rw [s _ _ e] at h
    cases h
theorem same_upd {H H' : Hp} {p : Addr} {o : HO} (s : Same H H') (n : H p = none) : Same H (upd H' p o) := fun b x e => by
  rw [upd_ne (ne_of_none e n)]
  exact s b x e
theorem yes_kept {σ : L2.St} {H : Hp} {A B : Hp → Prop} (h : A H) : tYes σ H (fun b H3 => if b = true then A H3 else B H3) := by
  show (if true = true then A H else B H)
  rw [if_pos rfl]
  exact h
theorem iv_of {l : List Nat} {i : Nat} {x : V} (h : (iv l)[i]? = some x) : ∃ d : Nat, l[i]? = some d ∧ x = .int d := by
  rw [List.getElem?_map] at h
  cases e : l[i]? with
  | none =>
    rw [e] at h
    cases h
  | some d =>
    rw [e] at h
    exact ⟨d, rfl, (Option.some.inj h).symm⟩
theorem sum_cast : ∀ l : List Nat, (l.map fun m => ((m : Nat) : Int)).sum = ((l.sum : Nat) : Int)
  | [] => rfl
  | x :: r => by
    rw [List.map_cons, List.sum_cons, List.sum_cons, sum_cast r]
    omega
theorem strt_int {q : Nat} (h : q ∈ fields) : ((q : Int) * q - 1) * ((q : Int) * q - q) * q * q = ((Cnt.strt q : Nat) : Int) := by
  have a : fields.all (fun q => decide (((q : Int) * q - 1) * ((q : Int) * q - q) * q * q = ((Cnt.strt q : Nat) : Int))) = true := by decide +kernel
  exact of_decide_eq_true (List.all_eq_true.mp a q h)
def spStr : Sp := fun vs H Q _ => ∃ q : Nat, vs = [.int q] ∧ q ∈ fields ∧ Q (.int (Cnt.strt q : Nat)) H
def spBds : Sp := fun vs H Q _ => ∃ q d : Nat, vs = [.int q, .int d] ∧ q ∈ fields ∧ 2 ≤ d ∧ d ≤ 6 ∧ Q (.int (Cnt.bds q d : Nat)) H
/-- degrees, as a tuple -/
def Dgs (K : PySem.W.Frag) (H : Hp) (a : Addr) (ds : List Nat) : Prop := SqT K H a (iv ds) ∧ (∀ d ∈ ds, 2 ≤ d ∧ d ≤ 6) ∧ ds.length ≤ 12
def spStp (K : PySem.W.Frag) : Sp := fun vs H Q _ => ∃ (q : Nat) (a : Addr) (ds : List Nat), vs = [.int q, .ref a] ∧ q ∈ fields ∧ Dgs K H a ds ∧ ∀ H', Same H H' → Q (.int (Cnt.strt q * Cnt.chs q ds : Nat)) H'
def spWth (K : PySem.W.Frag) : Sp := fun vs H Q _ => ∃ (q : Nat) (a : Addr) (ds : List Nat) (i : Int), vs = [.int q, .ref a, .int i] ∧ q ∈ fields ∧ Dgs K H a ds ∧ ∀ H', Same H H' → Q (.int (Cnt.strt q / (q - 1) * Cnt.chs q ds : Nat)) H'
def spBnt (k : Nat) : Sp := fun vs H Q _ => ∃ q n : Nat, vs = [.int q, .int n] ∧ q ∈ fields ∧ n ≠ 0 ∧ n < 2 ^ k ∧ ∀ H', Same H H' → Q (.int (Cnt.mbr q k n : Nat)) H'
def spDeg : Sp := fun vs H Q _ => ∃ q n : Nat, vs = [.int q, .int n] ∧ q ∈ fields ∧ n ≠ 0 ∧ n ≤ 1000 ∧ ∀ H', Same H H' → Q (.int (Cnt.deg q n : Nat)) H'
end BP
namespace K16
open PySem PySem.Spec PyProof.Rows L2 BP Fld
section
variable {P : Program} {w : World} {K : PySem.W.Frag} {mg : Str → Option Value} {base : Heap}
theorem ok_straight {f : Addr} {fd : FuncData} {k : Nat} (F : Fun K "many_straight" "many_straight" sManyStraight f fd) : FnOk P w K mg base CX0 (k + 1) f fd pManyStraight spStr := by
  refine F.ok scManyStraight (fun vs H Q E h => ?_) (fun cdv A outer s H vs Q E hr h => ?_)
  · obtain ⟨q, rfl, _⟩ := h
    rfl
  · obtain ⟨q, rfl, hq, want⟩ := h
    have q16 := le16 hq
    rw [← strt_int hq] at want
    have c : ∀ i : Int, CMul i (q : Int) := fun i => cmr (by omega)
    have c2 : ∀ i : Int, CMul i ((q : Int) * q - q) := by
      intro i
      have h1 : (q : Int) * q ≤ 16 * 16 := Int.mul_le_mul (by omega) (by omega) (by omega) (by omega)
      have h2 : 0 ≤ (q : Int) * q := Int.mul_nonneg (by omega) (by omega)
      exact .inr ⟨by omega, by omega⟩
    exact ⟨_, (pss_one (ps_ret (pe_op op_mul (pe_op op_mul (pe_op op_mul (pe_op op_sub (pe_op op_mul (pv 0) (pv 0)) pe_int) (pe_op op_sub (pe_op op_mul (pv 0) (pv 0)) (pv 0))) (pv 0)) (pv 0)))), ⟨.int q, rfl, .int q, rfl, q, q, rfl, rfl, c _, _, 1, rfl, rfl, .int q, rfl, .int q, rfl, q, q, rfl, rfl, c _, .int q, rfl, _, q, rfl, rfl, _, _, rfl, rfl, c2 _, .int q, rfl, _, q, rfl, rfl, c _, .int q, rfl, _, q, rfl, rfl, c _, want⟩⟩
theorem ok_bends {f : Addr} {fd : FuncData} {k : Nat} (F : Fun K "many_bends" "many_bends" sManyBends f fd) (m_range : mg "range" = none) : FnOk P w K mg base CX0 (k + 1) f fd pManyBends spBds := by
  refine F.ok scManyBends (fun vs H Q E h => ?_) (fun cdv A outer s H vs Q E hr h => ?_)
  · obtain ⟨q, d, rfl, _⟩ := h
    rfl
  · obtain ⟨q, d, rfl, hq, d2, d6, want⟩ := h
    have q16 := le16 hq
    have q1 := gt1 hq
    refine ⟨_, (pss_cons (ps_set (i := 2) scManyBends.nd rfl (.inl rfl) (pe_op op_sub (pv 0) pe_int))
      (pss_cons (ps_for PassesOwn.never rfl (pi_range1 rfl m_range (pa_cons (pe_op op_sub (pv 1) pe_int) pa_nil)) (pg_name (i := 3) scManyBends.nd rfl (.inl rfl)) (pss_one (ps_aug (i := 2) scManyBends.nd rfl (.inl rfl) (pv 0) ip_mul)))
      (pss_one (ps_ret (pv 2))))), ?_⟩
    refine ⟨.int q, rfl, q, 1, rfl, rfl, ?_⟩
    refine ⟨.int d, rfl, d, 2, rfl, rfl, _, rfl, by omega, by omega, ?_⟩
    rw [show ((d : Int) - 2).toNat = d - 2 by omega]
    refine for_range (n := d - 2) (lo := 0) (fun i σ H' => H' = H ∧ ∃ y, σ = [some (.int q), some (.int d), some (.int ((q - 1) * q ^ i : Nat)), y]) ⟨rfl, none, ?_⟩ (fun i σ H' hi hW => ?_) (fun σ H' hW => ?_)
    · have e : ((q - 1) * q ^ 0 : Nat) = q - 1 := by simp
      rw [e]
      show _ = [some (V.int q), some (V.int d), some (V.int ((q - 1 : Nat) : Int)), none]
      rw [Int.ofNat_sub (by omega)]
      rfl
    · obtain ⟨rfl, y, rfl⟩ := hW
      refine ⟨_, rfl, .int q, rfl, _, q, rfl, rfl, cmr (by omega), rfl, some (.int (0 + (i : Int))), ?_⟩
      have e : ((q - 1) * q ^ (i + 1) : Nat) = (q - 1) * q ^ i * q := by rw [Nat.pow_succ, Nat.mul_assoc]
      rw [e, Int.natCast_mul]
      rfl
    · obtain ⟨rfl, y, rfl⟩ := hW
      exact ⟨_, rfl, want⟩
theorem ok_steps {f fS fB : Addr} {fd fdS fdB : FuncData} {k : Nat} (F : Fun K "many_steps" "many_steps" sManySteps f fd) (STR : Can P w K mg base "many_straight" 1 pManyStraight spStr fS fdS) (BDS : Can P w K mg base "many_bends" 1 pManyBends spBds fB fdB) (m_enumerate : mg "enumerate" = none) : FnOk P w K mg base CX0 2 f fd pManySteps (spStp K) := by
  refine F.ok scManySteps (fun vs H Q E h => ?_) (fun cdv A outer s H vs Q E hr h => ?_)
  · obtain ⟨q, a, ds, rfl, _⟩ := h
    rfl
  · obtain ⟨q, a, ds, rfl, hq, ⟨hS, hd, hl⟩, want⟩ := h
    have q16 := le16 hq
    have q1 := gt1 hq
    refine ⟨_, (pss_cons (ps_set (i := 2) scManySteps.nd rfl (.inl rfl) (pe_call STR.ok hr (by rfl) STR.g STR.kp STR.b .nil pass0 (pa_cons (pv 0) pa_nil)))
      (pss_cons (ps_for PassesOwn.never rfl (pi_enumT (by rfl) m_enumerate (pa_cons (pv 1) pa_nil)) (pg_tup rfl (pgs_cons (pg_name (i := 3) scManySteps.nd rfl (.inl rfl)) (pgs_cons (pg_name (i := 4) scManySteps.nd rfl (.inl rfl)) pgs_nil))) (pss_one (ps_aug (i := 2) scManySteps.nd rfl (.inl rfl) (pe_op op_mul (pe_ifExp (pt_cmpR op_eq (pv 3) pe_int (nomark _)) (pe_op op_add (pv 0) pe_int) (pv 0)) (pe_call BDS.ok hr (by rfl) BDS.g BDS.kp BDS.b .nil pass0 (pa_cons (pv 0) (pa_cons (pv 4) pa_nil)))) ip_mul)))
      (pss_one (ps_ret (pv 2))))), ?_⟩
    refine ⟨.int q, rfl, q, rfl, hq, ?_⟩
    refine ⟨.ref a, rfl, a, _, rfl, hS, for_enumT (K := K) (a := a) (xs := iv ds) (fun i σ H' => Same H H' ∧ ∃ y z, σ = [some (.int q), some (.ref a), some (.int (Cnt.strt q * Cnt.chs q (ds.take i) : Nat)), y, z]) ⟨fun _ _ z => z, none, none, ?_⟩ (fun i σ H' _ hW => BP.Same.tupS hW.1 hS) (fun i x σ H' T' hi hW nT => ?_) (fun σ H' hW => ?_)⟩
    · show _ = [some (V.int q), some (V.ref a), some (V.int ((Cnt.strt q * 1 : Nat) : Int)), none, none]
      rw [Nat.mul_one]
      rfl
    · obtain ⟨s1, y, z, rfl⟩ := hW
      obtain ⟨d, ed, rfl⟩ : ∃ d : Nat, ds[i]? = some d ∧ x = .int d := by
        rw [List.getElem?_map] at hi
        cases e : ds[i]? with
        | none =>
          rw [e] at hi
          cases hi
        | some d =>
          rw [e] at hi
          exact ⟨d, rfl, (Option.some.inj hi).symm⟩
      have hi' : i < ds.length := (List.getElem?_eq_some_iff.mp ed).1
      obtain ⟨d2, d6⟩ := hd d (List.mem_of_getElem? ed)
      have sT := same_new (o := .tup [V.int (i : Nat), .int (d : Nat)]) nT
      refine ⟨T', _, rfl, .inl (.inl upd_same), rfl, _, [_], rfl, _, [], rfl, rfl, ?_⟩
      have hlen : (ds.take i).length = i := by rw [List.length_take]; omega
      have et : ds.take (i + 1) = ds.take i ++ [d] := by
        rw [List.take_add_one, ed]
        rfl
      have num : ∀ t : Nat, t = (if i = 0 then q + 1 else q) → CMul (t : Int) (Cnt.bds q d : Nat) ∧ CMul (Cnt.strt q * Cnt.chs q (ds.take i) : Nat) ((t : Int) * (Cnt.bds q d : Nat)) ∧
          ((Cnt.strt q * Cnt.chs q (ds.take i) : Nat) : Int) * ((t : Int) * (Cnt.bds q d : Nat)) = (Cnt.strt q * Cnt.chs q (ds.take (i + 1)) : Nat) := by
        intro t ht
        have b1 := Cnt.bds_le (by omega : 0 < q) q16 d6
        have t17 : t ≤ 17 := by rw [ht]; split <;> omega
        have p1 : t * Cnt.bds q d ≤ 17 * 2 ^ 20 := Nat.mul_le_mul t17 b1
        have p2 : ((t : Int) * (Cnt.bds q d : Nat)) = ((t * Cnt.bds q d : Nat) : Int) := (Int.natCast_mul ..).symm
        refine ⟨.inl ⟨by omega, by omega⟩, ?_, ?_⟩
        · rw [p2]
          exact .inr ⟨by omega, by omega⟩
        · have e3 : Cnt.strt q * Cnt.chs q (ds.take (i + 1)) = Cnt.strt q * Cnt.chs q (ds.take i) * (t * Cnt.bds q d) := by
            rw [et, Cnt.chs_snoc, hlen, ht, Nat.mul_assoc]
          rw [e3, p2, ← Int.natCast_mul]
      refine ⟨_, rfl, .int (i : Nat), rfl, rfl, _, rfl, ite2 (fun h => ?_) (fun h => ?_)⟩
      · have h0 : i = 0 := by
          have := V.int.inj (of_decide_eq_true h)
          omega
        obtain ⟨n1, n2, n3⟩ := num (q + 1) (by rw [if_pos h0])
        have e1 : ((q : Int) + 1) = ((q + 1 : Nat) : Int) := by omega
        rw [← e1] at n1 n2 n3
        refine ⟨.int q, rfl, q, 1, rfl, rfl, .int q, rfl, .int d, rfl, q, d, rfl, hq, d2, d6, _, _, rfl, rfl, n1, _, _, rfl, rfl, n2, s1.trans sT, some (.int (i : Nat)), some (.int (d : Nat)), ?_⟩
        rw [← n3]
        rfl
      · have h0 : ¬ i = 0 := fun z => h (decide_eq_true (by rw [z]; rfl))
        obtain ⟨n1, n2, n3⟩ := num q (by rw [if_neg h0])
        refine ⟨.int q, rfl, .int q, rfl, .int d, rfl, q, d, rfl, hq, d2, d6, _, _, rfl, rfl, n1, _, _, rfl, rfl, n2, s1.trans sT, some (.int (i : Nat)), some (.int (d : Nat)), ?_⟩
        rw [← n3]
        rfl
    · obtain ⟨s1, y, z, rfl⟩ := hW
      rw [show (iv ds).length = ds.length from List.length_map .., List.take_of_length_le (Nat.le_refl _)]
      exact ⟨_, rfl, want H' s1⟩
theorem ok_with {f fS : Addr} {fd fdS : FuncData} (F : Fun K "many_with" "many_with" sManyWith f fd) (STP : Can P w K mg base "many_steps" 2 pManySteps (spStp K) fS fdS) : FnOk P w K mg base CX0 3 f fd pManyWith (spWth K) := by
  refine F.ok scManyWith (fun vs H Q E h => ?_) (fun cdv A outer s H vs Q E hr h => ?_)
  · obtain ⟨q, a, ds, i, rfl, _⟩ := h
    rfl
  · obtain ⟨q, a, ds, i, rfl, hq, hD, want⟩ := h
    have q16 := le16 hq
    have q1 := gt1 hq
    refine ⟨_, (pss_one (ps_ret (pe_op op_fdiv (pe_call STP.ok hr (by rfl) STP.g STP.kp STP.b .nil pass0 (pa_cons (pv 0) (pa_cons (pv 1) pa_nil))) (pe_op op_sub (pv 0) pe_int)))), ?_⟩
    refine ⟨.int q, rfl, .ref a, rfl, q, a, ds, rfl, hq, hD, fun H2 s2 => ⟨.int q, rfl, q, 1, rfl, rfl, _, _, rfl, rfl, ⟨by omega, by omega⟩, ?_⟩⟩
    have e1 : ((q : Int) - 1) = ((q - 1 : Nat) : Int) := by omega
    have e2 : Cnt.strt q * Cnt.chs q ds / (q - 1) = Cnt.strt q / (q - 1) * Cnt.chs q ds := by
      have := Cnt.strt_div hq
      generalize Cnt.strt q / (q - 1) = z at this ⊢
      rw [← this, show z * (q - 1) * Cnt.chs q ds = (q - 1) * (z * Cnt.chs q ds) by ac_rfl, Nat.mul_div_cancel_left _ (by omega)]
    show Q (.int (((Cnt.strt q * Cnt.chs q ds : Nat) : Int) / ((q : Int) - 1))) H2
    rw [e1, ← Int.natCast_ediv, e2]
    exact want H2 s2
theorem ok_bent_rows {fB : Addr} {fdB : FuncData} (BDS : Can P w K mg base "many_bends" 1 pManyBends spBds fB fdB) {f : Addr} {fd : FuncData} (F : Fun K "many_bent_rows" "many_bent_rows" sManyBentRows f fd) (gF : mg "many_bent_rows" = some (.ref f)) (kF : PySem.W.keepIn K (.ref f) = true) (bF : Binds K fd pManyBentRows [])
    {tL tG : Tok} (gL : mg "LEAST_DEGREE" = some (.int 2 tL)) (gG : mg "GREATEST_DEGREE" = some (.int 6 tG)) (m_range : mg "range" = none) (m_sum : mg "sum" = none) : ∀ k, FnOk P w K mg base CX0 (k + 2) f fd pManyBentRows (spBnt k)
  | 0 => by
    refine F.ok scManyBentRows (fun vs H Q E h => ?_) (fun cdv A outer s H vs Q E hr h => ?_)
    · obtain ⟨q, n, rfl, _⟩ := h
      rfl
    · obtain ⟨q, n, rfl, hq, h0, h1, want⟩ := h
      rw [Nat.pow_zero] at h1
      omega
  | k + 1 => by
    have BNT : Can P w K mg base "many_bent_rows" (k + 2) pManyBentRows (spBnt k) f fd := ⟨ok_bent_rows BDS F gF kF bF gL gG m_range m_sum k, gF, kF, bF⟩
    refine F.ok scManyBentRows (fun vs H Q E h => ?_) (fun cdv A outer s H vs Q E hr h => ?_)
    · obtain ⟨q, n, rfl, _⟩ := h
      rfl
    · obtain ⟨q, n, rfl, hq, h0, h1, want⟩ := h
      have q16 := le16 hq
      have q1 := gt1 hq
      have hr1 := hr.mono (show 1 ≤ k + 2 by omega)
      refine ⟨_, (pss_cons (ps_if (pt_cmpR op_eq (pv 1) pe_int (nomark _)) (pss_one (ps_ret pe_int)) pss_nil)
      (pss_cons (ps_setLc (i := 2) (own := [("first", 3)]) (g := gName 3) rfl scManyBentRows.nd rfl rfl (sw_true rfl rfl rfl (by decide +kernel)) (pi_range2 rfl m_range (pa_cons (pe_glob (v := .int 2) rfl gL ⟨_, rfl⟩) (pa_cons (pe_op op_add (pe_glob (v := .int 6) rfl gG ⟨_, rfl⟩) pe_int) pa_nil))) (blkOk_by (N := nManyBentRows) (sc := defScope sManyBentRows) (by decide +kernel)) (fun _ _ _ _ _ => (pg_name (i := 3) scManyBentRows.nd rfl (.inl rfl))) (fun _ _ _ _ _ => (pts_one (pt_cmpR op_eq (pe_op op_mod (pv 1) (pv 3)) pe_int (nomark _)))) (fun _ _ _ _ _ => (pv 3)))
      (pss_one (ps_ret (pe_callB (cr_sum rfl) (by rfl) m_sum (by decide +kernel) (pa_cons (pe_lc (own := [("first", 3)]) (g := gName 3) (tt := tYes) rfl scManyBentRows.nd (pi_list (pv 2)) (blkOk_by (N := nManyBentRows) (sc := defScope sManyBentRows) (by decide +kernel)) (fun _ _ _ _ _ => (pg_name (i := 3) scManyBentRows.nd rfl (.inl rfl))) (fun _ _ _ _ _ => pts_nil) (fun _ _ _ _ _ => (pe_op op_mul (pe_op op_mul (pv 0) (pe_call BDS.ok hr1 (by rfl) BDS.g BDS.kp BDS.b .nil pass0 (pa_cons (pv 0) (pa_cons (pv 3) pa_nil)))) (pe_call BNT.ok hr (by rfl) BNT.g BNT.kp BNT.b .nil pass0 (pa_cons (pv 0) (pa_cons (pe_op op_fdiv (pv 1) (pv 3)) pa_nil)))))) pa_nil)))))), ?_⟩
      refine ⟨.int n, rfl, rfl, _, rfl, ite2 (fun h => ?_) (fun h => ?_)⟩
      · have e : n = 1 := by
          have := V.int.inj (of_decide_eq_true h)
          omega
        subst e
        exact want H fun _ _ z => z
      · have e1 : n ≠ 1 := fun z => h (by subst z; rfl)
        refine ⟨6, 1, rfl, rfl, _, _, rfl, ⟨by decide, by decide, by decide, by decide⟩, fun D nD => ?_⟩
        have cut : ∀ i, i < 5 → [2, 3, 4, 5, 6].take (i + 1) = [2, 3, 4, 5, 6].take i ++ [i + 2] := by
          intro i hi
          have : i = 0 ∨ i = 1 ∨ i = 2 ∨ i = 3 ∨ i = 4 := by omega
          rcases this with rfl | rfl | rfl | rfl | rfl <;> rfl
        refine lc_range (lo := 2) (n := 5) (fun i H' => Same H H' ∧ H' D = some (.lst (iv (([2, 3, 4, 5, 6].take i).filter fun d => n % d == 0)))) ⟨same_new nD, upd_same⟩ (fun i H' hi hW => ?_) (fun H1 hW => ?_)
        · obtain ⟨s1, hD⟩ := hW
          have ei : (2 : Int) + (i : Int) = ((i + 2 : Nat) : Int) := by omega
          rw [ei]
          refine ⟨rfl, .int n, rfl, .int (i + 2 : Nat), rfl, n, (i + 2 : Nat), rfl, rfl, (by show (0 : Int) < ((i + 2 : Nat) : Int); omega), rfl, _, rfl, ite2 (fun hm => ?_) (fun hm => ?_)⟩
          · have hm : n % (i + 2) = 0 := by
              have := V.int.inj (of_decide_eq_true hm)
              rw [← Int.natCast_emod] at this
              omega
            refine ⟨_, rfl, _, hD, ?_, same_upd s1 nD, ?_⟩
            · rw [List.length_map]
              refine Nat.lt_of_le_of_lt (List.length_filter_le ..) (Nat.lt_of_le_of_lt (List.length_take_le ..) (Nat.lt_of_lt_of_le hi (by decide)))
            · rw [upd_same, cut i hi, List.filter_append, List.filter_cons_of_pos (by simpa using hm)]
              unfold iv
              rw [List.map_append]
              rfl
          · have hm : n % (i + 2) ≠ 0 := by
              intro z
              refine hm (decide_eq_true ?_)
              show V.int ((n : Int) % ((i + 2 : Nat) : Int)) = V.int 0
              rw [← Int.natCast_emod, z]
              rfl
            refine ⟨s1, ?_⟩
            rw [cut i hi, List.filter_append, List.filter_cons_of_neg (by simpa using hm), List.filter_nil, List.append_nil]
            exact hD
        · obtain ⟨s1, hD⟩ := hW
          have hD : H1 D = some (.lst (iv (Cnt.dvs n))) := hD
          refine ⟨.ref D, rfl, D, rfl, ⟨_, .inl (.inl hD)⟩, fun D2 nD2 => ?_⟩
          refine lc_list (K := K) (a := D) (xs := iv (Cnt.dvs n)) (fun i H' => Same H1 H' ∧ H' D2 = some (.lst (iv (((Cnt.dvs n).take i).map fun d => q * Cnt.bds q d * Cnt.mbr q k (n / d))))) ⟨same_new nD2, upd_same⟩ (fun i H' _ hW => .inl (.inl (hW.1 _ _ hD))) (fun i x H' hi hW => ?_) (fun H2 hW => ?_)
          · obtain ⟨s2, hD2⟩ := hW
            obtain ⟨d, ed, rfl⟩ := iv_of hi
            have hd := List.mem_of_getElem? ed
            obtain ⟨d2, d6, dn⟩ := Cnt.dvs_le hd
            have b1 := Cnt.bds_le (by omega : 0 < q) q16 d6
            have p1 : q * Cnt.bds q d ≤ 16 * 2 ^ 20 := Nat.mul_le_mul q16 b1
            have p2 : ((q : Int) * (Cnt.bds q d : Nat)) = ((q * Cnt.bds q d : Nat) : Int) := (Int.natCast_mul ..).symm
            have lt : n / d < 2 ^ k := by
              refine (Nat.div_lt_iff_lt_mul (by omega)).mpr ?_
              rw [Nat.pow_succ] at h1
              exact Nat.lt_of_lt_of_le h1 (Nat.mul_le_mul_left _ d2)
            refine ⟨rfl, yes_kept ?_⟩
            refine ⟨.int q, rfl, .int q, rfl, .int d, rfl, q, d, rfl, hq, d2, d6, q, _, rfl, rfl, .inl ⟨by omega, by omega⟩, .int q, rfl, .int n, rfl, .int d, rfl, n, d, rfl, rfl, ⟨by omega, by omega⟩, q, n / d, rfl, hq, Cnt.div_pos' hd h0, lt, fun H3 s3 => ⟨_, _, rfl, rfl, ?_, _, s3 _ _ hD2, ?_, same_upd (s2.trans s3) nD2, ?_⟩⟩
            · rw [p2]
              exact .inl ⟨by omega, by omega⟩
            · rw [List.length_map, List.length_map]
              refine Nat.lt_of_le_of_lt (List.length_take_le' ..) (Nat.lt_of_le_of_lt (List.length_filter_le ..) (by decide))
            · rw [upd_same, List.take_add_one, ed]
              show some (HO.lst (_ ++ [V.int ((q : Int) * (Cnt.bds q d : Nat) * (Cnt.mbr q k (n / d) : Nat))])) = _
              rw [p2, ← Int.natCast_mul]
              unfold iv
              simp
          · obtain ⟨s2, hD2⟩ := hW
            rw [show (iv (Cnt.dvs n)).length = (Cnt.dvs n).length from List.length_map .., List.take_of_length_le (Nat.le_refl _)] at hD2
            refine ⟨D2, ((Cnt.dvs n).map fun d => q * Cnt.bds q d * Cnt.mbr q k (n / d)).map fun m => ((m : Nat) : Int), rfl, ?_, ?_⟩
            · rw [List.map_map]
              exact .inl (.inl hD2)
            · rw [sum_cast]
              have e3 : ((Cnt.dvs n).map fun d => q * Cnt.bds q d * Cnt.mbr q k (n / d)).sum = Cnt.mbr q (k + 1) n := by
                show _ = (if n = 1 then 1 else _)
                rw [if_neg e1]
              rw [e3]
              exact want _ (s1.trans s2)
theorem ok_of_degree {f fS fB : Addr} {fd fdS fdB : FuncData} (F : Fun K "many_of_degree" "many_of_degree" sManyOfDegree f fd) (STR : Can P w K mg base "many_straight" 1 pManyStraight spStr fS fdS) (BNT : Can P w K mg base "many_bent_rows" 13 pManyBentRows (spBnt 11) fB fdB) : FnOk P w K mg base CX0 14 f fd pManyOfDegree spDeg := by
  refine F.ok scManyOfDegree (fun vs H Q E h => ?_) (fun cdv A outer s H vs Q E hr h => ?_)
  · obtain ⟨q, n, rfl, _⟩ := h
    rfl
  · obtain ⟨q, n, rfl, hq, h0, h1, want⟩ := h
    have q16 := le16 hq
    have q1 := gt1 hq
    have hr1 := hr.mono (show 1 ≤ 13 by decide)
    refine ⟨_, (pss_cons (ps_if (pt_cmpR op_eq (pv 1) pe_int (nomark _)) (pss_one (ps_ret (pe_call STR.ok hr1 (by rfl) STR.g STR.kp STR.b .nil pass0 (pa_cons (pv 0) pa_nil)))) pss_nil)
      (pss_one (ps_ret (pe_op op_fdiv (pe_op op_mul (pe_op op_mul (pe_call STR.ok hr1 (by rfl) STR.g STR.kp STR.b .nil pass0 (pa_cons (pv 0) pa_nil)) (pe_op op_add (pv 0) pe_int)) (pe_call BNT.ok hr (by rfl) BNT.g BNT.kp BNT.b .nil pass0 (pa_cons (pv 0) (pa_cons (pv 1) pa_nil)))) (pv 0))))), ?_⟩
    refine ⟨.int n, rfl, rfl, _, rfl, ite2 (fun h => ?_) (fun h => ?_)⟩
    · have e : n = 1 := by
        have := V.int.inj (of_decide_eq_true h)
        omega
      subst e
      exact ⟨.int q, rfl, q, rfl, hq, want H fun _ _ z => z⟩
    · have e1 : n ≠ 1 := fun z => h (by subst z; rfl)
      have s24 := Cnt.strt_le q16
      have p1 : Cnt.strt q * (q + 1) ≤ 2 ^ 24 * 32 := Nat.mul_le_mul s24 (by omega)
      have p2 : ((Cnt.strt q : Nat) : Int) * ((q : Int) + 1) = ((Cnt.strt q * (q + 1) : Nat) : Int) := by
        rw [Int.natCast_mul]
        rfl
      refine ⟨.int q, rfl, q, rfl, hq, .int q, rfl, q, 1, rfl, rfl, _, _, rfl, rfl, .inl ⟨by omega, by omega⟩, .int q, rfl, .int n, rfl, q, n, rfl, hq, h0, Nat.lt_of_le_of_lt h1 (by decide), fun H1 s1 => ⟨_, _, rfl, rfl, ?_, .int q, rfl, _, q, rfl, rfl, ⟨by omega, by omega⟩, ?_⟩⟩
      · rw [p2]
        exact .inl ⟨by omega, by omega⟩
      · show Q (.int (((Cnt.strt q : Nat) : Int) * ((q : Int) + 1) * (Cnt.mbr q 11 n : Nat) / (q : Int))) H1
        rw [p2, ← Int.natCast_mul, ← Int.natCast_ediv]
        have := want H1 s1
        unfold Cnt.deg at this
        rw [if_neg e1] at this
        exact this
end
end K16
set_option Elab.async false
set_option linter.all false
set_option maxRecDepth 100000
set_option maxHeartbeats 4000000
set_option pp.maxSteps 1000
namespace BP
open PySem PySem.Spec PyProof.Rows L2
theorem getC {H : Hp} {d c : Addr} {m n : Int} (h : H d = some (.dK (deckD c m n))) : DGet H d (.str "left") (some (.ref c)) := by
  have g := DGet.k (k := kC) h
  rw [deck_C] at g
  exact g
theorem getM {H : Hp} {d c : Addr} {m n : Int} (h : H d = some (.dK (deckD c m n))) : DGet H d (.str "mixed") (some (.int m)) := by
  have g := DGet.k (k := kM) h
  rw [deck_M] at g
  exact g
theorem getD {H : Hp} {d c : Addr} {m n : Int} (h : H d = some (.dK (deckD c m n))) : DGet H d (.str "draws") (some (.int n)) := by
  have g := DGet.k (k := kD) h
  rw [deck_D] at g
  exact g
theorem putD {H : Hp} {d c : Addr} {m n k : Int} (h : H d = some (.dK (deckD c m n))) : DPut H d (.str "draws") (.int k) (upd H d (.dK (deckD c m k))) := by
  have g := DPut.k (k := kD) (v := .int k) h (by show 3 < sizeLine; decide)
  rw [deck_put] at g
  exact g
theorem modB (i : Int) {j : Int} (h : 0 < j) : 0 ≤ i % j ∧ i % j < j := ⟨Int.emod_nonneg i (by omega), Int.emod_lt_of_pos i h⟩
theorem modN (i : Int) {n : Nat} (h : 0 < n) : ∃ x : Nat, i % (n : Int) = (x : Int) ∧ x < n := by
  obtain ⟨a, b⟩ := modB i (j := (n : Int)) (by omega)
  exact ⟨(i % (n : Int)).toNat, by omega, by omega⟩
theorem cut_ints (ns : List Int) (lo hi : Option Int) : ∃ ms : List Int, cutV (ns.map V.int) lo hi = ms.map V.int ∧ ms.length ≤ ns.length := by
  refine ⟨(ns.drop (HT.sIx ns.length 0 lo)).take (HT.sIx ns.length ns.length hi - HT.sIx ns.length 0 lo), ?_, ?_⟩
  · unfold cutV
    rw [List.length_map, List.map_take, List.map_drop]
  · rw [List.length_take, List.length_drop]
    omega
end BP
namespace K16
open PySem PySem.Spec PyProof.Rows L2 BP Fld
section
variable {P : Program} {w : World} {K : PySem.W.Frag} {mg : Str → Option Value} {base : Heap}
/-! ### the deck is made -/
def spDeck (K : PySem.W.Frag) : Sp := fun vs H Q _ => ∃ (a : Addr) (ns : List Int) (n0 : Int), vs = [.ref a, .int n0] ∧ 0 ≤ n0 ∧ n0 < 2147483647 ∧ SqL K H a (ns.map V.int) ∧ ns.length ≤ 63 ∧ ∀ (d c : Addr) (H' : Hp), Same H H' → H d = none → H c = none → Deck H' d c → Q (.ref d) H'
theorem ok_deck {f : Addr} {fd : FuncData} {k : Nat} (F : Fun K "_law_deck" "_law_deck" sLDeck f fd) (m_int : mg "int" = none) (m_list : mg "list" = none) : FnOk P w K mg base CX0 (k + 1) f fd pLDeck (spDeck K) := by
  refine F.ok scLDeck (fun vs H Q E h => ?_) (fun cdv A outer s H vs Q E hr h => ?_)
  · obtain ⟨a, ns, n0, rfl, _⟩ := h
    rfl
  · obtain ⟨a, ns, n0, rfl, g0, g1, hS, hl, want⟩ := h
    refine ⟨_, (pss_cons (ps_set (i := 2) scLDeck.nd rfl (.inl rfl) (pv 1))
      (pss_cons (ps_for PassesOwn.never rfl (pi_list (pe_slice sl_list (pv 0) po_none (po_some pe_int))) (pg_name (i := 3) scLDeck.nd rfl (.inl rfl)) (pss_one (ps_set (i := 2) scLDeck.nd rfl (.inl rfl) (pe_op op_mod (pe_callTy call_int1 (by rfl) m_int (by decide +kernel) (pa_cons (pe_op op_add (pe_op op_add (pe_op op_mul (pv 2) pe_int) (pe_op op_mod (pe_callTy call_int1 (by rfl) m_int (by decide +kernel) (pa_cons (pv 3) pa_nil)) pe_int)) pe_int) pa_nil)) pe_int))))
      (pss_one (ps_ret (pe_disp (pps_cons pe_str (pe_revL (pe_callTy call_list_of (by rfl) m_list (by decide +kernel) (pa_cons (pe_slice sl_list (pv 0) po_none (po_some pe_int)) pa_nil))) (pps_cons pe_str (pv 2) (pps_cons pe_str pe_int pps_nil))) (by rfl) (by rfl) (fun z => by cases z) (by decide)))))), ?_⟩
    obtain ⟨ms, em, lm⟩ := cut_ints ns none (some 63)
    refine ⟨.int n0, rfl, .ref a, rfl, 63, rfl, a, _, rfl, hS, fun p np => ?_⟩
    have s1 : Same H (upd H p (.lst (cutV (ns.map V.int) none (some 63)))) := same_new np
    refine ⟨p, rfl, ⟨_, .inl (.inl upd_same)⟩, for_list (xs := ms.map V.int) (fun i σ H' => H' = upd H p (.lst (cutV (ns.map V.int) none (some 63))) ∧ ∃ (m : Int) (y : Option V), σ = [some (.ref a), some (.int n0), some (.int m), y] ∧ 0 ≤ m ∧ m < 2147483647)
      ⟨rfl, n0, none, rfl, g0, g1⟩ (fun i σ H' _ hW => ?_) (fun i x σ H' hx hW => ?_) (fun σ H' hW => ?_)⟩
    · obtain ⟨rfl, _⟩ := hW
      rw [em]
      exact .inl (.inl upd_same)
    · obtain ⟨rfl, m, y, rfl, m0, m1⟩ := hW
      obtain ⟨n, rfl⟩ : ∃ n : Int, x = .int n := by
        rw [List.getElem?_map] at hx
        cases e : ms[i]? with
        | none =>
          rw [e] at hx
          cases hx
        | some n =>
          rw [e] at hx
          exact ⟨n, (Option.some.inj hx).symm⟩
      refine ⟨.int m, rfl, m, 69621, rfl, rfl, .inl ⟨by omega, by omega⟩, .int n, rfl, .inl ⟨n, rfl, n, 2147483629, rfl, rfl, (by show (0 : Int) < _; decide), _, _, rfl, rfl, _, 81, rfl, rfl, .inl ⟨_, rfl, _, 2147483587, rfl, rfl, (by show (0 : Int) < _; decide), ?_⟩⟩⟩
      obtain ⟨z1, z2⟩ := modB (m * 69621 + n % 2147483629 + 81) (j := 2147483587) (by decide)
      exact ⟨rfl, _, _, rfl, z1, by omega⟩
    · obtain ⟨rfl, m, y, rfl, m0, m1⟩ := hW
      refine fun d nd => ⟨.ref a, rfl, 63, rfl, a, _, rfl, (same_new nd).seq (s1.seq hS), fun q nq => ?_⟩
      have s2 := s1.trans (same_new (o := .dK []) nd)
      have s3 := s2.trans (same_new (o := .lst (cutV (ns.map V.int) none (some 63))) nq)
      refine ⟨q, _, rfl, .inl (.inl (.inl upd_same)), fun l hl' => ⟨l, _, rfl, .inl (.inl upd_same), fun c nc => ?_⟩⟩
      have s4 := s3.trans (same_new (o := .lst (cutV (ns.map V.int) none (some 63))) hl')
      have s5 := s4.trans (same_new (o := .lst (cutV (ns.map V.int) none (some 63)).reverse) nc)
      have hd1 : (upd (upd H p (.lst (cutV (ns.map V.int) none (some 63)))) d (.dK [])) d = some (.dK []) := upd_same
      have hd2 := same_new (o := .lst (cutV (ns.map V.int) none (some 63))) nq _ _ hd1
      have hd3 := same_new (o := .lst (cutV (ns.map V.int) none (some 63))) hl' _ _ hd2
      have ncd : d ≠ c := ne_of_none hd3 nc
      have free_p : ∀ {b : Addr}, (upd H p (.lst (cutV (ns.map V.int) none (some 63)))) b = none → H b = none := by
        intro b hb
        cases e : H b with
        | none => rfl
        | some o =>
          rw [s1 _ _ e] at hb
          cases hb
      have hdn : H d = none := free_p nd
      have hcn : H c = none := by
        cases e : H c with
        | none => rfl
        | some o =>
          rw [s4 _ _ e] at nc
          cases nc
      refine ⟨.int m, rfl, ?_, deckD c m 0, rfl, (by show 3 ≤ 15; decide), ?_⟩
      · rw [upd_ne ncd]
        exact hd3
      · rw [deck_merge]
        refine want d c _ ?_ hdn hcn ?_
        · intro b x e
          rw [upd_ne (ne_of_none e hdn)]
          exact s5 b x e
        · refine ⟨ms.reverse, m, 0, upd_same, ?_, ?_, m0, m1⟩
          · rw [upd_ne ncd.symm, upd_same, em, List.map_reverse]
          · rw [List.length_reverse]
            omega
/-! ### a draw -/
def spDraw : Sp := fun vs H Q _ => ∃ (d c : Addr) (n : Nat), vs = [.ref d, .int n] ∧ Deck H d c ∧ 0 < n ∧ n < 1000000000 ∧ ∀ (x : Nat) (H' : Hp), x < n → But d c H H' → Deck H' d c → Q (.int x) H'
theorem ok_draw {f : Addr} {fd : FuncData} {k : Nat} (F : Fun K "_law_draw" "_law_draw" sLDraw f fd) (m_int : mg "int" = none) (m_max : mg "max" = none) : FnOk P w K mg base CX0 (k + 1) f fd pLDraw spDraw := by
  refine F.ok scLDraw (fun vs H Q E h => ?_) (fun cdv A outer s H vs Q E hr h => ?_)
  · obtain ⟨d, c, n, rfl, _⟩ := h
    rfl
  · obtain ⟨d, c, n, rfl, ⟨cells, m, k0, hd, hc, hl, m0, m1⟩, n0, n1, want⟩ := h
    have hu := hu_of hr
    refine ⟨_, (pss_cons (ps_dput hu (pv 0) pe_str (pe_op op_add (pe_dget hu (pv 0) pe_str (fun _ _ => rfl)) pe_int) rfl)
      (pss_cons (ps_set (i := 2) scLDraw.nd rfl (.inl rfl) (pe_op op_add (pe_dget hu (pv 0) pe_str (fun _ _ => rfl)) (pe_op op_mul pe_int (pe_dget hu (pv 0) pe_str (fun _ _ => rfl)))))
      (pss_cons (ps_if (pt_cmpR (op_neD hr.units) (pe_dget hu (pv 0) pe_str (fun _ _ => rfl)) (pe_lst pa_nil) (nomark _)) (pss_cons (ps_set (i := 3) scLDraw.nd rfl (.inl rfl) (pe_bm0 PySem.F.plainAttrs_list PySem.F.slot_list_pop PySem.F.type_list_pop mt_pop (pe_dget hu (pv 0) pe_str (fun _ _ => rfl))))
        (pss_cons (ps_if (pt_cmpR op_ge (pv 3) (pe_op op_pow pe_int pe_int) (nomark _)) (pss_cons (ps_expr (pe_bm PySem.F.plainAttrs_list PySem.F.slot_list_append PySem.F.type_list_append mt_append (pe_dget hu (pv 0) pe_str (fun _ _ => rfl)) (pa_cons (pe_op op_fdivN (pv 3) (pe_callB (call_max2 rfl) (by rfl) m_max (by decide +kernel) (pa_cons pe_int (pa_cons (pv 1) pa_nil)))) pa_nil)))
          (pss_one (ps_ret (pe_op op_mod (pe_callTy call_int1 (by rfl) m_int (by decide +kernel) (pa_cons (pv 3) pa_nil)) (pv 1))))) pss_nil)
        (pss_one (ps_set (i := 2) scLDraw.nd rfl (.inl rfl) (pe_op op_add (pv 2) (pe_op op_mod (pe_callTy call_int1 (by rfl) m_int (by decide +kernel) (pa_cons (pv 3) pa_nil)) pe_int)))))) pss_nil)
      (pss_cons (ps_set (i := 2) scLDraw.nd rfl (.inl rfl) (pe_op op_mod (pe_callTy call_int1 (by rfl) m_int (by decide +kernel) (pa_cons (pe_op op_add (pe_op op_mul (pv 2) pe_int) pe_int) pa_nil)) pe_int))
      (pss_cons (ps_set (i := 2) scLDraw.nd rfl (.inl rfl) (pe_op op_mod (pe_callTy call_int1 (by rfl) m_int (by decide +kernel) (pa_cons (pe_op op_add (pe_op op_add (pe_op op_mul (pv 2) (pv 2)) (pe_op op_mul pe_int (pe_dget hu (pv 0) pe_str (fun _ _ => rfl)))) pe_int) pa_nil)) pe_int))
      (pss_cons (ps_set (i := 2) scLDraw.nd rfl (.inl rfl) (pe_op op_mod (pe_callTy call_int1 (by rfl) m_int (by decide +kernel) (pa_cons (pe_op op_mul (pv 2) pe_int) pa_nil)) pe_int))
      (pss_one (ps_ret (pe_op op_mod (pe_callTy call_int1 (by rfl) m_int (by decide +kernel) (pa_cons (pe_op op_fdiv (pv 2) pe_int) pa_nil)) (pv 1)))))))))), ?_⟩
    -- draws
    refine ⟨.ref d, rfl, d, .int k0, rfl, getD hd, k0, 1, rfl, rfl, .ref d, rfl, d, _, rfl, putD hd, ?_⟩
    have ndc : d ≠ c := ne_of hd hc (by intro z; cases z)
    generalize k0 + 1 = dr
    have hd1 : (upd H d (.dK (deckD c m dr))) d = some (.dK (deckD c m dr)) := upd_same
    have hc1 : (upd H d (.dK (deckD c m dr))) c = some (.lst (cells.map V.int)) := by
      rw [upd_ne ndc.symm]
      exact hc
    have b1 : But d c H (upd H d (.dK (deckD c m dr))) := fun b x e1 e2 e => by
      rw [upd_ne e1]
      exact e
    generalize upd H d (.dK (deckD c m dr)) = H1 at hd1 hc1 b1 ⊢
    refine ⟨.ref d, rfl, d, .int m, rfl, getM hd1, .ref d, rfl, d, .int dr, rfl, getD hd1, 59393, dr, rfl, rfl, .inl ⟨by decide, by decide⟩, m, _, rfl, rfl, ?_⟩
    have done : ∀ (i : Int) (H' : Hp), But d c H H' → Deck H' d c → Q (.int (i % (n : Int))) H' := by
      intro i H' hb hk
      obtain ⟨x, e, hx⟩ := modN i n0
      rw [e]
      exact want x H' hx hb hk
    -- the cells
    refine ⟨.ref d, rfl, d, .ref c, rfl, getC hd1, Nat.zero_le _, fun p np => ?_⟩
    have sp := same_new (o := .lst []) np
    have hd2 := sp _ _ hd1
    have hc2 := sp _ _ hc1
    have b2 := b1.trans (But.of sp)
    have hp2 : (upd H1 p (.lst [])) p = some (.lst (([] : List Int).map V.int)) := upd_same
    generalize upd H1 p (.lst []) = H2 at hd2 hc2 b2 hp2 ⊢
    refine ⟨dat cells, dat [], dp_ints (.inl (.inl hc2)), dp_ints (.inl (.inl hp2)), shaped_ints _, shaped_ints _, _, rfl, ?_⟩
    rw [eqv_nil]
    cases cells with
    | nil =>
      refine iteF ?_
      obtain ⟨z1, z2⟩ := modB ((m + 59393 * dr) * 40014 + 91) (j := 2147483563) (by decide)
      obtain ⟨z3, z4⟩ := modB ((((m + 59393 * dr) * 40014 + 91) % 2147483563) * (((m + 59393 * dr) * 40014 + 91) % 2147483563) + 52774 * dr + 17) (j := 2147483399) (by decide)
      refine ⟨.int (m + 59393 * dr), rfl, (m + 59393 * dr), 40014, rfl, rfl, .inr ⟨by decide, by decide⟩, _, 91, rfl, rfl, .inl ⟨_, rfl, _, 2147483563, rfl, rfl, (by show (0 : Int) < _; decide), ?_⟩⟩
      refine ⟨.int (((m + 59393 * dr) * 40014 + 91) % 2147483563), rfl, .int (((m + 59393 * dr) * 40014 + 91) % 2147483563), rfl, (((m + 59393 * dr) * 40014 + 91) % 2147483563), (((m + 59393 * dr) * 40014 + 91) % 2147483563), rfl, rfl, .inl ⟨by omega, by omega⟩, .ref d, rfl, d, .int dr, rfl, getD hd2, 52774, dr, rfl, rfl, .inl ⟨by decide, by decide⟩, _, _, rfl, rfl, _, 17, rfl, rfl, .inl ⟨_, rfl, _, 2147483399, rfl, rfl, (by show (0 : Int) < _; decide), ?_⟩⟩
      refine ⟨.int (((((m + 59393 * dr) * 40014 + 91) % 2147483563) * (((m + 59393 * dr) * 40014 + 91) % 2147483563) + 52774 * dr + 17) % 2147483399), rfl, (((((m + 59393 * dr) * 40014 + 91) % 2147483563) * (((m + 59393 * dr) * 40014 + 91) % 2147483563) + 52774 * dr + 17) % 2147483399), 40692, rfl, rfl, .inl ⟨by omega, by omega⟩, .inl ⟨_, rfl, _, 2147483647, rfl, rfl, (by show (0 : Int) < _; decide), ?_⟩⟩
      refine ⟨_, rfl, _, 64, rfl, rfl, ⟨by decide, by decide⟩, .inl ⟨_, rfl, .int n, rfl, _, n, rfl, rfl, (by show (0 : Int) < (n : Int); omega), ?_⟩⟩
      exact done _ _ b2 ⟨[], m, dr, hd2, hc2, Nat.zero_le _, m0, m1⟩
    | cons y0 ys =>
      refine iteT ?_
      obtain ⟨xs, x, ex⟩ : ∃ xs x, y0 :: ys = xs ++ [x] := ⟨(y0 :: ys).dropLast, (y0 :: ys).getLast (by simp), (List.dropLast_concat_getLast (by simp)).symm⟩
      rw [ex] at hc2 hl
      have lx : xs.length ≤ 62 := by
        rw [List.length_append] at hl
        simpa using hl
      have eM : (xs ++ [x]).map V.int = xs.map V.int ++ [.int x] := by simp
      rw [eM] at hc2
      refine ⟨.ref d, rfl, d, .ref c, rfl, getC hd2, .inl ⟨rfl, _, .inl (.inl hc2)⟩, c, _, .int x, rfl, rfl, hc2, ?_, ?_⟩
      · rw [List.length_append, List.getElem?_append_right (by simp)]
        simp
      · rw [List.dropLast_concat]
        have hc3 : (upd H2 c (.lst (xs.map V.int))) c = some (.lst (xs.map V.int)) := upd_same
        have hd3 : (upd H2 c (.lst (xs.map V.int))) d = some (.dK (deckD c m dr)) := by
          rw [upd_ne ndc]
          exact hd2
        have b3 : But d c H (upd H2 c (.lst (xs.map V.int))) := b2.trans fun b z e1 e2 e => by
          rw [upd_ne e2]
          exact e
        generalize upd H2 c (.lst (xs.map V.int)) = H3 at hc3 hd3 b3 ⊢
        refine ⟨.int x, rfl, 10, 18, rfl, rfl, ⟨by decide, by decide, by decide⟩, x, _, rfl, rfl, _, rfl, ite2 (fun _ => ?_) (fun _ => ?_)⟩
        · refine ⟨.ref d, rfl, d, .ref c, rfl, getC hd3, .inl ⟨rfl, _, .inl (.inl hc3)⟩, .int x, rfl, .int n, rfl, 2, n, rfl, x, _, rfl, rfl, ?_, ?_⟩
          · show (if (n : Int) > 2 then (n : Int) else 2) ≠ 0 ∧ (if (n : Int) > 2 then (n : Int) else 2).natAbs < 1073741824
            split <;> omega
          · refine ⟨c, xs.map V.int, _, rfl, rfl, hc3, ?_, ?_⟩
            · rw [List.length_map]
              exact small1000 (by omega)
            · refine ⟨.int x, rfl, .inl ⟨x, rfl, .int n, rfl, x, n, rfl, rfl, (by show (0 : Int) < (n : Int); omega), ?_⟩⟩
              refine done x _ (b3.trans fun b z e1 e2 e => ?_) ⟨xs ++ [x.fdiv (if (n : Int) > 2 then (n : Int) else 2)], m, dr, ?_, ?_, ?_, m0, m1⟩
              · rw [upd_ne e2]
                exact e
              · rw [upd_ne ndc]
                exact hd3
              · rw [upd_same, List.map_append]
                rfl
              · rw [List.length_append]
                show xs.length + 1 ≤ 63
                omega
        · refine ⟨.int (m + 59393 * dr), rfl, .int x, rfl, .inl ⟨x, rfl, x, 2147483629, rfl, rfl, (by show (0 : Int) < _; decide), (m + 59393 * dr), _, rfl, rfl, ?_⟩⟩
          obtain ⟨z1, z2⟩ := modB ((m + 59393 * dr + x % 2147483629) * 40014 + 91) (j := 2147483563) (by decide)
          obtain ⟨z3, z4⟩ := modB ((((m + 59393 * dr + x % 2147483629) * 40014 + 91) % 2147483563) * (((m + 59393 * dr + x % 2147483629) * 40014 + 91) % 2147483563) + 52774 * dr + 17) (j := 2147483399) (by decide)
          refine ⟨.int (m + 59393 * dr + x % 2147483629), rfl, (m + 59393 * dr + x % 2147483629), 40014, rfl, rfl, .inr ⟨by decide, by decide⟩, _, 91, rfl, rfl, .inl ⟨_, rfl, _, 2147483563, rfl, rfl, (by show (0 : Int) < _; decide), ?_⟩⟩
          refine ⟨.int (((m + 59393 * dr + x % 2147483629) * 40014 + 91) % 2147483563), rfl, .int (((m + 59393 * dr + x % 2147483629) * 40014 + 91) % 2147483563), rfl, (((m + 59393 * dr + x % 2147483629) * 40014 + 91) % 2147483563), (((m + 59393 * dr + x % 2147483629) * 40014 + 91) % 2147483563), rfl, rfl, .inl ⟨by omega, by omega⟩, .ref d, rfl, d, .int dr, rfl, getD hd3, 52774, dr, rfl, rfl, .inl ⟨by decide, by decide⟩, _, _, rfl, rfl, _, 17, rfl, rfl, .inl ⟨_, rfl, _, 2147483399, rfl, rfl, (by show (0 : Int) < _; decide), ?_⟩⟩
          refine ⟨.int (((((m + 59393 * dr + x % 2147483629) * 40014 + 91) % 2147483563) * (((m + 59393 * dr + x % 2147483629) * 40014 + 91) % 2147483563) + 52774 * dr + 17) % 2147483399), rfl, (((((m + 59393 * dr + x % 2147483629) * 40014 + 91) % 2147483563) * (((m + 59393 * dr + x % 2147483629) * 40014 + 91) % 2147483563) + 52774 * dr + 17) % 2147483399), 40692, rfl, rfl, .inl ⟨by omega, by omega⟩, .inl ⟨_, rfl, _, 2147483647, rfl, rfl, (by show (0 : Int) < _; decide), ?_⟩⟩
          refine ⟨_, rfl, _, 64, rfl, rfl, ⟨by decide, by decide⟩, .inl ⟨_, rfl, .int n, rfl, _, n, rfl, rfl, (by show (0 : Int) < (n : Int); omega), ?_⟩⟩
          exact done _ _ b3 ⟨xs, m, dr, hd3, hc3, by omega, m0, m1⟩
/-! ### one of some -/
def spPick (K : PySem.W.Frag) : Sp := fun vs H Q _ => ∃ (d c l : Addr) (xs : List V), vs = [.ref d, .ref l] ∧ Deck H d c ∧ SqT K H l xs ∧ 0 < xs.length ∧ xs.length < 1000 ∧ ∀ (x : V) (H' : Hp), x ∈ xs → But d c H H' → Deck H' d c → Q x H'
theorem ok_pick {f fD : Addr} {fd fdD : FuncData} (F : Fun K "_law_pick" "_law_pick" sLPick f fd) (D : BP.Can P w K mg base "_law_draw" 1 pLDraw spDraw fD fdD) (m_len : mg "len" = none) : FnOk P w K mg base CX0 2 f fd pLPick (spPick K) := by
  refine F.ok scLPick (fun vs H Q E h => ?_) (fun cdv A outer s H vs Q E hr h => ?_)
  · obtain ⟨d, c, l, xs, rfl, _⟩ := h
    rfl
  · obtain ⟨d, c, l, xs, rfl, hk, hx, x0, x1, want⟩ := h
    refine ⟨_, (pss_one (ps_ret (pe_ix ix_tup (pv 1) (pe_call D.ok hr (by rfl) D.g D.kp D.b .nil pass0 (pa_cons (pv 0) (pa_cons (pe_callB call_len_seq (by rfl) m_len PySem.boot_len (pa_cons (pv 1) pa_nil)) pa_nil))) (fun _ _ => rfl)))), ?_⟩
    refine ⟨.ref l, rfl, .ref d, rfl, .ref l, rfl, l, xs, rfl, .inr hx, d, c, xs.length, rfl, hk, x0, by omega, fun x H' hlt hb hk' => ?_⟩
    exact ⟨l, xs, x, xs[x], rfl, rfl, But.sqT hk hb _ _ hx, atI_nat (List.getElem?_eq_getElem hlt), want _ H' (List.getElem_mem hlt) hb hk'⟩
end
end K16
set_option Elab.async false
set_option linter.all false
set_option maxRecDepth 100000
set_option maxHeartbeats 4000000
/-! A tuple that a text writes is known whole: so its methods are known, too. -/
namespace BP
open PySem PySem.Spec PyProof.Rows L2
/-- a written tuple, with its object -/
def tTupF (t : TA) : TE := fun σ H Q => t σ H fun xs H1 => xs.length ≤ sizeLine ∧ ∀ (p : Addr) (b : Obj), b.cls = .type "tuple" → b.dict = none → H1 p = none → Q (.ref p) (upd H1 p (.frz b (.tup xs)))
def tIxT (K : PySem.W.Frag) (to ty : TE) : TE := fun σ H Q => to σ H fun x H1 => ∃ (p : Addr) (b : Obj) (u : HO), x = .ref p ∧ H1 p = some (.frz b u) ∧ b.cls = .type "tuple" ∧ b.dict = none ∧ ty σ H1 fun y H2 => rTupIx K x [y] H2 Q
section
variable {X : Cx}
theorem pe_tupF {es : List Expr} {cx} {at' : Pos} {t : TA} (args : PA X es t) : PE X (.Tuple es cx at') (tTupF t) := by
  constructor
  intro pl s0 σ H0 Q J want
  refine wpAny_Tuple_spliced (thn (args.run at' pl s0 σ H0 _ J want) fun its s1 hh => ?_)
  obtain ⟨vs, H1, J1, rel, fit, k⟩ := hh
  have size : its.length ≤ sizeLine := rel.length ▸ fit
  refine ⟨size, ?_⟩
  have none1 := J1.hok.fresh (Nat.le_refl s1.heap.objs.size)
  have here : (s1.heap.push { cls := .type "tuple", data := .seq its.toArray }).get? s1.heap.objs.size = some { cls := .type "tuple", data := .seq its.toArray } := Heap.get?_push_size _ rfl
  have more : ∀ c o, s1.heap.get? c = some o → (s1.heap.push { cls := .type "tuple", data := .seq its.toArray }).get? c = some o := fun c o z => Heap.get?_push_of_some _ z
  let b : Obj := { cls := .type "tuple", data := .seq its.toArray }
  have new : ObjOk X.prog X.w (upd H1 s1.heap.objs.size (.frz b (.tup vs))) (s1.heap.push b) s1.heap.objs.size (.frz b (.tup vs)) := ⟨here, fit, its, rel, ⟨b, here, rfl, _, rfl⟩⟩
  exact ⟨.ref s1.heap.objs.size, upd H1 s1.heap.objs.size (.frz b (.tup vs)), J1.laid (t' := s1.toks) more (Nat.le_refl _) new, rfl, k s1.heap.objs.size b rfl rfl none1⟩
theorem pe_ixT {o e : Expr} {to ty : TE} {apos cpos : Pos} (ho : PE X o to) (he : PE X e ty) (m : M1 X o "index" apos e cpos) : PE X (.Call (.Attribute o "index" apos) [e] [] cpos) (tIxT X.K to ty) := by
  constructor
  intro pl s0 σ H0 Q J h
  refine wpAny_Call_method m.base m.few m.line PySem.F.plainAttrs_tuple PySem.F.slot_tuple_index PySem.F.type_tuple_index (thn (ho.run pl s0 σ H0 _ J h) fun z s1 hz => ?_)
  obtain ⟨x, H1, J1, rz, p, b, u, ex, hp, hc, hd, q1⟩ := hz
  subst ex
  obtain rfl : z = Value.ref p := rz
  have hob := (J1.hok p _ hp).1
  refine ⟨⟨b, hob, hc⟩, fun c e => ?_, ?_⟩
  · cases e
    exact ⟨b, hob, hd⟩
  · rw [m.trees]
    refine Calls.callWith_builtin rfl (Calls.evalArgs_plain (Calls.spliced_cons (thn (he.run pl s1 σ H1 _ J1 q1) fun y s2 hy => Calls.spliced_nil ?_)))
    obtain ⟨yv, H2, J2, ry, q2⟩ := hy
    exact mt_tupIx pl s2 σ H2 (.ref p) [yv] (.ref p) [y] Q J2 rfl (.cons ry .nil) q2
end
end BP
set_option Elab.async false
set_option linter.all false
set_option maxRecDepth 100000
set_option maxHeartbeats 4000000
set_option pp.maxSteps 1000
namespace Cnt
open Fld
/-- the powers of w, as the law tells them -/
def pwl : Nat → List Nat
  | 4 => [1, 2, 3] | 8 => [1, 2, 4, 3, 6, 7, 5] | 9 => [1, 3, 4, 7, 2, 6, 8, 5] | 16 => [1, 2, 4, 8, 3, 6, 12, 11, 5, 10, 7, 14, 15, 13, 9] | _ => []
def ixo (l : List Nat) (a : Nat) : Nat := ((List.range l.length).find? fun i => l.getD i 0 == a).getD 0
def bin (q : Nat) : Bool := q == 4 || q == 8 || q == 16
def okRk (q : Nat) : Bool :=
  (below q fun a => below q fun b => decide ((if bin q then PySem.Builtin.bitXor (a : Nat) (b : Nat) else if q = 9 then 3 * (((a : Int) / 3 + (b : Int) / 3) % 3) + ((a : Int) + b) % 3 else ((a : Int) + b) % q) = ((S q a b : Nat) : Int))) &&
  (below q fun a => decide ((if bin q then (a : Int) else if q = 9 then 3 * ((0 - (a : Int) / 3) % 3) + (0 - (a : Int)) % 3 else (0 - (a : Int)) % q) = ((ng q a : Nat) : Int))) &&
  (below q fun a => below q fun b => if pwl q = [] then decide (M q a b = a * b % q) else if a = 0 ∨ b = 0 then decide (M q a b = 0) else decide ((pwl q)[(ixo (pwl q) a + ixo (pwl q) b) % (q - 1)]? = some (M q a b))) &&
  (below q fun a => decide (a = 0) || decide (pwl q = []) || (decide ((pwl q)[ixo (pwl q) a]? = some a) && below (ixo (pwl q) a) fun m => decide ((pwl q)[m]? ≠ some a)))
theorem all_rk : fields.all okRk = true := by decide +kernel
section
variable {q : Nat} (h : q ∈ fields)
include h
theorem rk_plus {a b : Nat} (ha : a < q) (hb : b < q) : (if bin q then PySem.Builtin.bitXor (a : Nat) (b : Nat) else if q = 9 then 3 * (((a : Int) / 3 + (b : Int) / 3) % 3) + ((a : Int) + b) % 3 else ((a : Int) + b) % q) = ((S q a b : Nat) : Int) := by
  have o := List.all_eq_true.mp all_rk q h
  unfold okRk at o
  simp only [Bool.and_eq_true] at o
  exact of_decide_eq_true (of_below (of_below o.1.1.1 ha) hb)
theorem rk_less {a : Nat} (ha : a < q) : (if bin q then (a : Int) else if q = 9 then 3 * ((0 - (a : Int) / 3) % 3) + (0 - (a : Int)) % 3 else (0 - (a : Int)) % q) = ((ng q a : Nat) : Int) := by
  have o := List.all_eq_true.mp all_rk q h
  unfold okRk at o
  simp only [Bool.and_eq_true] at o
  exact of_decide_eq_true (of_below o.1.1.2 ha)
theorem rk_by {a b : Nat} (ha : a < q) (hb : b < q) : if pwl q = [] then M q a b = a * b % q else if a = 0 ∨ b = 0 then M q a b = 0 else (pwl q)[(ixo (pwl q) a + ixo (pwl q) b) % (q - 1)]? = some (M q a b) := by
  have o := List.all_eq_true.mp all_rk q h
  unfold okRk at o
  simp only [Bool.and_eq_true] at o
  have t := of_below (of_below o.1.2 ha) hb
  split at t
  · rename_i e
    rw [if_pos e]
    exact of_decide_eq_true t
  · rename_i e
    rw [if_neg e]
    split at t
    · rename_i e2
      rw [if_pos e2]
      exact of_decide_eq_true t
    · rename_i e2
      rw [if_neg e2]
      exact of_decide_eq_true t
theorem rk_ix {a : Nat} (ha : a < q) (h0 : a ≠ 0) (hp : pwl q ≠ []) : (pwl q)[ixo (pwl q) a]? = some a ∧ ∀ m, m < ixo (pwl q) a → (pwl q)[m]? ≠ some a := by
  have o := List.all_eq_true.mp all_rk q h
  unfold okRk at o
  simp only [Bool.and_eq_true] at o
  have t := of_below o.2 ha
  simp only [Bool.or_eq_true, Bool.and_eq_true, decide_eq_true_eq] at t
  rcases t with (t | t) | t
  · exact absurd t h0
  · exact absurd t hp
  · exact ⟨t.1, fun m hm => of_decide_eq_true (of_below t.2 hm)⟩
end
end Cnt
namespace BP
open PySem PySem.Spec PyProof.Rows L2 Fld
theorem pw_merge {t1 t2 t3 t4 : Addr} : mergeK [] [((.inl 4 : Key), V.ref t1), (.inl 8, .ref t2), (.inl 9, .ref t3), (.inl 16, .ref t4)] = [(.inl 4, .ref t1), (.inl 8, .ref t2), (.inl 9, .ref t3), (.inl 16, .ref t4)] := by
  simp [mergeK, putK]
/-- q is 4, 8 or 16 -/
theorem t_bin {K : PySem.W.Frag} {q : Nat} {r : L2.St} {H : Hp} {Q : Bool → Hp → Prop} (k : ∀ H', Same H H' → Q (Cnt.bin q) H') :
    tTest (tOp (rIn K false) (tVar 0) (tTup (tCons (tC (V.int 4)) (tCons (tC (V.int 8)) (tCons (tC (V.int 16)) tNil))))) (some (.int q) :: r) H Q := by
  refine ⟨.int q, rfl, (by show 3 ≤ sizeLine; decide), fun t nt => ⟨t, _, rfl, .inr (.inl (.inl upd_same)), rfl, rfl, _, rfl, ?_⟩⟩
  have e2 : inV (V.int q) [V.int 4, V.int 8, V.int 16] = Cnt.bin q := by
    unfold inV Cnt.bin
    simp only [List.any_cons, List.any_nil, eqV, Bool.or_false]
    have b : ∀ n : Nat, (((n : Nat) : Int) == (q : Int)) = (q == n) := by
      intro n
      by_cases e : q = n
      · rw [e]
        simp
      · have e' : ¬ ((n : Int) = (q : Int)) := by omega
        rw [beq_eq_false_iff_ne.mpr e, beq_eq_false_iff_ne.mpr e']
    rw [← b 4, ← b 8, ← b 16, Bool.or_assoc]
    rfl
  show Q (if false = true then !inV (V.int q) [V.int 4, V.int 8, V.int 16] else inV (V.int q) [V.int 4, V.int 8, V.int 16]) _
  rw [if_neg (by decide), e2]
  exact k _ (same_new nt)
theorem nine {q : Nat} : decide (V.int (q : Nat) = V.int 9) = decide (q = 9) := by
  by_cases e : q = 9
  · subst e
    rfl
  · rw [decide_eq_false e, decide_eq_false fun z => e (by have := V.int.inj z; omega)]
abbrev datT (ns : List Nat) : PyData := .tuple (ns.map fun n => PyData.int (n : Nat))
theorem dp_natsT {K : PySem.W.Frag} {H : Hp} {a : Addr} {ns : List Nat} (h : SqT K H a (iv ns)) : Dp K H (.ref a) (datT ns) := .tup h (dpAll_nats ns)
theorem shaped_natsT (ns : List Nat) : SeqAt.shaped (datT ns) = true := by
  unfold SeqAt.shaped datT
  have e : (ns.map fun n => PyData.int (n : Nat)) = (ns.map fun (n : Nat) => (n : Int)).map PyData.int := by
    rw [List.map_map]
    rfl
  rw [e]
  simp only [PyData.canLay0, canLay_ints, PyData.depth, depth_ints]
  decide
theorem eqvT_nil (ns : List Nat) : PyData.eqv (datT ns) (.tuple []) = ns.isEmpty := by
  cases ns with
  | nil => simp [PyData.eqv, PyData.eqvAll]
  | cons n r => simp [PyData.eqv, PyData.eqvAll]
def Frz (H : Hp) (r : Addr) (xs : List V) : Prop := ∃ b : Obj, b.cls = .type "tuple" ∧ b.dict = none ∧ H r = some (.frz b (.tup xs))
def spPws (K : PySem.W.Frag) : Sp := fun vs H Q _ => ∃ q : Nat, vs = [.int q] ∧ q ∈ fields ∧ ∀ r H', Same H H' → SqT K H' r (iv (Cnt.pwl q)) → (Cnt.pwl q ≠ [] → Frz H' r (iv (Cnt.pwl q))) → Q (.ref r) H'
def spS : Sp := fun vs H Q _ => ∃ q a b : Nat, vs = [.int q, .int a, .int b] ∧ q ∈ fields ∧ a < q ∧ b < q ∧ ∀ H', Same H H' → Q (.int (S q a b : Nat)) H'
def spM : Sp := fun vs H Q _ => ∃ q a b : Nat, vs = [.int q, .int a, .int b] ∧ q ∈ fields ∧ a < q ∧ b < q ∧ ∀ H', Same H H' → Q (.int (M q a b : Nat)) H'
def spN : Sp := fun vs H Q _ => ∃ q a : Nat, vs = [.int q, .int a] ∧ q ∈ fields ∧ a < q ∧ ∀ H', Same H H' → Q (.int (Cnt.ng q a : Nat)) H'
end BP
namespace K16
open PySem PySem.Spec PyProof.Rows L2 BP Fld
section
variable {P : Program} {w : World} {K : PySem.W.Frag} {mg : Str → Option Value} {base : Heap}
theorem ok_powers {f : Addr} {fd : FuncData} {k : Nat} (F : Fun K "_law_powers" "_law_powers" sLPowers f fd) : FnOk P w K mg base CX0 (k + 1) f fd pLPowers (spPws K) := by
  refine F.ok scLPowers (fun vs H Q E h => ?_) (fun cdv A outer s H vs Q E hr h => ?_)
  · obtain ⟨q, rfl, _⟩ := h
    rfl
  · obtain ⟨q, rfl, hq, want⟩ := h
    have hu := hu_of hr
    refine ⟨_, (pss_one (ps_ret (pe_dget2 hu (pe_disp (pps_cons pe_int (pe_tupF (pa_cons pe_int (pa_cons pe_int (pa_cons pe_int pa_nil)))) (pps_cons pe_int (pe_tupF (pa_cons pe_int (pa_cons pe_int (pa_cons pe_int (pa_cons pe_int (pa_cons pe_int (pa_cons pe_int (pa_cons pe_int pa_nil)))))))) (pps_cons pe_int (pe_tupF (pa_cons pe_int (pa_cons pe_int (pa_cons pe_int (pa_cons pe_int (pa_cons pe_int (pa_cons pe_int (pa_cons pe_int (pa_cons pe_int pa_nil))))))))) (pps_cons pe_int (pe_tupF (pa_cons pe_int (pa_cons pe_int (pa_cons pe_int (pa_cons pe_int (pa_cons pe_int (pa_cons pe_int (pa_cons pe_int (pa_cons pe_int (pa_cons pe_int (pa_cons pe_int (pa_cons pe_int (pa_cons pe_int (pa_cons pe_int (pa_cons pe_int (pa_cons pe_int pa_nil)))))))))))))))) pps_nil)))) (by rfl) (by rfl) (fun z => by cases z) (by decide)) (pv 0) (pe_tup pa_nil) ⟨rfl, rfl, rfl, rfl⟩))), ?_⟩
    refine fun d nd => ⟨(by show 3 ≤ sizeLine; decide), fun t1 b1 c1 d1 n1 => ⟨(by show 7 ≤ sizeLine; decide), fun t2 b2 c2 d2 n2 => ⟨(by show 8 ≤ sizeLine; decide), fun t3 b3 c3 d3 n3 => ⟨(by show 15 ≤ sizeLine; decide), fun t4 b4 c4 d4 n4 => ?_⟩⟩⟩⟩
    have s0 := same_new (o := .dK ([] : List (Key × V))) nd
    have hd0 := upd_same (H := H) (a := d) (o := HO.dK ([] : List (Key × V)))
    generalize upd H d (.dK ([] : List (Key × V))) = H0 at s0 hd0 n1 n2 n3 n4 ⊢
    have s1 := same_new (o := .frz b1 (.tup [V.int 1, V.int 2, V.int 3])) n1
    have e1 := upd_same (H := H0) (a := t1) (o := HO.frz b1 (.tup [V.int 1, V.int 2, V.int 3]))
    generalize upd H0 t1 (.frz b1 (.tup [V.int 1, V.int 2, V.int 3])) = H1 at s1 e1 n2 n3 n4 ⊢
    have s2 := same_new (o := .frz b2 (.tup [V.int 1, V.int 2, V.int 4, V.int 3, V.int 6, V.int 7, V.int 5])) n2
    have e2 := upd_same (H := H1) (a := t2) (o := HO.frz b2 (.tup [V.int 1, V.int 2, V.int 4, V.int 3, V.int 6, V.int 7, V.int 5]))
    generalize upd H1 t2 (.frz b2 (.tup [V.int 1, V.int 2, V.int 4, V.int 3, V.int 6, V.int 7, V.int 5])) = H2 at s2 e2 n3 n4 ⊢
    have s3 := same_new (o := .frz b3 (.tup [V.int 1, V.int 3, V.int 4, V.int 7, V.int 2, V.int 6, V.int 8, V.int 5])) n3
    have e3 := upd_same (H := H2) (a := t3) (o := HO.frz b3 (.tup [V.int 1, V.int 3, V.int 4, V.int 7, V.int 2, V.int 6, V.int 8, V.int 5]))
    generalize upd H2 t3 (.frz b3 (.tup [V.int 1, V.int 3, V.int 4, V.int 7, V.int 2, V.int 6, V.int 8, V.int 5])) = H3 at s3 e3 n4 ⊢
    have s4 := same_new (o := .frz b4 (.tup [V.int 1, V.int 2, V.int 4, V.int 8, V.int 3, V.int 6, V.int 12, V.int 11, V.int 5, V.int 10, V.int 7, V.int 14, V.int 15, V.int 13, V.int 9])) n4
    have e4 := upd_same (H := H3) (a := t4) (o := HO.frz b4 (.tup [V.int 1, V.int 2, V.int 4, V.int 8, V.int 3, V.int 6, V.int 12, V.int 11, V.int 5, V.int 10, V.int 7, V.int 14, V.int 15, V.int 13, V.int 9]))
    generalize upd H3 t4 (.frz b4 (.tup [V.int 1, V.int 2, V.int 4, V.int 8, V.int 3, V.int 6, V.int 12, V.int 11, V.int 5, V.int 10, V.int 7, V.int 14, V.int 15, V.int 13, V.int 9])) = HT at s4 e4 ⊢
    have hd := s4 _ _ (s3 _ _ (s2 _ _ (s1 _ _ hd0)))
    have h1 := s4 _ _ (s3 _ _ (s2 _ _ e1))
    have h2 := s4 _ _ (s3 _ _ e2)
    have h3 := s4 _ _ e3
    have sA : Same H HT := s0.trans (s1.trans (s2.trans (s3.trans s4)))
    refine ⟨hd, [(.inl 4, .ref t1), (.inl 8, .ref t2), (.inl 9, .ref t3), (.inl 16, .ref t4)], rfl, (by show 4 ≤ 15; decide), ?_⟩
    rw [pw_merge]
    have sB : Same H (upd HT d (.dK [(.inl 4, .ref t1), (.inl 8, .ref t2), (.inl 9, .ref t3), (.inl 16, .ref t4)])) := same_upd sA nd
    have hdT : (upd HT d (.dK [(.inl 4, V.ref t1), (.inl 8, .ref t2), (.inl 9, .ref t3), (.inl 16, .ref t4)])) d = some (.dK [(.inl 4, V.ref t1), (.inl 8, .ref t2), (.inl 9, .ref t3), (.inl 16, .ref t4)]) := upd_same
    have kp : ∀ {c : Addr} {o : HO}, HT c = some o → c ≠ d → (upd HT d (.dK [(.inl 4, V.ref t1), (.inl 8, .ref t2), (.inl 9, .ref t3), (.inl 16, .ref t4)])) c = some o := by
      intro c o e n
      rw [upd_ne n]
      exact e
    have g1 := kp h1 (ne_of h1 hd (by intro z; cases z))
    have g2 := kp h2 (ne_of h2 hd (by intro z; cases z))
    have g3 := kp h3 (ne_of h3 hd (by intro z; cases z))
    have g4 := kp e4 (ne_of e4 hd (by intro z; cases z))
    generalize upd HT d (.dK [(.inl 4, V.ref t1), (.inl 8, .ref t2), (.inl 9, .ref t3), (.inl 16, .ref t4)]) = HU at sB hdT g1 g2 g3 g4 ⊢
    refine ⟨d, rfl, .inl ⟨_, .inl hdT⟩, .int q, rfl, Nat.zero_le _, fun p np => ?_⟩
    have sp := same_new (o := .tup ([] : List V)) np
    have none' : Cnt.pwl q = [] → Q (.ref p) (upd HU p (.tup [])) := fun e => want p _ (sB.trans sp) (by rw [e]; exact .inl (.inl upd_same)) fun z => absurd e z
    have some' : ∀ (r : Addr) (l : List Nat) (b : Obj), b.cls = .type "tuple" → b.dict = none → Cnt.pwl q = l → HU r = some (.frz b (.tup (iv l))) → Q (.ref r) (upd HU p (.tup [])) := fun r l b z1 z2 e h => want r _ (sB.trans sp) (by rw [e]; exact .inl (.inr ⟨b, sp _ _ h⟩)) fun _ => ⟨b, z1, z2, by rw [e]; exact sp _ _ h⟩
    have dg := fun k : Key => DGet.k (k := k) (sp _ _ hdT)
    have hq' := hq
    simp only [fields, List.mem_cons, List.not_mem_nil, or_false] at hq'
    rcases hq' with rfl | rfl | rfl | rfl | rfl | rfl | rfl | rfl | rfl | rfl
    · exact ⟨_, dg (.inl 2), none' rfl⟩
    · exact ⟨_, dg (.inl 3), none' rfl⟩
    · exact ⟨_, dg (.inl 4), some' t1 [1, 2, 3] b1 c1 d1 rfl g1⟩
    · exact ⟨_, dg (.inl 5), none' rfl⟩
    · exact ⟨_, dg (.inl 7), none' rfl⟩
    · exact ⟨_, dg (.inl 8), some' t2 [1, 2, 4, 3, 6, 7, 5] b2 c2 d2 rfl g2⟩
    · exact ⟨_, dg (.inl 9), some' t3 [1, 3, 4, 7, 2, 6, 8, 5] b3 c3 d3 rfl g3⟩
    · exact ⟨_, dg (.inl 11), none' rfl⟩
    · exact ⟨_, dg (.inl 13), none' rfl⟩
    · exact ⟨_, dg (.inl 16), some' t4 [1, 2, 4, 8, 3, 6, 12, 11, 5, 10, 7, 14, 15, 13, 9] b4 c4 d4 rfl g4⟩
theorem ok_plus {f : Addr} {fd : FuncData} {k : Nat} (F : Fun K "_law_plus" "_law_plus" sLPlus f fd) (m_int : mg "int" = none) : FnOk P w K mg base CX0 (k + 1) f fd pLPlus spS := by
  refine F.ok scLPlus (fun vs H Q E h => ?_) (fun cdv A outer s H vs Q E hr h => ?_)
  · obtain ⟨q, a, b, rfl, _⟩ := h
    rfl
  · obtain ⟨q, a, b, rfl, hq, ha, hb, want⟩ := h
    refine ⟨_, (pss_cons (ps_if (pt_cmpR op_in_seq (pv 0) (pe_tup (pa_cons pe_int (pa_cons pe_int (pa_cons pe_int pa_nil)))) rfl) (pss_one (ps_ret (pe_op op_xor (pv 1) (pv 2)))) pss_nil)
      (pss_cons (ps_if (pt_cmpR op_eq (pv 0) pe_int (nomark _)) (pss_one (ps_ret (pe_op op_add (pe_op op_mul pe_int (pe_op op_mod (pe_callTy call_int1 (by rfl) m_int (by decide +kernel) (pa_cons (pe_op op_add (pe_op op_fdiv (pv 1) pe_int) (pe_op op_fdiv (pv 2) pe_int)) pa_nil)) pe_int)) (pe_op op_mod (pe_callTy call_int1 (by rfl) m_int (by decide +kernel) (pa_cons (pe_op op_add (pv 1) (pv 2)) pa_nil)) pe_int)))) pss_nil)
      (pss_one (ps_ret (pe_op op_mod (pe_callTy call_int1 (by rfl) m_int (by decide +kernel) (pa_cons (pe_op op_add (pv 1) (pv 2)) pa_nil)) (pv 0)))))), ?_⟩
    have tb := Cnt.rk_plus hq ha hb
    have q1 := gt1 hq
    refine t_bin fun H' s1 => ite2 (fun hb => ?_) (fun hb => ?_)
    · rw [if_pos hb] at tb
      refine ⟨.int a, rfl, .int b, rfl, a, b, rfl, rfl, ?_⟩
      show Q (.int (Builtin.bitXor (a : Int) (b : Int))) H'
      rw [tb]
      exact want H' s1
    · rw [if_neg hb] at tb
      refine ⟨.int q, rfl, rfl, _, rfl, ?_⟩
      rw [nine]
      refine ite2 (fun h9 => ?_) (fun h9 => ?_)
      · rw [if_pos (of_decide_eq_true h9)] at tb
        refine ⟨.int a, rfl, a, 3, rfl, rfl, ⟨by decide, by decide⟩, .int b, rfl, b, 3, rfl, rfl, ⟨by decide, by decide⟩, _, _, rfl, rfl, .inl ⟨_, rfl, _, 3, rfl, rfl, (by show (0 : Int) < 3; decide), 3, _, rfl, rfl, .inl ⟨by decide, by decide⟩, .int a, rfl, .int b, rfl, a, b, rfl, rfl, .inl ⟨_, rfl, _, 3, rfl, rfl, (by show (0 : Int) < 3; decide), _, _, rfl, rfl, ?_⟩⟩⟩
        show Q (.int (3 * (((a : Int) / 3 + (b : Int) / 3) % 3) + ((a : Int) + b) % 3)) H'
        rw [tb]
        exact want H' s1
      · rw [if_neg fun z => h9 (decide_eq_true z)] at tb
        refine ⟨.int a, rfl, .int b, rfl, a, b, rfl, rfl, .inl ⟨_, rfl, .int q, rfl, _, q, rfl, rfl, by show (0 : Int) < (q : Int); omega, ?_⟩⟩
        show Q (.int (((a : Int) + b) % (q : Int))) H'
        rw [tb]
        exact want H' s1
theorem ok_by {f fP : Addr} {fd fdP : FuncData} (F : Fun K "_law_by" "_law_by" sLBy f fd) (PWS : BP.Can P w K mg base "_law_powers" 1 pLPowers (spPws K) fP fdP) (m_int : mg "int" = none) : FnOk P w K mg base CX0 2 f fd pLBy spM := by
  refine F.ok scLBy (fun vs H Q E h => ?_) (fun cdv A outer s H vs Q E hr h => ?_)
  · obtain ⟨q, a, b, rfl, _⟩ := h
    rfl
  · obtain ⟨q, a, b, rfl, hq, ha, hb, want⟩ := h
    refine ⟨_, (pss_cons (ps_set (i := 3) scLBy.nd rfl (.inl rfl) (pe_call PWS.ok hr (by rfl) PWS.g PWS.kp PWS.b .nil pass0 (pa_cons (pv 0) pa_nil)))
      (pss_cons (ps_if (pt_cmpR (op_eqD hr.units) (pv 3) (pe_tup pa_nil) (nomark _)) (pss_one (ps_ret (pe_op op_mod (pe_callTy call_int1 (by rfl) m_int (by decide +kernel) (pa_cons (pe_op op_mul (pv 1) (pv 2)) pa_nil)) (pv 0)))) pss_nil)
      (pss_cons (ps_if (PW.pt (pw_or (pt_cmpR op_eq (pv 1) pe_int (nomark _)) (pw_or1 (pt_cmpR op_eq (pv 2) pe_int (nomark _))))) (pss_one (ps_ret pe_int)) pss_nil)
      (pss_one (ps_ret (pe_ix ix_tup (pv 3) (pe_op op_mod (pe_callTy call_int1 (by rfl) m_int (by decide +kernel) (pa_cons (pe_op op_add (pe_ixT (pv 3) (pv 1) ⟨rfl, rfl, rfl, rfl⟩) (pe_ixT (pv 3) (pv 2) ⟨rfl, rfl, rfl, rfl⟩)) pa_nil)) (pe_op op_sub (pv 0) pe_int)) (fun _ _ => rfl))))))), ?_⟩
    have tb := Cnt.rk_by hq ha hb
    have q1 := gt1 hq
    have q16 := le16 hq
    refine ⟨.int q, rfl, q, rfl, hq, fun r H1 s1 hr1 hz1 => ?_⟩
    refine ⟨.ref r, rfl, Nat.zero_le _, fun p np => ⟨_, .tuple [], dp_natsT (BP.Same.tupS (same_new (o := .tup ([] : List V)) np) hr1), dp_natsT (ns := []) (.inl (.inl upd_same)), shaped_natsT _, shaped_natsT [], _, rfl, ?_⟩⟩
    have s2 := s1.trans (same_new (o := .tup ([] : List V)) np)
    have hr2 := BP.Same.tupS (same_new (o := .tup ([] : List V)) np) hr1
    have hz2 : Cnt.pwl q ≠ [] → Frz (upd H1 p (.tup ([] : List V))) r (iv (Cnt.pwl q)) := fun z => by
      obtain ⟨b, z1, z2, z3⟩ := hz1 z
      exact ⟨b, z1, z2, same_new np _ _ z3⟩
    generalize upd H1 p (.tup ([] : List V)) = H2 at s2 hr2 hz2 ⊢
    rw [eqvT_nil]
    refine ite2 (fun he => ?_) (fun he => ?_)
    · rw [if_pos (by simpa using he)] at tb
      refine ⟨.int a, rfl, .int b, rfl, a, b, rfl, rfl, .inl ⟨by omega, by omega⟩, .inl ⟨_, rfl, .int q, rfl, _, q, rfl, rfl, by show (0 : Int) < (q : Int); omega, ?_⟩⟩
      show Q (.int (((a : Int) * b) % (q : Int))) H2
      rw [← Int.natCast_mul, ← Int.natCast_emod, ← tb]
      exact want H2 s2
    · have hp : Cnt.pwl q ≠ [] := by simpa using he
      rw [if_neg hp] at tb
      have z0 : ∀ n : Nat, decide (V.int (n : Nat) = V.int 0) = decide (n = 0) := by
        intro n
        by_cases e : n = 0
        · subst e
          rfl
        · rw [decide_eq_false e, decide_eq_false fun z => e (by have := V.int.inj z; omega)]
      have zero : (a = 0 ∨ b = 0) → Q (.int 0) H2 := by
        intro h
        rw [if_pos h] at tb
        have := want H2 s2
        rw [tb] at this
        exact this
      refine ⟨.int a, rfl, rfl, _, rfl, ?_⟩
      rw [z0]
      refine ite2 (fun ha0 => iteT (zero (.inl (of_decide_eq_true ha0)))) (fun ha0 => ⟨.int b, rfl, rfl, _, rfl, ?_⟩)
      have ha0 : a ≠ 0 := fun z => ha0 (decide_eq_true z)
      rw [z0]
      refine ite2 (fun hb0 => zero (.inr (of_decide_eq_true hb0))) (fun hb0 => ?_)
      have hb0 : b ≠ 0 := fun z => hb0 (decide_eq_true z)
      rw [if_neg (by omega)] at tb
      obtain ⟨i1, i2⟩ := Cnt.rk_ix hq ha ha0 hp
      obtain ⟨j1, j2⟩ := Cnt.rk_ix hq hb hb0 hp
      have ew : iv (Cnt.pwl q) = ((Cnt.pwl q).map fun n => ((n : Nat) : Int)).map V.int := by
        rw [List.map_map]
        rfl
      have at1 : ∀ (l : List Nat) (i x : Nat), l[i]? = some x → (l.map fun n => ((n : Nat) : Int))[i]? = some (x : Int) := by
        intro l i x h
        rw [List.getElem?_map, h]
        rfl
      have at2 : ∀ (l : List Nat) (i x : Nat), l[i]? ≠ some x → (l.map fun n => ((n : Nat) : Int))[i]? ≠ some (x : Int) := by
        intro l i x h z
        rw [List.getElem?_map] at z
        cases e : l[i]? with
        | none =>
          rw [e] at z
          cases z
        | some y =>
          rw [e] at z
          have : ((y : Nat) : Int) = (x : Int) := Option.some.inj z
          exact h (by rw [e]; congr 1; omega)
      obtain ⟨bo, z1, z2, z3⟩ := hz2 hp
      rw [ew] at hr2
      refine ⟨.ref r, rfl, .ref r, rfl, r, bo, _, rfl, z3, z1, z2, .int a, rfl, r, _, (a : Nat), _, rfl, rfl, hr2, at1 _ _ _ i1, fun m hm => at2 _ _ _ (i2 m hm), .ref r, rfl, r, bo, _, rfl, z3, z1, z2, .int b, rfl, r, _, (b : Nat), _, rfl, rfl, hr2, at1 _ _ _ j1, fun m hm => at2 _ _ _ (j2 m hm), _, _, rfl, rfl, .inl ⟨_, rfl, .int q, rfl, q, 1, rfl, rfl, _, _, rfl, rfl, (by show (0 : Int) < (q : Int) - 1; omega), r, _, (((Cnt.ixo (Cnt.pwl q) a + Cnt.ixo (Cnt.pwl q) b) % (q - 1) : Nat) : Int), V.int (M q a b : Nat), rfl, ?_, hr2, ?_, want H2 s2⟩⟩
      · show V.int ((((Cnt.ixo (Cnt.pwl q) a : Nat) : Int) + ((Cnt.ixo (Cnt.pwl q) b : Nat) : Int)) % ((q : Int) - 1)) = _
        rw [show ((q : Int) - 1) = ((q - 1 : Nat) : Int) by omega, ← Int.natCast_add, ← Int.natCast_emod]
      · rw [← ew]
        refine atI_nat ?_
        unfold iv
        rw [List.getElem?_map, tb]
        rfl
theorem ok_less {f : Addr} {fd : FuncData} {k : Nat} (F : Fun K "_law_less" "_law_less" sLLess f fd) (m_int : mg "int" = none) : FnOk P w K mg base CX0 (k + 1) f fd pLLess spN := by
  refine F.ok scLLess (fun vs H Q E h => ?_) (fun cdv A outer s H vs Q E hr h => ?_)
  · obtain ⟨q, a, rfl, _⟩ := h
    rfl
  · obtain ⟨q, a, rfl, hq, ha, want⟩ := h
    refine ⟨_, (pss_cons (ps_if (pt_cmpR op_in_seq (pv 0) (pe_tup (pa_cons pe_int (pa_cons pe_int (pa_cons pe_int pa_nil)))) rfl) (pss_one (ps_ret (pv 1))) pss_nil)
      (pss_cons (ps_if (pt_cmpR op_eq (pv 0) pe_int (nomark _)) (pss_one (ps_ret (pe_op op_add (pe_op op_mul pe_int (pe_op op_mod (pe_callTy call_int1 (by rfl) m_int (by decide +kernel) (pa_cons (pe_op op_sub pe_int (pe_op op_fdiv (pv 1) pe_int)) pa_nil)) pe_int)) (pe_op op_mod (pe_callTy call_int1 (by rfl) m_int (by decide +kernel) (pa_cons (pe_op op_sub pe_int (pv 1)) pa_nil)) pe_int)))) pss_nil)
      (pss_one (ps_ret (pe_op op_mod (pe_callTy call_int1 (by rfl) m_int (by decide +kernel) (pa_cons (pe_op op_sub pe_int (pv 1)) pa_nil)) (pv 0)))))), ?_⟩
    have tb := Cnt.rk_less hq ha
    have q1 := gt1 hq
    refine t_bin fun H' s1 => ite2 (fun hb => ?_) (fun hb => ?_)
    · rw [if_pos hb] at tb
      refine ⟨.int a, rfl, ?_⟩
      have := want H' s1
      rw [← tb] at this
      exact this
    · rw [if_neg hb] at tb
      refine ⟨.int q, rfl, rfl, _, rfl, ?_⟩
      rw [nine]
      refine ite2 (fun h9 => ?_) (fun h9 => ?_)
      · rw [if_pos (of_decide_eq_true h9)] at tb
        refine ⟨.int a, rfl, a, 3, rfl, rfl, ⟨by decide, by decide⟩, 0, _, rfl, rfl, .inl ⟨_, rfl, _, 3, rfl, rfl, (by show (0 : Int) < 3; decide), 3, _, rfl, rfl, .inl ⟨by decide, by decide⟩, .int a, rfl, 0, a, rfl, rfl, .inl ⟨_, rfl, _, 3, rfl, rfl, (by show (0 : Int) < 3; decide), _, _, rfl, rfl, ?_⟩⟩⟩
        show Q (.int (3 * ((0 - (a : Int) / 3) % 3) + (0 - (a : Int)) % 3)) H'
        rw [tb]
        exact want H' s1
      · rw [if_neg fun z => h9 (decide_eq_true z)] at tb
        refine ⟨.int a, rfl, 0, a, rfl, rfl, .inl ⟨_, rfl, .int q, rfl, _, q, rfl, rfl, by show (0 : Int) < (q : Int); omega, ?_⟩⟩
        show Q (.int ((0 - (a : Int)) % (q : Int))) H'
        rw [tb]
        exact want H' s1
end
end K16
set_option Elab.async false
set_option linter.all false
set_option maxRecDepth 100000
set_option maxHeartbeats 4000000
set_option pp.maxSteps 1000
namespace Cnt
open Fld
theorem oft1_len (q a : Nat) (l : List Nat) (m : Nat) : (oft1 q a l m).length = l.length := by
  unfold oft1
  induction m with
  | zero => rfl
  | succ m ih => rw [foldl_succ, bump_len, ih]
theorem oft_len (q n : Nat) : (oft q n).length = q := by
  unfold oft
  induction n with
  | zero => exact List.length_replicate ..
  | succ n ih => rw [foldl_succ, oft1_len, ih]
theorem mps1_len (q : Nat) (o : List Nat) (a : Nat) (l : List Nat) (m : Nat) : (mps1 q o a l m).length = l.length := by
  unfold mps1
  induction m with
  | zero => rfl
  | succ m ih => rw [foldl_succ, bump_len, ih]
theorem mps_len (q : Nat) (o : List Nat) (n : Nat) : (mps q o n).length = q := by
  unfold mps
  induction n with
  | zero => exact List.length_replicate ..
  | succ n ih => rw [foldl_succ, mps1_len, ih]
theorem oft1_succ (q a : Nat) (l : List Nat) (m : Nat) : oft1 q a l (m + 1) = bump (oft1 q a l m) (M q a m) 1 := foldl_succ _ _ _
theorem oft_succ (q n : Nat) : oft q (n + 1) = oft1 q n (oft q n) q := foldl_succ _ _ _
theorem mps1_succ (q : Nat) (o : List Nat) (a : Nat) (l : List Nat) (m : Nat) : mps1 q o a l (m + 1) = bump (mps1 q o a l m) (S q a (ng q m)) (o.getD a 0 * o.getD m 0 * q * q) := foldl_succ _ _ _
theorem all_oft : fields.all (fun q => (oft q q).all fun n => decide (n ≤ 1000)) = true := by decide +kernel
theorem oft_le {q : Nat} (h : q ∈ fields) (i : Nat) : (oft q q).getD i 0 ≤ 1000 := by
  have o := List.all_eq_true.mp all_oft q h
  rw [List.getD_eq_getElem?_getD]
  cases e : (oft q q)[i]? with
  | none => exact Nat.zero_le _
  | some n => exact of_decide_eq_true (List.all_eq_true.mp o n (List.mem_of_getElem? e))
theorem mps_succ (q : Nat) (o : List Nat) (n : Nat) : mps q o (n + 1) = mps1 q o n (mps q o n) q := foldl_succ _ _ _
end Cnt
namespace BP
open PySem PySem.Spec PyProof.Rows L2 Fld
def spMps : Sp := fun vs H Q _ => ∃ q : Nat, vs = [.int q] ∧ q ∈ fields ∧ ∀ r H', Same H H' → H r = none → H' r = some (.lst (iv (Cnt.mp q))) → Q (.ref r) H'
theorem ixN_nat {n k : Nat} (h : k < n) : ixN n (k : Int) = some k := by
  unfold ixN
  rw [if_pos (by omega), if_pos (by omega)]
  simp
theorem same_upd2 {H' : Hp} {p : Addr} {o : HO} {c : Addr} {x : HO} (e : H' c = some x) (n : c ≠ p) : (upd H' p o) c = some x := by
  rw [upd_ne n]
  exact e
theorem iv_zeros (q : Nat) : (List.replicate q [V.int 0]).flatten = iv (Cnt.zeros q) := by
  unfold Cnt.zeros iv
  induction q with
  | zero => rfl
  | succ q ih => rw [List.replicate_succ, List.flatten_cons, ih, List.replicate_succ]; rfl
theorem iv_getD {l : List Nat} {i : Nat} (h : i < l.length) : (iv l)[i]? = some (.int (l.getD i 0 : Nat)) := by
  unfold iv
  rw [List.getElem?_map, List.getD_eq_getElem?_getD, List.getElem?_eq_getElem h]
  rfl
theorem iv_bump (l : List Nat) (i x : Nat) : (iv l).set i (.int ((l.getD i 0 : Nat) + (x : Int))) = iv (Cnt.bump l i x) := by
  unfold iv Cnt.bump
  rw [List.map_set]
  rfl
end BP
namespace K16
open PySem PySem.Spec PyProof.Rows L2 BP Fld
section
variable {P : Program} {w : World} {K : PySem.W.Frag} {mg : Str → Option Value} {base : Heap}
theorem ok_maps {f fB fS fN : Addr} {fd fdB fdS fdN : FuncData} (F : Fun K "_law_maps" "_law_maps" sLMaps f fd) (BY : BP.Can P w K mg base "_law_by" 2 pLBy spM fB fdB) (PLS : BP.Can P w K mg base "_law_plus" 1 pLPlus spS fS fdS) (LES : BP.Can P w K mg base "_law_less" 1 pLLess spN fN fdN) (m_range : mg "range" = none) : FnOk P w K mg base CX0 3 f fd pLMaps spMps := by
  refine F.ok scLMaps (fun vs H Q E h => ?_) (fun cdv A outer s H vs Q E hr h => ?_)
  · obtain ⟨q, rfl, _⟩ := h
    rfl
  · obtain ⟨q, rfl, hq, want⟩ := h
    have q16 := le16 hq
    have q1 := gt1 hq
    refine ⟨_, (pss_cons (ps_par (i := 1) (j := 2) (by rfl) scLMaps.nd rfl rfl (by decide) rfl rfl (pa_cons (pe_op op_rep (pe_lst (pa_cons pe_int pa_nil)) (pv 0)) (pa_cons (pe_op op_rep (pe_lst (pa_cons pe_int pa_nil)) (pv 0)) pa_nil)) (by rfl))
      (pss_cons (ps_for PassesOwn.never rfl (pi_range1 rfl m_range (pa_cons (pv 0) pa_nil)) (pg_name (i := 3) scLMaps.nd rfl (.inl rfl)) (pss_one (ps_for PassesOwn.never rfl (pi_range1 rfl m_range (pa_cons (pv 0) pa_nil)) (pg_name (i := 4) scLMaps.nd rfl (.inl rfl)) (pss_cons (ps_set (i := 5) scLMaps.nd rfl (.inl rfl) (pe_call BY.ok hr (by rfl) BY.g BY.kp BY.b .nil pass0 (pa_cons (pv 0) (pa_cons (pv 3) (pa_cons (pv 4) pa_nil)))))
          (pss_one (ps_asg (pe_op op_add (pe_ix ix_list (pv 1) (pv 5) (fun _ _ => rfl)) pe_int) (pg_sub (pv 1) (pv 5) set_list)))))))
      (pss_cons (ps_for PassesOwn.never rfl (pi_range1 rfl m_range (pa_cons (pv 0) pa_nil)) (pg_name (i := 6) scLMaps.nd rfl (.inl rfl)) (pss_one (ps_for PassesOwn.never rfl (pi_range1 rfl m_range (pa_cons (pv 0) pa_nil)) (pg_name (i := 7) scLMaps.nd rfl (.inl rfl)) (pss_cons (ps_set (i := 5) scLMaps.nd rfl (.inl rfl) (pe_call PLS.ok (hr.mono (show 1 ≤ 2 by decide)) (by rfl) PLS.g PLS.kp PLS.b .nil pass0 (pa_cons (pv 0) (pa_cons (pv 6) (pa_cons (pe_call LES.ok (hr.mono (show 1 ≤ 2 by decide)) (by rfl) LES.g LES.kp LES.b .nil pass0 (pa_cons (pv 0) (pa_cons (pv 7) pa_nil))) pa_nil)))))
          (pss_one (ps_asg (pe_op op_add (pe_ix ix_list (pv 2) (pv 5) (fun _ _ => rfl)) (pe_op op_mul (pe_op op_mul (pe_op op_mul (pe_ix ix_list (pv 1) (pv 6) (fun _ _ => rfl)) (pe_ix ix_list (pv 1) (pv 7) (fun _ _ => rfl))) (pv 0)) (pv 0))) (pg_sub (pv 2) (pv 5) set_list)))))))
      (pss_one (ps_ret (pv 2)))))), ?_⟩
    refine ⟨(by show 1 ≤ sizeLine; decide), fun p1 n1 => ⟨.int q, rfl, p1, q, _, rfl, rfl, upd_same, by omega, by omega, ?_, fun O nO => ⟨(by show 1 ≤ sizeLine; decide), fun p2 n2 => ⟨.int q, rfl, p2, q, _, rfl, rfl, upd_same, by omega, by omega, ?_, fun F0 nF => ?_⟩⟩⟩⟩
    · exact Nat.le_trans (show 1 * (q : Int).toNat ≤ 16 by omega) (by decide)
    · exact Nat.le_trans (show 1 * (q : Int).toNat ≤ 16 by omega) (by decide)
    rw [Int.toNat_natCast, iv_zeros] at *
    have s1 := same_new (o := .lst [V.int 0]) n1
    have nO0 := BP.none_of s1 nO
    have s2 := s1.trans (same_new (o := .lst (iv (Cnt.zeros q))) nO)
    have hO2 := upd_same (H := upd H p1 (.lst [V.int 0])) (a := O) (o := HO.lst (iv (Cnt.zeros q)))
    generalize upd (upd H p1 (.lst [V.int 0])) O (.lst (iv (Cnt.zeros q))) = H2 at s2 hO2 n2 nF ⊢
    have s3' := same_new (o := .lst [V.int 0]) n2
    have nF2 := BP.none_of s3' nF
    have nF0 := BP.none_of s2 nF2
    have nOF : O ≠ F0 := ne_of_none hO2 nF2
    have s4' := same_new (o := .lst (iv (Cnt.zeros q))) nF
    have s4 := s2.trans (s3'.trans s4')
    have hO4 := s4' _ _ (s3' _ _ hO2)
    have hF4 := upd_same (H := upd H2 p2 (.lst [V.int 0])) (a := F0) (o := HO.lst (iv (Cnt.zeros q)))
    generalize upd (upd H2 p2 (.lst [V.int 0])) F0 (.lst (iv (Cnt.zeros q))) = H4 at s4 hO4 hF4 ⊢
    refine ⟨.ref O, .ref F0, rfl, ?_⟩
    show Ends.nx _ [some (.int q), some (.ref O), some (.ref F0), none, none, none, none, none] H4
    dsimp only []
    have ez : ∀ i : Nat, (0 : Int) + (i : Int) = (i : Int) := fun i => Int.zero_add _
    refine tSeq_by (fun σ' H' => Same H H' ∧ H' O = some (.lst (iv (Cnt.oft q q))) ∧ H' F0 = some (.lst (iv (Cnt.zeros q))) ∧ ∃ y3 y4 y5, σ' = [some (.int q), some (.ref O), some (.ref F0), y3, y4, y5, none, none]) (fun σ' H5 hI => ?_) (fun nx kx => ?_)
    · obtain ⟨s5, hO5, hF5, y3, y4, y5, rfl⟩ := hI
      refine ⟨.int q, rfl, q, rfl, by omega, by omega, ?_⟩
      rw [Int.toNat_natCast]
      refine for_range (lo := 0) (n := q) (fun i σ H' => Same H H' ∧ H' O = some (.lst (iv (Cnt.oft q q))) ∧ H' F0 = some (.lst (iv (Cnt.mps q (Cnt.oft q q) i))) ∧ ∃ y5 y6 y7, σ = [some (.int q), some (.ref O), some (.ref F0), y3, y4, y5, y6, y7]) ⟨s5, hO5, hF5, y5, none, none, rfl⟩ (fun i σ H' hi hW => ?_) (fun σ H' hW => ?_)
      · obtain ⟨t1, t2, t3, y5, y6, y7, rfl⟩ := hW
        refine ⟨.int q, rfl, q, rfl, by omega, by omega, ?_⟩
        rw [Int.toNat_natCast]
        refine for_range (lo := 0) (n := q) (fun j σ H' => Same H H' ∧ H' O = some (.lst (iv (Cnt.oft q q))) ∧ H' F0 = some (.lst (iv (Cnt.mps1 q (Cnt.oft q q) i (Cnt.mps q (Cnt.oft q q) i) j))) ∧ ∃ y5 y7, σ = [some (.int q), some (.ref O), some (.ref F0), y3, y4, y5, some (.int (0 + (i : Int))), y7]) ⟨t1, t2, t3, y5, y7, rfl⟩ (fun j σ H' hj hW => ?_) (fun σ H' hW => ?_)
        · obtain ⟨u1, u2, u3, y5, y7, rfl⟩ := hW
          have nj := Cnt.ng_lt hq hj
          obtain ⟨m1, m2, m3, m4⟩ := two hq hi nj
          refine ⟨.int q, rfl, .int (0 + (i : Int)), rfl, .int q, rfl, .int (0 + (j : Int)), rfl, q, j, by rw [ez]; rfl, hq, hj, fun H5 s5 => ⟨q, i, Cnt.ng q j, by rw [ez]; rfl, hq, hi, nj, fun H6 s6 => ?_⟩⟩
          have s56 := s5.trans s6
          have lo := Cnt.oft_len q q
          have lm := (Cnt.mps1_len q (Cnt.oft q q) i (Cnt.mps q (Cnt.oft q q) i) j).trans (Cnt.mps_len q (Cnt.oft q q) i)
          have b1 := Cnt.oft_le hq i
          have b2 := Cnt.oft_le hq j
          refine ⟨.ref F0, rfl, .int (S q i (Cnt.ng q j) : Nat), rfl, F0, _, _, _, rfl, rfl, .inl (.inl (s56 _ _ u3)), atI_nat (iv_getD (by rw [lm]; exact m2)), .ref O, rfl, .int (0 + (i : Int)), rfl, O, _, _, _, rfl, by rw [ez], .inl (.inl (s56 _ _ u2)), atI_nat (iv_getD (by rw [lo]; exact hi)), .ref O, rfl, .int (0 + (j : Int)), rfl, O, _, _, _, rfl, by rw [ez], .inl (.inl (s56 _ _ u2)), atI_nat (iv_getD (by rw [lo]; exact hj)), _, _, rfl, rfl, .inl ⟨by omega, by omega⟩, .int q, rfl, _, q, rfl, rfl, cmr (by omega), .int q, rfl, _, q, rfl, rfl, cmr (by omega), _, _, rfl, rfl, .ref F0, rfl, .int (S q i (Cnt.ng q j) : Nat), rfl, F0, _, _, S q i (Cnt.ng q j), rfl, rfl, s56 _ _ u3, ixN_nat (by rw [List.length_map, lm]; exact m2), ?_⟩
          have ea : (iv (Cnt.mps1 q (Cnt.oft q q) i (Cnt.mps q (Cnt.oft q q) i) j)).set (S q i (Cnt.ng q j)) (V.int (((Cnt.mps1 q (Cnt.oft q q) i (Cnt.mps q (Cnt.oft q q) i) j).getD (S q i (Cnt.ng q j)) 0 : Nat) + ((Cnt.oft q q).getD i 0 : Nat) * ((Cnt.oft q q).getD j 0 : Nat) * (q : Int) * (q : Int))) = iv (Cnt.mps1 q (Cnt.oft q q) i (Cnt.mps q (Cnt.oft q q) i) (j + 1)) := by
            rw [Cnt.mps1_succ, ← iv_bump, Int.natCast_mul, Int.natCast_mul, Int.natCast_mul]
          rw [ea]
          exact ⟨same_upd (u1.trans s56) nF0, same_upd2 (s56 _ _ u2) nOF, upd_same, _, _, rfl⟩
        · obtain ⟨u1, u2, u3, y5, y7, rfl⟩ := hW
          rw [← Cnt.mps_succ] at u3
          exact ⟨u1, u2, u3, _, _, _, rfl⟩
      · obtain ⟨t1, t2, t3, y5, y6, y7, rfl⟩ := hW
        exact ⟨.ref F0, rfl, want F0 H' t1 nF0 t3⟩
    · refine ⟨.int q, rfl, q, rfl, by omega, by omega, ?_⟩
      rw [Int.toNat_natCast]
      refine for_range (lo := 0) (n := q) (fun i σ H' => Same H H' ∧ H' O = some (.lst (iv (Cnt.oft q i))) ∧ H' F0 = some (.lst (iv (Cnt.zeros q))) ∧ ∃ y3 y4 y5, σ = [some (.int q), some (.ref O), some (.ref F0), y3, y4, y5, none, none]) ⟨s4, hO4, hF4, none, none, none, rfl⟩ (fun i σ H' hi hW => ?_) (fun σ H' hW => kx _ _ hW)
      obtain ⟨t1, t2, t3, y3, y4, y5, rfl⟩ := hW
      refine ⟨.int q, rfl, q, rfl, by omega, by omega, ?_⟩
      rw [Int.toNat_natCast]
      refine for_range (lo := 0) (n := q) (fun j σ H' => Same H H' ∧ H' O = some (.lst (iv (Cnt.oft1 q i (Cnt.oft q i) j))) ∧ H' F0 = some (.lst (iv (Cnt.zeros q))) ∧ ∃ y4 y5, σ = [some (.int q), some (.ref O), some (.ref F0), some (.int (0 + (i : Int))), y4, y5, none, none]) ⟨t1, t2, t3, y4, y5, rfl⟩ (fun j σ H' hj hW => ?_) (fun σ H' hW => ?_)
      · obtain ⟨u1, u2, u3, y4, y5, rfl⟩ := hW
        refine ⟨.int q, rfl, .int (0 + (i : Int)), rfl, .int (0 + (j : Int)), rfl, q, i, j, by rw [ez, ez]; rfl, hq, hi, hj, fun H5 s5 => ?_⟩
        obtain ⟨m1, m2, m3, m4⟩ := two hq hi hj
        have lo := (Cnt.oft1_len q i (Cnt.oft q i) j).trans (Cnt.oft_len q i)
        refine ⟨.ref O, rfl, .int (M q i j : Nat), rfl, O, _, _, _, rfl, rfl, .inl (.inl (s5 _ _ u2)), atI_nat (iv_getD (by rw [lo]; exact m1)), _, 1, rfl, rfl, .ref O, rfl, .int (M q i j : Nat), rfl, O, _, _, M q i j, rfl, rfl, s5 _ _ u2, ixN_nat (by rw [List.length_map, lo]; exact m1), ?_⟩
        have ea : (iv (Cnt.oft1 q i (Cnt.oft q i) j)).set (M q i j) (V.int (((Cnt.oft1 q i (Cnt.oft q i) j).getD (M q i j) 0 : Nat) + (1 : Int))) = iv (Cnt.oft1 q i (Cnt.oft q i) (j + 1)) := by
          rw [Cnt.oft1_succ]
          exact iv_bump _ _ 1
        rw [ea]
        exact ⟨same_upd (u1.trans s5) nO0, upd_same, same_upd2 (s5 _ _ u3) nOF.symm, _, _, rfl⟩
      · obtain ⟨u1, u2, u3, y4, y5, rfl⟩ := hW
        rw [← Cnt.oft_succ] at u2
        exact ⟨u1, u2, u3, _, _, _, rfl⟩
end
end K16
set_option Elab.async false
set_option linter.all false
set_option maxRecDepth 100000
set_option maxHeartbeats 4000000
set_option pp.maxSteps 1000
namespace BP
open PySem PySem.Spec PyProof.Rows L2 Fld
def spChs (K : PySem.W.Frag) : Sp := fun vs H Q _ => ∃ (q : Nat) (a : Addr) (ds : List Nat), vs = [.int q, .ref a] ∧ q ∈ fields ∧ Dgs K H a ds ∧ ∀ H', Same H H' → Q (.int (Cnt.chs q ds : Nat)) H'
def spPrd : Sp := fun vs H Q _ => ∃ d c : Addr, vs = [.ref d] ∧ Deck H d c ∧ ∀ (n : Nat) (H' : Hp), 1 ≤ n → n ≤ 1000 → But d c H H' → Deck H' d c → Q (.int n) H'
end BP
namespace K16
open PySem PySem.Spec PyProof.Rows L2 BP Fld
section
variable {P : Program} {w : World} {K : PySem.W.Frag} {mg : Str → Option Value} {base : Heap}
theorem ok_choices {f : Addr} {fd : FuncData} {k : Nat} (F : Fun K "_law_choices" "_law_choices" sLChoices f fd) (m_enumerate : mg "enumerate" = none) (m_range : mg "range" = none) : FnOk P w K mg base CX0 (k + 1) f fd pLChoices (spChs K) := by
  refine F.ok scLChoices (fun vs H Q E h => ?_) (fun cdv A outer s H vs Q E hr h => ?_)
  · obtain ⟨q, a, ds, rfl, _⟩ := h
    rfl
  · obtain ⟨q, a, ds, rfl, hq, ⟨hS, hd, hl⟩, want⟩ := h
    have q16 := le16 hq
    have q1 := gt1 hq
    refine ⟨_, (pss_cons (ps_set (i := 2) scLChoices.nd rfl (.inl rfl) pe_int)
      (pss_cons (ps_for PassesOwn.never rfl (pi_enumT (by rfl) m_enumerate (pa_cons (pv 1) pa_nil)) (pg_tup rfl (pgs_cons (pg_name (i := 3) scLChoices.nd rfl (.inl rfl)) (pgs_cons (pg_name (i := 4) scLChoices.nd rfl (.inl rfl)) pgs_nil))) (pss_cons (ps_set (i := 2) scLChoices.nd rfl (.inl rfl) (pe_op op_mul (pe_op op_mul (pv 2) (pe_ifExp (pt_cmpR op_eq (pv 3) pe_int (nomark _)) (pe_op op_add (pv 0) pe_int) (pv 0))) (pe_op op_sub (pv 0) pe_int)))
        (pss_one (ps_for PassesOwn.never rfl (pi_range1 rfl m_range (pa_cons (pe_op op_sub (pv 4) pe_int) pa_nil)) (pg_name (i := 5) scLChoices.nd rfl (.inl rfl)) (pss_one (ps_set (i := 2) scLChoices.nd rfl (.inl rfl) (pe_op op_mul (pv 2) (pv 0))))))))
      (pss_one (ps_ret (pv 2))))), ?_⟩
    refine ⟨.ref a, rfl, a, _, rfl, hS, for_enumT (K := K) (a := a) (xs := iv ds) (fun i σ H' => Same H H' ∧ ∃ x y z, σ = [some (.int q), some (.ref a), some (.int (Cnt.chs q (ds.take i) : Nat)), x, y, z]) ⟨fun _ _ z => z, none, none, none, rfl⟩ (fun i σ H' _ hW => BP.Same.tupS hW.1 hS) (fun i x σ H' T' hi hW nT => ?_) (fun σ H' hW => ?_)⟩
    · obtain ⟨s1, x0, y, z, rfl⟩ := hW
      obtain ⟨d, ed, rfl⟩ : ∃ d : Nat, ds[i]? = some d ∧ x = .int d := by
        rw [List.getElem?_map] at hi
        cases e : ds[i]? with
        | none =>
          rw [e] at hi
          cases hi
        | some d =>
          rw [e] at hi
          exact ⟨d, rfl, (Option.some.inj hi).symm⟩
      have hi' : i < ds.length := (List.getElem?_eq_some_iff.mp ed).1
      obtain ⟨d2, d6⟩ := hd d (List.mem_of_getElem? ed)
      have sT := same_new (o := .tup [V.int (i : Nat), .int (d : Nat)]) nT
      refine ⟨T', _, rfl, .inl (.inl upd_same), rfl, _, [_], rfl, _, [], rfl, rfl, ?_⟩
      have hlen : (ds.take i).length = i := by rw [List.length_take]; omega
      have et : ds.take (i + 1) = ds.take i ++ [d] := by
        rw [List.take_add_one, ed]
        rfl
      refine tSeq_by (fun σ' H2 => Same H H2 ∧ σ' = [some (.int q), some (.ref a), some (.int (Cnt.chs q (ds.take i) * (if i = 0 then q + 1 else q) * (q - 1) : Nat)), some (.int (i : Nat)), some (.int (d : Nat)), z]) (fun σ' H2 hI => ?_) (fun nx kx => ?_)
      · obtain ⟨s2, rfl⟩ := hI
        refine ⟨.int d, rfl, d, 2, rfl, rfl, _, rfl, by omega, by omega, ?_⟩
        rw [show ((d : Int) - 2).toNat = d - 2 by omega]
        refine for_range (lo := 0) (n := d - 2) (fun j σ H' => Same H H' ∧ ∃ z, σ = [some (.int q), some (.ref a), some (.int (Cnt.chs q (ds.take i) * (if i = 0 then q + 1 else q) * (q - 1) * q ^ j : Nat)), some (.int (i : Nat)), some (.int (d : Nat)), z]) ⟨s2, z, by rw [Nat.pow_zero, Nat.mul_one]⟩ (fun j σ H' hj hW => ?_) (fun σ H' hW => ?_)
        · obtain ⟨s3, z, rfl⟩ := hW
          refine ⟨_, rfl, .int q, rfl, _, q, rfl, rfl, cmr (by omega), s3, some (.int (0 + (j : Int))), ?_⟩
          rw [Nat.pow_succ, ← Nat.mul_assoc, Int.natCast_mul _ q]
          rfl
        · obtain ⟨s3, z, rfl⟩ := hW
          refine ⟨s3, some (.int (i : Nat)), some (.int (d : Nat)), z, ?_⟩
          rw [et, Cnt.chs_snoc, hlen]
          unfold Cnt.bds
          rw [Nat.mul_assoc (Cnt.chs q (ds.take i)), Nat.mul_assoc (Cnt.chs q (ds.take i)), Nat.mul_assoc (if i = 0 then q + 1 else q)]
      · have fin : ∀ t : Nat, t = (if i = 0 then q + 1 else q) → CMul (Cnt.chs q (ds.take i) : Nat) (t : Nat) ∧ nx [some (.int q), some (.ref a), some (.int (((Cnt.chs q (ds.take i) : Nat) : Int) * (t : Nat) * ((q : Int) - 1))), some (.int (i : Nat)), some (.int (d : Nat)), z] (upd H' T' (.tup [V.int (i : Nat), .int (d : Nat)])) := by
          intro t ht
          have t17 : t ≤ 17 := by rw [ht]; split <;> omega
          refine ⟨.inr ⟨by omega, by omega⟩, ?_⟩
          have := kx _ _ ⟨s1.trans sT, rfl⟩
          rw [← ht, Int.natCast_mul, Int.natCast_mul, Int.ofNat_sub (by omega)] at this
          exact this
        refine ⟨_, rfl, .int (i : Nat), rfl, rfl, _, rfl, ite2 (fun h => ?_) (fun h => ?_)⟩
        · have h0 : i = 0 := by
            have := V.int.inj (of_decide_eq_true h)
            omega
          obtain ⟨f1, f2⟩ := fin (q + 1) (by rw [if_pos h0])
          exact ⟨.int q, rfl, q, 1, rfl, rfl, _, _, rfl, rfl, f1, .int q, rfl, q, 1, rfl, rfl, _, _, rfl, rfl, .inr ⟨by omega, by omega⟩, f2⟩
        · have h0 : ¬ i = 0 := fun z => h (decide_eq_true (by rw [z]; rfl))
          obtain ⟨f1, f2⟩ := fin q (by rw [if_neg h0])
          exact ⟨.int q, rfl, _, _, rfl, rfl, f1, .int q, rfl, q, 1, rfl, rfl, _, _, rfl, rfl, .inr ⟨by omega, by omega⟩, f2⟩
    · obtain ⟨s1, x0, y, z, rfl⟩ := hW
      rw [show (iv ds).length = ds.length from List.length_map .., List.take_of_length_le (Nat.le_refl _)]
      exact ⟨_, rfl, want H' s1⟩
theorem ok_product {f fD fP : Addr} {fd fdD fdP : FuncData} (F : Fun K "_law_product" "_law_product" sLProduct f fd) (DR : BP.Can P w K mg base "_law_draw" 1 pLDraw spDraw fD fdD) (PK : BP.Can P w K mg base "_law_pick" 2 pLPick (spPick K) fP fdP) (m_range : mg "range" = none) : FnOk P w K mg base CX0 3 f fd pLProduct spPrd := by
  refine F.ok scLProduct (fun vs H Q E h => ?_) (fun cdv A outer s H vs Q E hr h => ?_)
  · obtain ⟨d, c, rfl, _⟩ := h
    rfl
  · obtain ⟨d, c, rfl, hk, want⟩ := h
    refine ⟨_, (pss_cons (ps_par (i := 1) (j := 2) (by rfl) scLProduct.nd rfl rfl (by decide) rfl rfl (pa_cons (pe_call DR.ok (hr.mono (show 1 ≤ 2 by decide)) (by rfl) DR.g DR.kp DR.b .nil pass0 (pa_cons (pv 0) (pa_cons pe_int pa_nil))) (pa_cons pe_int pa_nil)) (by rfl))
      (pss_cons (ps_if (pt_cmpR op_eq (pv 1) pe_int (nomark _)) (pss_one (ps_ret (pe_op op_add pe_int (pe_call DR.ok (hr.mono (show 1 ≤ 2 by decide)) (by rfl) DR.g DR.kp DR.b .nil pass0 (pa_cons (pv 0) (pa_cons pe_int pa_nil)))))) pss_nil)
      (pss_cons (ps_if (pt_cmpR op_eq (pv 1) pe_int (nomark _)) (pss_one (ps_ret (pe_call PK.ok hr (by rfl) PK.g PK.kp PK.b .nil pass0 (pa_cons (pv 0) (pa_cons (pe_tup (pa_cons pe_int (pa_cons pe_int (pa_cons pe_int (pa_cons pe_int (pa_cons pe_int (pa_cons pe_int (pa_cons pe_int (pa_cons pe_int (pa_cons pe_int (pa_cons pe_int (pa_cons pe_int (pa_cons pe_int pa_nil))))))))))))) pa_nil))))) pss_nil)
      (pss_cons (ps_for PassesOwn.never rfl (pi_range1 rfl m_range (pa_cons pe_int pa_nil)) (pg_name (i := 3) scLProduct.nd rfl (.inl rfl)) (pss_cons (ps_set (i := 4) scLProduct.nd rfl (.inl rfl) (pe_call PK.ok hr (by rfl) PK.g PK.kp PK.b .nil pass0 (pa_cons (pv 0) (pa_cons (pe_tup (pa_cons pe_int (pa_cons pe_int (pa_cons pe_int (pa_cons pe_int (pa_cons pe_int (pa_cons pe_int (pa_cons pe_int pa_nil)))))))) pa_nil))))
        (pss_one (ps_if (pt_cmpR op_le (pe_op op_mul (pv 2) (pv 4)) pe_int (nomark _)) (pss_one (ps_set (i := 2) scLProduct.nd rfl (.inl rfl) (pe_op op_mul (pv 2) (pv 4)))) pss_nil))))
      (pss_one (ps_ret (pv 2))))))), ?_⟩
    have pick : ∀ (l : List Nat) (lo hi : Nat), (l.all fun n => decide (lo ≤ n) && decide (n ≤ hi)) = true → ∀ x ∈ iv l, ∃ n : Nat, x = .int n ∧ lo ≤ n ∧ n ≤ hi := by
      intro l lo hi h x hx
      obtain ⟨n, hn, rfl⟩ := List.mem_map.mp hx
      have := List.all_eq_true.mp h n hn
      simp only [Bool.and_eq_true, decide_eq_true_eq] at this
      exact ⟨n, rfl, this⟩
    refine ⟨.ref d, rfl, d, c, 4, rfl, hk, by decide, by decide, fun y H1 hy b1 k1 => ⟨_, _, rfl, ?_⟩⟩
    show Ends.nx _ [some (.ref d), some (.int (y : Nat)), some (.int (1 : Nat)), none, none] H1
    dsimp only []
    refine ⟨.int y, rfl, rfl, _, rfl, ite2 (fun _ => ?_) (fun _ => ?_)⟩
    · refine ⟨.ref d, rfl, d, c, 1000, rfl, k1, by decide, by decide, fun x H2 hx b2 k2 => ⟨1, x, rfl, rfl, ?_⟩⟩
      have := want (1 + x) H2 (by omega) (by omega) (b1.trans b2) k2
      rw [Int.natCast_add] at this
      exact this
    · refine ⟨.int y, rfl, rfl, _, rfl, ite2 (fun _ => ?_) (fun _ => ?_)⟩
      · refine ⟨.ref d, rfl, (by show 12 ≤ sizeLine; decide), fun t nt => ?_⟩
        have s2 := same_new (o := .tup (iv [1, 1000, 7, 720, 4, 6, 12, 36, 2, 14, 512, 999])) nt
        have ht := upd_same (H := H1) (a := t) (o := HO.tup (iv [1, 1000, 7, 720, 4, 6, 12, 36, 2, 14, 512, 999]))
        refine ⟨d, c, t, iv [1, 1000, 7, 720, 4, 6, 12, 36, 2, 14, 512, 999], rfl, k1.same s2, .inl (.inl ht), by decide, by decide, fun x H2 hx b2 k2 => ?_⟩
        obtain ⟨n, rfl, n1, n2⟩ := pick _ 1 1000 (by decide) x hx
        exact want n H2 n1 n2 (b1.trans ((But.of s2).trans b2)) k2
      · refine ⟨9, rfl, by decide, by decide, for_range (lo := 0) (n := 9) (fun i σ H' => But d c H H' ∧ Deck H' d c ∧ ∃ (n : Nat) (z3 z4 : Option V), 1 ≤ n ∧ n ≤ 1000 ∧ σ = [some (.ref d), some (.int (y : Nat)), some (.int (n : Nat)), z3, z4]) ⟨b1, k1, 1, none, none, by decide, by decide, rfl⟩ (fun i σ H' hi hW => ?_) (fun σ H' hW => ?_)⟩
        · obtain ⟨b2, k2, n, z3, z4, n1, n2, rfl⟩ := hW
          refine ⟨.ref d, rfl, (by show 7 ≤ sizeLine; decide), fun t nt => ?_⟩
          have s2 := same_new (o := .tup (iv [2, 3, 1, 2, 5, 1, 4])) nt
          have ht := upd_same (H := H') (a := t) (o := HO.tup (iv [2, 3, 1, 2, 5, 1, 4]))
          refine ⟨d, c, t, iv [2, 3, 1, 2, 5, 1, 4], rfl, k2.same s2, .inl (.inl ht), by decide, by decide, fun x H3 hx b3 k3 => ?_⟩
          obtain ⟨m, rfl, m1, m2⟩ := pick _ 1 5 (by decide) x hx
          have b4 := b2.trans ((But.of s2).trans b3)
          have em : ((n : Int) * (m : Int)) = ((n * m : Nat) : Int) := (Int.natCast_mul ..).symm
          have p1 : 1 * 1 ≤ n * m := Nat.mul_le_mul n1 m1
          refine ⟨.int n, rfl, .int m, rfl, n, m, rfl, rfl, cmr (by omega), _, 1000, rfl, rfl, _, rfl, ite2 (fun h => ?_) (fun h => ?_)⟩
          · have h := of_decide_eq_true h
            rw [em] at h
            refine ⟨.int n, rfl, .int m, rfl, n, m, rfl, rfl, cmr (by omega), b4, k3, n * m, some (.int (0 + (i : Int))), some (.int (m : Nat)), p1, by omega, ?_⟩
            rw [← em]
            rfl
          · exact ⟨b4, k3, n, some (.int (0 + (i : Int))), some (.int (m : Nat)), n1, n2, rfl⟩
        · obtain ⟨b2, k2, n, z3, z4, n1, n2, rfl⟩ := hW
          exact ⟨_, rfl, want n H' n1 n2 b2 k2⟩
end
end K16
set_option Elab.async false
set_option linter.all false
set_option maxRecDepth 100000
set_option maxHeartbeats 4000000
set_option pp.maxSteps 1000
namespace BP
open PySem PySem.Spec PyProof.Rows L2 Fld
/-- a tuple of degrees and what is left, as the law's front holds them -/
def Fr1 (K : PySem.W.Frag) (H : Hp) (x : V) (e : List Nat × Nat) : Prop := ∃ t s : Addr, x = .ref t ∧ SqT K H t [.ref s, .int e.2] ∧ SqT K H s (iv e.1)
def Fd1 (K : PySem.W.Frag) (H : Hp) (x : V) (e : List Nat) : Prop := ∃ s : Addr, x = .ref s ∧ SqT K H s (iv e)
def Al {α : Type} (R : V → α → Prop) (xs : List V) (es : List α) : Prop := xs.length = es.length ∧ ∀ (i : Nat) (x : V) (e : α), xs[i]? = some x → es[i]? = some e → R x e
theorem Al.nil {α : Type} {R : V → α → Prop} : Al R [] [] := ⟨rfl, fun i x e h => by simp at h⟩
theorem Al.mono {α : Type} {R R' : V → α → Prop} (k : ∀ x e, R x e → R' x e) {xs : List V} {es : List α} (h : Al R xs es) : Al R' xs es := ⟨h.1, fun i x e a b => k x e (h.2 i x e a b)⟩
theorem Al.app {α : Type} {R : V → α → Prop} {xs ys : List V} {es fs : List α} (h : Al R xs es) (g : Al R ys fs) : Al R (xs ++ ys) (es ++ fs) := by
  refine ⟨by rw [List.length_append, List.length_append, h.1, g.1], fun i x e a b => ?_⟩
  by_cases hi : i < xs.length
  · rw [List.getElem?_append_left hi] at a
    rw [List.getElem?_append_left (by rw [← h.1]; exact hi)] at b
    exact h.2 i x e a b
  · rw [List.getElem?_append_right (by omega)] at a
    rw [List.getElem?_append_right (by rw [← h.1]; omega), ← h.1] at b
    exact g.2 _ x e a b
theorem Al.one {α : Type} {R : V → α → Prop} {x : V} {e : α} (h : R x e) : Al R [x] [e] := by
  refine ⟨rfl, fun i y f a b => ?_⟩
  cases i with
  | zero =>
    cases a
    cases b
    exact h
  | succ i => simp at a
theorem Al.at {α : Type} {R : V → α → Prop} {xs : List V} {es : List α} (h : Al R xs es) {i : Nat} {x : V} (e : xs[i]? = some x) : ∃ a, es[i]? = some a ∧ R x a := by
  have hi : i < es.length := by
    rw [← h.1]
    exact (List.getElem?_eq_some_iff.mp e).1
  exact ⟨es[i], List.getElem?_eq_getElem hi, h.2 i x _ e (List.getElem?_eq_getElem hi)⟩
theorem sqT_off {K : PySem.W.Frag} {H H' : Hp} {L a : Addr} {ys xs : List V} (hL : H L = some (.lst ys)) (k : ∀ b o, b ≠ L → H b = some o → H' b = some o) (h : SqT K H a xs) : SqT K H' a xs := by
  rcases h with (h | ⟨o, h⟩) | h
  · exact .inl (.inl (k _ _ (ne_of h hL (by intro z; cases z)) h))
  · exact .inl (.inr ⟨o, k _ _ (ne_of h hL (by intro z; cases z)) h⟩)
  · exact .inr h
theorem Fr1.kept {K : PySem.W.Frag} {H H' : Hp} (k : ∀ a xs, SqT K H a xs → SqT K H' a xs) {xs : List V} {es : List (List Nat × Nat)} (h : Al (Fr1 K H) xs es) : Al (Fr1 K H') xs es :=
  h.mono fun _ _ ⟨t, s, e, h1, h2⟩ => ⟨t, s, e, k _ _ h1, k _ _ h2⟩
theorem Fd1.kept {K : PySem.W.Frag} {H H' : Hp} (k : ∀ a xs, SqT K H a xs → SqT K H' a xs) {xs : List V} {es : List (List Nat)} (h : Al (Fd1 K H) xs es) : Al (Fd1 K H') xs es :=
  h.mono fun _ _ ⟨s, e, h1⟩ => ⟨s, e, k _ _ h1⟩
theorem catA {K : PySem.W.Frag} {H : Hp} {a b : Addr} {xs ys : List V} {Q : VK} (ha : SqT K H a xs) (hb : SqT K H b ys) (le : xs.length + ys.length ≤ sizeLine) (k : ∀ (r : Addr) (H' : Hp), Same H H' → SqT K H' r (xs ++ ys) → Q (.ref r) H') : rCatA K (.ref a) (.ref b) H Q := by
  refine ⟨a, b, xs, ys, rfl, rfl, ha, hb, le, fun e => ?_, fun _ e => ?_, fun _ _ p np => ?_⟩
  · refine k b H (fun _ _ z => z) ?_
    rw [e]
    exact hb
  · refine k a H (fun _ _ z => z) ?_
    rw [e, List.append_nil]
    exact ha
  · exact k p _ (same_new np) (.inl (.inl upd_same))
/-- the next rows of one, as many as are made behind i degrees -/
def cm (l : List Nat) (r i : Nat) : List (List Nat × Nat) := if 1 < r then (([2, 3, 4, 5, 6].take i).filter fun d => r % d == 0).map fun d => (l ++ [d], r / d) else []
theorem cm_succ (l : List Nat) (r : Nat) {i : Nat} (hi : i < 5) : cm l r (i + 1) = cm l r i ++ (if 1 < r ∧ r % (i + 2) = 0 then [(l ++ [i + 2], r / (i + 2))] else []) := by
  have cut : [2, 3, 4, 5, 6].take (i + 1) = [2, 3, 4, 5, 6].take i ++ [i + 2] := by
    have : i = 0 ∨ i = 1 ∨ i = 2 ∨ i = 3 ∨ i = 4 := by omega
    rcases this with rfl | rfl | rfl | rfl | rfl <;> rfl
  unfold cm
  by_cases h1 : 1 < r
  · rw [if_pos h1, if_pos h1, cut, List.filter_append, List.map_append]
    by_cases h2 : r % (i + 2) = 0
    · rw [if_pos ⟨h1, h2⟩, List.filter_cons_of_pos (by simpa using h2)]
      rfl
    · rw [if_neg (by omega), List.filter_cons_of_neg (by simpa using h2)]
      rfl
  · rw [if_neg h1, if_neg h1, if_neg (by omega)]
    rfl
theorem cm_len (l : List Nat) (r i : Nat) : (cm l r i).length ≤ 5 := by
  unfold cm
  split
  · rw [List.length_map]
    exact Nat.le_trans (List.length_filter_le ..) (List.length_take_le' ..)
  · exact Nat.zero_le _
theorem cm_all (l : List Nat) (r : Nat) : cm l r 5 = Cnt.nxt (l, r) := rfl
theorem tk {α : Type} {l : List α} {i : Nat} {e : α} (h : l[i]? = some e) : l.take (i + 1) = l.take i ++ [e] := by
  rw [List.take_add_one, h]
  rfl
theorem fdeg (n : Nat) : ∀ t, (∀ x ∈ Cnt.frt n t, (∀ d ∈ x.1, 2 ≤ d ∧ d ≤ 6) ∧ x.1.length ≤ t) ∧ (∀ l ∈ Cnt.fnd n t, (∀ d ∈ l, 2 ≤ d ∧ d ≤ 6) ∧ l.length ≤ t)
  | 0 => by
    refine ⟨fun x hx => ?_, fun l hl => by cases hl⟩
    rw [show Cnt.frt n 0 = [([], n)] from rfl, List.mem_singleton] at hx
    subst hx
    exact ⟨fun d hd => (by cases hd), Nat.le_refl _⟩
  | t + 1 => by
    obtain ⟨a, b⟩ := fdeg n t
    refine ⟨fun x hx => ?_, fun l hl => ?_⟩
    · rw [show Cnt.frt n (t + 1) = (Cnt.frt n t).flatMap Cnt.nxt from rfl, List.mem_flatMap] at hx
      obtain ⟨y, hy, hx⟩ := hx
      unfold Cnt.nxt at hx
      split at hx
      · rw [List.mem_map] at hx
        obtain ⟨d, hd, rfl⟩ := hx
        obtain ⟨d1, d2, _⟩ := Cnt.dvs_le hd
        refine ⟨fun e he => ?_, ?_⟩
        · rw [List.mem_append, List.mem_singleton] at he
          rcases he with he | rfl
          · exact (a y hy).1 e he
          · exact ⟨d1, d2⟩
        · show (y.1 ++ [d]).length ≤ _
          rw [List.length_append]
          have := (a y hy).2
          show y.1.length + 1 ≤ _
          omega
      · cases hx
    · rw [show Cnt.fnd n (t + 1) = Cnt.fnd n t ++ ((Cnt.frt n t).filter fun x => x.2 == 1).map Prod.fst from rfl, List.mem_append] at hl
      rcases hl with hl | hl
      · exact ⟨(b l hl).1, Nat.le_succ_of_le (b l hl).2⟩
      · rw [List.mem_map] at hl
        obtain ⟨x, hx, rfl⟩ := hl
        have := (List.mem_filter.mp hx).1
        exact ⟨(a x this).1, Nat.le_succ_of_le (a x this).2⟩
def spTup (K : PySem.W.Frag) : Sp := fun vs H Q _ => ∃ n : Nat, vs = [.int n] ∧ n ≠ 0 ∧ n ≤ 1000 ∧ ∀ (r : Addr) (xs : List V) (H' : Hp), Same H H' → H r = none → H' r = some (.lst xs) → Al (Fd1 K H') xs (Cnt.fnd n 11) → Q (.ref r) H'
end BP
namespace K16
open PySem PySem.Spec PyProof.Rows L2 BP Fld
section
variable {P : Program} {w : World} {K : PySem.W.Frag} {mg : Str → Option Value} {base : Heap}
theorem ok_tuples {f : Addr} {fd : FuncData} {k : Nat} (F : Fun K "_law_tuples" "_law_tuples" sLTuples f fd) (m_range : mg "range" = none) (m_int : mg "int" = none) : FnOk P w K mg base CX0 (k + 1) f fd pLTuples (spTup K) := by
  refine F.ok scLTuples (fun vs H Q E h => ?_) (fun cdv A outer s H vs Q E hr h => ?_)
  · obtain ⟨n, rfl, _⟩ := h
    rfl
  · obtain ⟨n, rfl, h0, h1, want⟩ := h
    refine ⟨_, (pss_cons (ps_par (i := 1) (j := 2) (by rfl) scLTuples.nd rfl rfl (by decide) rfl rfl (pa_cons (pe_lst pa_nil) (pa_cons (pe_lst (pa_cons (pe_tup (pa_cons (pe_tup pa_nil) (pa_cons (pv 0) pa_nil))) pa_nil)) pa_nil)) (by rfl))
      (pss_cons (ps_for PassesOwn.never rfl (pi_range1 rfl m_range (pa_cons pe_int pa_nil)) (pg_name (i := 3) scLTuples.nd rfl (.inl rfl)) (pss_cons (ps_set (i := 4) scLTuples.nd rfl (.inl rfl) (pe_lst pa_nil))
        (pss_cons (ps_for PassesOwn.never rfl (pi_list (pv 2)) (pg_tup rfl (pgs_cons (pg_name (i := 5) scLTuples.nd rfl (.inr rfl)) (pgs_cons (pg_name (i := 6) scLTuples.nd rfl (.inr rfl)) pgs_nil))) (pss_cons (ps_if (pt_cmpR op_eq (pv 6) pe_int (nomark _)) (pss_one (ps_expr (pe_bm PySem.F.plainAttrs_list PySem.F.slot_list_append PySem.F.type_list_append mt_append (pv 1) (pa_cons (pv 5) pa_nil)))) pss_nil)
          (pss_one (ps_expr (pe_bm PySem.F.plainAttrs_list PySem.F.slot_list_extend PySem.F.type_list_extend mt_extend (pv 4) (pa_cons (pe_lc (own := [("_law_d", 7)]) (g := gName 7) rfl scLTuples.nd (pi_range2 rfl m_range (pa_cons pe_int (pa_cons pe_int pa_nil))) (blkOk_by (N := nLTuples) (sc := defScope sLTuples) (by decide +kernel)) (fun _ _ _ _ _ => (pg_name (i := 7) scLTuples.nd rfl (.inl rfl))) (fun _ _ _ _ _ => (pts_one (PW.pt (pw_and (pt_cmpR op_gt (pv 6) pe_int (nomark _)) (pw_and1 (pt_cmpR op_eq (pe_op op_mod (pe_callTy call_int1 (by rfl) m_int (by decide +kernel) (pa_cons (pv 6) pa_nil)) (pv 7)) pe_int (nomark _))))))) (fun _ _ _ _ _ => (pe_tup (pa_cons (pe_op (r := rCatA K) op_catA (pv 5) (pe_tup (pa_cons (pv 7) pa_nil))) (pa_cons (pe_op op_fdiv (pv 6) (pv 7)) pa_nil))))) pa_nil))))))
        (pss_one (ps_set (i := 2) scLTuples.nd rfl (.inl rfl) (pv 4))))))
      (pss_one (ps_ret (pv 1))))), ?_⟩
    refine ⟨Nat.zero_le _, fun F0 nF => ⟨Nat.zero_le _, fun p np => ⟨.int n, rfl, (by show 2 ≤ sizeLine; decide), fun t nt => ⟨(by show 1 ≤ sizeLine; decide), fun R nR => ⟨_, _, rfl, ?_⟩⟩⟩⟩⟩
    have s1 := same_new (o := .lst ([] : List V)) nF
    have g1 := upd_same (H := H) (a := F0) (o := HO.lst ([] : List V))
    generalize upd H F0 (.lst ([] : List V)) = H1 at s1 g1 np nt nR ⊢
    have s2 := same_new (o := .tup ([] : List V)) np
    have g2 := upd_same (H := H1) (a := p) (o := HO.tup ([] : List V))
    generalize upd H1 p (.tup ([] : List V)) = H2 at s2 g2 nt nR ⊢
    have s3 := same_new (o := .tup [V.ref p, .int n]) nt
    have g3 := upd_same (H := H2) (a := t) (o := HO.tup [V.ref p, .int n])
    generalize upd H2 t (.tup [V.ref p, .int n]) = H3 at s3 g3 nR ⊢
    have s4 := same_new (o := .lst [V.ref t]) nR
    have g4 := upd_same (H := H3) (a := R) (o := HO.lst [V.ref t])
    have nRF : R ≠ F0 := (ne_of_none (s3 _ _ (s2 _ _ g1)) nR).symm
    generalize upd H3 R (.lst [V.ref t]) = H4 at s4 g4 ⊢
    have sA := s1.trans (s2.trans (s3.trans s4))
    have hF4 := s4 _ _ (s3 _ _ (s2 _ _ g1))
    have a0 : Al (Fr1 K H4) [V.ref t] (Cnt.frt n 0) := Al.one ⟨t, p, rfl, .inl (.inl (s4 _ _ g3)), .inl (.inl (s4 _ _ (s3 _ _ g2)))⟩
    show Ends.nx _ [some (.int n), some (.ref F0), some (.ref R), none, none, none, none, none] H4
    dsimp only []
    refine ⟨11, rfl, by decide, by decide, for_range (lo := 0) (n := 11) (fun i σ H' => Same H H' ∧ ∃ (xsF : List V) (R : Addr) (xsR : List V) (y3 y4 y5 y6 : Option V), σ = [some (.int n), some (.ref F0), some (.ref R), y3, y4, y5, y6, none] ∧ H' F0 = some (.lst xsF) ∧ Al (Fd1 K H') xsF (Cnt.fnd n i) ∧ R ≠ F0 ∧ H' R = some (.lst xsR) ∧ Al (Fr1 K H') xsR (Cnt.frt n i)) ⟨sA, [], R, _, _, _, _, _, rfl, hF4, Al.nil, nRF, g4, a0⟩ (fun i σ H' hi hW => ?_) (fun σ H' hW => ?_)⟩
    · obtain ⟨s5, xsF, R, xsR, y3, y4, y5, y6, rfl, hF, aF, nRF, hR, aR⟩ := hW
      refine ⟨Nat.zero_le _, fun L nL => ?_⟩
      have sL := same_new (o := .lst ([] : List V)) nL
      have hL := upd_same (H := H') (a := L) (o := HO.lst ([] : List V))
      have nL0 := BP.none_of s5 nL
      have nLF : L ≠ F0 := (ne_of_none hF nL).symm
      have nLR : L ≠ R := (ne_of_none hR nL).symm
      generalize upd H' L (.lst ([] : List V)) = H6 at sL hL ⊢
      refine ⟨.ref R, rfl, R, rfl, ⟨_, .inl (.inl (sL _ _ hR))⟩, for_list (xs := xsR) (fun j σ H' => Same H H' ∧ ∃ (xsF xsL : List V) (y5 y6 : Option V), σ = [some (.int n), some (.ref F0), some (.ref R), some (.int (0 + (i : Int))), some (.ref L), y5, y6, none] ∧ H' F0 = some (.lst xsF) ∧ Al (Fd1 K H') xsF (Cnt.fnd n i ++ (((Cnt.frt n i).take j).filter fun x => x.2 == 1).map Prod.fst) ∧ H' R = some (.lst xsR) ∧ Al (Fr1 K H') xsR (Cnt.frt n i) ∧ H' L = some (.lst xsL) ∧ Al (Fr1 K H') xsL (((Cnt.frt n i).take j).flatMap Cnt.nxt)) ⟨s5.trans sL, xsF, [], _, _, rfl, sL _ _ hF, ?_, sL _ _ hR, Fr1.kept (fun _ _ => BP.Same.tupS sL) aR, hL, Al.nil⟩ (fun j σ H' _ hW => ?_) (fun j x σ H7 hx hW => ?_) (fun σ H' hW => ?_)⟩
      · rw [List.take_zero]
        show Al _ _ (_ ++ [])
        rw [List.append_nil]
        exact Fd1.kept (fun _ _ => BP.Same.tupS sL) aF
      · obtain ⟨_, _, _, _, _, _, _, _, hR', _⟩ := hW
        exact .inl (.inl hR')
      · obtain ⟨s7, xsF, xsL, y5, y6, rfl, hF7, aF7, hR7, aR7, hL7, aL7⟩ := hW
        obtain ⟨⟨l, r⟩, he, t', s', rfl, ht, hs⟩ := aR7.at hx
        have hj : j < (Cnt.frt n i).length := (List.getElem?_eq_some_iff.mp he).1
        have sm := Cnt.small h0 h1 i
        have lF := aF7.1
        have lL := aL7.1
        have r0 := (Cnt.frt_ok n h0 i _ (List.mem_of_getElem? he)).1
        refine ⟨t', _, rfl, ht, rfl, _, [_], rfl, _, [], rfl, rfl, ?_⟩
        have tkj := tk he
        refine tSeq_by (fun σ' H' => Same H H' ∧ ∃ (xsF : List V), σ' = [some (.int n), some (.ref F0), some (.ref R), some (.int (0 + (i : Int))), some (.ref L), some (.ref s'), some (.int (r : Nat)), none] ∧ H' F0 = some (.lst xsF) ∧ Al (Fd1 K H') xsF (Cnt.fnd n i ++ (((Cnt.frt n i).take (j + 1)).filter fun x => x.2 == 1).map Prod.fst) ∧ H' R = some (.lst xsR) ∧ Al (Fr1 K H') xsR (Cnt.frt n i) ∧ H' L = some (.lst xsL) ∧ Al (Fr1 K H') xsL (((Cnt.frt n i).take j).flatMap Cnt.nxt) ∧ SqT K H' s' (iv l)) (fun σ' H8 hI => ?_) (fun nx kx => ?_)
        · obtain ⟨s8, xsF, rfl, hF8, aF8, hR8, aR8, hL8, aL8, hs8⟩ := hI
          refine ⟨.ref L, rfl, .inl ⟨rfl, _, .inl (.inl hL8)⟩, 2, 7, rfl, ⟨by decide, by decide, by decide, by decide⟩, fun D nD => ?_⟩
          refine lc_range (lo := 2) (n := 5) (fun m H' => Same H8 H' ∧ ∃ ys, H' D = some (.lst ys) ∧ Al (Fr1 K H') ys (cm l r m)) ⟨same_new nD, [], upd_same, ?_⟩ (fun m H' hm hW => ?_) (fun H9 hW => ?_)
          · have e0 : cm l r 0 = [] := by
              unfold cm
              split <;> rfl
            rw [e0]
            exact Al.nil
          · obtain ⟨s9, ys, hD, aD⟩ := hW
            have em : (2 : Int) + (m : Int) = ((m + 2 : Nat) : Int) := by omega
            rw [em]
            have off : ¬ (1 < r ∧ r % (m + 2) = 0) → Same H8 H' ∧ ∃ ys, H' D = some (.lst ys) ∧ Al (Fr1 K H') ys (cm l r (m + 1)) := by
              intro z
              refine ⟨s9, ys, hD, ?_⟩
              rw [cm_succ l r hm, if_neg z, List.append_nil]
              exact aD
            refine ⟨rfl, .int r, rfl, r, 1, rfl, rfl, _, rfl, ite2 (fun z1 => ?_) (fun z1 => iteF (off fun z => z1 (decide_eq_true (by omega))))⟩
            have z1 : 1 < r := by
              have := of_decide_eq_true z1
              omega
            refine ⟨.int r, rfl, .inl ⟨r, rfl, .int (m + 2 : Nat), rfl, r, (m + 2 : Nat), rfl, rfl, (by show (0 : Int) < ((m + 2 : Nat) : Int); omega), rfl, _, rfl, ite2 (fun z2 => ?_) (fun z2 => off fun z => z2 (decide_eq_true ?_))⟩⟩
            · have z2 : r % (m + 2) = 0 := by
                have := V.int.inj (of_decide_eq_true z2)
                rw [← Int.natCast_emod] at this
                omega
              refine ⟨.ref s', rfl, .int (m + 2 : Nat), rfl, (by show 1 ≤ sizeLine; decide), fun p1 n1 => ?_⟩
              have sp := same_new (o := .tup [V.int (m + 2 : Nat)]) n1
              have hp := upd_same (H := H') (a := p1) (o := HO.tup [V.int (m + 2 : Nat)])
              have ll : l.length ≤ 11 := by
                have := ((fdeg n i).1 _ (List.mem_of_getElem? he)).2
                have h2 : l.length ≤ i := this
                omega
              refine catA (BP.Same.tupS (s9.trans sp) hs8) (.inl (.inl hp)) (Nat.le_trans (show (iv l).length + 1 ≤ 20 by rw [List.length_map]; omega) (by decide)) fun u H10 s10 hu => ?_
              refine ⟨.int r, rfl, .int (m + 2 : Nat), rfl, r, (m + 2 : Nat), rfl, rfl, ⟨by omega, by omega⟩, (by show 2 ≤ sizeLine; decide), fun v nv => ?_⟩
              have sv := same_new (o := .tup [V.ref u, .int ((r : Int) / ((m + 2 : Nat) : Int))]) nv
              have sAll := sp.trans (s10.trans sv)
              have hD2 := sAll _ _ hD
              have hv := upd_same (H := H10) (a := v) (o := HO.tup [V.ref u, .int ((r : Int) / ((m + 2 : Nat) : Int))])
              refine ⟨ys, hD2, Nat.lt_of_le_of_lt (show ys.length ≤ 5 by rw [aD.1]; exact cm_len ..) (by decide), same_upd (s9.trans sAll) nD, _, upd_same, ?_⟩
              have off2 : ∀ a xs, SqT K (upd H10 v (.tup [V.ref u, .int ((r : Int) / ((m + 2 : Nat) : Int))])) a xs → SqT K (upd (upd H10 v (.tup [V.ref u, .int ((r : Int) / ((m + 2 : Nat) : Int))])) D (.lst (ys ++ [.ref v]))) a xs := fun a xs h => sqT_off hD2 (fun b o nb e => by rw [upd_ne nb]; exact e) h
              rw [cm_succ l r hm, if_pos ⟨z1, z2⟩]
              refine Al.app (Fr1.kept off2 (Fr1.kept (fun _ _ => BP.Same.tupS sAll) aD)) (Al.one ⟨v, u, rfl, off2 _ _ (.inl (.inl ?_)), off2 _ _ (BP.Same.tupS sv ?_)⟩)
              · rw [hv, ← Int.natCast_ediv]
              · have e : iv (l ++ [m + 2]) = iv l ++ [V.int (m + 2 : Nat)] := by
                  unfold iv
                  rw [List.map_append]
                  rfl
                rw [e]
                exact hu
            · show V.int ((r : Int) % ((m + 2 : Nat) : Int)) = V.int 0
              rw [← Int.natCast_emod, z.2]
              rfl
          · obtain ⟨s9, ys, hD, aD⟩ := hW
            rw [cm_all] at aD
            have hL9 := s9 _ _ hL8
            have ly := aD.1
            have lc := cm_len l r 5
            rw [cm_all] at lc
            have lL8 := aL8.1
            have lt : (((Cnt.frt n i).take j).flatMap Cnt.nxt).length + (Cnt.nxt (l, r)).length ≤ (Cnt.frt n (i + 1)).length := by
              have e : Cnt.frt n (i + 1) = ((Cnt.frt n i).take (j + 1)).flatMap Cnt.nxt ++ ((Cnt.frt n i).drop (j + 1)).flatMap Cnt.nxt := by
                rw [← List.flatMap_append, List.take_append_drop]
                rfl
              rw [e, tkj, List.flatMap_append, List.length_append, List.length_append, List.flatMap_cons, List.flatMap_nil, List.append_nil]
              omega
            have sm2 := Cnt.small h0 h1 (i + 1)
            have offL : ∀ a xs, SqT K H9 a xs → SqT K (upd H9 L (.lst (xsL ++ ys))) a xs := fun a xs h => sqT_off hL9 (fun b o nb e => by rw [upd_ne nb]; exact e) h
            refine ⟨L, D, xsL, ys, rfl, rfl, hL9, hD, Nat.le_trans (show xsL.length + ys.length ≤ 1000000 by omega) (by decide), same_upd (s8.trans s9) nL0, xsF, xsL ++ ys, _, _, rfl, same_upd2 (s9 _ _ hF8) nLF.symm, Fd1.kept offL (Fd1.kept (fun _ _ => BP.Same.tupS s9) aF8), same_upd2 (s9 _ _ hR8) nLR.symm, Fr1.kept offL (Fr1.kept (fun _ _ => BP.Same.tupS s9) aR8), upd_same, ?_⟩
            rw [tkj, List.flatMap_append]
            refine Al.app (Fr1.kept offL (Fr1.kept (fun _ _ => BP.Same.tupS s9) aL8)) ?_
            rw [List.flatMap_cons, List.flatMap_nil, List.append_nil]
            exact Fr1.kept offL aD
        · refine ⟨.int r, rfl, rfl, _, rfl, ite2 (fun z => ?_) (fun z => ?_)⟩
          · have z1 : r = 1 := by
              have := V.int.inj (of_decide_eq_true z)
              omega
            have offF : ∀ a xs, SqT K H7 a xs → SqT K (upd H7 F0 (.lst (xsF ++ [.ref s']))) a xs := fun a xs h => sqT_off hF7 (fun b o nb e => by rw [upd_ne nb]; exact e) h
            have lfi : (((Cnt.frt n i).take j).filter fun x => x.2 == 1).length ≤ (Cnt.frt n i).length := Nat.le_trans (List.length_filter_le ..) (List.length_take_le' ..)
            rw [List.length_append, List.length_map] at lF
            refine ⟨.ref F0, rfl, .inl ⟨rfl, _, .inl (.inl hF7)⟩, .ref s', rfl, F0, xsF, _, rfl, rfl, hF7, Nat.lt_of_le_of_lt (show xsF.length ≤ 1000000 by omega) (by decide), kx _ _ ⟨same_upd s7 nF, xsF ++ [.ref s'], rfl, upd_same, ?_, same_upd2 hR7 nRF, Fr1.kept offF aR7, same_upd2 hL7 nLF, Fr1.kept offF aL7, offF _ _ hs⟩⟩
            rw [tkj, List.filter_append, List.map_append, ← List.append_assoc]
            refine Al.app (Fd1.kept offF aF7) ?_
            rw [List.filter_cons_of_pos (by simpa using z1)]
            exact Al.one ⟨s', rfl, offF _ _ hs⟩
          · have z1 : r ≠ 1 := fun e => z (decide_eq_true (by rw [e]; rfl))
            refine kx _ _ ⟨s7, xsF, rfl, hF7, ?_, hR7, aR7, hL7, aL7, hs⟩
            rw [tkj, List.filter_append, List.filter_cons_of_neg (by simpa using z1), List.filter_nil, List.append_nil]
            exact aF7
      · obtain ⟨s7, xsF, xsL, y5, y6, rfl, hF7, aF7, hR7, aR7, hL7, aL7⟩ := hW
        have lR := aR7.1
        rw [List.take_of_length_le (by omega)] at aF7 aL7
        exact ⟨.ref L, rfl, s7, xsF, L, xsL, _, _, _, _, rfl, hF7, aF7, nLF, hL7, aL7⟩
    · obtain ⟨s5, xsF, R, xsR, y3, y4, y5, y6, rfl, hF, aF, nRF, hR, aR⟩ := hW
      exact ⟨.ref F0, rfl, want F0 xsF H' s5 nF hF aF⟩
end
end K16
set_option Elab.async false
set_option linter.all false
set_option maxRecDepth 100000
set_option maxHeartbeats 4000000
set_option pp.maxSteps 1000
namespace BP
open PySem PySem.Spec PyProof.Rows L2 Fld
def spSame (K : PySem.W.Frag) : Sp := fun vs H Q _ => ∃ x y : V, vs = [x, y] ∧
  ((∃ n : Nat, x = .int n ∧ y = .int n ∧ n ≤ 2 ^ 330) ∨ ∃ (a b : Addr) (ns : List Nat), x = .ref a ∧ y = .ref b ∧ SqL K H a (iv ns) ∧ SqL K H b (iv ns) ∧ (∀ n ∈ ns, n ≤ 2 ^ 330) ∧ ns.length ≤ 16) ∧ Q (.bl true) H
/-- one keyword -/
def on1 {α : Type} : List α → List α → List α
  | [], x :: _ => [x]
  | _, _ => []
theorem on1_rel : ∀ {vs : List V} {us : List Value} {zs : List V} {ws : List Value}, Vals vs us → Vals zs ws → Vals (on1 vs zs) (on1 us ws)
  | _, _, _, _, .nil, .cons a _ => .cons a .nil
  | _, _, _, _, .nil, .nil => .nil
  | _, _, _, _, .cons _ _, .nil => .nil
  | _, _, _, _, .cons _ _, .cons _ _ => .nil
section
variable {K : PySem.W.Frag} {x qual : Str} {st : Stmt} {f : Addr} {fd : FuncData}
theorem kb_on1 {a : Str} (F : Fun K x qual st f fd)
    (h : ∀ (kV doc pm : Value) (an : Option Addr) (cdv ct u : Value), bindArgs (PySem.W.fnOf x qual (defArgs st) (defBody st) (defScope st) .none kV doc pm an cdv ct) ⟨[], [(a, u)]⟩ = pure [(a, u)]) : KBinds K fd [a] [a] on1 on1 := by
  obtain ⟨oc, od, kV, doc, pm, an, cdv, ct, osl, rfl, _⟩ := F.ex
  refine ⟨fun s us ws _ hl => ?_, on1_rel⟩
  match us, ws, hl with
  | [], u :: r, _ => exact .of_eq (h kV doc pm an cdv ct u)
end
end BP
namespace K16
open PySem PySem.Spec PyProof.Rows L2 BP Fld
section
variable {P : Program} {w : World} {K : PySem.W.Frag} {mg : Str → Option Value} {base : Heap}
theorem ok_same {f : Addr} {fd : FuncData} {k : Nat} (F : Fun K "_law_same" "_law_same" sLSame f fd) (m_repr : mg "repr" = none) : GFn P w K mg base (k + 1) f fd pLSame (spSame K) := by
  refine gok F scLSame (fun vs H Q E h => ?_) (fun cdv A outer s H vs Q E hgd hr h => ?_)
  · obtain ⟨x, y, rfl, _⟩ := h
    rfl
  · obtain ⟨x, y, rfl, h, want⟩ := h
    refine ⟨_, (pss_one (ps_ret (pe_cmpR op_eq (pe_callB (call_rep2 hgd hr.units) (by rfl) m_repr (by decide +kernel) (pa_cons (pv 0) pa_nil)) (pe_callB (call_rep2 hgd hr.units) (by rfl) m_repr (by decide +kernel) (pa_cons (pv 1) pa_nil)) (nomark _)))), ?_⟩
    rcases h with ⟨n, rfl, rfl, hn⟩ | ⟨a, b, ns, rfl, rfl, ha, hb, hn, hl⟩
    · refine ⟨_, rfl, ?_⟩
      dsimp only [tNil]
      refine rep_nat hn ⟨_, rfl, ?_⟩
      dsimp only [tNil]
      refine rep_nat hn ⟨rfl, ?_⟩
      rw [decide_eq_true rfl]
      exact want
    · refine ⟨_, rfl, ?_⟩
      dsimp only [tNil]
      refine rep_nats hn hl ha ⟨_, rfl, ?_⟩
      dsimp only [tNil]
      refine rep_nats hn hl hb ⟨rfl, ?_⟩
      rw [decide_eq_true rfl]
      exact want
end
end K16
set_option Elab.async false
set_option linter.all false
set_option maxRecDepth 100000
set_option maxHeartbeats 4000000
/-! What the law's expressions come to, whatever follows them. -/
namespace BP
open PySem PySem.Spec PyProof.Rows L2 Fld
def Zl (te : TE) (σ : L2.St) (H : Hp) (v : V) : Prop := ∀ Q : VK, (∀ H', Same H H' → Q v H') → te σ H Q
def Zls (K : PySem.W.Frag) (te : TE) (σ : L2.St) (H : Hp) (ns : List Nat) : Prop := ∀ Q : VK, (∀ p H', Same H H' → SqL K H' p (iv ns) → Q (.ref p) H') → te σ H Q
def Zas (ta : TA) (σ : L2.St) (H : Hp) (ns : List Nat) : Prop := ∀ Q : List V → Hp → Prop, (∀ H', Same H H' → Q (iv ns) H') → ta σ H Q
theorem Same.rf {H : Hp} : Same H H := fun _ _ z => z
section
variable {σ : L2.St} {H : Hp} {K : PySem.W.Frag} {te t1 t2 : TE} {ta : TA}
theorem zl_var {i : Nat} {v : V} (h : σ[i]? = some (some v)) : Zl (tVar i) σ H v := fun _ k => ⟨v, h, k _ Same.rf⟩
theorem zls_var {i : Nat} {a : Addr} {ns : List Nat} (h : σ[i]? = some (some (.ref a))) (hs : SqL K H a (iv ns)) : Zls K (tVar i) σ H ns := fun _ k => ⟨_, h, k _ _ Same.rf hs⟩
theorem zas_nil : Zas tNil σ H [] := fun _ k => k _ Same.rf
theorem zas_cons {n : Nat} {ns : List Nat} (h : Zl te σ H (.int (n : Nat))) (g : ∀ H', Same H H' → Zas ta σ H' ns) : Zas (tCons te ta) σ H (n :: ns) := fun _ k => h _ fun H1 s1 => g H1 s1 _ fun H2 s2 => k _ (s1.trans s2)
theorem zls_lst {ns : List Nat} (h : Zas ta σ H ns) (le : ns.length ≤ 1000) : Zls K (tLst ta) σ H ns := fun _ k => h _ fun H1 s1 => ⟨by
  rw [List.length_map]
  exact Nat.le_trans le (by decide), fun p np => k p _ (s1.trans (same_new np)) (.inl (.inl upd_same))⟩
/-- from the second one on -/
theorem zls_cut {ns : List Nat} (h : Zls K te σ H ns) : Zls K (tSl (rSlL K) te (tPart (tC (V.int 1))) tNoPart) σ H (ns.drop 1) := fun Q k => h _ fun a H1 s1 ha => by
  refine ⟨1, rfl, a, _, rfl, ha, fun p np => k p _ (s1.trans (same_new np)) (.inl (.inl ?_))⟩
  have e : cutV (iv ns) (some 1) none = iv (ns.drop 1) := by
    unfold cutV
    rw [show (some (1 : Int)) = some ((1 : Nat) : Int) from rfl, HT.sIx_nat, HT.sIx_none]
    unfold iv
    by_cases z : 1 ≤ ns.length
    · rw [List.length_map, Nat.min_eq_left z, List.map_drop]
      exact List.take_of_length_le (by rw [List.length_drop, List.length_map]; exact Nat.le_refl _)
    · have e0 : ns = [] := List.eq_nil_of_length_eq_zero (by omega)
      subst e0
      rfl
  rw [e]
  exact upd_same
theorem zl_sum {ns : List Nat} (h : Zls K te σ H ns) : Zl (tCB (rSum K) (tCons te tNil)) σ H (.int (ns.sum : Nat)) := fun Q k => h _ fun a H1 s1 ha => by
  refine ⟨a, ns.map fun m => ((m : Nat) : Int), rfl, ?_, ?_⟩
  · rw [List.map_map]
    exact ha
  · rw [sum_cast]
    exact k _ s1
theorem zl_mul {m n : Nat} (h : Zl t1 σ H (.int (m : Nat))) (g : ∀ H', Same H H' → Zl t2 σ H' (.int (n : Nat))) (c : CMul (m : Nat) (n : Nat)) : Zl (tOp (rI CMul fun i j => V.int (i * j)) t1 t2) σ H (.int (m * n : Nat)) := fun Q k => h _ fun H1 s1 => g H1 s1 _ fun H2 s2 => by
  refine ⟨_, _, rfl, rfl, c, ?_⟩
  show Q (V.int ((m : Int) * (n : Int))) H2
  rw [← Int.natCast_mul]
  exact k _ (s1.trans s2)
/-- a list of one, put together k times -/
theorem zls_rep {n k : Nat} (hk : k ≤ 100) (h : Zl te σ H (.int (n : Nat))) : Zls K (tOp rRep (tLst (tCons te tNil)) (tC (V.int (k : Nat)))) σ H (List.replicate k n) := fun Q kk => h _ fun H1 s1 => by
  refine ⟨(by show 1 ≤ sizeLine; decide), fun p np => ⟨p, _, [V.int (n : Nat)], rfl, rfl, upd_same, by omega, by omega, ?_, fun r nr => ?_⟩⟩
  · exact Nat.le_trans (show 1 * ((k : Nat) : Int).toNat ≤ 100 by omega) (by decide)
  · refine kk r _ (s1.trans ((same_new np).trans (same_new nr))) (.inl (.inl ?_))
    rw [upd_same, Int.toNat_natCast]
    have e : ∀ k : Nat, (List.replicate k [V.int (n : Nat)]).flatten = iv (List.replicate k n) := by
      intro k
      unfold iv
      induction k with
      | zero => rfl
      | succ k ih => rw [List.replicate_succ, List.flatten_cons, ih, List.replicate_succ]; rfl
    rw [e]
/-! ### lists by comprehensions -/
theorem zls_rng {ta : TA} {lo n j : Nat} {vs : List Nat} (φ : Nat → Nat) (hn : n ≤ 1000) (hlo : lo ≤ 1000) (ht : Zas ta σ H [lo, lo + n]) (hw : ∀ x : V, wipe ((wipe σ vs).set j (some x)) vs = wipe σ vs)
    (h : ∀ (i : Nat) (H' : Hp), i < n → Same H H' → Zl te ((wipe σ vs).set j (some (.int ((lo + i : Nat))))) H' (.int (φ i : Nat))) : Zls K (tLc (iRng2 ta) (gName j) tYes te vs) σ H ((List.range n).map φ) := fun Q k => ht _ fun H1 s1 => by
  refine ⟨_, _, rfl, ⟨by omega, by omega, by omega, by omega⟩, fun D nD => ?_⟩
  rw [show (((lo + n : Nat) : Int) - ((lo : Nat) : Int)).toNat = n by omega]
  refine lc_range (lo := (lo : Nat)) (n := n) (fun i H' => Same H1 H' ∧ H' D = some (.lst (iv ((List.range i).map φ)))) ⟨same_new nD, upd_same⟩ (fun i H' hi hW => ?_) (fun H' hW => k D H' (s1.trans hW.1) (.inl (.inl hW.2)))
  obtain ⟨s2, hD⟩ := hW
  have e : ((lo : Nat) : Int) + (i : Int) = ((lo + i : Nat) : Int) := (Int.natCast_add ..).symm
  rw [e]
  refine ⟨hw _, yes_kept (h i H' hi (s1.trans s2) _ fun H3 s3 => ⟨_, s3 _ _ hD, ?_, same_upd (s2.trans s3) nD, ?_⟩)⟩
  · rw [List.length_map, List.length_map, List.length_range]
    exact Nat.lt_of_lt_of_le (show i < 1001 by omega) (by decide)
  · rw [upd_same, List.range_succ, List.map_append]
    unfold iv
    rw [List.map_append]
    rfl
theorem zls_map {src : TE} {ms : List Nat} {j : Nat} {vs : List Nat} (φ : Nat → Nat) (hn : ms.length ≤ 1000) (hs : Zls K src σ H ms) (hw : ∀ x : V, wipe ((wipe σ vs).set j (some x)) vs = wipe σ vs)
    (h : ∀ (m : Nat) (H' : Hp), m ∈ ms → Same H H' → Zl te ((wipe σ vs).set j (some (.int (m : Nat)))) H' (.int (φ m : Nat))) : Zls K (tLc (iList K src) (gName j) tYes te vs) σ H (ms.map φ) := fun Q k => hs _ fun a H1 s1 ha => by
  refine ⟨a, rfl, ⟨_, ha⟩, fun D nD => ?_⟩
  refine lc_list (K := K) (a := a) (xs := iv ms) (fun i H' => Same H1 H' ∧ H' D = some (.lst (iv ((ms.take i).map φ)))) ⟨same_new nD, upd_same⟩ (fun i H' _ hW => hW.1.seq ha) (fun i x H' hx hW => ?_) (fun H' hW => ?_)
  · obtain ⟨s2, hD⟩ := hW
    obtain ⟨m, em, rfl⟩ := iv_of hx
    have hi : i < ms.length := (List.getElem?_eq_some_iff.mp em).1
    refine ⟨hw _, yes_kept (h m H' (List.mem_of_getElem? em) (s1.trans s2) _ fun H3 s3 => ⟨_, s3 _ _ hD, ?_, same_upd (s2.trans s3) nD, ?_⟩)⟩
    · rw [List.length_map, List.length_map, List.length_take]
      exact Nat.lt_of_lt_of_le (show min i ms.length < 1001 by omega) (by decide)
    · rw [upd_same, tk em, List.map_append]
      unfold iv
      rw [List.map_append]
      rfl
  · obtain ⟨s2, hD⟩ := hW
    rw [show (iv ms).length = ms.length from List.length_map .., List.take_of_length_le (Nat.le_refl _)] at hD
    exact k D H' (s1.trans s2) (.inl (.inl hD))
/-- over the tuples of a list -/
theorem zls_tups {src : TE} {es : List (List Nat)} {j : Nat} {vs : List Nat} (φ : List Nat → Nat) (hn : es.length ≤ 1000000) (hs : ∀ Q : VK, (∀ (p : Addr) (xs : List V) (H' : Hp), Same H H' → SqL K H' p xs → Al (Fd1 K H') xs es → Q (.ref p) H') → src σ H Q) (hw : ∀ x : V, wipe ((wipe σ vs).set j (some x)) vs = wipe σ vs)
    (h : ∀ (e : List Nat) (s : Addr) (H' : Hp), e ∈ es → Same H H' → SqT K H' s (iv e) → Zl te ((wipe σ vs).set j (some (.ref s))) H' (.int (φ e : Nat))) : Zls K (tLc (iList K src) (gName j) tYes te vs) σ H (es.map φ) := fun Q k => hs _ fun a xs H1 s1 ha al => by
  refine ⟨a, rfl, ⟨_, ha⟩, fun D nD => ?_⟩
  refine lc_list (K := K) (a := a) (xs := xs) (fun i H' => Same H1 H' ∧ H' D = some (.lst (iv ((es.take i).map φ)))) ⟨same_new nD, upd_same⟩ (fun i H' _ hW => hW.1.seq ha) (fun i x H' hx hW => ?_) (fun H' hW => ?_)
  · obtain ⟨s2, hD⟩ := hW
    obtain ⟨e, ee, s, rfl, hse⟩ := al.at hx
    have hi : i < es.length := (List.getElem?_eq_some_iff.mp ee).1
    refine ⟨hw _, yes_kept (h e s H' (List.mem_of_getElem? ee) (s1.trans s2) (BP.Same.tupS s2 hse) _ fun H3 s3 => ⟨_, s3 _ _ hD, ?_, same_upd (s2.trans s3) nD, ?_⟩)⟩
    · rw [List.length_map, List.length_map, List.length_take]
      exact Nat.lt_of_lt_of_le (show min i es.length < 1000001 by omega) (by decide)
    · rw [upd_same, tk ee, List.map_append]
      unfold iv
      rw [List.map_append]
      rfl
  · obtain ⟨s2, hD⟩ := hW
    have lx := al.1
    rw [lx, List.take_of_length_le (Nat.le_refl _)] at hD
    exact k D H' (s1.trans s2) (.inl (.inl hD))
/-! ### the law's own questions -/
theorem same_lists {D : Ends} {A B : TE} {ns : List Nat} (hA : Zls K A σ H ns) (hB : ∀ H', Same H H' → Zls K B σ H' ns) (hn : ∀ n ∈ ns, n ≤ 2 ^ 330) (hl : ns.length ≤ 16) (k : ∀ H', Same H H' → D.nx σ H') :
    tIfS (tNot (tB (tCall (spSame K) [] E0 (tCons A (tCons B tNil))))) (tRet (tC (V.bl false))) tNext D σ H := by
  refine hA _ fun a H1 s1 ha => hB H1 s1 _ fun b H2 s2 hb => ⟨.ref a, .ref b, rfl, .inr ⟨a, b, ns, rfl, rfl, s2.seq ha, hb, hn, hl⟩, true, rfl, iteF (k _ (s1.trans s2))⟩
theorem same_nums {D : Ends} {A B : TE} {n : Nat} (hA : Zl A σ H (.int (n : Nat))) (hB : ∀ H', Same H H' → Zl B σ H' (.int (n : Nat))) (hn : n ≤ 2 ^ 330) (k : ∀ H', Same H H' → D.nx σ H') :
    tIfS (tNot (tB (tCall (spSame K) [] E0 (tCons A (tCons B tNil))))) (tRet (tC (V.bl false))) tNext D σ H := by
  refine hA _ fun H1 s1 => hB H1 s1 _ fun H2 s2 => ⟨_, _, rfl, .inl ⟨n, rfl, rfl, hn⟩, true, rfl, iteF (k _ (s1.trans s2))⟩
/-! ### calls -/
variable {q i j : Nat} (hq : q ∈ fields) (hi : σ[i]? = some (some (.int (q : Nat))))
include hq hi
theorem zl_str : Zl (tCall spStr [] E0 (tCons (tVar i) tNil)) σ H (.int (Cnt.strt q : Nat)) := fun Q k => ⟨_, hi, q, rfl, hq, k _ Same.rf⟩
theorem zl_strK : Zl (tCallK spStr on1 E0 tNil (tCons (tVar i) tNil)) σ H (.int (Cnt.strt q : Nat)) := fun Q k => ⟨_, hi, q, rfl, hq, k _ Same.rf⟩
theorem zl_maps : Zls K (tCall spMps [] E0 (tCons (tVar i) tNil)) σ H (Cnt.mp q) := fun Q k => ⟨_, hi, q, rfl, hq, fun r H' s _ h => k r H' s (.inl (.inl h))⟩
variable {a : Addr} {ds : List Nat} (hj : σ[j]? = some (some (.ref a))) (hd : Dgs K H a ds)
include hj hd
theorem zl_stp : Zl (tCall (spStp K) [] E0 (tCons (tVar i) (tCons (tVar j) tNil))) σ H (.int (Cnt.strt q * Cnt.chs q ds : Nat)) := fun Q k => ⟨_, hi, _, hj, q, a, ds, rfl, hq, hd, k⟩
theorem zl_stpK : Zl (tCallK (spStp K) sw2 E0 tNil (tCons (tVar j) (tCons (tVar i) tNil))) σ H (.int (Cnt.strt q * Cnt.chs q ds : Nat)) := fun Q k => ⟨_, hj, _, hi, q, a, ds, rfl, hq, hd, k⟩
theorem zl_stpR : Zl (tCall (spStp K) [] E0 (tCons (tVar i) (tCons (tRevT K (tVar j)) tNil))) σ H (.int (Cnt.strt q * Cnt.chs q ds : Nat)) := fun Q k => by
  refine ⟨_, hi, _, hj, a, _, rfl, hd.1, fun p np => ⟨q, p, ds.reverse, rfl, hq, ⟨.inl (.inl ?_), fun d h => hd.2.1 d (List.mem_reverse.mp h), by rw [List.length_reverse]; exact hd.2.2⟩, fun H' s => ?_⟩⟩
  · rw [upd_same, ← List.map_reverse]
  · rw [Cnt.chs_rev (Nat.lt_trans Nat.zero_lt_one (gt1 hq))]
    exact k H' ((same_new np).trans s)
theorem zl_chs : Zl (tCall (spChs K) [] E0 (tCons (tVar i) (tCons (tVar j) tNil))) σ H (.int (Cnt.chs q ds : Nat)) := fun Q k => ⟨_, hi, _, hj, q, a, ds, rfl, hq, hd, k⟩
theorem zl_wth {l : Nat} {n : Int} (hl : σ[l]? = some (some (.int n))) : Zl (tCall (spWth K) [] E0 (tCons (tVar i) (tCons (tVar j) (tCons (tVar l) tNil)))) σ H (.int (Cnt.strt q / (q - 1) * Cnt.chs q ds : Nat)) := fun Q k => ⟨_, hi, _, hj, _, hl, q, a, ds, n, rfl, hq, hd, k⟩
theorem zl_wth1 : Zl (tCall (spWth K) [] E0 (tCons (tVar i) (tCons (tVar j) (tCons (tC (V.int 1)) tNil)))) σ H (.int (Cnt.strt q / (q - 1) * Cnt.chs q ds : Nat)) := fun Q k => ⟨_, hi, _, hj, q, a, ds, 1, rfl, hq, hd, k⟩
theorem zl_wthK : Zl (tCallK (spWth K) rv3 E0 tNil (tCons (tOp (rI0 fun i j => V.int (i - j)) (tVar i) (tC (V.int 1))) (tCons (tVar j) (tCons (tVar i) tNil)))) σ H (.int (Cnt.strt q / (q - 1) * Cnt.chs q ds : Nat)) := fun Q k => ⟨_, hi, _, _, rfl, rfl, _, hj, _, hi, q, a, ds, _, rfl, hq, hd, k⟩
end
section
variable {σ : L2.St} {H : Hp} {K : PySem.W.Frag} {q n i j : Nat} (hq : q ∈ fields) (hi : σ[i]? = some (some (.int (q : Nat)))) (hj : σ[j]? = some (some (.int (n : Nat)))) (h0 : n ≠ 0) (h1 : n ≤ 1000)
include hq hi hj h0 h1
theorem zl_deg : Zl (tCall spDeg [] E0 (tCons (tVar i) (tCons (tVar j) tNil))) σ H (.int (Cnt.deg q n : Nat)) := fun Q k => ⟨_, hi, _, hj, q, n, rfl, hq, h0, h1, k⟩
theorem zl_degK : Zl (tCallK spDeg sw2 E0 tNil (tCons (tVar j) (tCons (tVar i) tNil))) σ H (.int (Cnt.deg q n : Nat)) := fun Q k => ⟨_, hj, _, hi, q, n, rfl, hq, h0, h1, k⟩
end
section
variable {σ : L2.St} {H : Hp} {K : PySem.W.Frag} {n j : Nat} (hj : σ[j]? = some (some (.int (n : Nat)))) (h0 : n ≠ 0) (h1 : n ≤ 1000)
include hj h0 h1
theorem zl_tups (Q : VK) (k : ∀ (p : Addr) (xs : List V) (H' : Hp), Same H H' → SqL K H' p xs → Al (Fd1 K H') xs (Cnt.fnd n 11) → Q (.ref p) H') : tCall (spTup K) [] E0 (tCons (tVar j) tNil) σ H Q := ⟨_, hj, n, rfl, h0, h1, fun r xs H' s _ hr al => k r xs H' s (.inl (.inl hr)) al⟩
end
section
variable {σ : L2.St} {H : Hp} {K : PySem.W.Frag} {te : TE}
theorem zl_at1 {ns : List Nat} {m : Nat} (h : Zls K te σ H ns) (e : ns[1]? = some m) : Zl (tOp (rIxL K) te (tC (V.int 1))) σ H (.int (m : Nat)) := fun Q k => h _ fun a H1 s1 ha => by
  refine ⟨a, iv ns, ((1 : Nat) : Int), V.int (m : Nat), rfl, rfl, ha, atI_nat ?_, k _ s1⟩
  unfold iv
  rw [List.getElem?_map, e]
  rfl
theorem zl_last {j : Nat} {a : Addr} {ns : List Nat} {n : Nat} (hj : σ[j]? = some (some (.ref a))) (ha : SqL K H a (iv (ns ++ [n]))) : Zl (tOp (rIxL K) (tVar j) (tUn (rU fun i => V.int (-i)) (tC (V.int 1)))) σ H (.int (n : Nat)) := fun Q k => by
  refine ⟨.ref a, hj, 1, rfl, a, iv ns ++ [V.int (n : Nat)], -1, V.int (n : Nat), rfl, rfl, ?_, atI_last _ _, k _ Same.rf⟩
  have e : iv (ns ++ [n]) = iv ns ++ [V.int (n : Nat)] := by
    unfold iv
    rw [List.map_append]
    rfl
  rw [e] at ha
  exact ha
theorem zas_1q {q : Nat} (hi : σ[2]? = some (some (.int (q : Nat)))) (h : 1 < q) : Zas (tCons (tC (V.int 1)) (tCons (tVar 2) tNil)) σ H [1, 1 + (q - 1)] := fun Q k => by
  refine ⟨_, hi, ?_⟩
  have := k H Same.rf
  rw [show 1 + (q - 1) = q by omega] at this
  exact this
end
theorem cmn {i : Int} {m : Nat} (h : m ≤ 2 ^ 24) : CMul i (m : Nat) := .inr ⟨by omega, by omega⟩
theorem zlm_lst {σ : L2.St} {H : Hp} {ta : TA} {ns : List Nat} (h : Zas ta σ H ns) (le : ns.length ≤ 1000) (Q : VK) (k : ∀ p H', Same H H' → H p = none → H' p = some (.lst (iv ns)) → Q (.ref p) H') : tLst ta σ H Q := h _ fun H1 s1 => ⟨by
  rw [List.length_map]
  exact Nat.le_trans le (by decide), fun p np => k p _ (s1.trans (same_new np)) (BP.none_of s1 np) upd_same⟩
section
variable {σ : L2.St} {H : Hp} {K : PySem.W.Frag} {te : TE} {ta : TA} {g : TG} {rest : TS} {D : Ends}
theorem seq_lst {ns : List Nat} (h : Zas ta σ H ns) (le : ns.length ≤ 1000) (k : ∀ p H', Same H H' → H p = none → H' p = some (.lst (iv ns)) → g (.ref p) σ H' (rest D)) : tSeq (tAsg (tLst ta) g) rest D σ H := by
  show tLst ta σ H fun x H1 => g x σ H1 (rest D)
  exact zlm_lst h le (fun x H1 => g x σ H1 (rest D)) k
theorem seq_zl {v : V} (h : Zl te σ H v) (k : ∀ H', Same H H' → g v σ H' (rest D)) : tSeq (tAsg te g) rest D σ H := h (fun x H1 => g x σ H1 (rest D)) k
theorem seq_zls {ns : List Nat} (h : Zls K te σ H ns) (k : ∀ p H', Same H H' → SqL K H' p (iv ns) → g (.ref p) σ H' (rest D)) : tSeq (tAsg te g) rest D σ H := h (fun x H1 => g x σ H1 (rest D)) k
theorem seq_same {A B : TE} {ns : List Nat} (hA : Zls K A σ H ns) (hB : ∀ H', Same H H' → Zls K B σ H' ns) (hn : ∀ n ∈ ns, n ≤ 2 ^ 330) (hl : ns.length ≤ 16) (k : ∀ H', Same H H' → rest D σ H') :
    tSeq (tIfS (tNot (tB (tCall (spSame K) [] E0 (tCons A (tCons B tNil))))) (tRet (tC (V.bl false))) tNext) rest D σ H := same_lists (D := { D with nx := rest D }) hA hB hn hl k
theorem seq_app {i : Nat} {E : Addr} {ns : List Nat} {n : Nat} (hi : σ[i]? = some (some (.ref E))) (hE : H E = some (.lst (iv ns))) (le : ns.length ≤ 1000) (h : Zl te σ H (.int (n : Nat))) (k : ∀ H', Same H H' → rest D σ (upd H' E (.lst (iv (ns ++ [n]))))) :
    tSeq (tDrop (tBM K "list" rAppend (tVar i) (tCons te tNil))) rest D σ H := ⟨.ref E, hi, .inl ⟨rfl, _, .inl (.inl hE)⟩, h _ fun H' s => ⟨E, iv ns, _, rfl, rfl, s _ _ hE, by
      rw [List.length_map]
      exact Nat.lt_of_lt_of_le (show ns.length < 1001 by omega) (by decide), by
      have e : iv ns ++ [V.int (n : Nat)] = iv (ns ++ [n]) := by
        unfold iv
        rw [List.map_append]
        rfl
      rw [e]
      exact k H' s⟩⟩
end
theorem Deck.off {H : Hp} {d c p : Addr} {o : HO} (h : Deck H d c) (n1 : p ≠ d) (n2 : p ≠ c) : Deck (upd H p o) d c := by
  obtain ⟨cells, m, n, h1, h2, h3⟩ := h
  exact ⟨cells, m, n, by rw [upd_ne n1.symm]; exact h1, by rw [upd_ne n2.symm]; exact h2, h3⟩
section
variable {q : Nat} (hq : q ∈ fields)
include hq
theorem b_str : Cnt.strt q ≤ 2 ^ 330 := Nat.le_trans (Cnt.strt_le (le16 hq)) (Nat.pow_le_pow_right (by decide) (by decide))
theorem b_chs {ds : List Nat} (hd : ∀ d ∈ ds, 2 ≤ d ∧ d ≤ 6) (hl : ds.length ≤ 12) : Cnt.chs q ds ≤ 2 ^ 300 := by
  have q1 := gt1 hq
  have a := Cnt.chs_le (by omega : 0 < q) (le16 hq) ds fun d h => (hd d h).2
  refine Nat.le_trans a ?_
  rw [← Nat.pow_mul]
  exact Nat.pow_le_pow_right (by decide) (by omega)
theorem b_stp {ds : List Nat} (hd : ∀ d ∈ ds, 2 ≤ d ∧ d ≤ 6) (hl : ds.length ≤ 12) : Cnt.strt q * Cnt.chs q ds ≤ 2 ^ 330 :=
  Nat.le_trans (Nat.mul_le_mul (Cnt.strt_le (le16 hq)) (b_chs hq hd hl)) (by rw [← Nat.pow_add]; exact Nat.pow_le_pow_right (by decide) (by decide))
theorem b_wth {ds : List Nat} (hd : ∀ d ∈ ds, 2 ≤ d ∧ d ≤ 6) (hl : ds.length ≤ 12) : Cnt.strt q / (q - 1) * Cnt.chs q ds ≤ 2 ^ 330 :=
  Nat.le_trans (Nat.mul_le_mul_right _ (Nat.div_le_self _ _)) (b_stp hq hd hl)
theorem b_deg {n : Nat} : Cnt.deg q n ≤ 2 ^ 330 := by
  have q1 := gt1 hq
  have q16 := le16 hq
  unfold Cnt.deg
  split
  · exact b_str hq
  · refine Nat.le_trans (Nat.div_le_self _ _) ?_
    have a := Cnt.mbr_le (by omega : 0 < q) q16 11 n
    rw [← Nat.pow_mul] at a
    calc Cnt.strt q * (q + 1) * Cnt.mbr q 11 n ≤ 2 ^ 24 * 2 ^ 5 * 2 ^ (27 * 11) := Nat.mul_le_mul (Nat.mul_le_mul (Cnt.strt_le q16) (show q + 1 ≤ 2 ^ 5 by omega)) a
      _ = 2 ^ 326 := by rw [← Nat.pow_add, ← Nat.pow_add]
      _ ≤ 2 ^ 330 := Nat.pow_le_pow_right (by decide) (by decide)
end
end BP
set_option Elab.async false
set_option linter.all false
set_option maxRecDepth 600000
set_option maxHeartbeats 4000000
set_option pp.maxSteps 6000
namespace K16
open PySem PySem.Spec PyProof.Rows L2 BP Fld
section
variable {P : Program} {w : World} {K : PySem.W.Frag} {mg : Str → Option Value} {base : Heap}
def spLaw (K : PySem.W.Frag) : Sp := fun vs H Q _ => ∃ (a : Addr) (ns : List Int), vs = [.ref a] ∧ SqL K H a (ns.map V.int) ∧ ns.length ≤ 63 ∧ ∀ H', Q (.bl true) H'
theorem ok_law {f fDK fDR fPK fMPS fSTR fSTP fWTH fDEG fCHS fTUP fPRD fS : Addr} {fd fdDK fdDR fdPK fdMPS fdSTR fdSTP fdWTH fdDEG fdCHS fdTUP fdPRD fdS : FuncData} (F : Fun K "law" "law" sLaw f fd)
    (DK : BP.Can P w K mg base "_law_deck" 1 pLDeck (spDeck K) fDK fdDK) (DR : BP.Can P w K mg base "_law_draw" 1 pLDraw spDraw fDR fdDR) (PK : BP.Can P w K mg base "_law_pick" 2 pLPick (spPick K) fPK fdPK) (MPS : BP.Can P w K mg base "_law_maps" 3 pLMaps spMps fMPS fdMPS)
    (STR : BP.Can P w K mg base "many_straight" 1 pManyStraight spStr fSTR fdSTR) (STP : BP.Can P w K mg base "many_steps" 2 pManySteps (spStp K) fSTP fdSTP) (WTH : BP.Can P w K mg base "many_with" 3 pManyWith (spWth K) fWTH fdWTH) (DEG : BP.Can P w K mg base "many_of_degree" 14 pManyOfDegree spDeg fDEG fdDEG)
    (CHS : BP.Can P w K mg base "_law_choices" 1 pLChoices (spChs K) fCHS fdCHS) (TUP : BP.Can P w K mg base "_law_tuples" 1 pLTuples (spTup K) fTUP fdTUP) (PRD : BP.Can P w K mg base "_law_product" 3 pLProduct spPrd fPRD fdPRD)
    (SM : GFn P w K mg base 1 fS fdS pLSame (spSame K)) (gSM : mg "_law_same" = some (.ref fS)) (kSM : PySem.W.keepIn K (.ref fS) = true) (bSM : Binds K fdS pLSame [])
    (kb_many_straight : KBinds K fdSTR pManyStraight ["q"] on1 on1) (kb_many_steps : KBinds K fdSTP pManySteps ["degrees", "q"] sw2 sw2) (kb_many_with : KBinds K fdWTH pManyWith ["determinant", "degrees", "q"] rv3 rv3) (kb_many_of_degree : KBinds K fdDEG pManyOfDegree ["degree", "q"] sw2 sw2)
    (m_range : mg "range" = none) (m_tuple : mg "tuple" = none) (m_sum : mg "sum" = none) :
    GFn P w K mg base 15 f fd pLaw (spLaw K) := by
  refine gok F scLaw (fun vs H Q E h => ?_) (fun cdv A outer s H vs Q E hgd hr h => ?_)
  · obtain ⟨a, ns, rfl, _⟩ := h
    rfl
  · obtain ⟨a, ns, rfl, hS, hl, want⟩ := h
    have hrDK := hr.mono (show 1 ≤ 14 by decide)
    have hrDR := hr.mono (show 1 ≤ 14 by decide)
    have hrPK := hr.mono (show 2 ≤ 14 by decide)
    have hrMPS := hr.mono (show 3 ≤ 14 by decide)
    have hrSTR := hr.mono (show 1 ≤ 14 by decide)
    have hrSTP := hr.mono (show 2 ≤ 14 by decide)
    have hrWTH := hr.mono (show 3 ≤ 14 by decide)
    have hrDEG := hr.mono (show 14 ≤ 14 by decide)
    have hrCHS := hr.mono (show 1 ≤ 14 by decide)
    have hrTUP := hr.mono (show 1 ≤ 14 by decide)
    have hrPRD := hr.mono (show 3 ≤ 14 by decide)
    have hrSM := hr.mono (show 1 ≤ 14 by decide)
    refine ⟨_, (pss_cons (ps_set (i := 1) scLaw.nd rfl (.inr rfl) (pe_call DK.ok hrDK (by rfl) DK.g DK.kp DK.b .nil pass0 (pa_cons (pv 0) (pa_cons pe_int pa_nil))))
      (pss_cons (ps_set (i := 2) scLaw.nd rfl (.inr rfl) (pe_call PK.ok hrPK (by rfl) PK.g PK.kp PK.b .nil pass0 (pa_cons (pv 1) (pa_cons (pe_tup (pa_cons pe_int (pa_cons pe_int (pa_cons pe_int (pa_cons pe_int (pa_cons pe_int (pa_cons pe_int (pa_cons pe_int (pa_cons pe_int (pa_cons pe_int (pa_cons pe_int pa_nil))))))))))) pa_nil))))
      (pss_cons (ps_set (i := 3) scLaw.nd rfl (.inl rfl) (pe_call MPS.ok hrMPS (by rfl) MPS.g MPS.kp MPS.b .nil pass0 (pa_cons (pv 2) pa_nil)))
      (pss_cons (ps_if (pt_not (pt_val (pe_callG SM hgd hrSM (by rfl) gSM kSM bSM pass0 (pa_cons (pe_lst (pa_cons (pe_call STR.ok hrSTR (by rfl) STR.g STR.kp STR.b .nil pass0 (pa_cons (pv 2) pa_nil)) (pa_cons (pe_callK0 STR.ok hrSTR (by rfl) STR.g STR.kp kb_many_straight pass0 (pk_cons (pv 2) pk_nil)) pa_nil))) (pa_cons (pe_op op_rep (pe_lst (pa_cons (pe_callB (cr_sum rfl) (by rfl) m_sum (by decide +kernel) (pa_cons (pe_slice sl_list (pv 3) (po_some pe_int) po_none) pa_nil)) pa_nil)) pe_int) pa_nil))))) (pss_one (ps_ret pe_bl)) pss_nil)
      (pss_cons (ps_for PassesOwn.never rfl (pi_range1 rfl m_range (pa_cons pe_int pa_nil)) (pg_name (i := 4) scLaw.nd rfl (.inl rfl)) (pss_cons (ps_set (i := 5) scLaw.nd rfl (.inl rfl) (pe_call PK.ok hrPK (by rfl) PK.g PK.kp PK.b .nil pass0 (pa_cons (pv 1) (pa_cons (pe_tup (pa_cons pe_int (pa_cons pe_int (pa_cons pe_int (pa_cons pe_int (pa_cons pe_int (pa_cons pe_int (pa_cons pe_int (pa_cons pe_int (pa_cons pe_int pa_nil)))))))))) pa_nil))))
        (pss_cons (ps_set (i := 6) scLaw.nd rfl (.inr rfl) (pe_tupleOf rfl m_tuple (pe_lc (own := [("_law_at", 15)]) (g := gName 15) (tt := tYes) rfl scLaw.nd (pi_range1 rfl m_range (pa_cons (pv 5) pa_nil)) (blkOk_by (N := nLaw) (sc := defScope sLaw) (by decide +kernel)) (fun _ _ _ _ _ => (pg_name (i := 15) scLaw.nd rfl (.inl rfl))) (fun _ _ _ _ _ => pts_nil) (fun _ _ _ _ _ => (pe_op op_add pe_int (pe_call DR.ok hrDR (by rfl) DR.g DR.kp DR.b .nil pass0 (pa_cons (pv 1) (pa_cons pe_int pa_nil))))))))
        (pss_cons (ps_set (i := 7) scLaw.nd rfl (.inr rfl) (pe_call CHS.ok hrCHS (by rfl) CHS.g CHS.kp CHS.b .nil pass0 (pa_cons (pv 2) (pa_cons (pv 6) pa_nil))))
        (pss_cons (ps_set (i := 8) scLaw.nd rfl (.inl rfl) (pe_lst (pa_cons (pe_call STP.ok hrSTP (by rfl) STP.g STP.kp STP.b .nil pass0 (pa_cons (pv 2) (pa_cons (pv 6) pa_nil))) (pa_cons (pe_callK0 STP.ok hrSTP (by rfl) STP.g STP.kp kb_many_steps pass0 (pk_cons (pv 6) (pk_cons (pv 2) pk_nil))) (pa_cons (pe_call STP.ok hrSTP (by rfl) STP.g STP.kp STP.b .nil pass0 (pa_cons (pv 2) (pa_cons (pe_revT (pv 6)) pa_nil))) pa_nil)))))
        (pss_cons (ps_if (pt_not (pt_val (pe_callG SM hgd hrSM (by rfl) gSM kSM bSM pass0 (pa_cons (pv 8) (pa_cons (pe_op op_rep (pe_lst (pa_cons (pe_op op_mul (pv 7) (pe_callB (cr_sum rfl) (by rfl) m_sum (by decide +kernel) (pa_cons (pe_slice sl_list (pv 3) (po_some pe_int) po_none) pa_nil))) pa_nil)) pe_int) pa_nil))))) (pss_one (ps_ret pe_bl)) pss_nil)
        (pss_cons (ps_setLc (i := 8) (own := [("_law_number", 14)]) (g := gName 14) (tt := tYes) rfl scLaw.nd rfl rfl (sw_true rfl rfl rfl (by decide +kernel)) (pi_range2 rfl m_range (pa_cons pe_int (pa_cons (pv 2) pa_nil))) (blkOk_by (N := nLaw) (sc := defScope sLaw) (by decide +kernel)) (fun _ _ _ _ _ => (pg_name (i := 14) scLaw.nd rfl (.inl rfl))) (fun _ _ _ _ _ => pts_nil) (fun _ _ _ _ _ => (pe_call WTH.ok hrWTH (by rfl) WTH.g WTH.kp WTH.b .nil pass0 (pa_cons (pv 2) (pa_cons (pv 6) (pa_cons (pv 14) pa_nil))))))
        (pss_cons (ps_if (pt_not (pt_val (pe_callG SM hgd hrSM (by rfl) gSM kSM bSM pass0 (pa_cons (pv 8) (pa_cons (pe_lc (own := [("_law_number", 14)]) (g := gName 14) (tt := tYes) rfl scLaw.nd (pi_list (pe_slice sl_list (pv 3) (po_some pe_int) po_none)) (blkOk_by (N := nLaw) (sc := defScope sLaw) (by decide +kernel)) (fun _ _ _ _ _ => (pg_name (i := 14) scLaw.nd rfl (.inl rfl))) (fun _ _ _ _ _ => pts_nil) (fun _ _ _ _ _ => (pe_op op_mul (pv 7) (pv 14)))) pa_nil))))) (pss_one (ps_ret pe_bl)) pss_nil)
        (pss_one (ps_if (pt_not (pt_val (pe_callG SM hgd hrSM (by rfl) gSM kSM bSM pass0 (pa_cons (pe_callK0 WTH.ok hrWTH (by rfl) WTH.g WTH.kp kb_many_with pass0 (pk_cons (pe_op op_sub (pv 2) pe_int) (pk_cons (pv 6) (pk_cons (pv 2) pk_nil)))) (pa_cons (pe_ix ix_list (pv 8) (pe_un un_neg pe_int) (fun _ _ => rfl)) pa_nil))))) (pss_one (ps_ret pe_bl)) pss_nil))))))))))
      (pss_cons (ps_for PassesOwn.never rfl (pi_range1 rfl m_range (pa_cons pe_int pa_nil)) (pg_name (i := 4) scLaw.nd rfl (.inl rfl)) (pss_cons (ps_set (i := 9) scLaw.nd rfl (.inl rfl) (pe_call PRD.ok hrPRD (by rfl) PRD.g PRD.kp PRD.b .nil pass0 (pa_cons (pv 1) pa_nil)))
        (pss_cons (ps_set (i := 10) scLaw.nd rfl (.inl rfl) (pe_op op_mul (pe_callB (cr_sum rfl) (by rfl) m_sum (by decide +kernel) (pa_cons (pe_lc (own := [("_law_degrees", 6)]) (g := gName 6) (tt := tYes) rfl scLaw.nd (pi_list (pe_call TUP.ok hrTUP (by rfl) TUP.g TUP.kp TUP.b .nil pass0 (pa_cons (pv 9) pa_nil))) (blkOk_by (N := nLaw) (sc := defScope sLaw) (by decide +kernel)) (fun _ _ _ _ _ => (pg_name (i := 6) scLaw.nd rfl (.inl rfl))) (fun _ _ _ _ _ => pts_nil) (fun _ _ _ _ _ => (pe_call CHS.ok hrCHS (by rfl) CHS.g CHS.kp CHS.b .nil pass0 (pa_cons (pv 2) (pa_cons (pv 6) pa_nil))))) pa_nil)) (pe_callB (cr_sum rfl) (by rfl) m_sum (by decide +kernel) (pa_cons (pe_slice sl_list (pv 3) (po_some pe_int) po_none) pa_nil))))
        (pss_one (ps_if (pt_not (pt_val (pe_callG SM hgd hrSM (by rfl) gSM kSM bSM pass0 (pa_cons (pe_lst (pa_cons (pe_call DEG.ok hrDEG (by rfl) DEG.g DEG.kp DEG.b .nil pass0 (pa_cons (pv 2) (pa_cons (pv 9) pa_nil))) (pa_cons (pe_callK0 DEG.ok hrDEG (by rfl) DEG.g DEG.kp kb_many_of_degree pass0 (pk_cons (pv 9) (pk_cons (pv 2) pk_nil))) pa_nil))) (pa_cons (pe_op op_rep (pe_lst (pa_cons (pv 10) pa_nil)) pe_int) pa_nil))))) (pss_one (ps_ret pe_bl)) pss_nil)))))
      (pss_cons (ps_set (i := 11) scLaw.nd rfl (.inl rfl) (pe_call TUP.ok hrTUP (by rfl) TUP.g TUP.kp TUP.b .nil pass0 (pa_cons (pv 9) pa_nil)))
      (pss_cons (ps_for PassesOwn.never rfl (pi_tup (pe_tup (pa_cons pe_int (pa_cons pe_int (pa_cons (pv 2) pa_nil))))) (pg_name (i := 12) scLaw.nd rfl (.inr rfl)) (pss_cons (ps_set (i := 13) scLaw.nd rfl (.inl rfl) (pe_callB (cr_sum rfl) (by rfl) m_sum (by decide +kernel) (pa_cons (pe_slice sl_list (pe_call MPS.ok hrMPS (by rfl) MPS.g MPS.kp MPS.b .nil pass0 (pa_cons (pv 12) pa_nil)) (po_some pe_int) po_none) pa_nil)))
        (pss_cons (ps_set (i := 10) scLaw.nd rfl (.inl rfl) (pe_lst (pa_cons (pv 13) (pa_cons (pe_op op_mul (pe_call CHS.ok hrCHS (by rfl) CHS.g CHS.kp CHS.b .nil pass0 (pa_cons (pv 12) (pa_cons (pv 6) pa_nil))) (pv 13)) (pa_cons (pe_op op_mul (pe_call CHS.ok hrCHS (by rfl) CHS.g CHS.kp CHS.b .nil pass0 (pa_cons (pv 12) (pa_cons (pv 6) pa_nil))) (pe_ix ix_list (pe_call MPS.ok hrMPS (by rfl) MPS.g MPS.kp MPS.b .nil pass0 (pa_cons (pv 12) pa_nil)) pe_int (fun _ _ => rfl))) pa_nil)))))
        (pss_cons (ps_expr (pe_bm PySem.F.plainAttrs_list PySem.F.slot_list_append PySem.F.type_list_append mt_append (pv 10) (pa_cons (pe_op op_mul (pe_callB (cr_sum rfl) (by rfl) m_sum (by decide +kernel) (pa_cons (pe_lc (own := [("_law_some", 16)]) (g := gName 16) (tt := tYes) rfl scLaw.nd (pi_list (pv 11)) (blkOk_by (N := nLaw) (sc := defScope sLaw) (by decide +kernel)) (fun _ _ _ _ _ => (pg_name (i := 16) scLaw.nd rfl (.inl rfl))) (fun _ _ _ _ _ => pts_nil) (fun _ _ _ _ _ => (pe_call CHS.ok hrCHS (by rfl) CHS.g CHS.kp CHS.b .nil pass0 (pa_cons (pv 12) (pa_cons (pv 16) pa_nil))))) pa_nil)) (pv 13)) pa_nil)))
        (pss_cons (ps_set (i := 8) scLaw.nd rfl (.inl rfl) (pe_lst (pa_cons (pe_call STR.ok hrSTR (by rfl) STR.g STR.kp STR.b .nil pass0 (pa_cons (pv 12) pa_nil)) (pa_cons (pe_call STP.ok hrSTP (by rfl) STP.g STP.kp STP.b .nil pass0 (pa_cons (pv 12) (pa_cons (pv 6) pa_nil))) (pa_cons (pe_call WTH.ok hrWTH (by rfl) WTH.g WTH.kp WTH.b .nil pass0 (pa_cons (pv 12) (pa_cons (pv 6) (pa_cons pe_int pa_nil)))) (pa_cons (pe_call DEG.ok hrDEG (by rfl) DEG.g DEG.kp DEG.b .nil pass0 (pa_cons (pv 12) (pa_cons (pv 9) pa_nil))) pa_nil))))))
        (pss_one (ps_if (pt_not (pt_val (pe_callG SM hgd hrSM (by rfl) gSM kSM bSM pass0 (pa_cons (pv 8) (pa_cons (pv 10) pa_nil))))) (pss_one (ps_ret pe_bl)) pss_nil)))))))
      (pss_one (ps_ret pe_bl)))))))))), ?_⟩
    have mem : ∀ (l : List Nat) (p : Nat → Bool), l.all p = true → ∀ x ∈ iv l, ∃ n : Nat, x = .int n ∧ p n = true := by
      intro l p h x hx
      obtain ⟨n, hn, rfl⟩ := List.mem_map.mp hx
      exact ⟨n, rfl, List.all_eq_true.mp h n hn⟩
    refine ⟨.ref a, rfl, a, ns, 10881016, rfl, by decide, by decide, hS, hl, fun d c H1 s1 nd nc hk => ?_⟩
    refine ⟨.ref d, rfl, (by show 10 ≤ sizeLine; decide), fun t nt => ?_⟩
    have st := same_new (o := .tup (iv [2, 3, 4, 5, 7, 8, 9, 11, 13, 16])) nt
    have ht := upd_same (H := H1) (a := t) (o := HO.tup (iv [2, 3, 4, 5, 7, 8, 9, 11, 13, 16]))
    refine ⟨d, c, t, iv [2, 3, 4, 5, 7, 8, 9, 11, 13, 16], rfl, hk.same st, .inl (.inl ht), by decide, by decide, fun x H2 hx b2 k2 => ?_⟩
    obtain ⟨q, rfl, hq⟩ := mem _ (fun n => decide (n ∈ fields)) (by decide) x hx
    have hq : q ∈ fields := of_decide_eq_true hq
    have q1 := gt1 hq
    have q16 := le16 hq
    refine ⟨.int q, rfl, q, rfl, hq, fun M H3 s3 nM hM => ?_⟩
    have k3 := k2.same s3
    obtain ⟨nMd, nMc⟩ := k2.new nM
    have mps : ((Cnt.mp q).drop 1).sum = Cnt.strt q := Cnt.mp_sum hq
    have cst := Cnt.strt_le q16
    have zsum : ∀ (σ : L2.St) (H' : Hp), σ[3]? = some (some (.ref M)) → H' M = some (.lst (iv (Cnt.mp q))) → Zl (tCB (rSum K) (tCons (tSl (rSlL K) (tVar 3) (tPart (tC (V.int 1))) tNoPart) tNil)) σ H' (.int (Cnt.strt q : Nat)) := by
      intro σ H' h1 h2
      have := zl_sum (K := K) (zls_cut (K := K) (zls_var (K := K) h1 (.inl (.inl h2))))
      rw [mps] at this
      exact this
    show Ends.nx _ [some (V.ref a), some (V.ref d), some (V.int q), some (V.ref M), none, none, none, none, none, none, none, none, none, none, none, none, none] H3
    dsimp only []
    refine same_lists (ns := [Cnt.strt q, Cnt.strt q]) (zls_lst (zas_cons (zl_str hq rfl) fun _ _ => zas_cons (zl_strK hq rfl) fun _ _ => zas_nil) (by show 2 ≤ 1000; decide)) (fun H' s => zls_rep (k := 2) (by decide) (zsum _ _ rfl (s _ _ hM))) (fun n hn => ?_) (by show 2 ≤ 16; decide) (fun H4 s4 => ?_)
    · simp only [List.mem_cons, List.not_mem_nil, or_false, or_self] at hn
      rw [hn]
      exact b_str hq
    have k4 := k3.same s4
    have hM4 := s4 _ _ hM
    show Ends.nx _ [some (V.ref a), some (V.ref d), some (V.int q), some (V.ref M), none, none, none, none, none, none, none, none, none, none, none, none, none] H4
    dsimp only []
    refine tSeq_by (fun σ' H' => Deck H' d c ∧ H' M = some (.lst (iv (Cnt.mp q))) ∧ ∃ y4 y5 A ds y7 y8, σ' = [some (V.ref a), some (V.ref d), some (V.int q), some (V.ref M), y4, y5, some (V.ref A), y7, y8, none, none, none, none, none, none, none, none] ∧ Dgs K H' A ds) (fun σ' H5 hI => ?_) (fun nx kx => ?_)
    · obtain ⟨k5, hM5, y4, y5, A, ds, y7, y8, rfl, hD5⟩ := hI
      refine tSeq_by (fun σ' H' => H' M = some (.lst (iv (Cnt.mp q))) ∧ ∃ (y4 y8 y10 : Option V) (n : Nat), n ≠ 0 ∧ n ≤ 1000 ∧ σ' = [some (V.ref a), some (V.ref d), some (V.int q), some (V.ref M), y4, y5, some (V.ref A), y7, y8, some (V.int (n : Nat)), y10, none, none, none, none, none, none] ∧ Dgs K H' A ds) (fun σ' H6 hI => ?_) (fun nx kx => ?_)
      · obtain ⟨hM6, y4, y8, y10, n, n0, n1, rfl, hD6⟩ := hI
        refine zl_tups (j := 9) rfl n0 n1 _ fun L xs H7 s7 hL al => ?_
        have hD7 : Dgs K H7 A ds := ⟨BP.Same.tupS s7 hD6.1, hD6.2⟩
        have sml := Cnt.small n0 n1 11
        show Ends.nx _ [some (V.ref a), some (V.ref d), some (V.int q), some (V.ref M), y4, y5, some (V.ref A), y7, y8, some (V.int (n : Nat)), y10, some (V.ref L), none, none, none, none, none] H7
        dsimp only []
        refine ⟨.int q, rfl, (by show 3 ≤ sizeLine; decide), fun t nt => ?_⟩
        have st := same_new (o := .tup (iv [2, 3, q])) nt
        have ht := upd_same (H := H7) (a := t) (o := HO.tup (iv [2, 3, q]))
        refine ⟨t, rfl, ⟨iv [2, 3, q], .inl (.inl ht)⟩, for_tup (K := K) (a := t) (xs := iv [2, 3, q]) (fun i σ H' => Same (upd H7 t (.tup (iv [2, 3, q]))) H' ∧ ∃ y8 y10 y12 y13, σ = [some (V.ref a), some (V.ref d), some (V.int q), some (V.ref M), y4, y5, some (V.ref A), y7, y8, some (V.int (n : Nat)), y10, some (V.ref L), y12, y13, none, none, none]) ⟨Same.rf, y8, y10, none, none, rfl⟩ (fun i σ H' _ hW => BP.Same.tupS hW.1 (.inl (.inl ht))) (fun i x σ H8 hx hW => ?_) (fun σ H' hW => ?_)⟩
        · obtain ⟨s8, y8, y10, y12, y13, rfl⟩ := hW
          obtain ⟨f', ef, rfl⟩ := iv_of hx
          have hf : f' ∈ fields := by
            have := List.mem_of_getElem? ef
            simp only [List.mem_cons, List.not_mem_nil, or_false] at this
            rcases this with rfl | rfl | rfl
            · decide
            · decide
            · exact hq
          have f1 := gt1 hf
          have f16 := le16 hf
          have cf := Cnt.strt_le f16
          have pf : Cnt.strt f' / (f' - 1) ≤ 2 ^ 24 := Nat.le_trans (Nat.div_le_self _ _) cf
          have s78 := st.trans s8
          have dgs : ∀ {H' : Hp}, Same H8 H' → Dgs K H' A ds := fun s => ⟨BP.Same.tupS (s78.trans s) hD7.1, hD7.2⟩
          have hal : ∀ {H' : Hp}, Same H8 H' → Al (Fd1 K H') xs (Cnt.fnd n 11) := fun s => Fd1.kept (fun _ _ => BP.Same.tupS (s78.trans s)) al
          have hLL : ∀ {H' : Hp}, Same H8 H' → SqL K H' L xs := fun s => (s78.trans s).seq hL
          have zs := zl_sum (K := K) (zls_cut (K := K) (zl_maps (K := K) (σ := [some (V.ref a), some (V.ref d), some (V.int q), some (V.ref M), y4, y5, some (V.ref A), y7, y8, some (V.int (n : Nat)), y10, some (V.ref L), some (V.int (f' : Nat)), y13, none, none, none]) (H := H8) (i := 12) hf rfl))
          rw [Cnt.mp_sum hf] at zs
          refine seq_zl zs fun H9 s9 => ?_
          show tSeq _ _ _ [some (V.ref a), some (V.ref d), some (V.int q), some (V.ref M), y4, y5, some (V.ref A), y7, y8, some (V.int (n : Nat)), y10, some (V.ref L), some (V.int (f' : Nat)), some (V.int (Cnt.strt f' : Nat)), none, none, none] H9
          have z1 : Zl (tVar 13) [some (V.ref a), some (V.ref d), some (V.int q), some (V.ref M), y4, y5, some (V.ref A), y7, y8, some (V.int (n : Nat)), y10, some (V.ref L), some (V.int (f' : Nat)), some (V.int (Cnt.strt f' : Nat)), none, none, none] H9 (.int (Cnt.strt f' : Nat)) := zl_var rfl
          have z2 : ∀ H', Same H9 H' → Zl (tOp (rI CMul fun i j => V.int (i * j)) (tCall (spChs K) [] E0 (tCons (tVar 12) (tCons (tVar 6) tNil))) (tVar 13)) [some (V.ref a), some (V.ref d), some (V.int q), some (V.ref M), y4, y5, some (V.ref A), y7, y8, some (V.int (n : Nat)), y10, some (V.ref L), some (V.int (f' : Nat)), some (V.int (Cnt.strt f' : Nat)), none, none, none] H' (.int (Cnt.chs f' ds * Cnt.strt f' : Nat)) := fun H' t1 =>
            zl_mul (zl_chs (K := K) (σ := [some (V.ref a), some (V.ref d), some (V.int q), some (V.ref M), y4, y5, some (V.ref A), y7, y8, some (V.int (n : Nat)), y10, some (V.ref L), some (V.int (f' : Nat)), some (V.int (Cnt.strt f' : Nat)), none, none, none]) (i := 12) (j := 6) hf rfl rfl (dgs (s9.trans t1))) (fun H'' _ => zl_var rfl) (cmn cf)
          have z4 : ∀ H', Zl (tOp (rIxL K) (tCall spMps [] E0 (tCons (tVar 12) tNil)) (tC (V.int 1))) [some (V.ref a), some (V.ref d), some (V.int q), some (V.ref M), y4, y5, some (V.ref A), y7, y8, some (V.int (n : Nat)), y10, some (V.ref L), some (V.int (f' : Nat)), some (V.int (Cnt.strt f' : Nat)), none, none, none] H' (.int (Cnt.strt f' / (f' - 1) : Nat)) := fun H' =>
            zl_at1 (K := K) (zl_maps (K := K) (σ := [some (V.ref a), some (V.ref d), some (V.int q), some (V.ref M), y4, y5, some (V.ref A), y7, y8, some (V.int (n : Nat)), y10, some (V.ref L), some (V.int (f' : Nat)), some (V.int (Cnt.strt f' : Nat)), none, none, none]) (i := 12) hf rfl) (Cnt.mp_at hf (Nat.le_refl 1) f1)
          have z3 : ∀ H', Same H9 H' → Zl (tOp (rI CMul fun i j => V.int (i * j)) (tCall (spChs K) [] E0 (tCons (tVar 12) (tCons (tVar 6) tNil))) (tOp (rIxL K) (tCall spMps [] E0 (tCons (tVar 12) tNil)) (tC (V.int 1)))) [some (V.ref a), some (V.ref d), some (V.int q), some (V.ref M), y4, y5, some (V.ref A), y7, y8, some (V.int (n : Nat)), y10, some (V.ref L), some (V.int (f' : Nat)), some (V.int (Cnt.strt f' : Nat)), none, none, none] H' (.int (Cnt.chs f' ds * (Cnt.strt f' / (f' - 1)) : Nat)) := fun H' t1 =>
            zl_mul (zl_chs (K := K) (σ := [some (V.ref a), some (V.ref d), some (V.int q), some (V.ref M), y4, y5, some (V.ref A), y7, y8, some (V.int (n : Nat)), y10, some (V.ref L), some (V.int (f' : Nat)), some (V.int (Cnt.strt f' : Nat)), none, none, none]) (i := 12) (j := 6) hf rfl rfl (dgs (s9.trans t1))) (fun H'' _ => z4 H'') (cmn pf)
          have za := zas_cons z1 fun H' t1 => zas_cons (z2 H' t1) fun H'' t2 => zas_cons (z3 H'' (t1.trans t2)) fun _ _ => zas_nil
          refine seq_lst za (by show 3 ≤ 1000; decide) fun E H11 sE nE9 hE => ?_
          have nE8 := BP.none_of s9 nE9
          have s11 := s9.trans sE
          show tSeq _ _ _ [some (V.ref a), some (V.ref d), some (V.int q), some (V.ref M), y4, y5, some (V.ref A), y7, y8, some (V.int (n : Nat)), some (V.ref E), some (V.ref L), some (V.int (f' : Nat)), some (V.int (Cnt.strt f' : Nat)), none, none, none] H11
          have zz := zl_mul (zl_sum (K := K) (zls_tups (K := K) (src := tVar 11) (te := tCall (spChs K) [] E0 (tCons (tVar 12) (tCons (tVar 16) tNil))) (j := 16) (vs := [16]) (σ := [some (V.ref a), some (V.ref d), some (V.int q), some (V.ref M), y4, y5, some (V.ref A), y7, y8, some (V.int (n : Nat)), some (V.ref E), some (V.ref L), some (V.int (f' : Nat)), some (V.int (Cnt.strt f' : Nat)), none, none, none]) (H := H11) (Cnt.chs f') (by omega) (fun Q k => ⟨_, rfl, k L xs _ Same.rf (hLL s11) (hal s11)⟩) (fun _ => rfl) (fun e s H' he s' hse => zl_chs (K := K) (i := 12) (j := 16) hf rfl rfl ⟨hse, ((fdeg n 11).2 e he).1, Nat.le_succ_of_le ((fdeg n 11).2 e he).2⟩))) (fun H'' s'' => zl_var (i := 13) (v := .int (Cnt.strt f' : Nat)) rfl) (.inr ⟨by omega, by omega⟩)
          have ed : ((Cnt.fnd n 11).map (Cnt.chs f')).sum * Cnt.strt f' = Cnt.deg f' n := (Cnt.deg_eq (by omega) n0 n1).symm
          rw [ed] at zz
          refine seq_app (K := K) rfl hE (by show 3 ≤ 1000; decide) zz fun H12 s12 => ?_
          have s13 : Same H8 (upd H12 E (.lst (iv [Cnt.strt f', Cnt.chs f' ds * Cnt.strt f', Cnt.chs f' ds * (Cnt.strt f' / (f' - 1)), Cnt.deg f' n]))) := same_upd (s11.trans s12) nE8
          have hE13 := upd_same (H := H12) (a := E) (o := HO.lst (iv [Cnt.strt f', Cnt.chs f' ds * Cnt.strt f', Cnt.chs f' ds * (Cnt.strt f' / (f' - 1)), Cnt.deg f' n]))
          show tSeq _ _ _ [some (V.ref a), some (V.ref d), some (V.int q), some (V.ref M), y4, y5, some (V.ref A), y7, y8, some (V.int (n : Nat)), some (V.ref E), some (V.ref L), some (V.int (f' : Nat)), some (V.int (Cnt.strt f' : Nat)), none, none, none] (upd H12 E (.lst (iv [Cnt.strt f', Cnt.chs f' ds * Cnt.strt f', Cnt.chs f' ds * (Cnt.strt f' / (f' - 1)), Cnt.deg f' n])))
          generalize upd H12 E (.lst (iv [Cnt.strt f', Cnt.chs f' ds * Cnt.strt f', Cnt.chs f' ds * (Cnt.strt f' / (f' - 1)), Cnt.deg f' n])) = H13 at s13 hE13 ⊢
          rw [Nat.mul_comm (Cnt.chs f' ds) (Cnt.strt f'), Nat.mul_comm (Cnt.chs f' ds) (Cnt.strt f' / (f' - 1))] at hE13
          refine seq_lst (ns := [Cnt.strt f', Cnt.strt f' * Cnt.chs f' ds, Cnt.strt f' / (f' - 1) * Cnt.chs f' ds, Cnt.deg f' n]) (zas_cons (zl_str (i := 12) hf rfl) fun _ t1 => zas_cons (zl_stp (K := K) (σ := [some (V.ref a), some (V.ref d), some (V.int q), some (V.ref M), y4, y5, some (V.ref A), y7, y8, some (V.int (n : Nat)), some (V.ref E), some (V.ref L), some (V.int (f' : Nat)), some (V.int (Cnt.strt f' : Nat)), none, none, none]) (i := 12) (j := 6) hf rfl rfl (dgs (s13.trans t1))) fun _ t2 => zas_cons (zl_wth1 (K := K) (σ := [some (V.ref a), some (V.ref d), some (V.int q), some (V.ref M), y4, y5, some (V.ref A), y7, y8, some (V.int (n : Nat)), some (V.ref E), some (V.ref L), some (V.int (f' : Nat)), some (V.int (Cnt.strt f' : Nat)), none, none, none]) (i := 12) (j := 6) hf rfl rfl (dgs (s13.trans (t1.trans t2)))) fun _ _ => zas_cons (zl_deg (σ := [some (V.ref a), some (V.ref d), some (V.int q), some (V.ref M), y4, y5, some (V.ref A), y7, y8, some (V.int (n : Nat)), some (V.ref E), some (V.ref L), some (V.int (f' : Nat)), some (V.int (Cnt.strt f' : Nat)), none, none, none]) (i := 12) (j := 9) hf rfl rfl n0 n1) fun _ _ => zas_nil) (by show 4 ≤ 1000; decide) fun T H14 s14 _ hT' => ?_
          have hT : SqL K H14 T _ := .inl (.inl hT')
          show tIfS _ _ _ _ [some (V.ref a), some (V.ref d), some (V.int q), some (V.ref M), y4, y5, some (V.ref A), y7, some (V.ref T), some (V.int (n : Nat)), some (V.ref E), some (V.ref L), some (V.int (f' : Nat)), some (V.int (Cnt.strt f' : Nat)), none, none, none] H14
          refine same_lists (ns := [Cnt.strt f', Cnt.strt f' * Cnt.chs f' ds, Cnt.strt f' / (f' - 1) * Cnt.chs f' ds, Cnt.deg f' n]) (zls_var rfl hT) (fun H' s => zls_var rfl (.inl (.inl ((s14.trans s) _ _ hE13)))) (fun m hm => ?_) (by show 4 ≤ 16; decide) (fun H15 s15 => ⟨s8.trans (s13.trans (s14.trans s15)), _, _, _, _, rfl⟩)
          simp only [List.mem_cons, List.not_mem_nil, or_false] at hm
          rcases hm with rfl | rfl | rfl | rfl
          · exact b_str hf
          · exact b_stp hf hD7.2.1 hD7.2.2
          · exact b_wth hf hD7.2.1 hD7.2.2
          · exact b_deg hf
        · exact want _
      · refine ⟨3, rfl, by decide, by decide, for_range (lo := 0) (n := 3) (fun i σ H' => Deck H' d c ∧ H' M = some (.lst (iv (Cnt.mp q))) ∧ ∃ y4 y9 y10, σ = [some (V.ref a), some (V.ref d), some (V.int q), some (V.ref M), y4, y5, some (V.ref A), y7, y8, y9, y10, none, none, none, none, none, none] ∧ Dgs K H' A ds ∧ (i ≠ 0 → ∃ n : Nat, y9 = some (.int (n : Nat)) ∧ n ≠ 0 ∧ n ≤ 1000)) ⟨k5, hM5, y4, none, none, rfl, hD5, fun z => absurd rfl z⟩ (fun i σ H' hi hW => ?_) (fun σ H' hW => ?_)⟩
        · obtain ⟨k6, hM6, y4, y9, y10, rfl, hD6, _⟩ := hW
          refine ⟨.ref d, rfl, d, c, rfl, k6, fun n H7 n1 n2 b7 k7 => ?_⟩
          have hM7 := b7 _ _ nMd nMc hM6
          have hD7 : Dgs K H7 A ds := ⟨But.sqT k6 b7 _ _ hD6.1, hD6.2⟩
          have n0 : n ≠ 0 := by omega
          have sml := Cnt.small n0 n2 11
          show Ends.nx _ [some (V.ref a), some (V.ref d), some (V.int q), some (V.ref M), some (V.int (0 + (i : Int))), y5, some (V.ref A), y7, y8, some (V.int (n : Nat)), y10, none, none, none, none, none, none] H7
          dsimp only []
          have ed : ((Cnt.fnd n 11).map (Cnt.chs q)).sum * Cnt.strt q = Cnt.deg q n := (Cnt.deg_eq (by omega) n0 n2).symm
          have zz := zl_mul (zl_sum (K := K) (zls_tups (K := K) (te := tCall (spChs K) [] E0 (tCons (tVar 2) (tCons (tVar 6) tNil))) (j := 6) (vs := [6]) (σ := [some (V.ref a), some (V.ref d), some (V.int q), some (V.ref M), some (V.int (0 + (i : Int))), y5, some (V.ref A), y7, y8, some (V.int (n : Nat)), y10, none, none, none, none, none, none]) (H := H7) (Cnt.chs q) (by omega) (fun Q k => zl_tups (j := 9) rfl n0 n2 Q k) (fun _ => rfl) (fun e s H' he s' hse => zl_chs (K := K) hq rfl rfl ⟨hse, ((fdeg n 11).2 e he).1, Nat.le_succ_of_le ((fdeg n 11).2 e he).2⟩))) (fun H'' s'' => zsum [some (V.ref a), some (V.ref d), some (V.int q), some (V.ref M), some (V.int (0 + (i : Int))), y5, some (V.ref A), y7, y8, some (V.int (n : Nat)), y10, none, none, none, none, none, none] H'' rfl (s'' _ _ hM7)) (.inr ⟨by omega, by omega⟩)
          rw [ed] at zz
          refine seq_zl zz fun H8 s8 => ?_
          show tIfS _ _ _ _ [some (V.ref a), some (V.ref d), some (V.int q), some (V.ref M), some (V.int (0 + (i : Int))), y5, some (V.ref A), y7, y8, some (V.int (n : Nat)), some (V.int (Cnt.deg q n : Nat)), none, none, none, none, none, none] H8
          refine same_lists (ns := [Cnt.deg q n, Cnt.deg q n]) (zls_lst (zas_cons (zl_deg (i := 2) (j := 9) hq rfl rfl n0 n2) fun _ _ => zas_cons (zl_degK (i := 2) (j := 9) hq rfl rfl n0 n2) fun _ _ => zas_nil) (by show 2 ≤ 1000; decide)) (fun H' s => zls_rep (k := 2) (by decide) (zl_var rfl)) (fun m hm => ?_) (by show 2 ≤ 16; decide) (fun H9 s9 => ?_)
          · simp only [List.mem_cons, List.not_mem_nil, or_false, or_self] at hm
            rw [hm]
            exact b_deg hq
          · exact ⟨k7.same (s8.trans s9), (s8.trans s9) _ _ hM7, _, _, _, rfl, ⟨BP.Same.tupS (s8.trans s9) hD7.1, hD7.2⟩, fun _ => ⟨n, rfl, n0, n2⟩⟩
        · obtain ⟨k6, hM6, y4, y9, y10, rfl, hD6, h9⟩ := hW
          obtain ⟨n, rfl, n0, n1⟩ := h9 (by decide)
          exact kx _ _ ⟨hM6, _, _, _, n, n0, n1, rfl, hD6⟩
    · refine ⟨3, rfl, by decide, by decide, for_range (lo := 0) (n := 3) (fun i σ H' => Deck H' d c ∧ H' M = some (.lst (iv (Cnt.mp q))) ∧ ∃ y4 y5 y6 y7 y8, σ = [some (V.ref a), some (V.ref d), some (V.int q), some (V.ref M), y4, y5, y6, y7, y8, none, none, none, none, none, none, none, none] ∧ (i ≠ 0 → ∃ A ds, y6 = some (.ref A) ∧ Dgs K H' A ds)) ⟨k4, hM4, _, _, _, _, _, rfl, fun z => absurd rfl z⟩ (fun i σ H' hi hW => ?_) (fun σ H' hW => ?_)⟩
      · obtain ⟨k5, hM5, y4, y5, y6, y7, y8, rfl, _⟩ := hW
        refine ⟨.ref d, rfl, (by show 9 ≤ sizeLine; decide), fun t nt => ?_⟩
        have st := same_new (o := .tup (iv [2, 1, 3, 0, 4, 12, 6, 5, 9])) nt
        have ht := upd_same (H := H') (a := t) (o := HO.tup (iv [2, 1, 3, 0, 4, 12, 6, 5, 9]))
        refine ⟨d, c, t, iv [2, 1, 3, 0, 4, 12, 6, 5, 9], rfl, k5.same st, .inl (.inl ht), by decide, by decide, fun x H6 hx b6 k6 => ?_⟩
        obtain ⟨m, rfl, hm⟩ := mem _ (fun n => decide (n ≤ 12)) (by decide) x hx
        have hm : m ≤ 12 := of_decide_eq_true hm
        have hM6 := b6 _ _ nMd nMc (st _ _ hM5)
        refine ⟨.int m, rfl, m, rfl, by omega, by omega, fun D nD => ?_⟩
        rw [Int.toNat_natCast]
        obtain ⟨nDd, nDc⟩ := k6.new nD
        have nDM : D ≠ M := (ne_of_none hM6 nD).symm
        refine lc_range (lo := 0) (n := m) (fun j H' => Deck H' d c ∧ H' M = some (.lst (iv (Cnt.mp q))) ∧ ∃ ds : List Nat, ds.length = j ∧ (∀ x ∈ ds, 2 ≤ x ∧ x ≤ 6) ∧ H' D = some (.lst (iv ds))) ⟨k6.off nDd nDc, same_upd2 hM6 nDM.symm, [], rfl, (fun x h => by cases h), upd_same⟩ (fun j H7 hj hW => ?_) (fun H7 hW => ?_)
        · obtain ⟨k7, hM7, ds, ld, hds, hD⟩ := hW
          refine ⟨rfl, yes_kept ⟨.ref d, rfl, d, c, 5, rfl, k7, by decide, by decide, fun x H8 hx b8 k8 => ⟨2, x, rfl, rfl, iv ds, b8 _ _ nDd nDc hD, ?_, k8.off nDd nDc, same_upd2 (b8 _ _ nMd nMc hM7) nDM.symm, ds ++ [2 + x], ?_, fun y hy => ?_, ?_⟩⟩⟩
          · rw [List.length_map, ld]
            exact Nat.lt_of_lt_of_le (show j < 12 by omega) (by decide)
          · rw [List.length_append, ld]
            rfl
          · rw [List.mem_append, List.mem_singleton] at hy
            rcases hy with hy | rfl
            · exact hds y hy
            · omega
          · rw [upd_same]
            unfold iv
            rw [List.map_append]
            show some (HO.lst (_ ++ [V.int (2 + (x : Int))])) = some (HO.lst (_ ++ [V.int ((2 + x : Nat) : Int)]))
            rw [Int.natCast_add]
            rfl
        obtain ⟨k7, hM7, ds, ld, hds, hD⟩ := hW
        refine .inl ⟨D, iv ds, rfl, .inl (.inl hD), fun A nA => ?_⟩
        have sA := same_new (o := .tup (iv ds)) nA
        have hA : Dgs K (upd H7 A (.tup (iv ds))) A ds := ⟨.inl (.inl upd_same), hds, by omega⟩
        have k8 := k7.same sA
        have hM8 := sA _ _ hM7
        generalize upd H7 A (.tup (iv ds)) = H8 at sA hA k8 hM8 ⊢
        show Ends.nx _ [some (V.ref a), some (V.ref d), some (V.int q), some (V.ref M), some (V.int (0 + (i : Int))), some (V.int (m : Nat)), some (V.ref A), y7, y8, none, none, none, none, none, none, none, none] H8
        dsimp only []
        have bch := b_chs hq hA.2.1 hA.2.2
        refine seq_zl (zl_chs (K := K) (i := 2) (j := 6) hq rfl rfl hA) fun H9 s9 => ?_
        have dgs : ∀ {H' : Hp}, Same H8 H' → Dgs K H' A ds := fun s => ⟨BP.Same.tupS s hA.1, hA.2⟩
        have bst := b_stp hq hA.2.1 hA.2.2
        have bwt := b_wth hq hA.2.1 hA.2.2
        have pq : Cnt.strt q / (q - 1) ≤ 2 ^ 24 := Nat.le_trans (Nat.div_le_self _ _) cst
        show tSeq _ _ _ [some (V.ref a), some (V.ref d), some (V.int q), some (V.ref M), some (V.int (0 + (i : Int))), some (V.int (m : Nat)), some (V.ref A), some (V.int (Cnt.chs q ds : Nat)), y8, none, none, none, none, none, none, none, none] H9
        refine seq_lst (ns := [Cnt.strt q * Cnt.chs q ds, Cnt.strt q * Cnt.chs q ds, Cnt.strt q * Cnt.chs q ds]) (zas_cons (zl_stp (K := K) (σ := [some (V.ref a), some (V.ref d), some (V.int q), some (V.ref M), some (V.int (0 + (i : Int))), some (V.int (m : Nat)), some (V.ref A), some (V.int (Cnt.chs q ds : Nat)), y8, none, none, none, none, none, none, none, none]) (i := 2) (j := 6) hq rfl rfl (dgs s9)) fun _ t1 => zas_cons (zl_stpK (K := K) (σ := [some (V.ref a), some (V.ref d), some (V.int q), some (V.ref M), some (V.int (0 + (i : Int))), some (V.int (m : Nat)), some (V.ref A), some (V.int (Cnt.chs q ds : Nat)), y8, none, none, none, none, none, none, none, none]) (i := 2) (j := 6) hq rfl rfl (dgs (s9.trans t1))) fun _ t2 => zas_cons (zl_stpR (K := K) (σ := [some (V.ref a), some (V.ref d), some (V.int q), some (V.ref M), some (V.int (0 + (i : Int))), some (V.int (m : Nat)), some (V.ref A), some (V.int (Cnt.chs q ds : Nat)), y8, none, none, none, none, none, none, none, none]) (i := 2) (j := 6) hq rfl rfl (dgs (s9.trans (t1.trans t2)))) fun _ _ => zas_nil) (by show 3 ≤ 1000; decide) fun T H10 s10 _ hT' => ?_
        have hT : SqL K H10 T _ := .inl (.inl hT')
        have s10' := s9.trans s10
        show tSeq _ _ _ [some (V.ref a), some (V.ref d), some (V.int q), some (V.ref M), some (V.int (0 + (i : Int))), some (V.int (m : Nat)), some (V.ref A), some (V.int (Cnt.chs q ds : Nat)), some (V.ref T), none, none, none, none, none, none, none, none] H10
        refine same_lists (ns := [Cnt.strt q * Cnt.chs q ds, Cnt.strt q * Cnt.chs q ds, Cnt.strt q * Cnt.chs q ds]) (zls_var rfl hT) (fun H' s => ?_) (fun n hn => ?_) (by show 3 ≤ 16; decide) (fun H11 s11 => ?_)
        · have := zls_rep (K := K) (k := 3) (by decide) (zl_mul (m := Cnt.chs q ds) (zl_var (i := 7) rfl) (fun H'' s'' => zsum [some (V.ref a), some (V.ref d), some (V.int q), some (V.ref M), some (V.int (0 + (i : Int))), some (V.int (m : Nat)), some (V.ref A), some (V.int (Cnt.chs q ds : Nat)), some (V.ref T), none, none, none, none, none, none, none, none] H'' rfl ((s10'.trans (s.trans s'')) _ _ hM8)) (.inr ⟨by omega, by omega⟩))
          rw [Nat.mul_comm] at this
          exact this
        · simp only [List.mem_cons, List.not_mem_nil, or_false, or_self] at hn
          rw [hn]
          exact bst
        have s11' := s10'.trans s11
        show Ends.nx _ [some (V.ref a), some (V.ref d), some (V.int q), some (V.ref M), some (V.int (0 + (i : Int))), some (V.int (m : Nat)), some (V.ref A), some (V.int (Cnt.chs q ds : Nat)), some (V.ref T), none, none, none, none, none, none, none, none] H11
        dsimp only []
        have erep : (List.range (q - 1)).map (fun _ => Cnt.strt q / (q - 1) * Cnt.chs q ds) = List.replicate (q - 1) (Cnt.strt q / (q - 1) * Cnt.chs q ds) := by
          rw [List.map_const', List.length_range]
        refine seq_zls (K := K) (zls_rng (K := K) (lo := 1) (n := q - 1) (fun _ => Cnt.strt q / (q - 1) * Cnt.chs q ds) (by omega) (by decide) (zas_1q rfl q1) (fun _ => rfl) (fun j H' hj s => zl_wth (K := K) hq rfl rfl (dgs (s11'.trans s)) rfl)) fun T2 H12 s12 hT2 => ?_
        rw [erep] at hT2
        have s12' := s11'.trans s12
        show tSeq _ _ _ [some (V.ref a), some (V.ref d), some (V.int q), some (V.ref M), some (V.int (0 + (i : Int))), some (V.int (m : Nat)), some (V.ref A), some (V.int (Cnt.chs q ds : Nat)), some (V.ref T2), none, none, none, none, none, none, none, none] H12
        refine same_lists (ns := List.replicate (q - 1) (Cnt.strt q / (q - 1) * Cnt.chs q ds)) (zls_var rfl hT2) (fun H' s => ?_) (fun n hn => ?_) (by rw [List.length_replicate]; omega) (fun H13 s13 => ?_)
        · have := zls_map (K := K) (te := tOp (rI CMul fun i j => V.int (i * j)) (tVar 7) (tVar 14)) (j := 14) (vs := [14]) (σ := [some (V.ref a), some (V.ref d), some (V.int q), some (V.ref M), some (V.int (0 + (i : Int))), some (V.int (m : Nat)), some (V.ref A), some (V.int (Cnt.chs q ds : Nat)), some (V.ref T2), none, none, none, none, none, none, none, none]) (fun m => Cnt.chs q ds * m) (by rw [List.length_drop, Cnt.mp_len hq]; omega) (zls_cut (K := K) (zls_var (K := K) (i := 3) rfl (.inl (.inl ((s12'.trans s) _ _ hM8))))) (fun _ => rfl) (fun m H'' hm s'' => ?_)
          · rw [Cnt.mp_drop hq, List.map_replicate, Nat.mul_comm] at this
            exact this
          · rw [Cnt.mp_drop hq] at hm
            have em := List.eq_of_mem_replicate hm
            exact zl_mul (zl_var (i := 7) rfl) (fun _ _ => zl_var (i := 14) rfl) (cmn (by rw [em]; exact pq))
        · rw [List.eq_of_mem_replicate hn]
          exact bwt
        have s13' := s12'.trans s13
        show Ends.nx _ [some (V.ref a), some (V.ref d), some (V.int q), some (V.ref M), some (V.int (0 + (i : Int))), some (V.int (m : Nat)), some (V.ref A), some (V.int (Cnt.chs q ds : Nat)), some (V.ref T2), none, none, none, none, none, none, none, none] H13
        dsimp only []
        refine same_nums (n := Cnt.strt q / (q - 1) * Cnt.chs q ds) (zl_wthK (K := K) hq rfl rfl (dgs s13')) (fun H' s => ?_) bwt (fun H14 s14 => ?_)
        · refine zl_last (K := K) (ns := List.replicate (q - 2) (Cnt.strt q / (q - 1) * Cnt.chs q ds)) rfl ?_
          have := (s13.trans s).seq hT2
          have er : List.replicate (q - 1) (Cnt.strt q / (q - 1) * Cnt.chs q ds) = List.replicate (q - 2) (Cnt.strt q / (q - 1) * Cnt.chs q ds) ++ [Cnt.strt q / (q - 1) * Cnt.chs q ds] := by
            generalize Cnt.strt q / (q - 1) * Cnt.chs q ds = z
            rw [show q - 1 = (q - 2) + 1 by omega, List.replicate_succ']
          rw [← er]
          exact this
        · exact ⟨k8.same (s13'.trans s14), (s13'.trans s14) _ _ hM8, _, _, _, _, _, rfl, fun _ => ⟨A, ds, rfl, dgs (s13'.trans s14)⟩⟩
      · obtain ⟨k5, hM5, y4, y5, y6, y7, y8, rfl, h6⟩ := hW
        obtain ⟨A, ds, rfl, hD⟩ := h6 (by decide)
        exact kx _ _ ⟨k5, hM5, _, _, A, ds, _, _, rfl, hD⟩
end
end K16
set_option Elab.async false
set_option linter.all false
set_option maxRecDepth 100000
set_option maxHeartbeats 8000000
namespace K16
open PySem PySem.Spec PyProof.Rows L2 BP Fld
/-! What the top has written. -/
theorem all_mk {l : PySem.W.OpenLaw} {w : World} {K : PySem.W.Frag} {h : Heap} {mg : Str → Option Value} {fa : Addr} (X : K.In h) (G : h.Ns mainGlobals mg) (hfa : mg "law" = some (.ref fa))
    {tL tG : Tok} (aL : PySem.W.nsIn K mainGlobals "LEAST_DEGREE" = some (some (.int 2 tL))) (aG : PySem.W.nsIn K mainGlobals "GREATEST_DEGREE" = some (some (.int 6 tG)))
    {f0 : Addr} {od0 an0 : Option Addr} {sl0 : Array (Option Value)} {oc0 kV0 dc0 pm0 cd0 ct0 : Value}
    {f1 : Addr} {od1 an1 : Option Addr} {sl1 : Array (Option Value)} {oc1 kV1 dc1 pm1 cd1 ct1 : Value}
    {f2 : Addr} {od2 an2 : Option Addr} {sl2 : Array (Option Value)} {oc2 kV2 dc2 pm2 cd2 ct2 : Value}
    {f3 : Addr} {od3 an3 : Option Addr} {sl3 : Array (Option Value)} {oc3 kV3 dc3 pm3 cd3 ct3 : Value}
    {f4 : Addr} {od4 an4 : Option Addr} {sl4 : Array (Option Value)} {oc4 kV4 dc4 pm4 cd4 ct4 : Value}
    {f5 : Addr} {od5 an5 : Option Addr} {sl5 : Array (Option Value)} {oc5 kV5 dc5 pm5 cd5 ct5 : Value}
    {f6 : Addr} {od6 an6 : Option Addr} {sl6 : Array (Option Value)} {oc6 kV6 dc6 pm6 cd6 ct6 : Value}
    {f7 : Addr} {od7 an7 : Option Addr} {sl7 : Array (Option Value)} {oc7 kV7 dc7 pm7 cd7 ct7 : Value}
    {f8 : Addr} {od8 an8 : Option Addr} {sl8 : Array (Option Value)} {oc8 kV8 dc8 pm8 cd8 ct8 : Value}
    {f9 : Addr} {od9 an9 : Option Addr} {sl9 : Array (Option Value)} {oc9 kV9 dc9 pm9 cd9 ct9 : Value}
    {f10 : Addr} {od10 an10 : Option Addr} {sl10 : Array (Option Value)} {oc10 kV10 dc10 pm10 cd10 ct10 : Value}
    {f11 : Addr} {od11 an11 : Option Addr} {sl11 : Array (Option Value)} {oc11 kV11 dc11 pm11 cd11 ct11 : Value}
    {f12 : Addr} {od12 an12 : Option Addr} {sl12 : Array (Option Value)} {oc12 kV12 dc12 pm12 cd12 ct12 : Value}
    {f13 : Addr} {od13 an13 : Option Addr} {sl13 : Array (Option Value)} {oc13 kV13 dc13 pm13 cd13 ct13 : Value}
    {f14 : Addr} {od14 an14 : Option Addr} {sl14 : Array (Option Value)} {oc14 kV14 dc14 pm14 cd14 ct14 : Value}
    {f15 : Addr} {od15 an15 : Option Addr} {sl15 : Array (Option Value)} {oc15 kV15 dc15 pm15 cd15 ct15 : Value}
    {f16 : Addr} {od16 an16 : Option Addr} {sl16 : Array (Option Value)} {oc16 kV16 dc16 pm16 cd16 ct16 : Value}
    {f17 : Addr} {od17 an17 : Option Addr} {sl17 : Array (Option Value)} {oc17 kV17 dc17 pm17 cd17 ct17 : Value}
    {f18 : Addr} {od18 an18 : Option Addr} {sl18 : Array (Option Value)} {oc18 kV18 dc18 pm18 cd18 ct18 : Value}
    (a0 : PySem.W.nsIn K mainGlobals "_law_deck" = some (some (.ref f0))) (l0 : K.lookup f0 = some ⟨oc0, od0, .func (PySem.W.fnOf "_law_deck" "_law_deck" (defArgs sLDeck) (defBody sLDeck) (defScope sLDeck) .none kV0 dc0 pm0 an0 cd0 ct0), sl0⟩) (e0 : PySem.W.codeIn K cd0 "_law_deck" = true) (k0 : PySem.W.keepIn K (.ref f0) = true)
    (a1 : PySem.W.nsIn K mainGlobals "_law_draw" = some (some (.ref f1))) (l1 : K.lookup f1 = some ⟨oc1, od1, .func (PySem.W.fnOf "_law_draw" "_law_draw" (defArgs sLDraw) (defBody sLDraw) (defScope sLDraw) .none kV1 dc1 pm1 an1 cd1 ct1), sl1⟩) (e1 : PySem.W.codeIn K cd1 "_law_draw" = true) (k1 : PySem.W.keepIn K (.ref f1) = true)
    (a2 : PySem.W.nsIn K mainGlobals "_law_pick" = some (some (.ref f2))) (l2 : K.lookup f2 = some ⟨oc2, od2, .func (PySem.W.fnOf "_law_pick" "_law_pick" (defArgs sLPick) (defBody sLPick) (defScope sLPick) .none kV2 dc2 pm2 an2 cd2 ct2), sl2⟩) (e2 : PySem.W.codeIn K cd2 "_law_pick" = true) (k2 : PySem.W.keepIn K (.ref f2) = true)
    (a3 : PySem.W.nsIn K mainGlobals "_law_powers" = some (some (.ref f3))) (l3 : K.lookup f3 = some ⟨oc3, od3, .func (PySem.W.fnOf "_law_powers" "_law_powers" (defArgs sLPowers) (defBody sLPowers) (defScope sLPowers) .none kV3 dc3 pm3 an3 cd3 ct3), sl3⟩) (e3 : PySem.W.codeIn K cd3 "_law_powers" = true) (k3 : PySem.W.keepIn K (.ref f3) = true)
    (a4 : PySem.W.nsIn K mainGlobals "_law_by" = some (some (.ref f4))) (l4 : K.lookup f4 = some ⟨oc4, od4, .func (PySem.W.fnOf "_law_by" "_law_by" (defArgs sLBy) (defBody sLBy) (defScope sLBy) .none kV4 dc4 pm4 an4 cd4 ct4), sl4⟩) (e4 : PySem.W.codeIn K cd4 "_law_by" = true) (k4 : PySem.W.keepIn K (.ref f4) = true)
    (a5 : PySem.W.nsIn K mainGlobals "_law_plus" = some (some (.ref f5))) (l5 : K.lookup f5 = some ⟨oc5, od5, .func (PySem.W.fnOf "_law_plus" "_law_plus" (defArgs sLPlus) (defBody sLPlus) (defScope sLPlus) .none kV5 dc5 pm5 an5 cd5 ct5), sl5⟩) (e5 : PySem.W.codeIn K cd5 "_law_plus" = true) (k5 : PySem.W.keepIn K (.ref f5) = true)
    (a6 : PySem.W.nsIn K mainGlobals "_law_less" = some (some (.ref f6))) (l6 : K.lookup f6 = some ⟨oc6, od6, .func (PySem.W.fnOf "_law_less" "_law_less" (defArgs sLLess) (defBody sLLess) (defScope sLLess) .none kV6 dc6 pm6 an6 cd6 ct6), sl6⟩) (e6 : PySem.W.codeIn K cd6 "_law_less" = true) (k6 : PySem.W.keepIn K (.ref f6) = true)
    (a7 : PySem.W.nsIn K mainGlobals "_law_maps" = some (some (.ref f7))) (l7 : K.lookup f7 = some ⟨oc7, od7, .func (PySem.W.fnOf "_law_maps" "_law_maps" (defArgs sLMaps) (defBody sLMaps) (defScope sLMaps) .none kV7 dc7 pm7 an7 cd7 ct7), sl7⟩) (e7 : PySem.W.codeIn K cd7 "_law_maps" = true) (k7 : PySem.W.keepIn K (.ref f7) = true)
    (a8 : PySem.W.nsIn K mainGlobals "many_straight" = some (some (.ref f8))) (l8 : K.lookup f8 = some ⟨oc8, od8, .func (PySem.W.fnOf "many_straight" "many_straight" (defArgs sManyStraight) (defBody sManyStraight) (defScope sManyStraight) .none kV8 dc8 pm8 an8 cd8 ct8), sl8⟩) (e8 : PySem.W.codeIn K cd8 "many_straight" = true) (k8 : PySem.W.keepIn K (.ref f8) = true)
    (a9 : PySem.W.nsIn K mainGlobals "many_bends" = some (some (.ref f9))) (l9 : K.lookup f9 = some ⟨oc9, od9, .func (PySem.W.fnOf "many_bends" "many_bends" (defArgs sManyBends) (defBody sManyBends) (defScope sManyBends) .none kV9 dc9 pm9 an9 cd9 ct9), sl9⟩) (e9 : PySem.W.codeIn K cd9 "many_bends" = true) (k9 : PySem.W.keepIn K (.ref f9) = true)
    (a10 : PySem.W.nsIn K mainGlobals "many_steps" = some (some (.ref f10))) (l10 : K.lookup f10 = some ⟨oc10, od10, .func (PySem.W.fnOf "many_steps" "many_steps" (defArgs sManySteps) (defBody sManySteps) (defScope sManySteps) .none kV10 dc10 pm10 an10 cd10 ct10), sl10⟩) (e10 : PySem.W.codeIn K cd10 "many_steps" = true) (k10 : PySem.W.keepIn K (.ref f10) = true)
    (a11 : PySem.W.nsIn K mainGlobals "many_with" = some (some (.ref f11))) (l11 : K.lookup f11 = some ⟨oc11, od11, .func (PySem.W.fnOf "many_with" "many_with" (defArgs sManyWith) (defBody sManyWith) (defScope sManyWith) .none kV11 dc11 pm11 an11 cd11 ct11), sl11⟩) (e11 : PySem.W.codeIn K cd11 "many_with" = true) (k11 : PySem.W.keepIn K (.ref f11) = true)
    (a12 : PySem.W.nsIn K mainGlobals "many_bent_rows" = some (some (.ref f12))) (l12 : K.lookup f12 = some ⟨oc12, od12, .func (PySem.W.fnOf "many_bent_rows" "many_bent_rows" (defArgs sManyBentRows) (defBody sManyBentRows) (defScope sManyBentRows) .none kV12 dc12 pm12 an12 cd12 ct12), sl12⟩) (e12 : PySem.W.codeIn K cd12 "many_bent_rows" = true) (k12 : PySem.W.keepIn K (.ref f12) = true)
    (a13 : PySem.W.nsIn K mainGlobals "many_of_degree" = some (some (.ref f13))) (l13 : K.lookup f13 = some ⟨oc13, od13, .func (PySem.W.fnOf "many_of_degree" "many_of_degree" (defArgs sManyOfDegree) (defBody sManyOfDegree) (defScope sManyOfDegree) .none kV13 dc13 pm13 an13 cd13 ct13), sl13⟩) (e13 : PySem.W.codeIn K cd13 "many_of_degree" = true) (k13 : PySem.W.keepIn K (.ref f13) = true)
    (a14 : PySem.W.nsIn K mainGlobals "_law_choices" = some (some (.ref f14))) (l14 : K.lookup f14 = some ⟨oc14, od14, .func (PySem.W.fnOf "_law_choices" "_law_choices" (defArgs sLChoices) (defBody sLChoices) (defScope sLChoices) .none kV14 dc14 pm14 an14 cd14 ct14), sl14⟩) (e14 : PySem.W.codeIn K cd14 "_law_choices" = true) (k14 : PySem.W.keepIn K (.ref f14) = true)
    (a15 : PySem.W.nsIn K mainGlobals "_law_tuples" = some (some (.ref f15))) (l15 : K.lookup f15 = some ⟨oc15, od15, .func (PySem.W.fnOf "_law_tuples" "_law_tuples" (defArgs sLTuples) (defBody sLTuples) (defScope sLTuples) .none kV15 dc15 pm15 an15 cd15 ct15), sl15⟩) (e15 : PySem.W.codeIn K cd15 "_law_tuples" = true) (k15 : PySem.W.keepIn K (.ref f15) = true)
    (a16 : PySem.W.nsIn K mainGlobals "_law_product" = some (some (.ref f16))) (l16 : K.lookup f16 = some ⟨oc16, od16, .func (PySem.W.fnOf "_law_product" "_law_product" (defArgs sLProduct) (defBody sLProduct) (defScope sLProduct) .none kV16 dc16 pm16 an16 cd16 ct16), sl16⟩) (e16 : PySem.W.codeIn K cd16 "_law_product" = true) (k16 : PySem.W.keepIn K (.ref f16) = true)
    (a17 : PySem.W.nsIn K mainGlobals "_law_same" = some (some (.ref f17))) (l17 : K.lookup f17 = some ⟨oc17, od17, .func (PySem.W.fnOf "_law_same" "_law_same" (defArgs sLSame) (defBody sLSame) (defScope sLSame) .none kV17 dc17 pm17 an17 cd17 ct17), sl17⟩) (e17 : PySem.W.codeIn K cd17 "_law_same" = true) (k17 : PySem.W.keepIn K (.ref f17) = true)
    (a18 : PySem.W.nsIn K mainGlobals "law" = some (some (.ref f18))) (l18 : K.lookup f18 = some ⟨oc18, od18, .func (PySem.W.fnOf "law" "law" (defArgs sLaw) (defBody sLaw) (defScope sLaw) .none kV18 dc18 pm18 an18 cd18 ct18), sl18⟩) (e18 : PySem.W.codeIn K cd18 "law" = true) (k18 : PySem.W.keepIn K (.ref f18) = true)
    (z0 : PySem.W.nsIn K mainGlobals "enumerate" = some none)
    (z1 : PySem.W.nsIn K mainGlobals "int" = some none)
    (z2 : PySem.W.nsIn K mainGlobals "len" = some none)
    (z3 : PySem.W.nsIn K mainGlobals "list" = some none)
    (z4 : PySem.W.nsIn K mainGlobals "max" = some none)
    (z5 : PySem.W.nsIn K mainGlobals "range" = some none)
    (z6 : PySem.W.nsIn K mainGlobals "repr" = some none)
    (z7 : PySem.W.nsIn K mainGlobals "sum" = some none)
    (z8 : PySem.W.nsIn K mainGlobals "tuple" = some none)
    : ∃ fd : FuncData, (∀ (s : Shared) (v : Value), BindsTo s fd ⟨[v], []⟩ [("_law_script", v)]) ∧ ∀ base : Heap, K.In base → base.Ns mainGlobals mg → GFn l.prog w K mg base 15 fa fd ["_law_script"] (spLaw K) := by
  have e := hfa.symm.trans (PySem.W.mg_of X G a18)
  cases e
  have F0 := fun_mk (st := sLDeck) l0 e0 k0
  have b0 := F0.binds (ps := pLDeck) fun _ _ _ _ _ _ us hl => match us, hl with | [_, _], _ => rfl
  have g0 := PySem.W.mg_of X G a0
  have F1 := fun_mk (st := sLDraw) l1 e1 k1
  have b1 := F1.binds (ps := pLDraw) fun _ _ _ _ _ _ us hl => match us, hl with | [_, _], _ => rfl
  have g1 := PySem.W.mg_of X G a1
  have F2 := fun_mk (st := sLPick) l2 e2 k2
  have b2 := F2.binds (ps := pLPick) fun _ _ _ _ _ _ us hl => match us, hl with | [_, _], _ => rfl
  have g2 := PySem.W.mg_of X G a2
  have F3 := fun_mk (st := sLPowers) l3 e3 k3
  have b3 := F3.binds (ps := pLPowers) fun _ _ _ _ _ _ us hl => match us, hl with | [_], _ => rfl
  have g3 := PySem.W.mg_of X G a3
  have F4 := fun_mk (st := sLBy) l4 e4 k4
  have b4 := F4.binds (ps := pLBy) fun _ _ _ _ _ _ us hl => match us, hl with | [_, _, _], _ => rfl
  have g4 := PySem.W.mg_of X G a4
  have F5 := fun_mk (st := sLPlus) l5 e5 k5
  have b5 := F5.binds (ps := pLPlus) fun _ _ _ _ _ _ us hl => match us, hl with | [_, _, _], _ => rfl
  have g5 := PySem.W.mg_of X G a5
  have F6 := fun_mk (st := sLLess) l6 e6 k6
  have b6 := F6.binds (ps := pLLess) fun _ _ _ _ _ _ us hl => match us, hl with | [_, _], _ => rfl
  have g6 := PySem.W.mg_of X G a6
  have F7 := fun_mk (st := sLMaps) l7 e7 k7
  have b7 := F7.binds (ps := pLMaps) fun _ _ _ _ _ _ us hl => match us, hl with | [_], _ => rfl
  have g7 := PySem.W.mg_of X G a7
  have F8 := fun_mk (st := sManyStraight) l8 e8 k8
  have b8 := F8.binds (ps := pManyStraight) fun _ _ _ _ _ _ us hl => match us, hl with | [_], _ => rfl
  have g8 := PySem.W.mg_of X G a8
  have F9 := fun_mk (st := sManyBends) l9 e9 k9
  have b9 := F9.binds (ps := pManyBends) fun _ _ _ _ _ _ us hl => match us, hl with | [_, _], _ => rfl
  have g9 := PySem.W.mg_of X G a9
  have F10 := fun_mk (st := sManySteps) l10 e10 k10
  have b10 := F10.binds (ps := pManySteps) fun _ _ _ _ _ _ us hl => match us, hl with | [_, _], _ => rfl
  have g10 := PySem.W.mg_of X G a10
  have F11 := fun_mk (st := sManyWith) l11 e11 k11
  have b11 := F11.binds (ps := pManyWith) fun _ _ _ _ _ _ us hl => match us, hl with | [_, _, _], _ => rfl
  have g11 := PySem.W.mg_of X G a11
  have F12 := fun_mk (st := sManyBentRows) l12 e12 k12
  have b12 := F12.binds (ps := pManyBentRows) fun _ _ _ _ _ _ us hl => match us, hl with | [_, _], _ => rfl
  have g12 := PySem.W.mg_of X G a12
  have F13 := fun_mk (st := sManyOfDegree) l13 e13 k13
  have b13 := F13.binds (ps := pManyOfDegree) fun _ _ _ _ _ _ us hl => match us, hl with | [_, _], _ => rfl
  have g13 := PySem.W.mg_of X G a13
  have F14 := fun_mk (st := sLChoices) l14 e14 k14
  have b14 := F14.binds (ps := pLChoices) fun _ _ _ _ _ _ us hl => match us, hl with | [_, _], _ => rfl
  have g14 := PySem.W.mg_of X G a14
  have F15 := fun_mk (st := sLTuples) l15 e15 k15
  have b15 := F15.binds (ps := pLTuples) fun _ _ _ _ _ _ us hl => match us, hl with | [_], _ => rfl
  have g15 := PySem.W.mg_of X G a15
  have F16 := fun_mk (st := sLProduct) l16 e16 k16
  have b16 := F16.binds (ps := pLProduct) fun _ _ _ _ _ _ us hl => match us, hl with | [_], _ => rfl
  have g16 := PySem.W.mg_of X G a16
  have F17 := fun_mk (st := sLSame) l17 e17 k17
  have b17 := F17.binds (ps := pLSame) fun _ _ _ _ _ _ us hl => match us, hl with | [_, _], _ => rfl
  have g17 := PySem.W.mg_of X G a17
  have F18 := fun_mk (st := sLaw) l18 e18 k18
  have g18 := PySem.W.mg_of X G a18
  have m0 := PySem.W.mg_none_of X G z0
  have m1 := PySem.W.mg_none_of X G z1
  have m2 := PySem.W.mg_none_of X G z2
  have m3 := PySem.W.mg_none_of X G z3
  have m4 := PySem.W.mg_none_of X G z4
  have m5 := PySem.W.mg_none_of X G z5
  have m6 := PySem.W.mg_none_of X G z6
  have m7 := PySem.W.mg_none_of X G z7
  have m8 := PySem.W.mg_none_of X G z8
  have gL := PySem.W.mg_of X G aL
  have gG := PySem.W.mg_of X G aG
  have kb_many_straight := kb_on1 (a := "q") F8 fun _ _ _ _ _ _ _ => rfl
  have kb_many_steps := kb_sw2 (a := "q") (b := "degrees") F10 fun _ _ _ _ _ _ _ _ => rfl
  have kb_many_with := kb_rv3 (a := "q") (b := "degrees") (c := "determinant") F11 fun _ _ _ _ _ _ _ _ _ => rfl
  have kb_many_of_degree := kb_sw2 (a := "q") (b := "degree") F13 fun _ _ _ _ _ _ _ _ => rfl
  refine ⟨PySem.W.fnOf "law" "law" (defArgs sLaw) (defBody sLaw) (defScope sLaw) .none kV18 dc18 pm18 an18 cd18 ct18, fun s v => .of_eq rfl, fun base _ _ => ?_⟩
  have O0 := ok_deck (P := l.prog) (w := w) (K := K) (mg := mg) (base := base) (k := 0) F0 m1 m3
  have O1 := ok_draw (P := l.prog) (w := w) (K := K) (mg := mg) (base := base) (k := 0) F1 m1 m4
  have O2 := ok_pick (P := l.prog) (w := w) (K := K) (mg := mg) (base := base) F2 ⟨O1, g1, k1, b1⟩ m2
  have O3 := ok_powers (P := l.prog) (w := w) (K := K) (mg := mg) (base := base) (k := 0) F3
  have O4 := ok_by (P := l.prog) (w := w) (K := K) (mg := mg) (base := base) F4 ⟨O3, g3, k3, b3⟩ m1
  have O5 := ok_plus (P := l.prog) (w := w) (K := K) (mg := mg) (base := base) (k := 0) F5 m1
  have O6 := ok_less (P := l.prog) (w := w) (K := K) (mg := mg) (base := base) (k := 0) F6 m1
  have O7 := ok_maps (P := l.prog) (w := w) (K := K) (mg := mg) (base := base) F7 ⟨O4, g4, k4, b4⟩ ⟨O5, g5, k5, b5⟩ ⟨O6, g6, k6, b6⟩ m5
  have O8 := ok_straight (P := l.prog) (w := w) (K := K) (mg := mg) (base := base) (k := 0) F8
  have O9 := ok_bends (P := l.prog) (w := w) (K := K) (mg := mg) (base := base) (k := 0) F9 m5
  have O10 := ok_steps (P := l.prog) (w := w) (K := K) (mg := mg) (base := base) (k := 0) F10 ⟨O8, g8, k8, b8⟩ ⟨O9, g9, k9, b9⟩ m0
  have O11 := ok_with (P := l.prog) (w := w) (K := K) (mg := mg) (base := base) F11 ⟨O10, g10, k10, b10⟩
  have O12 := ok_bent_rows (P := l.prog) (w := w) (K := K) (mg := mg) (base := base) ⟨O9, g9, k9, b9⟩ F12 g12 k12 b12 gL gG m5 m7 11
  have O13 := ok_of_degree (P := l.prog) (w := w) (K := K) (mg := mg) (base := base) F13 ⟨O8, g8, k8, b8⟩ ⟨O12, g12, k12, b12⟩
  have O14 := ok_choices (P := l.prog) (w := w) (K := K) (mg := mg) (base := base) (k := 0) F14 m0 m5
  have O15 := ok_tuples (P := l.prog) (w := w) (K := K) (mg := mg) (base := base) (k := 0) F15 m5 m1
  have O16 := ok_product (P := l.prog) (w := w) (K := K) (mg := mg) (base := base) F16 ⟨O1, g1, k1, b1⟩ ⟨O2, g2, k2, b2⟩ m5
  have O17 := ok_same (P := l.prog) (w := w) (K := K) (mg := mg) (base := base) (k := 0) F17 m6
  exact ok_law F18 ⟨O0, g0, k0, b0⟩ ⟨O1, g1, k1, b1⟩ ⟨O2, g2, k2, b2⟩ ⟨O7, g7, k7, b7⟩ ⟨O8, g8, k8, b8⟩ ⟨O10, g10, k10, b10⟩ ⟨O11, g11, k11, b11⟩ ⟨O13, g13, k13, b13⟩ ⟨O14, g14, k14, b14⟩ ⟨O15, g15, k15, b15⟩ ⟨O16, g16, k16, b16⟩ O17 g17 k17 b17 kb_many_straight kb_many_steps kb_many_with kb_many_of_degree m5 m8 m7
end K16
set_option Elab.async false
set_option maxRecDepth 100000
set_option maxHeartbeats 0
open PySem PySem.W PyProof.Rows
open_top head for PySem.Challenge.rw_bentplane_k16_numbers_of_steps_with_told
set_option Elab.async false
set_option maxRecDepth 100000
open PySem PySem.W PyProof.Rows
set_option maxHeartbeats 0 in
theorem PySem.Challenge.cw_bentplane_k16_numbers_of_steps_with_told_holds : PySem.Challenge.rw_bentplane_k16_numbers_of_steps_with_told.Holds :=
  head (by
  k_fill
  refine BP.walkG (l := PySem.Challenge.rw_bentplane_k16_numbers_of_steps_with_told) (n := 63) (k := 15) (x := "_law_script") (sp := fun w => K16.spLaw _) rfl (by decide) rfl ⟨rfl, by decide, by decide⟩ (fun w h Y => PySem.W.kIn_of Y) ?F (fun _ _ a ns hl _ hS => ⟨a, ns, rfl, hS, hl, fun _ => rfl⟩)
  case F =>
    intro w mg fa h KX G hmg
    refine' K16.all_mk KX G hmg ?aL ?aG ?a0 ?l0 ?e0 ?k0 ?a1 ?l1 ?e1 ?k1 ?a2 ?l2 ?e2 ?k2 ?a3 ?l3 ?e3 ?k3 ?a4 ?l4 ?e4 ?k4 ?a5 ?l5 ?e5 ?k5 ?a6 ?l6 ?e6 ?k6 ?a7 ?l7 ?e7 ?k7 ?a8 ?l8 ?e8 ?k8 ?a9 ?l9 ?e9 ?k9 ?a10 ?l10 ?e10 ?k10 ?a11 ?l11 ?e11 ?k11 ?a12 ?l12 ?e12 ?k12 ?a13 ?l13 ?e13 ?k13 ?a14 ?l14 ?e14 ?k14 ?a15 ?l15 ?e15 ?k15 ?a16 ?l16 ?e16 ?k16 ?a17 ?l17 ?e17 ?k17 ?a18 ?l18 ?e18 ?k18 ?z0 ?z1 ?z2 ?z3 ?z4 ?z5 ?z6 ?z7 ?z8
    (case aL => k_is)
    (case aG => k_is)
    (case a0 => k_is)
    (case l0 => k_is)
    (case e0 => k_is)
    (case k0 => k_is)
    (case a1 => k_is)
    (case l1 => k_is)
    (case e1 => k_is)
    (case k1 => k_is)
    (case a2 => k_is)
    (case l2 => k_is)
    (case e2 => k_is)
    (case k2 => k_is)
    (case a3 => k_is)
    (case l3 => k_is)
    (case e3 => k_is)
    (case k3 => k_is)
    (case a4 => k_is)
    (case l4 => k_is)
    (case e4 => k_is)
    (case k4 => k_is)
    (case a5 => k_is)
    (case l5 => k_is)
    (case e5 => k_is)
    (case k5 => k_is)
    (case a6 => k_is)
    (case l6 => k_is)
    (case e6 => k_is)
    (case k6 => k_is)
    (case a7 => k_is)
    (case l7 => k_is)
    (case e7 => k_is)
    (case k7 => k_is)
    (case a8 => k_is)
    (case l8 => k_is)
    (case e8 => k_is)
    (case k8 => k_is)
    (case a9 => k_is)
    (case l9 => k_is)
    (case e9 => k_is)
    (case k9 => k_is)
    (case a10 => k_is)
    (case l10 => k_is)
    (case e10 => k_is)
    (case k10 => k_is)
    (case a11 => k_is)
    (case l11 => k_is)
    (case e11 => k_is)
    (case k11 => k_is)
    (case a12 => k_is)
    (case l12 => k_is)
    (case e12 => k_is)
    (case k12 => k_is)
    (case a13 => k_is)
    (case l13 => k_is)
    (case e13 => k_is)
    (case k13 => k_is)
    (case a14 => k_is)
    (case l14 => k_is)
    (case e14 => k_is)
    (case k14 => k_is)
    (case a15 => k_is)
    (case l15 => k_is)
    (case e15 => k_is)
    (case k15 => k_is)
    (case a16 => k_is)
    (case l16 => k_is)
    (case e16 => k_is)
    (case k16 => k_is)
    (case a17 => k_is)
    (case l17 => k_is)
    (case e17 => k_is)
    (case k17 => k_is)
    (case a18 => k_is)
    (case l18 => k_is)
    (case e18 => k_is)
    (case k18 => k_is)
    (case z0 => k_is)
    (case z1 => k_is)
    (case z2 => k_is)
    (case z3 => k_is)
    (case z4 => k_is)
    (case z5 => k_is)
    (case z6 => k_is)
    (case z7 => k_is)
    (case z8 => k_is))
