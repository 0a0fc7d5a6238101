import PyProof.Rows.All
import Wide.All
import OpenK.AllK
import Wide.FinOn
import HandS.ForMost
import HandS.Defaults
import HandS.StrMore
import HandS.SortKw
import HandS.Conv
import HandS.Style
import HandS.Small
import HandS.TupLe
import HandS.IsInst
import HandS.More
import HandS.Lambda
import KE.SortKeyHeap
import KE.KLam
import HandS.Iter
import HandS.Comp
import HandS.Words
import KE.KDictList
import HandS.ListItems
import OpenK.KMore
import HandS.ExcInit
import HandS.ExcIs
import HandS.ExcField
import KE.KExcInit
import KE.KExcIs
import HandS.ExcOwn
import HandS.ExcValue
import HandS.Dict
import PyProof.RowDictHeap
import HandS.Text
import HandS.SlotsOwn
import HandS.Property
import HandS.ClsMeth
import HandS.FStr
import HandS.SetTxt0
import HandS.Set
import PyProof.Rows.SetFrom
import PyProof.StrLawsFrom
import PyProof.ListStr
import KE.GoesZip
import HandS.Zip
import KE.GoesMore
import HandS.TryMany
import HandS.Replace
import PyProof.Rows.StrLawsPart
import HandS.OwnEq
import PyProof.NeKinds
import PyProof.ReprReads
import KE.KeyNested
import HandS.SetKeys
import HandS.TupLen
import PyProof.P3In
import PyProof.Rows.TupDisplay
import HandS.WideBits
import HandS.Nested
import HandS.TupAny
import HandS.EndTab
import KE.KNestM
import HandS.SetFor
import HandS.Strs
import HandS.SortInts
import HandS.Deep
import HandS.HeadNt
import PySem.Challenge.RW_missedparts_k82_whole_heard_by_sets_of_p
set_option Elab.async false
set_option linter.all false
set_option maxRecDepth 100000
set_option maxHeartbeats 4000000
/-! A promise of a def that is asked only where no repr of a container is under way (guards = []): the same as FnOk, one premise more. -/
namespace LK
open PySem PySem.Spec PyProof.Rows L2

structure FnG (P : Program) (w : World) (K : PySem.W.Frag) (mg : Str → Option Value) (base : Heap) (CX : CXT)
    (k : Nat) (f : Addr) (fd : FuncData) (ps : List Str) (sp : Sp) : Prop where
  len : ∀ vs H Q E, sp vs H Q E → vs.length = ps.length
  run : ∀ (A : Around), A.guards = some [] → ∀ (outer : List Env) (s : Shared) (H : Hp) (args : Args)
    (us : List Value) (vs : List V) (Q : VK) (E : XK), Room k A → Env0 P w K mg base A outer s H →
    BindsTo s fd args (ps.zip us) → Vals vs us → sp vs H Q E →
    codeAny (model P w) A (.call (.ref f) args) (CR CX outer P w H s Q E) s

section
variable {P : Program} {w : World} {K : PySem.W.Frag} {mg : Str → Option Value} {base : Heap} {CX : CXT}

theorem FnG.up {j k : Nat} {f : Addr} {fd : FuncData} {ps : List Str} {sp : Sp}
    (F : FnG P w K mg base CX j f fd ps sp) (h : j ≤ k) : FnG P w K mg base CX k f fd ps sp :=
  ⟨F.len, fun A g outer s H args us vs Q E r => F.run A g outer s H args us vs Q E (r.mono h)⟩

/-- THE RULE of a def's body where no repr runs around it -/
theorem fnG_of {k : Nat} {f : Addr} {nm q : Str} {pa : Arguments} {bd : List Stmt} {sc : Scope} {dV kV dc pm cd ct oc : Value}
    {an od : Option Addr} {sl : Array (Option Value)} {N ps : List Str} {sp : Sp}
    (lk : K.lookup f = some ⟨oc, od, .func (PySem.W.fnOf nm q pa bd sc dV kV dc pm an cd ct), sl⟩)
    (hc : PySem.W.codeIn K cd q = true) (S : FnScope N ps sc) (len : ∀ vs H Q E, sp vs H Q E → vs.length = ps.length)
    (hb : ∀ (A : Around), A.guards = some [] → ∀ (outer : List Env) (s : Shared) (H : Hp) (vs : List V) (Q : VK) (E : XK),
      Room k (A.deeper (envOfC q sc s.heap.objs.size f cd)) → sp vs H Q E →
      ∃ t, PSs (cxOf CX P w K mg base N q sc f cd A outer s H E) bd t ∧
        t { nx := fun _ H' => Q .non H', rt := Q } (start N vs) H) :
    FnG P w K mg base CX (k + 1) f (PySem.W.fnOf nm q pa bd sc dV kV dc pm an cd ct) ps sp where
  len := len
  run := by
    intro A hA outer s H args us vs Q E hr e0 bnd rel hs
    have inB : ∀ b o, base.get? b = some o → s.heap.get? b = some o := fun b o e => (e0.bs b o e).1
    have kin : K.In s.heap := e0.mod.kin.keeps inB
    have kd : ∀ y ∈ ps.zip us, sc.names.lookup y.1 = some .local ∨ (sc.names.lookup y.1 = some .cell ∧
        ((cellsFrom (s.heap.objs.size + 1) sc.names []).lookup y.1).isSome = true) := by
      intro y hy
      rcases S.par y.1 (List.of_mem_zip (a := y.1) (b := y.2) hy).1 with z | z
      · exact .inl z
      · exact .inr ⟨z, PySem.W.cellsFrom_some _ _ _ (.inl z)⟩
    refine codeAny_call_function hr.depth (kin _ _ lk) rfl S.co S.gen rfl (PySem.W.codeRec_of kin hc) (bnd _ _ _ _ ?_)
    refine wpAny_newFunctionEnv_cells S.kind kd ?_
    intro env he s1 inC
    subst he
    refine ⟨(e0.mod.nolimit.keeps inB).keeps inC.toInCall.keep, codeAny_func ?_⟩
    obtain ⟨t, ht, hq⟩ := hb A hA outer s H vs Q E (hr.deeper _) hs
    have I0 := inv_start (CX := CX) (mg := mg) (E := E) S hr.hd e0 (len _ _ _ _ hs) rel inC
    refine wpAny_mono (ht.run [] s1 (start N vs) H _ I0 hq) ?_ (fun _ _ z => z)
    intro fl s' z
    have fin : ∀ (σ' : L2.St) (H' : Hp) (v : V) (u : Value),
        Inv (cxOf CX P w K mg base N q sc f cd A outer s H E) [] σ' H' s' → L2.RelV v u → Q v H' → CE outer P w H s Q u s' :=
      fun _ H' v _ J rv y => ⟨v, H', J.os, J.bare, J.base, J.hok, rv, y⟩
    match fl, z with
    | .ret u, z => obtain ⟨v, σ', H', J, rv, y⟩ := z; exact fin σ' H' v u J rv y
    | .next, z => obtain ⟨σ', H', J, y⟩ := z; exact fin σ' H' V.non Value.none J rfl y
    | .brk, z => obtain ⟨_, _, _, y⟩ := z; exact y.elim
    | .cont, z => obtain ⟨_, _, _, y⟩ := z; exact y.elim
end

section
variable {P : Program} {w : World} {K : PySem.W.Frag} {mg : Str → Option Value} {base : Heap}
/-- .. for a def as the top has written it; no exception leaves it -/
theorem okG {x q : Str} {st : Stmt} {f : Addr} {fd : FuncData} {N ps : List Str} {k : Nat} {sp : Sp} (F : Fun K x q st f fd)
    (S : FnScope N ps (defScope st)) (len : ∀ vs H Q E, sp vs H Q E → vs.length = ps.length)
    (hb : ∀ (cd : Value) (A : Around), A.guards = some [] → ∀ (outer : List Env) (s : Shared) (H : Hp) (vs : List V) (Q : VK) (E : XK),
      Room k (A.deeper (envOfC q (defScope st) s.heap.objs.size f cd)) → sp vs H Q E →
      ∃ t, PSs (cxOf CX0 P w K mg base N q (defScope st) f cd A outer s H E).nox (defBody st) t ∧
        t { nx := fun _ H' => Q .non H', rt := Q } (start N vs) H) : FnG P w K mg base CX0 (k + 1) f fd ps sp := by
  obtain ⟨oc, od, kV, dc, pm, an, cd, ct, sl, rfl, lk, hc⟩ := F.ex
  refine fnG_of lk hc S len ?_
  intro A hA outer s H vs Q E hr hs
  obtain ⟨t, h, z⟩ := hb cd A hA outer s H vs Q E hr hs
  exact ⟨t, h.nox, z⟩
end

section
variable {X : Cx} {CX : CXT} {k : Nat} {f : Addr} {fd : FuncData} {ps ks : List Str} {sp : Sp} {E : XK} {x : Str} {p pos : Pos}
  {e : Expr} {es : List Expr} {kws : List Keyword} {t tk : TA}

theorem runG {pins : List (Addr × Obj)} {σ : L2.St} {H : Hp} {s : Shared} {Q : VK} {us ws : List Value} {kw : List (Str × Value)} {vs : List V}
    (F : FnG X.prog X.w X.K X.mg X.base CX k f fd ps sp) (hA : X.A.guards = some []) (hr : Room k X.A) (hx : Passes CX X E)
    (I : Inv X pins σ H s) (b : ws.length = ps.length → BindsTo s fd ⟨us, kw⟩ (ps.zip ws)) (r : L2.Vals vs ws) (h : sp vs H Q E) :
    wpAny (model X.prog X.w) X.A (call (.ref f) us kw) (EP X pins σ Q) X.xe s := by
  have hl : ws.length = ps.length := by rw [← r.length]; exact F.len _ _ _ _ h
  refine wpAny_call (codeAny_mono (F.run X.A hA X.stack s H ⟨us, kw⟩ ws vs Q E hr I.env0 (b hl) r h) ?_)
  intro r s' z
  match r, z with
  | .error e, z => exact hx pins σ H s e s' I z
  | .ok (.ret u), z => exact I.after z
  | .ok .next, z => exact z
  | .ok .brk, z => exact z
  | .ok .cont, z => exact z

/-- f(e, ..) -/
theorem pe_callG (F : FnG X.prog X.w X.K X.mg X.base CX k f fd ps sp) (hA : X.A.guards = some []) (hr : Room k X.A) (hg : Gl X x)
    (hm : X.mg x = some (.ref f)) (hk : PySem.W.keepIn X.K (.ref f) = true) (hb : Binds X.K fd ps []) (hx : Passes CX X E) (ha : PA X (e :: es) t)
    (hdb : (x == ("__debug__" : Str)) = false := by decide) (he : starEach (e :: es) X.env = (false, eval e X.env) :: starEach es X.env := by rfl)
    (hpl : (backTo pos (starEach es X.env)).any (·.1) = false := by rfl) :
    PE X (.Call (.Name x p) (e :: es) [] pos) (tCall sp [] E t) := by
  constructor
  intro pins s σ H Q I h
  refine wpAny_Call_Name_kw (ld_glob I hg hm ?_ hdb)
  refine PySem.W.callWith_K (h₀ := X.base) I.ok.mod.kin hk (thn (ha.run pos pins s σ H _ I h) ?_) he hpl
  intro us s1 z
  obtain ⟨vs, H1, I1, r1, q1⟩ := z
  have q : sp (vs ++ []) H1 Q E := q1
  rw [List.append_nil] at q
  refine ⟨I1.kIn, runG (ws := us) F hA hr hx I1 (fun hl => ?_) r1 q⟩
  have b := hb s1 us I1.kIn (by rw [List.append_nil]; exact hl)
  rw [List.append_nil] at b
  exact b
end

/-! ### the law's own call -/
theorem lawG {P : Program} {w : World} {K : PySem.W.Frag} {mg mb : Str → Option Value} {k : Nat} {fa a : Addr} {fd : FuncData} {x : Str} {sp : Sp} {s1 : Shared} {vs : List Value} {ns : List Int}
    (KX : K.In s1.heap) (g1 : s1.heap.Ns mainGlobals mg) (g2 : s1.heap.Ns builtinsNs mb) (g3 : ∀ x : Str, x ≠ "__name__" → mb x = bootBuiltins x)
    (lim : s1.heap.NoLimit) (gens : s1.gens = #[]) (ha : s1.heap.get? a = some { cls := .type "list", data := .seq vs.toArray })
    (hi : IntsAre vs ns) (hl : ns.length ≤ sizeLine) (hr : Room k callerA)
    (F : ∀ base : Heap, K.In base → base.Ns mainGlobals mg → FnG P w K mg base CX0 k fa fd [x] sp)
    (bnd : ∀ (s : Shared) (u : Value), BindsTo s fd ⟨[u], []⟩ [(x, u)])
    (hsp : ∀ H : Hp, Only H → SqL K H a (ns.map V.int) → sp [.ref a] H (fun v _ => v = .bl true) E0) :
    codeAny (model P w) callerA (.call (.ref fa) ⟨[.ref a], []⟩)
      (fun r s' => r = .ok (.ret (.bool true)) ∧ PySem.OldK s1.heap s'.heap ∧ s'.os = s1.os ∧ AllBare s'.gens) s1 := by
  have rv : L2.Vals (ns.map V.int) vs := vals_ints hi
  let scr : HO := .frz { cls := .type "list", data := .seq vs.toArray } (.lst (ns.map V.int))
  -- what is tracked: the script, unless it is an object of the module
  let H : Hp := fun b => if b = a ∧ K.lookup a = none then some scr else none
  have hH : ∀ b u, H b = some u → b = a ∧ K.lookup a = none ∧ u = scr := by
    intro b u e
    by_cases c : b = a ∧ K.lookup a = none
    · have e2 : some scr = some u := (if_pos c).symm.trans e
      exact ⟨c.1, c.2, (Option.some.inj e2).symm⟩
    · have e2 : (none : Option HO) = some u := (if_neg c).symm.trans e
      cases e2
  have sizes : (ns.map V.int).length ≤ sizeLine := by rw [List.length_map]; exact hl
  have only : Only H := fun b => by
    by_cases c : b = a ∧ K.lookup a = none
    · exact .inr ⟨_, _, if_pos c⟩
    · exact .inl (if_neg c)
  have okH : HOk P w H s1.heap := by
    intro b u e
    obtain ⟨rfl, _, rfl⟩ := hH b u e
    exact ⟨ha, sizes, vs, _, rv, ha⟩
  have sq : SqL K H a (ns.map V.int) := by
    cases e : K.lookup a with
    | none => exact .inl (.inr ⟨_, if_pos ⟨rfl, e⟩⟩)
    | some o =>
      have z := KX a o e
      rw [ha] at z; cases z
      exact .inr ⟨_, vs.toArray, _, e, rfl, rfl, rfl, by rw [List.size_toArray, ← rv.length]; exact sizes, by simpa using rv⟩
  have free : ∀ (b : Addr) (o : Obj), s1.heap.get? b = some o → (∀ es ep, o.data = .dict es ep → H b = none) := by
    intro b o e es ep d
    cases q : H b with
    | none => rfl
    | some u =>
      obtain ⟨rfl, _, _⟩ := hH b u q
      rw [ha] at e; cases e; cases d
  have ns_ : ∀ {b : Addr} {m : Str → Option Value}, s1.heap.Ns b m → (hidT s1.heap H).Ns b m := by
    intro b m z
    obtain ⟨o, es, ep, e, d, r⟩ := z
    exact ⟨o, es, ep, hidT_get e (free b o e es ep d), d, r⟩
  have kin : K.In (hidT s1.heap H) := by
    intro b o e
    refine hidT_get (KX b o e) ?_
    cases q : H b with
    | none => rfl
    | some u =>
      obtain ⟨rfl, n, _⟩ := hH b u q
      rw [n] at e; cases e
  have e0 : Env0 P w K mg (hidT s1.heap H) callerA [] s1 H :=
    ⟨rfl, ⟨kin, ns_ g1, ⟨mb, ns_ g2, g3⟩, (by obtain ⟨mc, p, q⟩ := lim; exact ⟨mc, ns_ p, q⟩)⟩, fun b o e => of_hidT e,
      Nat.le_of_eq (hidT_size _ _), trivial, (fun b hb => absurd (show b ∈ ([] : List Addr) from hb) (fun y => nomatch y)), okH, .of_eq gens⟩
  refine codeAny_mono ((F _ kin (ns_ g1)).run callerA rfl [] s1 H ⟨[.ref a], []⟩ [.ref a] [.ref a] _ _ hr e0 (bnd s1 (.ref a)) (.cons rfl .nil) (hsp H only sq)) ?_
  intro r s' z
  match r, z with
  | .error _, z => exact z.elim
  | .ok .next, z => exact z.elim
  | .ok .brk, z => exact z.elim
  | .ok .cont, z => exact z.elim
  | .ok (.ret u), z =>
    obtain ⟨v, H', os, bare, un, ok', rv', q⟩ := z
    obtain rfl : v = .bl true := q
    obtain rfl : u = Value.bool true := rv'
    refine ⟨rfl, PySem.OldK.of_keep fun b o e => ?_, os, bare⟩
    cases q : H b with
    | none => exact un.keep b o e q (fun y => absurd (show b ∈ ([] : List Addr) from y) (fun y => nomatch y)) (fun y => nomatch y)
    | some y =>
      have q2 := q
      obtain ⟨rfl, _, rfl⟩ := hH b y q
      have z2 := un.frzs _ _ _ q2
      rw [ha] at e; cases e
      exact (ok' _ _ z2).1

theorem walkG {l : PySem.W.OpenLaw} {n k : Nat} {q : Program} {loose : List Str} {XP : (Str → Option Value) → Heap → Prop} {YP : World → Heap → Prop} {d : DefRec} {K : Params → PySem.W.Frag} {sp : PySem.W.Frag → Sp} {x : Str}
    (hn : l.most = some n) (hn2 : n ≤ sizeLine) (hdf : d.params.defaults = []) (hr : Room k callerA) (hY : ∀ (w : World) (h : Heap), YP w h → (K w.params).In h)
    (F : ∀ (w : World) (mg : Str → Option Value) (fa : Addr) (h : Heap), (K w.params).In h → h.Ns mainGlobals mg → mg d.name = some (.ref fa) →
      ∃ fd : FuncData, (∀ (s : Shared) (u : Value), BindsTo s fd ⟨[u], []⟩ [(x, u)]) ∧
        ∀ base : Heap, (K w.params).In base → base.Ns mainGlobals mg → FnG l.prog w (K w.params) mg base CX0 k fa fd [x] (sp (K w.params)))
    (hsp : ∀ (K : PySem.W.Frag) (H : Hp) (a : Addr) (ns : List Int), ns.length ≤ n → Only H → SqL K H a (ns.map V.int) → sp K [.ref a] H (fun v _ => v = .bl true) E0) :
    PySem.W.WalkO q loose XP YP l.row.toRowW d [] (fun f vs => PySem.call f vs) := by
  refine Att.attach_call hn hdf ?_
  intro w s0 s1 mg mb fa o pm cd doc a vs ns G Y ho hd hcd hmg hobj hints hlen hg
  have kin := hY w _ Y
  obtain ⟨fd, hb, hF⟩ := F w mg fa _ kin G.T.g hmg
  exact lawG kin G.T.g G.T.b G.T.builtins G.T.nolimit hg hobj hints (Nat.le_trans hlen hn2) hr hF hb (fun H hO hS => hsp _ H a ns hlen hO hS)
end LK

/-! Readings that compute: by the shape of the values, texts by their codes. -/
namespace LK
open PySem PySem.Spec PyProof.Rows L2

/-- a text by its codes -/
def T (l : List Nat) : Str := ⟨l.toArray⟩
theorem T_inj {a b : List Nat} (h : T a = T b) : a = b := by
  have := congrArg (fun x => x.cps.toList) h
  exact this
theorem T_add (a b : List Nat) : T a ++ T b = T (a ++ b) := by
  show (⟨a.toArray ++ b.toArray⟩ : Str) = ⟨(a ++ b).toArray⟩
  simp
/-- the codes of a text -/
def cs (x : Str) : List Nat := x.cps.toList
@[simp] theorem cs_T (l : List Nat) : cs (T l) = l := rfl
theorem T_cs (x : Str) : T (cs x) = x := rfl
section
variable {X : Cx} {e a b : Expr} {t t' ta tb tc : TE} {pos : Pos}

theorem PE.imp (h : PE X e t) (w : ∀ σ H Q, t' σ H Q → t σ H Q) : PE X e t' :=
  ⟨fun pins s σ H Q I q => h.run pins s σ H Q I (w σ H Q q)⟩
theorem OpR.imp {f : Value → Value → Sem Value} {r r' : R2} (h : OpR X f r) (w : ∀ x y H Q, r' x y H Q → r x y H Q) : OpR X f r' :=
  fun pins s σ H x y v u Q I rx ry q => h pins s σ H x y v u Q I rx ry (w x y H Q q)
theorem CallR.imp {f : Value} {r r' : List V → Hp → VK → Prop} (h : CallR X f r) (w : ∀ vs H Q, r' vs H Q → r vs H Q) : CallR X f r' :=
  fun pins s σ H vs us Q I rv q => h pins s σ H vs us Q I rv (w vs H Q q)
theorem IxR.imp {r r' : R2} (h : IxR X r) (w : ∀ x y H Q, r' x y H Q → r x y H Q) : IxR X r' := by
  intro value slice pins s σ H x y v u Q I rx ry q hs
  exact h value slice pins s σ H x y v u Q I rx ry (w x y H Q q) hs

/-! names, constants -/
def uVar (i : Nat) : TE := fun σ H Q => match σ[i]? with | some (some v) => Q v H | _ => False
theorem uv (i : Nat) {x : Str} (hN : X.N[i]? = some x := by rfl)
    (hv : Vis X.env.scope x := by first | exact Or.inl rfl | exact Or.inr (Or.inl rfl) | exact Or.inr (Or.inr rfl))
    (hd : (x == ("__debug__" : Str)) = false := by decide) (hcd : (x == ("__classdict__" : Str)) = false := by decide) :
    PE X (.Name x pos) (uVar i) := by
  refine PE.imp (pe_var hN hv hd hcd) fun σ H Q h => ?_
  unfold uVar at h
  split at h
  · rename_i v e; exact ⟨v, e, h⟩
  · exact h.elim
theorem ustr (l : List Nat) {x : Str} {j : Nat} {pos : Pos} (h : x = T l := by decide +kernel) : PE X (.Constant (.str x) j pos) (tC (.str (T l))) := by
  subst h; exact pe_str

/-! operators -/
def rAddU : R2 := fun x y H Q => match x, y with
  | .int i, .int j => Q (.int (i + j)) H
  | .str a, .str b => (cs a).length + (cs b).length ≤ sizeLine ∧ Q (.str (T (cs a ++ cs b))) H
  | .ref l, .ref b => ∃ xs ys, H l = some (.lst xs) ∧ H b = some (.lst ys) ∧ xs.length + ys.length ≤ sizeLine ∧
      ∀ p, H p = none → Q (.ref p) (upd H p (.lst (xs ++ ys)))
  | _, _ => False
theorem o_add : OpR X (binaryOp .Add) rAddU := by
  refine OpR.imp (op_add.or (op_add_str.or op_cat)) fun x y H Q h => ?_
  unfold rAddU at h
  split at h
  · exact .inl ⟨_, _, rfl, rfl, h⟩
  · rename_i a b
    refine .inr (.inl ⟨a, b, rfl, rfl, h.1, ?_⟩)
    have e : a ++ b = T (cs a ++ cs b) := T_add (cs a) (cs b)
    rw [e]; exact h.2
  · rename_i l b
    obtain ⟨xs, ys, h1, h2, h3, h4⟩ := h
    exact .inr (.inr ⟨l, b, xs, ys, rfl, rfl, h1, h2, h3, h4⟩)
  · exact h.elim
def rSubU : R2 := fun x y H Q => match x, y with
  | .int i, .int j => Q (.int (i - j)) H
  | _, _ => False
theorem o_sub : OpR X (binaryOp .Sub) rSubU := by
  refine OpR.imp op_sub fun x y H Q h => ?_
  unfold rSubU at h
  split at h
  · exact ⟨_, _, rfl, rfl, h⟩
  · exact h.elim
theorem mul_codes (z : Str) (n : Int) : Txt.mul z n = T (List.replicate n.toNat (cs z)).flatten := by
  have fold : ∀ (k : Nat) (acc : Array Nat), (List.replicate k z.cps).foldl (· ++ ·) acc = acc ++ (List.replicate k (cs z)).flatten.toArray := by
    intro k
    induction k with
    | zero => intro acc; simp
    | succ k ih =>
      intro acc
      rw [List.replicate_succ, List.foldl_cons, ih, List.replicate_succ, List.flatten_cons]
      apply Array.ext'
      simp [cs]
  unfold Txt.mul
  split
  · rename_i h
    have : n.toNat = 0 := by omega
    rw [this]; rfl
  · split
    · rename_i h1 h2
      rw [Bool.or_eq_true, beq_iff_eq, beq_iff_eq] at h2
      rcases h2 with h2 | h2
      · subst h2
        show z = T ((List.replicate 1 (cs z)).flatten)
        simp [T_cs]
      · have e : cs z = [] := List.eq_nil_of_length_eq_zero h2
        have e2 : z = T [] := by rw [← T_cs z, e]
        rw [e, e2]
        congr 1
        induction n.toNat with
        | zero => rfl
        | succ k ih => rw [List.replicate_succ, List.flatten_cons, ← ih]; rfl
    · show (⟨(List.replicate n.toNat z.cps).foldl (· ++ ·) #[]⟩ : Str) = _
      rw [fold]
      simp [T]
theorem tooLong_small {k : Nat} (h : k ≤ 1000000) : PySem.Builtin.Str.tooLong k = false := by
  unfold PySem.Builtin.Str.tooLong
  simp
  have := sizeLine_eq
  omega
theorem mulOk_small {z : Str} {n : Int} (h1 : n < 2 ^ 62) (h0 : -(2 ^ 62) < n) (h : (cs z).length * n.toNat ≤ 1000000) : MulOk z n := by
  have hz : z.length = (cs z).length := rfl
  refine ⟨by simp; omega, fun hn hb => ?_, fun hn hb => ?_⟩
  · intro c
    have k0 : (0 : Int) < n := by omega
    have hc : (z.length : Int) * n ≤ 1000000 := by
      have e : ((z.length * n.toNat : Nat) : Int) = (z.length : Int) * n := by
        rw [Int.natCast_mul]; congr 1; omega
      rw [← e]; rw [hz]; omega
    have : (z.length : Int) ≤ (2 ^ 63 - 1) / n := by
      rw [Int.le_ediv_iff_mul_le k0]; omega
    omega
  · have : z.length * n.toNat ≤ 1000000 := h
    exact tooLong_small (by omega)
def rMulU : R2 := fun x y H Q => match x, y with
  | .int i, .int j => CMul i j ∧ Q (.int (i * j)) H
  | .str z, .int n => (n < 2 ^ 62 ∧ -(2 ^ 62) < n ∧ (cs z).length * n.toNat ≤ 1000000) ∧ Q (.str (T (List.replicate n.toNat (cs z)).flatten)) H
  | .ref l, .int k => ∃ xs, H l = some (.lst xs) ∧ -(2 ^ 63) ≤ k ∧ k < 2 ^ 63 ∧ xs.length * k.toNat ≤ sizeLine ∧
      ∀ p, H p = none → Q (.ref p) (upd H p (.lst (List.replicate k.toNat xs).flatten))
  | _, _ => False
theorem op_mul_str : OpR X (binaryOp .Mult) (fun x y H Q => ∃ z n, x = .str z ∧ y = .int n ∧ MulOk z n ∧ Q (.str (Txt.mul z n)) H) := by
  intro pins s σ H x y v u Q I rx ry h
  obtain ⟨z, n, rfl, rfl, ok, q⟩ := h
  obtain ⟨t, rfl⟩ := rx
  obtain ⟨t', rfl⟩ := ry
  exact SB.mul ok fun t' k => ⟨.str _, H, I.tok _, ⟨_, rfl⟩, q⟩
theorem o_mul : OpR X (binaryOp .Mult) rMulU := by
  refine OpR.imp (op_mul.or (op_mul_str.or op_rep)) fun x y H Q h => ?_
  unfold rMulU at h
  split at h
  · exact .inl ⟨_, _, rfl, rfl, h.1, h.2⟩
  · rename_i z n
    refine .inr (.inl ⟨z, n, rfl, rfl, mulOk_small h.1.1 h.1.2.1 h.1.2.2, ?_⟩)
    rw [mul_codes]; exact h.2
  · rename_i l k
    obtain ⟨xs, h1, h2, h3, h4, h5⟩ := h
    exact .inr (.inr ⟨l, k, xs, rfl, rfl, h1, h2, h3, h4, h5⟩)
  · exact h.elim
def rModU : R2 := fun x y H Q => match x, y with
  | .int i, .int j => 0 < j ∧ Q (.int (i % j)) H
  | _, _ => False
theorem o_mod : OpR X (binaryOp .Mod) rModU := by
  refine OpR.imp op_mod fun x y H Q h => ?_
  unfold rModU at h
  split at h
  · exact ⟨_, _, rfl, rfl, h.1, h.2⟩
  · exact h.elim
def rFdivU : R2 := fun x y H Q => match x, y with
  | .int i, .int j => CDiv i j ∧ Q (.int (i / j)) H
  | _, _ => False
theorem o_fdiv : OpR X (binaryOp .FloorDiv) rFdivU := by
  refine OpR.imp op_fdiv fun x y H Q h => ?_
  unfold rFdivU at h
  split at h
  · exact ⟨_, _, rfl, rfl, h.1, h.2⟩
  · exact h.elim
def rPowU : R2 := fun x y H Q => match x, y with
  | .int i, .int j => CPow i j ∧ Q (.int (i ^ j.toNat)) H
  | _, _ => False
theorem o_pow : OpR X (binaryOp .Pow) rPowU := by
  refine OpR.imp op_pow fun x y H Q h => ?_
  unfold rPowU at h
  split at h
  · exact ⟨_, _, rfl, rfl, h.1, h.2⟩
  · exact h.elim
/-! comparisons -/
def cmpU (fi : Int → Int → Bool) (fs : List Nat → List Nat → Bool) : R2 := fun x y H Q => match x, y with
  | .int i, .int j => Q (.bl (fi i j)) H
  | .str a, .str b => Q (.bl (fs (cs a) (cs b))) H
  | _, _ => False
theorem cmpU_of {f : Value → Value → Sem Value} {fi : Int → Int → Bool} {fs : List Nat → List Nat → Bool} {r1 r2 : R2} (h1 : OpR X f r1) (h2 : OpR X f r2)
    (w1 : ∀ i j H Q, Q (.bl (fi i j)) H → r1 (.int i) (.int j) H Q) (w2 : ∀ (a b : Str) H Q, Q (.bl (fs (cs a) (cs b))) H → r2 (.str a) (.str b) H Q) : OpR X f (cmpU fi fs) := by
  refine OpR.imp (h1.or h2) fun x y H Q h => ?_
  unfold cmpU at h
  split at h
  · exact .inl (w1 _ _ _ _ h)
  · exact .inr (w2 _ _ _ _ h)
  · exact h.elim
theorem o_lt : OpR X (compareOp .Lt) (cmpU (fun i j => decide (i < j)) fun a b => decide (a < b)) :=
  cmpU_of op_lt op_lt_str (fun i j H Q q => ⟨i, j, rfl, rfl, q⟩) fun a b H Q q => ⟨a, b, rfl, rfl, q⟩
theorem o_le : OpR X (compareOp .LtE) (cmpU (fun i j => decide (i ≤ j)) fun a b => !decide (b < a)) :=
  cmpU_of op_le op_le_str (fun i j H Q q => ⟨i, j, rfl, rfl, q⟩) fun a b H Q q => ⟨a, b, rfl, rfl, q⟩
theorem o_gt : OpR X (compareOp .Gt) (cmpU (fun i j => decide (j < i)) fun a b => decide (b < a)) :=
  cmpU_of op_gt op_gt_str (fun i j H Q q => ⟨i, j, rfl, rfl, q⟩) fun a b H Q q => ⟨a, b, rfl, rfl, q⟩
/-- == : scalars; lists and tuples of data by the data they hold -/
def eqU (K : PySem.W.Frag) (neg : Bool) : R2 := fun x y H Q => match x, y with
  | .int i, .int j => Q (.bl (if neg then !decide (i = j) else decide (i = j))) H
  | .str a, .str b => Q (.bl (if neg then !decide (cs a = cs b) else decide (cs a = cs b))) H
  | .bl i, .bl j => Q (.bl (if neg then !decide (i = j) else decide (i = j))) H
  | .non, .non => Q (.bl (!neg)) H
  | .non, .int _ => Q (.bl neg) H
  | .int _, .non => Q (.bl neg) H
  | .non, .str _ => Q (.bl neg) H
  | .str _, .non => Q (.bl neg) H
  | .ref a, .ref b => ∃ d e, Dp K H (.ref a) d ∧ Dp K H (.ref b) e ∧ SeqAt.shaped d = true ∧ SeqAt.shaped e = true ∧
      Q (.bl (if neg then !PyData.eqv d e else PyData.eqv d e)) H
  | _, _ => False
theorem dec_cs (a b : Str) : decide (V.str a = V.str b) = decide (cs a = cs b) := by
  congr 1
  apply propext
  constructor
  · intro h; injection h with h; rw [h]
  · intro h
    have : a = b := by rw [← T_cs a, ← T_cs b, h]
    rw [this]
theorem o_eq (hu : X.A.units + 64 < cLine) : OpR X (compareOp .Eq) (eqU X.K false) := by
  refine OpR.imp (op_eq.or (op_eqD hu)) fun x y H Q h => ?_
  unfold eqU at h
  split at h
  all_goals first
    | exact h.elim
    | (obtain ⟨d, e, h1, h2, h3, h4, h5⟩ := h; exact .inr ⟨d, e, h1, h2, h3, h4, h5⟩)
    | (refine .inl ⟨rfl, ?_⟩; first | (rw [dec_cs]; exact h) | (simpa using h))
theorem o_ne (hu : X.A.units + 64 < cLine) : OpR X (compareOp .NotEq) (eqU X.K true) := by
  refine OpR.imp (op_ne.or (op_neD hu)) fun x y H Q h => ?_
  unfold eqU at h
  split at h
  all_goals first
    | exact h.elim
    | (obtain ⟨d, e, h1, h2, h3, h4, h5⟩ := h; exact .inr ⟨d, e, h1, h2, h3, h4, h5⟩)
    | (refine .inl ⟨rfl, ?_⟩; first | (rw [dec_cs]; exact h) | (simpa using h))
/-- is None, is True -/
def isU (neg : Bool) : R2 := fun x y H Q => match x, y with
  | .bl i, .bl j => Q (.bl (if neg then !decide (i = j) else decide (i = j))) H
  | x, .non => Q (.bl (if neg then !decide (x = .non) else decide (x = .non))) H
  | _, _ => False
theorem o_isnot : OpR X (compareOp .IsNot) (isU true) := by
  refine OpR.imp (op_isnot_bl.or op_notN) fun x y H Q h => ?_
  unfold isU at h
  split at h
  · exact .inl ⟨_, _, rfl, rfl, h⟩
  · exact .inr ⟨rfl, h⟩
  · exact h.elim
end
end LK
namespace LK
open PySem PySem.Spec PyProof.Rows L2
/-! tests -/
section
variable {X : Cx} {e a b c : Expr} {t ta tb tc : TE} {pos : Pos} {u v : TT} {rest : List Expr}
def asB (Q : Bool → Hp → Prop) : VK := fun x H' => match x with | .bl k => Q k H' | _ => False
def uT (t : TE) : TT := fun σ H Q => t σ H (asB Q)
theorem asB_eq (Q : Bool → Hp → Prop) : asB Q = fun x H' => ∃ k, x = .bl k ∧ Q k H' := by
  funext x H'
  apply propext
  unfold asB
  constructor
  · intro h
    split at h
    · exact ⟨_, rfl, h⟩
    · exact h.elim
  · rintro ⟨k, rfl, h⟩
    exact h
theorem uT_eq (t : TE) : uT t = tB t := by
  funext σ H Q
  show t σ H (asB Q) = t σ H _
  rw [asB_eq]
theorem pt_u (h : PE X e t) (he : ∀ whole, isTrue e X.env whole = (do let v ← whole; standAt e.pos; holding [v] (truthy v)) := by intro _; rfl) : PT X e (uT t) := by
  rw [uT_eq]; exact pt_val h he
theorem pt_cu {op : CmpOp} {r : R2} (ho : OpR X (compareOp op) r) (ha : PE X a ta) (hb : PE X b tb) (hm : behindInMarks op b = false := by first | exact nomark _ | rfl) :
    PT X (.Compare a [op] [b] pos) (uT (tOp r ta tb)) := by
  rw [uT_eq]; exact pt_cmpR ho ha hb hm
theorem pe_cu {op : CmpOp} {r : R2} (ho : OpR X (compareOp op) r) (ha : PE X a ta) (hb : PE X b tb) (hm : behindInMarks op b = false := by first | exact nomark _ | rfl) :
    PE X (.Compare a [op] [b] pos) (tOp r ta tb) := pe_cmpR ho ha hb hm
/-- a comparison chain -/
def uChain (r r' : R2) (ta tb tc : TE) : TE := fun σ H Q => ta σ H fun x H1 => tb σ H1 fun y H2 => r x y H2 (asB fun k H3 =>
  (k = true → tc σ H3 fun w H4 => r' y w H4 Q) ∧ (k = false → Q (.bl false) H3))
theorem uChain_eq (r r' : R2) (ta tb tc : TE) : uChain r r' ta tb tc = tChain r r' ta tb tc := by
  funext σ H Q
  unfold uChain tChain
  congr 1; funext x H1; congr 1; funext y H2
  rw [asB_eq]
  congr 1; funext z H3
  apply propext
  constructor
  · rintro ⟨k, rfl, h1, h2⟩
    refine ⟨k, rfl, ?_⟩
    cases k with
    | true => exact h1 rfl
    | false => exact h2 rfl
  · rintro ⟨k, rfl, h⟩
    refine ⟨k, rfl, fun e => ?_, fun e => ?_⟩ <;> subst e <;> exact h
theorem pe_chainU {op op' : CmpOp} {r r' : R2} (ho : OpR X (compareOp op) r) (ho' : OpR X (compareOp op') r') (ha : PE X a ta) (hb : PE X b tb) (hc : PE X c tc)
    (h : PE X (.Compare a [op, op'] [b, c] pos) (tChain r r' ta tb tc)) : PE X (.Compare a [op, op'] [b, c] pos) (uChain r r' ta tb tc) := by
  rw [uChain_eq]; exact h
theorem pt_chainU {r r' : R2} {t2 : TE} (h : PT X e (tTest (tChain r r' ta tb tc))) : PT X e (uT (uChain r r' ta tb tc)) := by
  rw [uChain_eq, uT_eq]; exact h
/-- and, or, not, if -/
def Br (b : Bool) (A B : Prop) : Prop := (b = true → A) ∧ (b = false → B)
theorem br_eq (b : Bool) (A B : Prop) : Br b A B = (if b = true then A else B) := by
  apply propext
  cases b
  · exact ⟨fun h => h.2 rfl, fun h => ⟨fun e => Bool.noConfusion e, fun _ => h⟩⟩
  · exact ⟨fun h => h.1 rfl, fun h => ⟨fun _ => h, fun e => Bool.noConfusion e⟩⟩
theorem Br.yes {A B : Prop} (h : A) : Br true A B := ⟨fun _ => h, fun e => Bool.noConfusion e⟩
theorem Br.no {A B : Prop} (h : B) : Br false A B := ⟨fun e => Bool.noConfusion e, fun _ => h⟩
theorem Br.d {p A B : Prop} [Decidable p] (h1 : p → A) (h2 : ¬ p → B) : Br (decide p) A B :=
  ⟨fun e => h1 (of_decide_eq_true e), fun e => h2 (of_decide_eq_false e)⟩
theorem Br.nd {p A B : Prop} [Decidable p] (h1 : ¬ p → A) (h2 : p → B) : Br (!decide p) A B :=
  ⟨fun e => h1 (by simpa using e), fun e => h2 (by simpa using e)⟩
def uAnd (t u : TT) : TT := fun σ H Q => t σ H fun k H1 => Br k (u σ H1 Q) (Q false H1)
def uOr (t u : TT) : TT := fun σ H Q => t σ H fun k H1 => Br k (Q true H1) (u σ H1 Q)
theorem pw_andU (ha : PT X a u) (hb : PW X (.BoolOp .And (b :: rest) pos) v) : PW X (.BoolOp .And (a :: b :: rest) pos) (uAnd u v) := by
  have e : uAnd u v = tAnd u v := by
    funext σ H Q; unfold uAnd tAnd; congr 1; funext k H1; exact br_eq _ _ _
  rw [e]; exact pw_and ha hb
theorem pw_orU (ha : PT X a u) (hb : PW X (.BoolOp .Or (b :: rest) pos) v) : PW X (.BoolOp .Or (a :: b :: rest) pos) (uOr u v) := by
  have e : uOr u v = tOr u v := by
    funext σ H Q; unfold uOr tOr; congr 1; funext k H1; exact br_eq _ _ _
  rw [e]; exact pw_or ha hb
def uAndV (ta tb : TE) : TE := fun σ H Q => ta σ H (asB fun k H1 => Br k (tb σ H1 Q) (Q (.bl false) H1))
def uNotV (ta : TE) : TE := fun σ H Q => ta σ H (asB fun k H1 => Q (.bl (!k)) H1)
theorem pe_andU (ha : PE X a ta) (hb : PE X (.BoolOp .And (b :: rest) pos) tb) : PE X (.BoolOp .And (a :: b :: rest) pos) (uAndV ta tb) := by
  have e : uAndV ta tb = tAndV ta tb := by
    funext σ H Q; unfold uAndV tAndV; rw [asB_eq]; congr 1; funext x H1
    apply propext
    constructor <;> rintro ⟨k, h1, h2⟩ <;> refine ⟨k, h1, ?_⟩
    · rw [br_eq] at h2; exact h2
    · rw [br_eq]; exact h2
  rw [e]; exact pe_and ha hb
theorem pe_notU (ha : PE X a ta) : PE X (.UnaryOp .Not a pos) (uNotV ta) := by
  have e : uNotV ta = tNotV ta := by
    funext σ H Q; unfold uNotV tNotV; rw [asB_eq]
  rw [e]; exact pe_not ha
def uIfE (t : TT) (ta tb : TE) : TE := fun σ H Q => t σ H fun k H1 => Br k (ta σ H1 Q) (tb σ H1 Q)
theorem pe_ifU {c : Expr} (hc : PT X c u) (ha : PE X a ta) (hb : PE X b tb) : PE X (.IfExp c a b pos) (uIfE u ta tb) := by
  have e : uIfE u ta tb = tIf u ta tb := by
    funext σ H Q; unfold uIfE tIf; congr 1; funext k H1; exact br_eq _ _ _
  rw [e]; exact pe_ifExp hc ha hb
def uIf (c : TT) (t u : TS) : TS := fun D σ H => c σ H fun k H1 => Br k (t D σ H1) (u D σ H1)
theorem ps_ifU {c : Expr} {a b : List Stmt} {tc : TT} {t u : TS} (hc : PT X c tc) (ha : PSs X a t) (hb : PSs X b u) : PS X (.If c a b pos) (uIf tc t u) := by
  have e : uIf tc t u = tIfS tc t u := by
    funext D σ H; unfold uIf tIfS; congr 1; funext k H1; exact br_eq _ _ _
  rw [e]; exact ps_if hc ha hb
end

/-! subscripts -/
section
variable {X : Cx} {e a b : Expr} {t ta tb : TE} {pos : Pos}
def ixU (K : PySem.W.Frag) : R2 := fun x y H Q => match x, y with
  | .ref p, .int i => ∃ xs v, (SqL K H p xs ∨ SqT K H p xs) ∧ atI xs i = some v ∧ Q v H
  | .str z, .int i => (cs z).length ≤ sizeLine ∧ ∃ c, atI (cs z) i = some c ∧ Q (.str (T [c])) H
  | _, _ => False
theorem ix_u : IxR X (ixU X.K) := by
  refine IxR.imp ix_seq fun x y H Q h => ?_
  unfold ixU at h
  split at h
  · obtain ⟨xs, v, h1 | h1, h2, h3⟩ := h
    · exact .inl ⟨_, xs, _, v, rfl, rfl, h1, h2, h3⟩
    · exact .inr (.inl ⟨_, xs, _, v, rfl, rfl, h1, h2, h3⟩)
  · obtain ⟨hz, c, h1, h2⟩ := h
    exact .inr (.inr ⟨_, _, c, rfl, rfl, hz, h1, h2⟩)
  · exact h.elim
theorem pe_ixU (ha : PE X a ta) (hb : PE X b tb) (hs : PlainIx b := by exact fun _ _ => rfl) : PE X (.Subscript a b pos) (tOp (ixU X.K) ta tb) := pe_ix ix_u ha hb hs
def uPart (t : TE) : TO := fun σ H Q => t σ H fun x H1 => match x with | .int i => Q (some i) H1 | _ => False
theorem po_u (h : PE X e t) : PO X (some e) (uPart t) := by
  have w : uPart t = tPart t := by
    funext σ H Q; unfold uPart tPart; congr 1; funext x H1
    apply propext
    constructor
    · intro h; split at h
      · exact ⟨_, rfl, h⟩
      · exact h.elim
    · rintro ⟨i, rfl, h⟩; exact h
  rw [w]; exact po_some h
end

/-! calls of built-ins -/
section
variable {X : Cx}
def lenU (K : PySem.W.Frag) : List V → Hp → VK → Prop := fun vs H Q => match vs with
  | [.str z] => (cs z).length ≤ sizeLine ∧ Q (.int (cs z).length) H
  | [.ref p] => (∃ xs, (SqL K H p xs ∨ SqT K H p xs) ∧ Q (.int xs.length) H) ∨ ∃ kvs, H p = some (.dK kvs) ∧ Q (.int kvs.length) H
  | _ => False
theorem c_len : CallR X (.builtin "len") (lenU X.K) := by
  refine CallR.imp (call_len_str.or (call_len_seq.or call_lenD)) fun vs H Q h => ?_
  unfold lenU at h
  split at h
  · exact .inl ⟨_, rfl, h.1, h.2⟩
  · rcases h with ⟨xs, h1, h2⟩ | ⟨kvs, h1, h2⟩
    · exact .inr (.inl ⟨_, xs, rfl, h1, h2⟩)
    · exact .inr (.inr ⟨_, kvs, rfl, h1, h2⟩)
  · exact h.elim
def intU : List V → Hp → VK → Prop := fun vs H Q => match vs with
  | [.int i] => Q (.int i) H
  | [.bl k] => Q (.int (if k then 1 else 0)) H
  | _ => False
theorem c_int : CallR X (.type "int") intU := by
  refine CallR.imp call_int1 fun vs H Q h => ?_
  unfold intU at h
  split at h
  · exact .inl ⟨_, rfl, h⟩
  · exact .inr ⟨_, rfl, h⟩
  · exact h.elim
def absU : List V → Hp → VK → Prop := fun vs H Q => match vs with
  | [.int i] => Q (.int i.natAbs) H
  | _ => False
theorem c_abs : CallR X (.builtin "abs") absU := by
  refine CallR.imp call_abs fun vs H Q h => ?_
  unfold absU at h
  split at h
  · rename_i i
    refine ⟨_, rfl, ?_⟩
    have e : (if i < 0 then -i else i) = (i.natAbs : Int) := by omega
    rw [e]; exact h
  · exact h.elim
def mm2U (f : Int → Int → Int) : List V → Hp → VK → Prop := fun vs H Q => match vs with
  | [.int i, .int j] => Q (.int (f i j)) H
  | _ => False
theorem c_max2 (hc : X.calm = true) : CallR X (.builtin "max") (mm2U max) := by
  refine CallR.imp (call_max2 hc) fun vs H Q h => ?_
  unfold mm2U at h
  split at h
  · rename_i i j
    refine ⟨_, _, rfl, ?_⟩
    have e : (if j > i then j else i) = max i j := by omega
    rw [e]; exact h
  · exact h.elim
theorem c_min2 (hc : X.calm = true) : CallR X (.builtin "min") (mm2U min) := by
  refine CallR.imp (call_min2 hc) fun vs H Q h => ?_
  unfold mm2U at h
  split at h
  · rename_i i j
    refine ⟨_, _, rfl, ?_⟩
    have e : (if j < i then j else i) = min i j := by omega
    rw [e]; exact h
  · exact h.elim
def divmodU : List V → Hp → VK → Prop := fun vs H Q => match vs with
  | [.int i, .int j] => CDiv i j ∧ ∀ p, H p = none → Q (.ref p) (upd H p (.tup [.int (i / j), .int (i % j)]))
  | _ => False
theorem c_divmod : CallR X (.builtin "divmod") divmodU := by
  refine CallR.imp call_divmod fun vs H Q h => ?_
  unfold divmodU at h
  split at h
  · exact ⟨_, _, rfl, h.1, h.2⟩
  · exact h.elim
def allU (K : PySem.W.Frag) (f : List Bool → Bool) : List V → Hp → VK → Prop := fun vs H Q => match vs with
  | [.ref a] => ∃ bs : List Bool, SqL K H a (bs.map V.bl) ∧ Q (.bl (f bs)) H
  | _ => False
theorem c_all (hc : X.calm = true) : CallR X (.builtin "all") (allU X.K fun bs => bs.all id) := by
  refine CallR.imp (cr_all hc) fun vs H Q h => ?_
  unfold allU at h
  split at h
  · obtain ⟨bs, h1, h2⟩ := h; exact ⟨_, bs, rfl, h1, h2⟩
  · exact h.elim
theorem c_any (hc : X.calm = true) : CallR X (.builtin "any") (allU X.K fun bs => bs.any id) := by
  refine CallR.imp (cr_any hc) fun vs H Q h => ?_
  unfold allU at h
  split at h
  · obtain ⟨bs, h1, h2⟩ := h; exact ⟨_, bs, rfl, h1, h2⟩
  · exact h.elim
def sumU (K : PySem.W.Frag) : List V → Hp → VK → Prop := fun vs H Q => match vs with
  | [.ref a] => ∃ ns : List Int, SqL K H a (ns.map V.int) ∧ Q (.int ns.sum) H
  | _ => False
theorem c_sum (hc : X.calm = true) : CallR X (.builtin "sum") (sumU X.K) := by
  refine CallR.imp (cr_sum hc) fun vs H Q h => ?_
  unfold sumU at h
  split at h
  · obtain ⟨bs, h1, h2⟩ := h; exact ⟨_, bs, rfl, h1, h2⟩
  · exact h.elim
/-- list(a list, a tuple, a dict) -/
def listU (K : PySem.W.Frag) : List V → Hp → VK → Prop := fun vs H Q => match vs with
  | [.ref p] => (∃ ys, (SqL K H p ys ∨ SqT K H p ys) ∧ ∀ l, H l = none → Q (.ref l) (upd H l (.lst ys))) ∨
      ∃ kvs, H p = some (.dK kvs) ∧ ∀ l, H l = none → Q (.ref l) (upd H l (.lst (kvs.map fun kv => kV kv.1)))
  | _ => False
theorem c_list (hc : X.calm = true) : CallR X (.type "list") (listU X.K) := by
  refine CallR.imp (call_list_of.or (call_list_dK hc)) fun vs H Q h => ?_
  unfold listU at h
  split at h
  · rcases h with ⟨ys, h1, h2⟩ | ⟨kvs, h1, h2⟩
    · exact .inl ⟨_, ys, rfl, h1, h2⟩
    · exact .inr ⟨_, kvs, rfl, h1, h2⟩
  · exact h.elim
end

/-! own calls: the promise at the arguments -/
section
variable {X : Cx} {CX : CXT} {k : Nat} {f : Addr} {fd : FuncData} {ps ks : List Str} {sp : Sp} {E : XK} {x : Str} {p pos : Pos} {e : Expr} {es : List Expr} {t : TA}
def uCall (sp : Sp) (E : XK) (t : TA) : TE := fun σ H Q => t σ H fun vs H1 => sp vs H1 Q E
theorem uCall_eq (sp : Sp) (E : XK) (t : TA) : uCall sp E t = tCall sp [] E t := by
  funext σ H Q; unfold uCall tCall; congr 1; funext vs H1; rw [List.append_nil]
theorem pe_callUG (F : FnG X.prog X.w X.K X.mg X.base CX k f fd ps sp) (hA : X.A.guards = some []) (hr : Room k X.A) (hg : Gl X x) (hm : X.mg x = some (.ref f))
    (hk : PySem.W.keepIn X.K (.ref f) = true) (hb : Binds X.K fd ps []) (hx : Passes CX X E) (ha : PA X (e :: es) t)
    (hdb : (x == ("__debug__" : Str)) = false := by decide) (he : starEach (e :: es) X.env = (false, eval e X.env) :: starEach es X.env := by rfl)
    (hpl : (backTo pos (starEach es X.env)).any (·.1) = false := by rfl) : PE X (.Call (.Name x p) (e :: es) [] pos) (uCall sp E t) := by
  rw [uCall_eq]; exact pe_callG F hA hr hg hm hk hb hx ha hdb he hpl
end
end LK

/-! sorted of a dict's texts, of texts by key= -/
namespace LK
open PySem PySem.Spec PyProof.Rows L2
open PySem.W (EachIs dataLe AllAlike Sortable)

/-- a text's value -/
def RT (v : Value) (l : List Nat) : Prop := ∃ t, v = .str (T l) t
abbrev encT (l : List Nat) : PyData := .str (T l)
theorem alike_T (ks : List (List Nat)) : AllAlike (ks.map encT) := by
  intro d h1 d' h2
  obtain ⟨a, _, rfl⟩ := List.mem_map.mp h1
  obtain ⟨b, _, rfl⟩ := List.mem_map.mp h2
  rfl
theorem sortable_T (ks : List (List Nat)) : Sortable (ks.map encT) := by
  refine .inr fun d h1 => ?_
  obtain ⟨a, _, rfl⟩ := List.mem_map.mp h1
  exact ⟨(fun z => nomatch z), (fun xs z => nomatch z)⟩
theorem vals_RT : ∀ {vs : List Value} {ks : List (List Nat)}, EachIs RT vs ks → L2.Vals (ks.map fun l => V.str (T l)) vs
  | _, _, .nil => .nil
  | _, _, .cons h t => .cons h (vals_RT t)
theorem reads_RT {h : Heap} : ∀ {vs : List Value} {ks : List (List Nat)}, EachIs RT vs ks → EachIs (fun v l => ∃ as, Reads h v (encT l) as) vs ks
  | _, _, .nil => .nil
  | _, _, .cons ⟨t, e⟩ r => .cons ⟨[], by rw [e]; exact .str _ t⟩ (reads_RT r)

section
variable {X : Cx} {pins : List (Addr × Obj)} {σ : L2.St} {H : Hp} {s : Shared} {E : Value → Shared → Prop}
end
end LK

/-! key=len; key=lambda x: (len(x), x) -/
namespace LK
open PySem PySem.Spec PyProof.Rows L2 LamX
open PySem.W (EachIs dataLe AllAlike Sortable)

section
variable {X : Cx} {e : Expr} {t : TA} {p p2 kp pos : Pos}
end

section
variable {prog : Program} {w : World} {A : Around} {E : Value → Shared → Prop} {s : Shared}
end
end LK
namespace LK
open PySem PySem.Spec PyProof.Rows L2 LamX
open PySem.W (EachIs dataLe AllAlike Sortable)
section
variable {X : Cx} {e : Expr} {t : TA} {p p1 p2 p3 p4 p5 lp kp pos : Pos}
end
end LK

/-! Walks over values known beforehand: for, list comprehensions. -/
namespace LK
open PySem PySem.Spec PyProof.Rows L2
open PySem.W (EachIs)

/-- J tells the values xs one behind another as long as P holds of the heap -/
structure Wk (J : It) (xs : List V) (P : Hp → Prop) : Prop where
  go : ∀ i H, P H → i < xs.length → J.go i H
  yld : ∀ i H x H', P H → i < xs.length → J.yld i H x H' → H' = H ∧ xs[i]? = some x
  stop : ∀ i H, P H → xs.length ≤ i → J.stop i H
theorem wk_list {K : PySem.W.Frag} {a : Addr} {xs : List V} : Wk (Itl K a) xs (fun H => SqL K H a xs) :=
  ⟨fun i H h l => ⟨xs, xs[i], h, List.getElem?_eq_getElem l⟩, fun i H x H' h _ y => ⟨y.1, y.2 xs h⟩, fun i H h l => ⟨xs, h, l⟩⟩
theorem wk_tup {K : PySem.W.Frag} {a : Addr} {xs : List V} : Wk (Itt K a) xs (fun H => SqT K H a xs) :=
  ⟨fun i H h l => ⟨xs, xs[i], h, List.getElem?_eq_getElem l⟩, fun i H x H' h _ y => ⟨y.1, y.2 xs h⟩, fun i H h l => ⟨xs, h, l⟩⟩
abbrev lets (l : List Nat) : List V := l.map fun c => .str (T [c])
theorem wk_str (l : List Nat) : Wk (Its (T l)) (lets l) (fun _ => True) := by
  refine ⟨fun i H _ h => ?_, fun i H x H' _ _ y => ?_, fun i H _ h => ?_⟩
  · rw [List.length_map] at h; exact h
  · obtain ⟨e, c, hc, rfl⟩ := y
    refine ⟨e, ?_⟩
    have hc' : l[i]? = some c := by
      rw [← hc]
      show l[i]? = (l.toArray)[i]?
      exact List.getElem?_toArray.symm
    rw [List.getElem?_map, hc']; rfl
  · rw [List.length_map] at h; exact h
abbrev rng (lo : Int) (n : Nat) : List V := (List.range n).map fun (i : Nat) => V.int (lo + (i : Nat))
theorem wk_rng (lo : Int) (n : Nat) : Wk (Itr lo n) (rng lo n) (fun _ => True) := by
  refine ⟨fun i H _ h => ?_, fun i H x H' _ hi y => ?_, fun i H _ h => ?_⟩
  · rw [List.length_map, List.length_range] at h; exact h
  · rw [List.length_map, List.length_range] at hi
    obtain ⟨e, rfl⟩ := y
    refine ⟨e, ?_⟩
    rw [List.getElem?_map, List.getElem?_range hi]; rfl
  · rw [List.length_map, List.length_range] at h; exact h
theorem split_at {α : Type} {xs : List α} {i : Nat} {x : α} (h : xs[i]? = some x) : xs = xs.take i ++ x :: xs.drop (i + 1) ∧ xs.take (i + 1) = xs.take i ++ [x] := by
  have hi : i < xs.length := (List.getElem?_eq_some_iff.mp h).1
  have hx : xs[i] = x := (List.getElem?_eq_some_iff.mp h).2
  refine ⟨?_, ?_⟩
  · conv => lhs; rw [← List.take_append_drop i xs, List.drop_eq_getElem_cons hi, hx]
  · rw [List.take_add_one, h]; rfl

/-- for over known values: an invariant by what is gone through -/
theorem for_wk {J : It} {xs : List V} {P : Hp → Prop} (W : Wk J xs P) {g : TG} {tb : TS} {D : Ends} {σ : L2.St} {H : Hp} (Iv : List V → L2.St → Hp → Prop)
    (hP : ∀ pre σ H, Iv pre σ H → P H) (h0 : Iv [] σ H)
    (hs : ∀ pre x suf σ H, xs = pre ++ x :: suf → Iv pre σ H → g x σ H fun σ2 H2 => tb { D with nx := Iv (pre ++ [x]), ct := Iv (pre ++ [x]), bk := D.nx } σ2 H2)
    (he : ∀ σ H, Iv xs σ H → D.nx σ H) :
    ∃ W : Nat → Nat → L2.St → Hp → Prop, (∃ m, W 0 m σ H) ∧ ∀ i m σ H, W i m σ H → (J.stop i H ∧ D.nx σ H) ∨ (J.go i H ∧ ∃ N : L2.St → Hp → Prop, (∀ σ' H', N σ' H' → ∃ m', m' < m ∧ W (i + 1) m' σ' H') ∧
      ∀ x H', J.yld i H x H' → g x σ H' fun σ2 H2 => tb { D with nx := N, ct := N, bk := D.nx } σ2 H2) := by
  refine ⟨fun i m σ H => i + m = xs.length ∧ Iv (xs.take i) σ H, ⟨xs.length, by omega, h0⟩, fun i m σ H h => ?_⟩
  obtain ⟨em, iv⟩ := h
  by_cases hi : i < xs.length
  · have hx := List.getElem?_eq_getElem hi
    obtain ⟨e1, e2⟩ := split_at hx
    refine .inr ⟨W.go i H (hP _ _ _ iv) hi, Iv (xs.take i ++ [xs[i]]), fun σ' H' n => ⟨m - 1, by omega, by omega, by rw [e2]; exact n⟩, fun x H' y => ?_⟩
    obtain ⟨rfl, hx2⟩ := W.yld i H x H' (hP _ _ _ iv) hi y
    rw [hx] at hx2
    cases hx2
    exact hs _ _ _ _ _ e1 iv
  · have e : xs.take i = xs := List.take_of_length_le (by omega)
    rw [e] at iv
    exact .inl ⟨W.stop i H (hP _ _ _ iv) (by omega), he _ _ iv⟩

/-- a list comprehension over known values without if: the values ys that come of xs -/
theorem lc_wk {J : It} {xs : List V} {P : Hp → Prop} (W : Wk J xs P) {g : TG} {te : TE} {σ : L2.St} {H : Hp} {vs : List Nat} {Q : VK} {D : Addr} (R : List V → List V → Hp → Prop)
    (hP : ∀ pre acc H, R pre acc H → P H) (h0 : R [] [] (upd H D (.lst [])))
    (hs : ∀ pre acc x suf H, xs = pre ++ x :: suf → R pre acc H → g x (wipe σ vs) H fun σ2 H2 => wipe σ2 vs = wipe σ vs ∧ te σ2 H2 fun y H4 =>
      ∃ acc, H4 D = some (.lst acc) ∧ acc.length < sizeLine ∧ ∃ a, R (pre ++ [x]) a (upd H4 D (.lst (acc ++ [y]))))
    (he : ∀ acc H, R xs acc H → Q (.ref D) H) :
    ∃ W : Nat → Nat → Hp → Prop, (∃ m, W 0 m (upd H D (.lst []))) ∧ ∀ i m H, W i m H →
  (J.stop i H ∧ Q (.ref D) H) ∨ (J.go i H ∧ ∃ Nx : Hp → Prop, (∀ H', Nx H' → ∃ m', m' < m ∧ W (i + 1) m' H') ∧ ∀ x H', J.yld i H x H' → g x (wipe σ vs) H' fun σ2 H2 => wipe σ2 vs = wipe σ vs ∧ tYes σ2 H2 fun b H3 =>
    if b = true then te σ2 H3 fun y H4 => ∃ acc, H4 D = some (.lst acc) ∧ acc.length < sizeLine ∧ Nx (upd H4 D (.lst (acc ++ [y]))) else Nx H3) := by
  refine ⟨fun i m H => i + m = xs.length ∧ ∃ acc, R (xs.take i) acc H, ⟨xs.length, by omega, [], h0⟩, fun i m H h => ?_⟩
  obtain ⟨em, acc, iv⟩ := h
  by_cases hi : i < xs.length
  · have hx := List.getElem?_eq_getElem hi
    obtain ⟨e1, e2⟩ := split_at hx
    refine .inr ⟨W.go i H (hP _ _ _ iv) hi, fun H' => ∃ acc, R (xs.take i ++ [xs[i]]) acc H', fun H' n => ?_, fun x H' y => ?_⟩
    · obtain ⟨acc, n⟩ := n
      exact ⟨m - 1, by omega, by omega, acc, by rw [e2]; exact n⟩
    · obtain ⟨rfl, hx2⟩ := W.yld i H x H' (hP _ _ _ iv) hi y
      rw [hx] at hx2
      cases hx2
      exact hs _ _ _ _ _ e1 iv
  · have e : xs.take i = xs := List.take_of_length_le (by omega)
    rw [e] at iv
    exact .inl ⟨W.stop i H (hP _ _ _ iv) (by omega), he _ _ iv⟩

section
variable {K : PySem.W.Frag} {g : TG} {te : TE} {tb : TS} {σ : L2.St} {H H1 : Hp} {vs : List Nat} {Q : VK} {t : TE} {D : Ends}
/-- t tells v at once -/
def At (t : TE) (σ : L2.St) (H : Hp) (v : V) (H1 : Hp) : Prop := ∀ R : VK, R v H1 → t σ H R
theorem lc_str {l : List Nat} (h : At t σ H (.str (T l)) H1) (R : Addr → List V → List V → Hp → Prop)
    (h0 : ∀ D, H1 D = none → R D [] [] (upd H1 D (.lst [])))
    (hs : ∀ D, H1 D = none → ∀ pre acc c suf H, l = pre ++ c :: suf → R D (lets pre) acc H → g (.str (T [c])) (wipe σ vs) H fun σ2 H2 => wipe σ2 vs = wipe σ vs ∧ te σ2 H2 fun y H4 =>
      ∃ acc, H4 D = some (.lst acc) ∧ acc.length < sizeLine ∧ ∃ a, R D (lets (pre ++ [c])) a (upd H4 D (.lst (acc ++ [y]))))
    (he : ∀ D, H1 D = none → ∀ acc H, R D (lets l) acc H → Q (.ref D) H) : tLc (iStr t) g tYes te vs σ H Q := by
  refine h _ ⟨_, rfl, fun D nD => ?_⟩
  refine lc_wk (wk_str l) (fun pre acc H => R D pre acc H) (fun _ _ _ _ => trivial) (h0 D nD) (fun pre acc x suf H2 e r => ?_) (he D nD)
  obtain ⟨p, q, e1, e2, e3⟩ := List.map_eq_append_iff.mp e
  cases q with
  | nil => cases e3
  | cons c q =>
    obtain ⟨rfl, rfl⟩ := List.cons.inj e3
    subst e2
    have z := hs D nD p acc c q H2 e1 r
    simp only [lets, List.map_append, List.map_cons, List.map_nil] at z
    exact z
theorem lc_rng {t : TA} {n : Nat} (h : ∀ R : List V → Hp → Prop, R [.int n] H1 → t σ H R) (hn : n < 1000000) (R : Addr → Nat → List V → Hp → Prop)
    (h0 : ∀ D, H1 D = none → R D 0 [] (upd H1 D (.lst [])))
    (hs : ∀ D, H1 D = none → ∀ i acc H, i < n → R D i acc H → g (.int i) (wipe σ vs) H fun σ2 H2 => wipe σ2 vs = wipe σ vs ∧ te σ2 H2 fun y H4 =>
      ∃ acc, H4 D = some (.lst acc) ∧ acc.length < sizeLine ∧ ∃ a, R D (i + 1) a (upd H4 D (.lst (acc ++ [y]))))
    (he : ∀ D, H1 D = none → ∀ acc H, R D n acc H → Q (.ref D) H) : tLc (iRng1 t) g tYes te vs σ H Q := by
  refine h _ ⟨n, rfl, by omega, by omega, fun D nD => ?_⟩
  refine lc_wk (wk_rng 0 n) (fun pre acc H => R D pre.length acc H) (fun _ _ _ _ => trivial) (h0 D nD) (fun pre acc x suf H2 e r => ?_) (fun acc H r => he D nD acc H ?_)
  · have hl : pre.length < n := by
      have := congrArg List.length e
      simp at this; omega
    have hx : (rng 0 n)[pre.length]? = some x := by rw [e]; simp
    rw [List.getElem?_map, List.getElem?_range hl] at hx
    have hx := Option.some.inj hx
    simp only [Int.zero_add] at hx
    subst hx
    have z := hs D nD pre.length acc H2 hl r
    rw [List.length_append]
    exact z
  · rw [List.length_map, List.length_range] at r; exact r
theorem lc_list {a : Addr} {xs : List V} (h : At t σ H (.ref a) H1) (hx : SqL K H1 a xs) (R : Addr → List V → List V → Hp → Prop)
    (hP : ∀ D pre acc H, R D pre acc H → SqL K H a xs) (h0 : ∀ D, H1 D = none → R D [] [] (upd H1 D (.lst [])))
    (hs : ∀ D, H1 D = none → ∀ pre acc x suf H, xs = pre ++ x :: suf → R D pre acc H → g x (wipe σ vs) H fun σ2 H2 => wipe σ2 vs = wipe σ vs ∧ te σ2 H2 fun y H4 =>
      ∃ acc, H4 D = some (.lst acc) ∧ acc.length < sizeLine ∧ ∃ a, R D (pre ++ [x]) a (upd H4 D (.lst (acc ++ [y]))))
    (he : ∀ D, H1 D = none → ∀ acc H, R D xs acc H → Q (.ref D) H) : tLc (iList K t) g tYes te vs σ H Q :=
  h _ ⟨a, rfl, ⟨_, hx⟩, fun D nD => lc_wk wk_list (fun pre acc H => R D pre acc H) (hP D) (h0 D nD) (hs D nD) (he D nD)⟩

theorem for_str {l : List Nat} (h : At t σ H (.str (T l)) H1) (Iv : List Nat → L2.St → Hp → Prop) (h0 : Iv [] σ H1)
    (hs : ∀ pre c suf σ H, l = pre ++ c :: suf → Iv pre σ H → g (.str (T [c])) σ H fun σ2 H2 => tb { D with nx := Iv (pre ++ [c]), ct := Iv (pre ++ [c]), bk := D.nx } σ2 H2)
    (he : ∀ σ H, Iv l σ H → D.nx σ H) : tFor (iStr t) g tb D σ H := by
  refine h _ ⟨_, rfl, ?_⟩
  refine for_wk (wk_str l) (fun pre σ H => ∃ p, pre = lets p ∧ Iv p σ H) (fun _ _ _ _ => trivial) ⟨[], rfl, h0⟩ (fun pre x suf σ H2 e r => ?_) (fun σ H r => ?_)
  · obtain ⟨p', rfl, iv⟩ := r
    obtain ⟨p, q, e1, e2, e3⟩ := List.map_eq_append_iff.mp e
    obtain rfl : p = p' := by
      have inj : ∀ a b : Nat, V.str (T [a]) = V.str (T [b]) → a = b := fun a b z => by
        have z1 := T_inj (V.str.inj z)
        exact (List.cons.inj z1).1
      exact (List.map_inj_right inj).mp e2
    cases q with
    | nil => cases e3
    | cons c q =>
      obtain ⟨rfl, rfl⟩ := List.cons.inj e3
      have z := hs p c q σ H2 e1 iv
      have e4 : (fun (σ : L2.St) (H : Hp) => ∃ p_1, lets p ++ [V.str (T [c])] = lets p_1 ∧ Iv p_1 σ H) = Iv (p ++ [c]) := by
        funext σ H
        apply propext
        constructor
        · rintro ⟨p1, e, h⟩
          have e5 : lets (p ++ [c]) = lets p1 := by rw [← e]; simp [lets]
          have inj : ∀ a b : Nat, V.str (T [a]) = V.str (T [b]) → a = b := fun a b z => by
            have z1 := T_inj (V.str.inj z)
            exact (List.cons.inj z1).1
          rw [(List.map_inj_right inj).mp e5]; exact h
        · intro h; exact ⟨_, by simp [lets], h⟩
      rw [e4]
      exact z
  · obtain ⟨p, e, iv⟩ := r
    have inj : ∀ a b : Nat, V.str (T [a]) = V.str (T [b]) → a = b := fun a b z => by
      have z1 := T_inj (V.str.inj z)
      exact (List.cons.inj z1).1
    obtain rfl := (List.map_inj_right inj).mp e
    exact he σ H iv
theorem for_list {a : Addr} {xs : List V} (h : At t σ H (.ref a) H1) (hx : SqL K H1 a xs) (Iv : List V → L2.St → Hp → Prop) (hP : ∀ pre σ H, Iv pre σ H → SqL K H a xs) (h0 : Iv [] σ H1)
    (hs : ∀ pre x suf σ H, xs = pre ++ x :: suf → Iv pre σ H → g x σ H fun σ2 H2 => tb { D with nx := Iv (pre ++ [x]), ct := Iv (pre ++ [x]), bk := D.nx } σ2 H2)
    (he : ∀ σ H, Iv xs σ H → D.nx σ H) : tFor (iList K t) g tb D σ H :=
  h _ ⟨a, rfl, ⟨_, hx⟩, for_wk wk_list Iv hP h0 hs he⟩
/-- turns that are counted: J tells f i in turn i -/
theorem for_n {J : It} {n : Nat} {f : Nat → V} (W : Wk J ((List.range n).map f) fun _ => True) (Iv : Nat → L2.St → Hp → Prop) (h0 : Iv 0 σ H1)
    (hs : ∀ i σ H, i < n → Iv i σ H → g (f i) σ H fun σ2 H2 => tb { D with nx := Iv (i + 1), ct := Iv (i + 1), bk := D.nx } σ2 H2)
    (he : ∀ σ H, Iv n σ H → D.nx σ H) :
    ∃ W : Nat → Nat → L2.St → Hp → Prop, (∃ m, W 0 m σ H1) ∧ ∀ i m σ H, W i m σ H → (J.stop i H ∧ D.nx σ H) ∨ (J.go i H ∧ ∃ N : L2.St → Hp → Prop, (∀ σ' H', N σ' H' → ∃ m', m' < m ∧ W (i + 1) m' σ' H') ∧
      ∀ x H', J.yld i H x H' → g x σ H' fun σ2 H2 => tb { D with nx := N, ct := N, bk := D.nx } σ2 H2) := by
  refine for_wk W (fun pre σ H => Iv pre.length σ H) (fun _ _ _ _ => trivial) h0 (fun pre x suf σ H2 e r => ?_) (fun σ H r => he σ H ?_)
  · have hl : pre.length < n := by
      have := congrArg List.length e
      simp at this; omega
    have hx : ((List.range n).map f)[pre.length]? = some x := by rw [e]; simp
    rw [List.getElem?_map, List.getElem?_range hl] at hx
    have hx := Option.some.inj hx
    subst hx
    have z := hs pre.length σ H2 hl r
    rw [List.length_append]
    exact z
  · rw [List.length_map, List.length_range] at r; exact r
theorem for_rng {t : TA} {n : Nat} (h : ∀ R : List V → Hp → Prop, R [.int n] H1 → t σ H R) (hn : n < 1000000) (Iv : Nat → L2.St → Hp → Prop) (h0 : Iv 0 σ H1)
    (hs : ∀ i σ H, i < n → Iv i σ H → g (.int i) σ H fun σ2 H2 => tb { D with nx := Iv (i + 1), ct := Iv (i + 1), bk := D.nx } σ2 H2)
    (he : ∀ σ H, Iv n σ H → D.nx σ H) : tFor (iRng1 t) g tb D σ H := by
  refine h _ ⟨n, rfl, by omega, by omega, ?_⟩
  refine for_n (f := fun i => V.int (0 + (i : Nat))) (wk_rng 0 n) Iv h0 (fun i σ H hi iv => ?_) he
  rw [Int.zero_add]
  exact hs i σ H hi iv
end
end LK

/-! list(d.values()); text[::-1], text[::2] -/
namespace LK
open PySem PySem.Spec PyProof.Rows L2
section
variable {X : Cx} {e : Expr} {te : TE} {p apos cpos pos : Pos}
end

section
variable {X : Cx} {e es : Expr} {te : TE} {ts : TO} {p3 pos : Pos}
end

end LK

/-! Calls of own defs, by place and by name; repr of lists and tuples. -/
namespace LK
open PySem PySem.Spec PyProof.Rows L2

/-- a def of the module and what it promises -/
structure Has (P : Program) (w : World) (K : PySem.W.Frag) (mg : Str → Option Value) (base : Heap) (k : Nat) (x : Str) (ps : List Str) (sp : Sp) : Prop where
  ex : ∃ f fd, FnG P w K mg base CX0 k f fd ps sp ∧ mg x = some (.ref f) ∧ PySem.W.keepIn K (.ref f) = true ∧ Binds K fd ps [] ∧
    ∀ (s : Shared) (us : List Value), us.length = ps.length → BindsTo s fd ⟨[], ps.zip us⟩ (ps.zip us) ∧ BindsTo s fd ⟨[], (ps.zip us).reverse⟩ (ps.zip us)
theorem Has.up {P : Program} {w : World} {K : PySem.W.Frag} {mg : Str → Option Value} {base : Heap} {j k : Nat} {x : Str} {ps : List Str} {sp : Sp}
    (F : Has P w K mg base j x ps sp) (h : j ≤ k) : Has P w K mg base k x ps sp := by
  obtain ⟨f, fd, a, b⟩ := F.ex
  exact ⟨f, fd, a.up h, b⟩

section
variable {X : Cx} {k : Nat} {ps : List Str} {sp : Sp} {x : Str} {p pos : Pos} {e : Expr} {es : List Expr} {kws : List Keyword} {t tk : TA}
/-- f(e, ..) -/
theorem pe_callH (F : Has X.prog X.w X.K X.mg X.base k x ps sp) (hA : X.A.guards = some []) (hr : Room k X.A) (hg : Gl X x) (ha : PA X (e :: es) t)
    (hdb : (x == ("__debug__" : Str)) = false := by decide) (he : starEach (e :: es) X.env = (false, eval e X.env) :: starEach es X.env := by rfl)
    (hpl : (backTo pos (starEach es X.env)).any (·.1) = false := by rfl) : PE X (.Call (.Name x p) (e :: es) [] pos) (uCall sp E0 t) := by
  obtain ⟨f, fd, a, b, c, d, _⟩ := F.ex
  exact pe_callUG a hA hr hg b c d pass0 ha hdb he hpl
/-- the values by name in the sequence of the parameters -/
def uCallK (sp : Sp) (gV : List V → List V) (t : TA) : TE := fun σ H Q => t σ H fun zs H1 => sp (gV zs) H1 Q E0
/-- f(k = v, ..); g: the values in the sequence of the parameters -/
theorem pe_callHK {ks : List Str} {g : List Value → List Value} {gV : List V → List V} (F : Has X.prog X.w X.K X.mg X.base k x ps sp) (hA : X.A.guards = some []) (hr : Room k X.A) (hg : Gl X x)
    (hkw : PK X kws tk) (hall : (backToKw pos (keywordEach kws X.env)).all (·.1.isSome) = true := by rfl) (hks : (backToKw pos (keywordEach kws X.env)).filterMap (·.1) = ks := by rfl)
    (hpl : ((backTo pos (starEach [] X.env)).any (·.1) || (backToKw pos (keywordEach kws X.env)).any (·.1.isNone)) = false := by rfl)
    (hb : ∀ (f : Addr) (fd : FuncData), (∀ (s : Shared) (us : List Value), us.length = ps.length → BindsTo s fd ⟨[], ps.zip us⟩ (ps.zip us) ∧ BindsTo s fd ⟨[], (ps.zip us).reverse⟩ (ps.zip us)) → ∀ (s : Shared) (ws : List Value), ws.length = ks.length → (g ws).length = ps.length → BindsTo s fd ⟨[], ks.zip ws⟩ (ps.zip (g ws)))
    (hrel : ∀ (zs : List V) (ws : List Value), Vals zs ws → (gV zs).length = ps.length → Vals (gV zs) (g ws) ∧ ws.length = ks.length)
    (hdb : (x == ("__debug__" : Str)) = false := by decide) : PE X (.Call (.Name x p) [] kws pos) (uCallK sp gV tk) := by
  obtain ⟨f, fd, F, hm, hk, _, bk⟩ := F.ex
  refine ⟨fun pins s σ H Q I h => ?_⟩
  refine wpAny_Call_Name_kw (ld_glob I hg hm ?_ hdb)
  refine PySem.W.callWith_KW0 (h₀ := X.base) I.ok.mod.kin hk hall (thn (hkw.run pos pins s σ H _ I h) fun ws s1 z => ?_) hpl
  obtain ⟨zs, H1, I1, rz, q⟩ := z
  have q : sp (gV zs) H1 Q E0 := q
  have hl := F.len _ _ _ _ q
  obtain ⟨r2, l2⟩ := hrel zs ws rz hl
  refine ⟨I1.kIn, ?_⟩
  rw [hks, List.append_nil]
  refine wpAny_call (codeAny_mono (F.run X.A hA X.stack s1 H1 ⟨[], ks.zip ws⟩ (g ws) (gV zs) Q E0 hr I1.env0 (hb f fd bk s1 ws l2 (by rw [← r2.length]; exact hl)) r2 q) ?_)
  intro r s' z
  match r, z with
  | .error e, z => exact pass0 pins σ H1 s1 e s' I1 z
  | .ok (.ret u), z => exact I1.after z
  | .ok .next, z => exact z
  | .ok .brk, z => exact z
  | .ok .cont, z => exact z
end

/-! ### repr -/
section
variable {X : Cx}
/-- data without dicts that is short enough to be shown -/
structure Shw (d : PyData) : Prop where
  sh : d.showable = true
  nd : d.hasDict → False
  dp : d.depth ≤ 3
  lf : d.leavesShort 13 = true
  wt : d.weight ≤ 2 ^ 20
def reprU (K : PySem.W.Frag) : List V → Hp → VK → Prop := fun vs H Q => match vs with
  | [.ref a] => ∃ d, Dp K H (.ref a) d ∧ Shw d ∧ Q (.str d.shown) H
  | [.bl b] => Q (.str (PyData.bool b).shown) H
  | _ => False
theorem c_repr (hA : X.A.guards = some []) (hu : X.A.units + 64 < cLine) : CallR X (.builtin "repr") (reprU X.K) := by
  intro pins s σ H xs us Q I r h
  unfold reprU at h
  split at h
  · obtain ⟨d, hd, hw, q⟩ := h
    obtain ⟨u, rfl, ru⟩ := vals1 r
    obtain rfl : u = Value.ref _ := ru
    obtain ⟨as, rd⟩ := Dp.reads I d _ (Value.ref _) hd rfl
    refine repr_of_reads' rd hw.sh (fun z => (hw.nd z).elim) hA (by have := hw.dp; omega) (fun _ _ e => e) (fun h' u tk hk => ?_) (PyData.shown_fits (B := 13) (by omega) (by omega) hw.lf hw.wt)
    exact ⟨.str d.shown, H, I.kept hk, ⟨u, rfl⟩, q⟩
  · rename_i b
    obtain ⟨u, rfl, ru⟩ := vals1 r
    obtain rfl : u = Value.bool b := ru
    refine PySem.P.repr_of_bool ⟨.str _, H, I.tok _, ⟨_, rfl⟩, ?_⟩
    exact h
  · exact h.elim
end
end LK

/-! own exceptions over any built-in base, as values: stored into, made, read, asked for their class -/
namespace LK
open PySem PySem.Spec PyProof.Rows L2 Builtin Builtin.ObjectAttr
/-- what the written part says of an own exception class -/
structure ExcK (K : PySem.W.Frag) (C : Addr) (bmB : List Value) (newId : String) : Prop where
  init : PySem.W.excInitIn K C bmB newId = true
  over : PySem.W.excOver K C bmB = true
  sa : PySem.W.findIn K (.ref C) "__setattr__" = some (some (.builtin "object.__setattr__"))
  is : ExcC K C
  kC : PySem.W.keepIn K (.ref C) = true
section
variable {X : Cx} {pins : List (Addr × Obj)} {σ : L2.St} {H : Hp} {s : Shared} {a C dx : Addr} {f : Str} {y : V} {u : Value} {bmB : List Value} {B newId : String}
theorem ExcK.cd (T : ExcK X.K C bmB newId) : ∃ cd : ClassData, PySem.W.clsIn X.K C = some cd ∧ cd.hasDict = true := by
  obtain ⟨cd, h1, h2⟩ := PySem.W.any_some T.is.hd
  exact ⟨cd, h1, h2⟩
/-- an object is written and another one laid beside it, at once -/
theorem inv_two {h' : Heap} {t' : Nat} {oa q : Obj} {o od : HO} (I : Inv X pins σ H s) (mu : Mut (H a)) (ha : s.heap.get? a = some oa) (ha' : h'.get? a = some q)
    (keep : ∀ b v, b ≠ a → s.heap.get? b = some v → h'.get? b = some v) (nd : s.heap.objs.size ≤ dx) (ne : dx ≠ a)
    (hd : ∀ g : Heap, g.get? dx = h'.get? dx → ObjOk X.prog X.w (upd H dx od) g dx od) (hn : ObjOk X.prog X.w (upd (upd H dx od) a o) h' a o) :
    Inv X pins σ (upd (upd H dx od) a o) { s with heap := h', toks := t' } := by
  have hdn : H dx = none := I.hok.fresh nd
  have g1 : (h'.update a fun _ => oa).get? a = some oa := Heap.get?_update_self _ ha' (Heap.get?_some_iff.mp ha).2
  have g2 : ∀ b, b ≠ a → (h'.update a fun _ => oa).get? b = h'.get? b := fun b hb => Heap.get?_update_ne _ _ _ _ hb
  have I1 : Inv X pins σ (upd H dx od) { s with heap := h'.update a fun _ => oa, toks := t' } := I.laid (t' := t') (fun b v hv => by
    by_cases hb : b = a
    · subst hb
      rw [ha] at hv
      exact hv ▸ g1
    · rw [g2 b hb]; exact keep b v hb hv) nd (hd _ (g2 dx ne))
  exact I1.write (t' := t') (x := a) (e := a) (by rw [upd_ne ne.symm]; exact mu) (.inl rfl) (fun b v hb hv => by rw [g2 b hb] at hv; exact hv) ⟨_, ha'⟩ hn
/-- the first field -/
theorem stE_new (SF : StoreFacts B bmB "object.__setattr__" "object") (T : ExcK X.K C bmB newId) (I : Inv X pins σ H s) (e : H a = some (exo a C none)) (hno : PySem.W.takerIn X.K C f = some none) (ry : RelV y u)
    {Q : Unit → Shared → Prop} {E : Value → Shared → Prop} {A : Around}
    (h : ∀ dx s', H dx = none → dx ≠ a → Inv X pins σ (upd (upd H dx (exd dx [(f, y)])) a (exo a C (some dx))) s' → Q () s') : wpAny (model X.prog X.w) A (setAttr (.ref a) f u) Q E s := by
  obtain ⟨cd, hcd, hdct⟩ := T.cd
  obtain ⟨t1, ho⟩ := exo_at I.hok e
  have inst : PySem.W.InstAt s.heap a { cls := .ref C, data := .fields #[.ref t1, .none, .none, .none, .bool false, .none] } C none := ⟨ho, rfl, rfl, trivial⟩
  refine PySem.W.set_plain I.kIn inst T.sa (PySem.W.osa_openX SF I.kIn inst T.over hno fun b => ?_)
  have look : PySem.W.Looks (model X.prog X.w) s.heap (classData C) cd := PySem.W.looks_clsIn I.kIn hcd
  obtain ⟨heap0, gens0, dr0, tk0, os0⟩ := s
  obtain ⟨c1, c2, c3, c4, c5, c6, c7, c8, c9, c10, c11⟩ := cd
  dsimp only at hdct
  subst hdct
  have neA : a ≠ heap0.objs.size := Nat.ne_of_lt (Heap.lt_size ho)
  show wpAny _ _ (storeInOwnDict (.ref a) (.ref C) (.str f tk0) f u b) _ _ _
  unfold storeInOwnDict ownDictForStores
  repeat (first | with_reducible refine PySem.HandSPX.store_in_new ?_ ?_ | with_reducible refine wpAny_loadPart_at ho ?_ | with_reducible refine look.at ?_ | wp_step)
  · exact ⟨_, #[], _, (Heap.get?_update_ne _ _ _ _ neA.symm).trans (Heap.get?_push_at rfl rfl), rfl, fun _ z => absurd z (by simp), fun _ => rfl⟩
  · intro h2 tk2 n1 sb
    have ho2 : (heap0.push { cls := .type "dict", data := .dict #[] }).get? a = some { cls := .ref C, data := .fields #[.ref t1, .none, .none, .none, .bool false, .none] } := Heap.get?_push_of_some _ ho
    have fin : h2.get? a = some { cls := .ref C, dict := some heap0.objs.size, data := .fields #[.ref t1, .none, .none, .none, .bool false, .none] } := (sb.2 a neA).trans (Heap.get?_update_self _ ho2 rfl)
    refine h heap0.objs.size _ (I.hok.fresh (Nat.le_refl _)) neA.symm (inv_two I (by rw [e]; exact True.intro) ho fin (fun b v hb hv => ?_) (Nat.le_refl _) neA.symm (fun g hg => ?_) (exo_ok fin))
    · exact (sb.2 b (Nat.ne_of_lt (Heap.lt_size hv))).trans ((Heap.get?_update_ne _ _ _ _ hb).trans (Heap.get?_push_of_some _ hv))
    · exact exd_ok (n1.at fun o z => by rw [hg]; exact z) (relO_put (fs := []) ry fun _ => True.intro)
/-- a further field -/
theorem stE_old {fs : List (Str × V)} (SF : StoreFacts B bmB "object.__setattr__" "object") (T : ExcK X.K C bmB newId) (I : Inv X pins σ H s) (e : H a = some (exo a C (some dx))) (ed : H dx = some (exd dx fs)) (hl : fs.length ≤ 900)
    (hno : PySem.W.takerIn X.K C f = some none) (ry : RelV y u) {Q : Unit → Shared → Prop} {E : Value → Shared → Prop} {A : Around}
    (h : ∀ s', Inv X pins σ (upd H dx (exd dx ((f, y) :: fs))) s' → Q () s') : wpAny (model X.prog X.w) A (setAttr (.ref a) f u) Q E s := by
  obtain ⟨cd, hcd, hdct⟩ := T.cd
  obtain ⟨t1, ho⟩ := exo_at I.hok e
  obtain ⟨mA, nsD, rel⟩ := exd_at I.hok ed
  have inMA := within_of rel
  obtain ⟨oD, _, _, hoD, _, _⟩ := nsD.count inMA
  have inst : PySem.W.InstAt s.heap a { cls := .ref C, dict := some dx, data := .fields #[.ref t1, .none, .none, .none, .bool false, .none] } C (some oD) := ⟨ho, rfl, rfl, hoD⟩
  refine PySem.W.set_plain I.kIn inst T.sa (PySem.W.osa_openX SF I.kIn inst T.over hno fun b => ?_)
  have look : PySem.W.Looks (model X.prog X.w) s.heap (classData C) cd := PySem.W.looks_clsIn I.kIn hcd
  obtain ⟨heap0, gens0, dr0, tk0, os0⟩ := s
  obtain ⟨c1, c2, c3, c4, c5, c6, c7, c8, c9, c10, c11⟩ := cd
  dsimp only at hdct
  subst hdct
  show wpAny _ _ (storeInOwnDict (.ref a) (.ref C) (.str f tk0) f u b) _ _ _
  unfold storeInOwnDict ownDictForStores
  repeat (first | with_reducible refine PySem.OEX.store_in_old nsD inMA (by rw [List.length_map]; omega) ?_ | with_reducible refine wpAny_loadPart_at ho ?_ | with_reducible refine look.at ?_ | wp_step)
  intro h2 tk2 n1 sb
  refine h _ (I.write (t' := tk2) (x := dx) (e := dx) (by rw [ed]; exact True.intro) (.inl rfl) (fun b v hb hv => (sb.2 b hb).trans hv) ?_ (exd_ok n1 (relO_put ry rel)))
  obtain ⟨o, _, _, z, _⟩ := n1
  exact ⟨o, z⟩
end
section
variable {X : Cx} {to te : TE} {o e : Expr} {f : Str} {p' pos : Pos} {B : String}
/-- self.f = e, self an exception that is being made -/
def tStE (K : PySem.W.Frag) (bmB : List Value) (f : Str) (to te : TE) : TS := fun D σ H => te σ H fun y H1 => to σ H1 fun x H2 => match x with
  | .ref a => ∃ (C : Addr) (newId : String), ExcK K C bmB newId ∧ PySem.W.takerIn K C f = some none ∧
      ((H2 a = some (exo a C none) ∧ ∀ dx, H2 dx = none → dx ≠ a → D.nx σ (upd (upd H2 dx (exd dx [(f, y)])) a (exo a C (some dx)))) ∨
        ∃ (dx : Addr) (fs : List (Str × V)), H2 a = some (exo a C (some dx)) ∧ H2 dx = some (exd dx fs) ∧ fs.length ≤ 900 ∧ D.nx σ (upd H2 dx (exd dx ((f, y) :: fs))))
  | _ => False
theorem ps_stE {bmB : List Value} (SF : StoreFacts B bmB "object.__setattr__" "object") (ho : PE X o to) (he : PE X e te) (hs : swapsWith e (some (.Attribute o f p')) pos.line X.env = pure false := by rfl) :
    PS X (.Assign [.Attribute o f p'] e pos) (tStE X.K bmB f to te) := by
  refine ⟨fun pins s σ H D I h => ?_⟩
  refine plainObj_wpAny_Assign_Attribute (thn (he.run pins s σ H _ I h) fun v s1 q => ?_) hs
  obtain ⟨y, H1, I1, r1, q1⟩ := q
  refine thn (ho.run pins s1 σ H1 _ I1 q1) fun u s2 q => ?_
  obtain ⟨x, H2, I2, r2, q2⟩ := q
  cases x with
  | ref a =>
    obtain ⟨C, newId, T, hno, q2⟩ := q2
    obtain rfl : u = Value.ref a := r2
    rcases q2 with ⟨ea, q2⟩ | ⟨dx, fs, ea, ed, hl, q2⟩
    · exact stE_new SF T I2 ea hno r1 fun dx s' n ne J => ⟨σ, _, J, q2 dx n ne⟩
    · exact stE_old SF T I2 ea ed hl hno r1 fun s' J => ⟨σ, _, J, q2⟩
  | _ => exact q2.elim
end
section
variable {X : Cx} {x : Str} {C fI : Addr} {k : Nat} {fd : FuncData} {ps : List Str} {sp : Sp} {p pos : Pos} {e : Expr} {es : List Expr} {ta : TA} {B newId initId : String} {bmB : List Value}
theorem under_guards {A : Around} {us : List Value} {kw : List (Str × Value)} {C : Addr} (h : A.guards = some []) : (A.under (.builtin "type.__call__" ⟨.ref C :: us, kw⟩)).guards = some [] := by
  unfold Around.under
  dsimp only
  rw [h]
  first | rfl | decide +kernel | (simp [pushGuards])
end

/-! ### read, asked for the class -/
section
variable {X : Cx} {pins : List (Addr × Obj)} {σ : L2.St} {H : Hp} {s : Shared} {a C : Addr} {fs : List (Str × V)}
end

/-! ### made to be raised; made without fields -/
section
variable {X : Cx} {x : Str} {C fI : Addr} {k : Nat} {fd : FuncData} {ps : List Str} {sp : Sp} {p pos : Pos} {e : Expr} {es : List Expr} {ta : TA} {B newId initId : String} {bmB : List Value}
/-- C(e, ..) behind raise: what flies is the class with its fields -/
def tPmE (C : Addr) (sp : Sp) (ta : TA) : L2.St → Hp → XK → Prop := fun σ H Q => ta σ H fun vs H1 => vs.length ≤ 1000 ∧ ∀ a, H1 a = none → sp (.ref a :: vs) (upd H1 a (exo a C none))
  (fun v H2 => v = .non ∧ ∃ (d : Addr) (fs : List (Str × V)), H2 a = some (exo a C (some d)) ∧ H2 d = some (exd d fs) ∧ H1 d = none ∧ Q (.ref C) (some d) (upd (del H2 a) d (.xd fs))) E0
theorem pmk_mkE (FB : ExcBaseFacts B newId initId bmB) (T : ExcK X.K C bmB newId) (tyC : PySem.W.typeIn X.K (.ref C) = some (.type "type")) (iC : PySem.W.findIn X.K (.ref C) "__init__" = some (some (.ref fI))) (tI : PySem.W.typeIn X.K (.ref fI) = some (.type "function"))
    (F1 : FnG X.prog X.w X.K X.mg X.base CX0 k fI fd ps sp) (hA : X.A.guards = some []) (hr : Room (k + 1) X.A) (hb : Binds X.K fd ps []) (hg : Gl X x) (hm : X.mg x = some (.ref C)) (ha : PA X (e :: es) ta)
    (hdb : (x == ("__debug__" : Str)) = false := by decide) (he : starEach (e :: es) X.env = (false, eval e X.env) :: starEach es X.env := by rfl) (hpl : (backTo pos (starEach es X.env)).any (·.1) = false := by rfl) :
    PMk X (.Call (.Name x p) (e :: es) [] pos) (tPmE C sp ta) := by
  intro pins s σ H Q I h
  refine wpAny_Call_Name_kw (ld_glob I hg hm ?_ hdb)
  refine PySem.W.callWith_K (h₀ := X.base) I.ok.mod.kin T.kC (thn (ha.run pos pins s σ H _ I h) fun us s1 z => ?_) he hpl
  obtain ⟨vs, H1, I1, r1, hz, q⟩ := z
  refine ⟨I1.kIn, ?_⟩
  have hl : us.length ≤ sizeLine := by rw [← Paired.length r1, sizeLine_eq]; omega
  have len : us.length + 1 = ps.length := by
    have := F1.len _ _ _ _ (q _ (I1.hok.fresh (Nat.le_refl _)))
    rw [List.length_cons, Paired.length r1] at this
    exact this
  obtain ⟨nm, N, qn, bs, bm, hdct, sn, sub, ab, col, dd, k0, k1, k2, k3, k5, hC, hT⟩ := PySem.W.excInit_of I1.kIn T.init
  obtain ⟨heap0, gens0, dr0, tk0, os0⟩ := s1
  have up : heap0.objs.size ≤ heap0.objs.size + 1 := Nat.le_succ _
  have keep : ∀ b o, heap0.get? b = some o → ((heap0.push (PySem.W.kdv_tup us)).push (PySem.HandSPX.excO C heap0.objs.size)).get? b = some o := fun b o z => Heap.get?_push_of_some _ (Heap.get?_push_of_some _ z)
  have there : ((heap0.push (PySem.W.kdv_tup us)).push (PySem.HandSPX.excO C heap0.objs.size)).get? (heap0.objs.size + 1) = some (PySem.HandSPX.excO C heap0.objs.size) := by heap_get
  have J : Inv X pins σ (upd H1 (heap0.objs.size + 1) (exo (heap0.objs.size + 1) C none)) ⟨(heap0.push (PySem.W.kdv_tup us)).push (PySem.HandSPX.excO C heap0.objs.size), gens0, dr0, tk0, os0⟩ :=
    I1.laid (t' := tk0) (h' := (heap0.push (PySem.W.kdv_tup us)).push (PySem.HandSPX.excO C heap0.objs.size)) keep up (exo_ok there)
  have bnd : ∀ z : Value, BindsTo ⟨(heap0.push (PySem.W.kdv_tup us)).push (PySem.HandSPX.excO C heap0.objs.size), gens0, dr0, tk0, os0⟩ fd ⟨z :: us, []⟩ (ps.zip (z :: us)) := fun z => by
    have b := hb ⟨(heap0.push (PySem.W.kdv_tup us)).push (PySem.HandSPX.excO C heap0.objs.size), gens0, dr0, tk0, os0⟩ (z :: us) J.kIn (by rw [List.append_nil]; exact len)
    rw [List.append_nil] at b
    exact b
  refine wpAny_call (PySem.HandSPX.call_own FB hT hC (PySem.W.looks_findIn I1.kIn iC) (fun z => PySem.W.bind_fn I1.kIn z tI) hl (codeAny_mono (F1.run _ (under_guards hA) X.stack _ _ ⟨.ref (heap0.objs.size + 1) :: us, []⟩ (.ref (heap0.objs.size + 1) :: us) (.ref (heap0.objs.size + 1) :: vs) _ E0
    (hr.make C us []) (J.env0.make C us []) (bnd _) (.cons rfl r1) (q _ (I1.hok.fresh up))) fun r' s' z => ?_))
  match r', z with
  | .error er, z => exact pass0 pins σ _ _ er s' J z
  | .ok .next, z => exact z.elim
  | .ok .brk, z => exact z.elim
  | .ok .cont, z => exact z.elim
  | .ok (.ret u), z =>
    obtain ⟨v, H2, os2, bare2, un2, hok2, rv, ev, d, fs, ea, ed, hd1, q2⟩ := z
    subst ev
    obtain ⟨h2, g2, d2, t2, os'⟩ := s'
    exact ⟨rv, mk_end (raises_own T.is.hs tyC) I1 up keep un2 hok2 os2 bare2 ea ed hd1 q2⟩
end
end LK

/-! own exceptions made by names alone -/
namespace LK
open PySem PySem.Spec PyProof.Rows L2 Builtin Builtin.ObjectAttr PySem.HandSPX
section
variable {M : Model} {A : Around} {E : Value → Shared → Prop} {h : Heap} {g : Array GenState} {d : Drawn} {t : Nat} {os : OsState}
variable {nm q : Str} {C N : Addr} {bs bm bmB : List Value} {hdct : Bool} {sn : List Str} {sub : List Value} {ab : Bool} {col : Option Bool} {dd : Option Addr} {k0 k1 k2 k3 k5 : Option Value} {B newId initId : String}
variable {n0 : Str} {v0 : Value} {kr : List (Str × Value)}
end
section
variable {prog : Program} {w : World} {A : Around} {E : Value → Shared → Prop} {R : Result → Shared → Prop} {h : Heap} {g : Array GenState} {d : Drawn} {t : Nat} {os : OsState}
variable {nm q : Str} {C N : Addr} {bs bm bmB : List Value} {hdct : Bool} {sn : List Str} {sub : List Value} {ab : Bool} {col : Option Bool} {dd : Option Addr} {k0 k1 k2 k3 k5 : Option Value} {B newId initId : String}
variable {n0 : Str} {v0 : Value} {kr : List (Str × Value)}
end

section
variable {X : Cx} {x kn : Str} {kns : List Str} {C fI : Addr} {k : Nat} {fd : FuncData} {ps : List Str} {sp : Sp} {p pos : Pos} {kws : List Keyword} {tk : TA} {B newId initId : String} {bmB : List Value} {gU : List Value → List Value} {gV : List V → List V}
end
end LK

/-! repr of nested data, dicts among it -/
namespace LK
open PySem PySem.Spec PyProof.Rows L2
def encK : Key → PyData
  | .inl i => .int i
  | .inr x => .str x
mutual
/-- data, dicts with ints and texts as keys among it -/
inductive DpX (K : PySem.W.Frag) (N : Addr → Prop) (H : Hp) : V → PyData → Prop
  | non : DpX K N H .non .none
  | bl (b : Bool) : DpX K N H (.bl b) (.bool b)
  | int (i : Int) : DpX K N H (.int i) (.int i)
  | str (x : Str) : DpX K N H (.str x) (.str x)
  | lst {a : Addr} {xs : List V} {ds : List PyData} : ¬ N a → SqL K H a xs → DpXAll K N H xs ds → DpX K N H (.ref a) (.list ds)
  | tup {a : Addr} {xs : List V} {ds : List PyData} : ¬ N a → SqT K H a xs → DpXAll K N H xs ds → DpX K N H (.ref a) (.tuple ds)
  | dct {a : Addr} {kvs : List (Key × V)} {ds : List PyData} : ¬ N a → H a = some (.dK kvs) → DpXAll K N H (kvs.map (·.2)) ds → DpX K N H (.ref a) (.dict ((kvs.map fun p => encK p.1).zip ds))
inductive DpXAll (K : PySem.W.Frag) (N : Addr → Prop) (H : Hp) : List V → List PyData → Prop
  | nil : DpXAll K N H [] []
  | cons {v : V} {vs : List V} {d : PyData} {ds : List PyData} : DpX K N H v d → DpXAll K N H vs ds → DpXAll K N H (v :: vs) (d :: ds)
end
/-- sys.modules is a dict there -/
def SysD (h : Heap) : Prop := ∃ (o : Obj) (es : Array DictEntry) (ep : Nat), h.get? sysModules = some o ∧ o.data = .dict es ep
section
variable {X : Cx} {pins : List (Addr × Obj)} {σ : L2.St} {H : Hp} {s : Shared} {N : Addr → Prop}
theorem pairs_read {h : Heap} : ∀ {kvs : List (Key × V)} {vs : List (Key × Value)} {ds : List PyData} {bs : List Addr}, KV kvs vs → ReadsAll h (vs.map (·.2)) ds bs → PyProof.V.PairsRead h encK vs ((kvs.map fun p => encK p.1).zip ds) bs := by
  intro kvs vs ds bs r
  induction r generalizing ds bs with
  | nil => intro z; cases z; exact .nil
  | cons h1 t ih =>
    intro z
    cases z with
    | cons z1 z2 =>
      rw [List.map_cons, List.zip_cons_cons, h1.1]
      exact .cons z1 (ih z2)
theorem kv_vals : ∀ {kvs : List (Key × V)} {vs : List (Key × Value)}, KV kvs vs → Vals (kvs.map (·.2)) (vs.map (·.2))
  | _, _, .nil => .nil
  | _, _, .cons h t => .cons h.2 (kv_vals t)
theorem sys_ne {a : Addr} {o : Obj} (S : SysD s.heap) (e : s.heap.get? a = some o) (n : ∀ es ep, o.data ≠ .dict es ep) : sysModules ≠ a := fun z => by
  obtain ⟨o2, es, ep, e2, d⟩ := S
  rw [z, e] at e2
  cases e2
  exact n _ _ d
mutual
theorem DpX.reads (I : Inv X pins σ H s) (S : SysD s.heap) : ∀ {v : V} {d : PyData} {u : Value}, DpX X.K N H v d → RelV v u → ∃ as, Reads s.heap u d as ∧ sysModules ∉ as
  | _, _, _, .non, r => by cases r; exact ⟨_, .none, by simp⟩
  | _, _, _, .bl b, r => by cases r; exact ⟨_, .bool b, by simp⟩
  | _, _, _, .int i, r => by obtain ⟨t, rfl⟩ := r; exact ⟨_, .int i t, by simp⟩
  | _, _, _, .str x, r => by obtain ⟨t, rfl⟩ := r; exact ⟨_, .str x t, by simp⟩
  | _, _, _, .lst _ hs ha, r => by
    cases r
    obtain ⟨its, rv, ⟨o, n, ho, hc, _, hd⟩, _⟩ := I.list hs
    obtain ⟨as, hr, ns⟩ := DpXAll.reads I S ha rv
    refine ⟨_, .list ho hc hd hr, ?_⟩
    rw [List.mem_cons, not_or]
    exact ⟨sys_ne S ho (fun es ep z => by rw [hd] at z; cases z), ns⟩
  | _, _, _, .tup _ hs ha, r => by
    cases r
    obtain ⟨its, rv, ⟨o, ho, hc, n, hd⟩, _⟩ := I.tuple hs
    obtain ⟨as, hr, ns⟩ := DpXAll.reads I S ha rv
    exact ⟨_, .tuple ho hc hd hr, ns⟩
  | _, _, _, .dct _ hk ha, r => by
    cases r
    obtain ⟨_, lo, vs, rel, dd⟩ := dk_of I.hok hk
    have rv : Vals _ (vs.map (·.2)) := kv_vals rel
    obtain ⟨as, hr, ns⟩ := DpXAll.reads I S ha rv
    refine ⟨_, PyProof.V.reads_dictOf (enc := encK) (fun k key z => ?_) dd (pairs_read rel hr), ?_⟩
    · have r := keyIs_rel (show keyIs k key = true from z)
      cases k with
      | inl i => obtain ⟨t, rfl⟩ := r; exact .int i t
      | inr x => obtain ⟨t, rfl⟩ := r; exact .str x t
    · rw [List.mem_cons, not_or]
      exact ⟨fun z => by rw [← z] at lo; simp at lo, ns⟩
theorem DpXAll.reads (I : Inv X pins σ H s) (S : SysD s.heap) : ∀ {vs : List V} {ds : List PyData} {us : List Value}, DpXAll X.K N H vs ds → Vals vs us → ∃ as, ReadsAll s.heap us ds as ∧ sysModules ∉ as
  | _, _, _, .nil, r => by cases r; exact ⟨_, .nil, by simp⟩
  | _, _, _, .cons h1 h2, r => by
    cases r with
    | cons r1 r2 =>
      obtain ⟨as, q1, n1⟩ := DpX.reads I S h1 r1
      obtain ⟨bs, q2, n2⟩ := DpXAll.reads I S h2 r2
      exact ⟨_, .cons q1 q2, by rw [List.mem_append, not_or]; exact ⟨n1, n2⟩⟩
end
end

section
variable {X : Cx}
/-- data that is short enough to be shown -/
structure ShwX (d : PyData) : Prop where
  sh : d.showable = true
  dp : d.depth ≤ 8
  lf : d.leavesShort 25 = true
  wt : d.weight ≤ 100000
end
end LK

/-! methods of own classes under guards; what an instance answers to len, in, ==, !=, repr -/
namespace LK
open PySem PySem.Spec PyProof.Rows L2 Builtin
/-- a method and what it promises; its values may come by place or by name -/
structure HasM (P : Program) (w : World) (K : PySem.W.Frag) (mg : Str → Option Value) (base : Heap) (k : Nat) (C : Addr) (m : Str) (ps : List Str) (sp : Sp) : Prop where
  ex : ∃ f fd, FnG P w K mg base CX0 k f fd (("self" : Str) :: ps) sp ∧ Meth K C m f ∧ Binds K fd (("self" : Str) :: ps) [] ∧
    ∀ (s : Shared) (z : Value) (us : List Value), us.length = ps.length → BindsTo s fd ⟨[z], ps.zip us⟩ ((("self" : Str) :: ps).zip (z :: us)) ∧ BindsTo s fd ⟨[z], (ps.zip us).reverse⟩ ((("self" : Str) :: ps).zip (z :: us))
theorem HasM.up {P : Program} {w : World} {K : PySem.W.Frag} {mg : Str → Option Value} {base : Heap} {j k : Nat} {C : Addr} {m : Str} {ps : List Str} {sp : Sp} (F : HasM P w K mg base j C m ps sp) (h : j ≤ k) : HasM P w K mg base k C m ps sp := by
  obtain ⟨f, fd, a, b⟩ := F.ex
  exact ⟨f, fd, a.up h, b⟩
section
variable {X : Cx} {k : Nat} {C : Addr} {ps : List Str} {sp : Sp} {m : Str} {apos pos : Pos} {e o : Expr} {es : List Expr} {kws : List Keyword} {ta : TE} {t tk : TA} {pins : List (Addr × Obj)} {σ : L2.St} {H : Hp} {s : Shared} {a : Addr}
def uMeth (C : Addr) (m : Str) (sp : Sp) (ta : TE) (t : TA) : TE := fun σ H Q => ta σ H fun x H1 => match x with
  | .ref a => ∃ dx fs, H1 a = some (.ins C dx fs) ∧ fs.lookup m = none ∧ t σ H1 fun vs H2 => sp (.ref a :: vs) H2 Q E0
  | _ => False
/-- o.m(e, ..) -/
theorem pe_mH {pl : Sem Bool} (F : HasM X.prog X.w X.K X.mg X.base k C m ps sp) (c : Cls X.K C) (hA : X.A.guards = some []) (hr : Room k X.A) (ho : PE X o ta) (ha : PA X (e :: es) t)
    (st : starEach (e :: es) X.env = (false, eval e X.env) :: starEach es X.env := by rfl) (hpl : (backTo pos (starEach es X.env)).any (·.1) = false := by rfl)
    (ht : eval (.Call (.Attribute o m apos) (e :: es) [] pos) X.env = (do
      let ov ← eval o X.env
      standAt apos.atName
      let (f, first) ← holding [ov] (getMethod ov m pl)
      callWith pos f first (backTo pos (starEach (e :: es) X.env)) (backToKw pos (keywordEach [] X.env))) := by rfl) :
    PE X (.Call (.Attribute o m apos) (e :: es) [] pos) (uMeth C m sp ta t) := by
  obtain ⟨f, fd, F, hm, hb, _⟩ := F.ex
  constructor
  intro pins s σ H Q I w
  refine PySem.W.methodCall_KW (pl := pl) (thn (ho.run pins s σ H _ I w) fun u s1 z => ?_) ht
  obtain ⟨x, H1, I1, rx, q⟩ := z
  cases x with
  | ref a =>
    obtain ⟨dx, fs, ea, l, q⟩ := q
    obtain rfl : u = Value.ref a := rx
    refine getmeth_ok I1 ea c hm l (PySem.W.callWith_K (first := [.ref a]) (h₀ := X.base) I.ok.mod.kin hm.kp (thn (ha.run pos pins s1 σ H1 _ I1 q) fun us s2 z => ?_) st hpl)
    obtain ⟨vs, H2, I2, r, q2⟩ := z
    refine ⟨I2.kIn, runG (us := .ref a :: us) (ws := .ref a :: us) (kw := []) (CX := CX0) (E := E0) F hA hr pass0 I2 (fun n => ?_) (vs := .ref a :: vs) (.cons rfl r) q2⟩
    have b := hb s2 (.ref a :: us) I2.kIn (by simpa using n)
    simpa using b
  | _ => exact q.elim
/-- o.m() -/
theorem pe_mH0 {pl : Sem Bool} (F : HasM X.prog X.w X.K X.mg X.base k C m [] sp) (c : Cls X.K C) (hA : X.A.guards = some []) (hr : Room k X.A) (ho : PE X o ta)
    (ht : eval (.Call (.Attribute o m apos) [] [] pos) X.env = (do
      let ov ← eval o X.env
      standAt apos.atName
      let (f, first) ← holding [ov] (getMethod ov m pl)
      callWith pos f first (backTo pos (starEach [] X.env)) (backToKw pos (keywordEach [] X.env))) := by rfl) :
    PE X (.Call (.Attribute o m apos) [] [] pos) (uMeth C m sp ta tNil) := by
  obtain ⟨f, fd, F, hm, hb, _⟩ := F.ex
  constructor
  intro pins s σ H Q I w
  refine PySem.W.methodCall_KW (pl := pl) (thn (ho.run pins s σ H _ I w) fun u s1 z => ?_) ht
  obtain ⟨x, H1, I1, rx, q⟩ := z
  cases x with
  | ref a =>
    obtain ⟨dx, fs, ea, l, q⟩ := q
    obtain rfl : u = Value.ref a := rx
    refine getmeth_ok I1 ea c hm l (PySem.W.callWith_K0 (first := [.ref a]) I1.kIn hm.kp ?_)
    refine runG (us := [.ref a]) (ws := [.ref a]) (kw := []) (CX := CX0) (E := E0) F hA hr pass0 I1 (fun n => ?_) (vs := [.ref a]) (.cons rfl .nil) q
    have b := hb s1 [.ref a] I1.kIn (by simpa using n)
    simpa using b
  | _ => exact q.elim
/-! ### what Python asks of an instance by itself -/
/-- a method called one deeper, by Python itself -/
theorem runG1 {f : Addr} {fd : FuncData} {Q : VK} {us : List Value} {vs : List V} (F : FnG X.prog X.w X.K X.mg X.base CX0 k f fd ps sp) (hA : X.A.guards = some []) (hr : Room (k + 1) X.A) (hb : Binds X.K fd ps []) (I : Inv X pins σ H s) (r : Vals vs us)
    (h : sp vs H Q E0) : wpAny (model X.prog X.w) X.A.in1 (call (.ref f) us) (EP X pins σ Q) X.xe s := by
  have n : us.length = ps.length := r.length ▸ F.len vs H Q E0 h
  have b := hb s us I.kIn (by simpa using n)
  simp only [List.append_nil] at b
  refine wpAny_call (codeAny_mono (F.run X.A.in1 hA X.stack s H ⟨us, []⟩ us vs Q E0 hr.in1 I.env0.in1 b r h) ?_)
  rintro (er | fl) s' z
  · exact pass0 pins σ H s er s' I z
  · cases fl
    case ret => exact I.after z
    all_goals exact z.elim
theorem inst_at {C dx : Addr} {fs : List (Str × V)} (I : Inv X pins σ H s) (e : H a = some (.ins C dx fs)) : ∃ (ox : Obj) (od : Option Obj), PySem.W.InstAt s.heap a ox C od := by
  obtain ⟨mA, O, _⟩ := ins_get I.hok e
  obtain ⟨od, J, _⟩ := O.look
  exact ⟨_, _, J⟩
/-- len(o) -/
def lenI (C : Addr) (sp : Sp) : List V → Hp → VK → Prop := fun vs H Q => match vs with
  | [.ref a] => ∃ dx fs, H a = some (.ins C dx fs) ∧ sp [.ref a] H (fun v H' => ∃ n : Nat, v = .int n ∧ n < 2 ^ 62 ∧ Q (.int n) H') E0
  | _ => False
theorem c_lenI (F : HasM X.prog X.w X.K X.mg X.base k C "__len__" [] sp) (hA : X.A.guards = some []) (hr : Room (k + 1) X.A) : CallR X (.builtin "len") (lenI C sp) := by
  intro pins s σ H xs us Q I r h
  unfold lenI at h
  split at h
  · rename_i a
    obtain ⟨dx, fs, ea, q⟩ := h
    obtain ⟨f, fd, F, hm, hb, _⟩ := F.ex
    obtain ⟨u, rfl, ru⟩ := vals1 r
    obtain rfl : u = Value.ref a := ru
    obtain ⟨ox, od, J⟩ := inst_at I ea
    obtain ⟨m', hF⟩ := I.fr
    refine PySem.W.len_K hF I.ok.mod.kin J hm.at_ hm.fn (wpAny_mono (runG1 (us := [.ref a]) (vs := [.ref a]) F hA hr hb I (.cons rfl .nil) q) ?_ fun _ _ z => z)
    rintro v s' ⟨y, H', I', ry, n, rfl, hn, q'⟩
    obtain ⟨t, rfl⟩ := ry
    exact ⟨⟨by omega, by omega⟩, .int n, H', I'.tok _, ⟨_, rfl⟩, q'⟩
  · exact h.elim
end
end LK

/-! == and != of an instance whose class has an __eq__ of its own, beside any value -/
namespace LK
open PySem PySem.Spec PyProof.Rows L2 Builtin
/-- what != asks of the class -/
structure EqC (K : PySem.W.Frag) (C : Addr) : Prop where
  ne : PySem.W.findIn K (.ref C) "__ne__" = some (some (.builtin "object.__ne__"))
  ob : PySem.W.mroIn K C (.type "object") = some true
section
variable {prog : Program} {w : World} {A : Around} {E : Value → Shared → Prop} {s : Shared} {K : PySem.W.Frag} {x C f : Addr} {ox : Obj} {od : Option Obj} {u t : Value}
/-- the type's answer to __ne__ is object's own: it asks __eq__ and turns the answer -/
theorem tryNe (X : K.In s.heap) (J : PySem.W.InstAt s.heap x ox C od) (c : EqC K C) (hs : PySem.W.findIn K (.ref C) "__eq__" = some (some (.ref f))) (hf : PySem.W.isFn K (.ref f) = true) (hu : A.in1.units < cLine) {Q : Option Value → Shared → Prop}
    (h : wpAny (model prog w) A.in1 (call (.ref f) [.ref x, u]) (fun v s' => ∃ b, v = .bool b ∧ Q (some (.bool (!b))) s') E s) : wpAny (model prog w) A (tryCompare (.ref x) "__ne__" u) Q E s := by
  have body : wpAny (model prog w) A (call (.builtin "object.__ne__") [.ref x, u]) (fun v s' => ∃ b, v = .bool (!b) ∧ Q (some (.bool (!b))) s') E s := by
    refine wpAny_call (codeAny_call_builtin F.cmp_object.ne.plain F.cmpEntry_ne (PySem.W.check_slot F.cmpKind_ne F.cmpSplit_ne (J.type.andThen (PySem.W.looks_mroIn X c.ob)) (F.cmpArgs_ne _ _) ?_))
    unfold Builtin.«object.__ne__»
    refine wpAny_bind (m := slotArgs "__ne__" 1 _) (wpAny_pure (wpAny_bind (wpAny_cRoomFor hu ?_)))
    refine wpAny_bind (m := callSpecialIfBound? (.ref x) "__eq__" [u]) (PySem.W.ifBound_K X J hs hf (wpAny_mono h ?_ fun _ _ z => z))
    rintro v s' ⟨b, rfl, q⟩
    exact wpAny_bind (wpAny_truthy_bool (wpAny_pure ⟨b, rfl, q⟩))
  have go : wpAny (model prog w) A (call (.builtin "object.__ne__") ([.ref x] ++ [u]) >>= fun v => pure (some v)) (fun r s' => ∃ b, r = some (.bool (!b)) ∧ Q (some (.bool (!b))) s') E s :=
    wpAny_bind (wpAny_mono body (fun _ _ ⟨b, e, q⟩ => wpAny_pure ⟨b, by rw [e], q⟩) fun _ _ z => z)
  unfold tryCompare
  refine wpAny_bind (m := callSpecialIfBound? (.ref x) "__ne__" [u]) (wpAny_mono (Q := fun r s' => ∃ b, r = some (.bool (!b)) ∧ Q (some (.bool (!b))) s') ?_ (fun r s' ⟨b, e, q⟩ => by subst e; exact wpAny_pure q) fun _ _ z => z)
  simp only [callSpecialIfBound?, bindSpecialIfBound?]
  refine wpAny_holding (wpAny_bind (wpAny_bind (wpAny_bind (J.type.here ((PySem.W.looks_findIn X c.ne).here (wpAny_bind (wpAny_askSetting (wpAny_ite ?_))))))))
  have bnd : ∀ {R : Value × List Value → Shared → Prop} {E' : Value → Shared → Prop}, R (.builtin "object.__ne__", [.ref x]) s → wpAny (model prog w) A (bindSpecial (.builtin "object.__ne__") (.ref x)) R E' s := fun q => wpAny_of_eq (F.cmp_object.ne.bind _) q
  split
  · exact wpAny_bind (bnd (wpAny_pure go))
  · exact wpAny_tryCatch (wpAny_bind (bnd (wpAny_pure go)))
theorem rcNe (X : K.In s.heap) (J : PySem.W.InstAt s.heap x ox C od) (c : EqC K C) (hs : PySem.W.findIn K (.ref C) "__eq__" = some (some (.ref f))) (hf : PySem.W.isFn K (.ref f) = true) (hu : A.in1.units < cLine)
    (hb : PySem.W.Looks (model prog w) s.heap (typeOf u) t) (hn : PySem.W.notFirst K C t = true) {Q : Value → Shared → Prop}
    (h : wpAny (model prog w) A.in1 (call (.ref f) [.ref x, u]) (fun v s' => ∃ b, v = .bool b ∧ Q (.bool (!b)) s') E s) : wpAny (model prog w) A (richCompare .NotEq (.ref x) u) Q E s := by
  have hu0 : A.units < cLine := Nat.lt_of_succ_lt (show A.units + 1 < cLine from hu)
  have one : ∀ {R : Option Value → Shared → Prop}, (∀ (b : Bool) s', Q (.bool (!b)) s' → R (some (.bool (!b))) s') → wpAny (model prog w) A (tryCompare (.ref x) "__ne__" u) R E s := fun k =>
    tryNe X J c hs hf hu (wpAny_mono h (fun _ _ ⟨b, e, q⟩ => ⟨b, e, k b _ q⟩) fun _ _ z => z)
  unfold richCompare
  rw [oneThing_ref]
  refine wpAny_holding (wpAny_bind (wpAny_cRoomFor hu0 ?_))
  refine wpAny_bind (J.type.here (wpAny_bind (hb.here ?_)))
  by_cases e : (Value.ref C != t) = true
  · have su : PySem.W.subIn K t (.ref C) = some false := by
      rcases Bool.or_eq_true_iff.mp hn with z | z
      · rw [beq_iff_eq.mp z] at e
        simp at e
      · exact beq_iff_eq.mp z
    rw [if_pos e]
    refine wpAny_bind ((PySem.W.looks_subIn X su).here ?_)
    simp only [Bool.false_eq_true, if_false]
    exact wpAny_bind (one fun b s' q => wpAny_pure q)
  · rw [if_neg e]
    refine wpAny_bind (wpAny_pure ?_)
    simp only [Bool.false_eq_true, if_false]
    exact wpAny_bind (one fun b s' q => wpAny_pure q)
end
section
variable {X : Cx} {k : Nat} {C : Addr} {sp : Sp} {p : Str}
/-- o == y, o != y -/
def eqI (K : PySem.W.Frag) (C : Addr) (sp : Sp) (neg : Bool) : R2 := fun x y H Q => match x with
  | .ref a => ∃ dx fs t, H a = some (.ins C dx fs) ∧ TyX K H y t ∧ PySem.W.notFirst K C t = true ∧ sp [.ref a, y] H (fun v H' => ∃ b : Bool, v = .bl b ∧ Q (.bl (if neg then !b else b)) H') E0
  | _ => False
theorem o_neI (F : HasM X.prog X.w X.K X.mg X.base k C "__eq__" [p] sp) (c : EqC X.K C) (hA : X.A.guards = some []) (hr : Room (k + 1) X.A) : OpR X (compareOp .NotEq) (eqI X.K C sp true) := by
  intro pins s σ H x y v u Q I rx ry h
  unfold eqI at h
  split at h
  · rename_i a
    obtain ⟨dx, fs, t, ea, ty, hn, q⟩ := h
    obtain ⟨f, fd, F, hm, hb, _⟩ := F.ex
    obtain rfl : v = Value.ref a := rx
    obtain ⟨ox, od, J⟩ := inst_at I ea
    obtain ⟨P, Z, hp, _⟩ := kit_of I ry ty
    refine rcNe I.kIn J c hm.at_ hm.fn (hr.in1).units0 (Z.ty _ _ I.kIn hp) hn (wpAny_mono (runG1 (us := [.ref a, u]) (vs := [.ref a, y]) F hA hr hb I (.cons rfl (.cons ry .nil)) q) ?_ fun _ _ z => z)
    rintro r s' ⟨z, H', I', rz, b, rfl, q'⟩
    exact ⟨b, rz, .bl (!b), H', I', rfl, q'⟩
  · exact h.elim
end
end LK

/-! {x!r} of nested data in an f-string; repr of an instance -/
namespace LK
open PySem PySem.Spec PyProof.Rows L2 Builtin
section
variable {X : Cx} {e : Expr} {te : TE} {pos : Pos} {k : Nat} {C : Addr} {sp : Sp}
end
end LK

/-! set(text), sorted of it -/
namespace LK
open PySem PySem.Spec PyProof.Rows L2 PySem.Froz
open PySem.W (EachIs dataLe AllAlike Sortable)
/-- D holds the signs of l; its slots rise; what the order rests on -/
structure SgD (P : Program) (w : World) (D : SD) (l : List Nat) : Prop where
  tx : TxOk P w D (l.map sing)
  ris : Ris D.2.2.place.toList
  led : w.params.followText "set-order" = true ∨ D.2.2.led = true
section
variable {P : Program} {w : World}
theorem tail_ris {ep : Nat} {es1 : Array (Int × Value)} {t2 : SetTable} {wd : Bool} (r : Ris t2.place.toList) : Ris (tailTx ep es1 t2 wd).2.2.place.toList := by
  unfold tailTx; split
  · exact relayAll_ris _ _ _
  · exact r
theorem tail_led {ep : Nat} {es1 : Array (Int × Value)} {t2 : SetTable} {wd : Bool} : (tailTx ep es1 t2 wd).2.2.led = t2.led := by
  unfold tailTx; split
  · exact relayAll_led _ _ _
  · rfl
theorem SgD.add {D : SD} {l : List Nat} (S : SgD P w D l) (c : Nat) (tk : Tok) : SgD P w (addTx (hashStr w (sing c)) (.str (sing c) tk) D) (c :: l) := by
  refine ⟨add_ok tk S.tx, tail_ris ?_, ?_⟩
  · have r := layNew_ris D.2.2 D.1 (hashStr w (sing c)) (.str (sing c) tk) S.ris
    split <;> exact r
  · rcases S.led with h | h
    · exact .inl h
    · refine .inr (tail_led.trans ?_)
      have r : (layNew D.2.2 D.1 (hashStr w (sing c)) (.str (sing c) tk)).2.1.led = true := (layNew_led D.2.2 D.1 _ _).trans h
      split <;> exact r
theorem SgD.run : ∀ (cs : List Nat) (tk : Tok) (D : SD) (l : List Nat), SgD P w D l → SgD P w (runD w cs tk D) (cs.reverse ++ l)
  | [], _, _, _, S => S
  | c :: cs, tk, D, l, S => by
    have r := SgD.run cs (tk + 2) _ (c :: l) (S.add c tk)
    rw [List.reverse_cons, List.append_assoc]
    exact r
/-- what is known of the set of the signs of l that lies at a -/
def SgSet (P : Program) (w : World) (a : Addr) (l : List Nat) (h : Heap) : Prop := ∃ D : SD, h.get? a = some (sObj "set" D) ∧ SgD P w D l
def SetS (P : Program) (w : World) (a : Addr) (l : List Nat) : HO := .ext (SgSet P w a l)
theorem setS_ok {H : Hp} {h : Heap} {a : Addr} {l : List Nat} (S : SgSet P w a l h) : ObjOk P w H h a (SetS P w a l) := by
  obtain ⟨D, e, g⟩ := S
  exact ⟨⟨D, e, g⟩, ⟨_, e⟩, fun h1 h2 ⟨D', e', g'⟩ k => ⟨D', k _ e', g'⟩⟩

variable {A : Around} {E : Value → Shared → Prop} {s : Shared}
abbrev set0 (w : World) : Obj := sObj "set" (#[], 0, .fresh 0 0 (!w.params.followText "set-order"))
theorem new_set1 (a : Value) {R : Value → Shared → Prop} (h : R (.ref s.heap.objs.size) { s with heap := s.heap.push (set0 w) }) :
    codeAny (model P w) A (.call (.builtin "set.__new__") ⟨[.type "set", a], []⟩) (wants R E) s := by
  refine codeAny_of_tree (show wpAny _ A.in1 (checkBuiltinCall "set.__new__" ⟨[.type "set", a], []⟩ >>= fun _ => again (.builtin "set.__new__" ⟨[.type "set", a], []⟩)) _ _ s from ?_)
  refine wpAny_bind (wpAny_of_eq (F.newCall_set_1 a) (wpAny_pure ⟨plainId_quiet F.plain_set_new _, codeAny_builtin F.entry_set_new ?_⟩))
  have hsub := sub_set_self
  rw [Around.under_plainId F.plain_set_new _]; unfold Builtin.«set.__new__» Builtin.Frozenset.newClass
  obtain ⟨hp, g, d, tk, os⟩ := s; dsimp only
  wp_walk
  refine wpAny_askSetting (wpAny_pure ?_); dsimp only; simp only [newObj]
  exact wpAny_bind (wpAny_alloc (wpAny_pure (wpAny_pure h)))
theorem init_text {Q : Value → Shared → Prop} (hh : A.handled = none) (x : Str) (t : Tok) (ha : x.cps.all (· < 128) = true) (nd : x.cps.toList.Nodup) (hl : x.cps.toList.length < scanBound)
    (hQ : ∀ h' tk, (∀ b o, s.heap.get? b = some o → h'.get? b = some o) → SgSet P w s.heap.objs.size x.cps.toList.reverse h' → Q (.ref s.heap.objs.size) { s with heap := h', toks := tk }) :
    wpAny (model P w) A.in1.in1 (Builtin.«set.__init__» ⟨[.ref s.heap.objs.size, .str x t], []⟩)
      (fun fin s' => match fin with | .done f => wants (fun r s₂ => r = .none ∧ Q (.ref s.heap.objs.size) s₂) E (.ok f) s' | .again c' => c'.quiet = true ∧ codeAny (model P w) A.in1 c' (wants (fun r s₂ => r = .none ∧ Q (.ref s.heap.objs.size) s₂) E) s')
      (fun e s' => wants (fun r s₂ => r = .none ∧ Q (.ref s.heap.objs.size) s₂) E (.error e) s') { s with heap := s.heap.push (set0 w) } := by
  have hS : (s.heap.push (set0 w)).get? s.heap.objs.size = some (set0 w) := Heap.get?_push_size _ rfl
  have f1 := PySem.F.sub_str_set
  have f2 := PySem.F.sub_str_frozenset
  have f3 : (Value.type "str" == Value.type "dict") = false := by decide
  unfold Builtin.«set.__init__» noKeywords Builtin.Frozenset.updateFrom
  generalize hPI : pyIter = PI
  wp_walk
  subst hPI
  refine wpAny_pyIter_ascii ha ?_
  refine wpAny_bind (wpAny_runValue ?_)
  have hz : (s.heap.push (set0 w)).objs.size = s.heap.objs.size + 1 := size_push' _ _
  have S0 : SgD P w (#[], 0, .fresh 0 0 (!w.params.followText "set-order")) [] := ⟨TxOk.nil rfl, List.Pairwise.nil, by
    show _ ∨ (!w.params.followText "set-order") = true
    cases w.params.followText "set-order" <;> simp⟩
  have ne : s.heap.objs.size ≠ (s.heap.push (set0 w)).objs.size := by rw [hz]; omega
  refine code_update (P := P) (w := w) (T := "set") (x := x) (u := t) ne (by exact hh) x.cps.toList 0 _ [] _ rfl (Heap.get?_push_of_some _ hS) (Heap.get?_push_size _ rfl) S0.tx (fun _ _ z => nomatch z) nd (by show 0 + x.cps.toList.length < scanBound; omega) ?_
  have R := S0.run x.cps.toList s.toks
  rw [List.append_nil] at R
  show wpAny _ _ _ _ _ _
  refine wpAny_pure ?_
  show wpAny _ _ (ret Value.none) _ _ _
  refine wpAny_pure ⟨rfl, hQ _ _ (fun b o e => ?_) ⟨_, ?_, R⟩⟩
  · have lt := Heap.lt_size e
    refine Heap.get?_push_of_some _ (Heap.get?_push_of_some _ ?_)
    unfold two
    have n2 : s.heap.objs.size ≠ b := Nat.ne_of_gt lt
    have n1 : (s.heap.push (set0 w)).objs.size ≠ b := by rw [hz]; exact Nat.ne_of_gt (Nat.lt_succ_of_lt lt)
    refine PySem.Heap.get?_update_of_ne _ n1 (PySem.Heap.get?_update_of_ne _ n2 ?_)
    exact Heap.get?_push_of_some _ (Heap.get?_push_of_some _ e)
  · refine Heap.get?_push_of_some _ (Heap.get?_push_of_some _ ?_)
    unfold two
    refine PySem.Heap.get?_update_of_ne _ (Ne.symm ne) (get_upd _ (Heap.get?_push_of_some _ hS) rfl)
theorem set_of_text {Q : Value → Shared → Prop} (hh : A.handled = none) (x : Str) (t : Tok) (ha : x.cps.all (· < 128) = true) (nd : x.cps.toList.Nodup) (hl : x.cps.toList.length < scanBound)
    (hQ : ∀ h' tk, (∀ b o, s.heap.get? b = some o → h'.get? b = some o) → SgSet P w s.heap.objs.size x.cps.toList.reverse h' → Q (.ref s.heap.objs.size) { s with heap := h', toks := tk }) :
    wpAny (model P w) A (call (.type "set") [.str x t]) Q E s := by
  obtain ⟨c0, tl0, m0⟩ := F.called_set.mro
  have m1 := F.called_set.made; have m2 := F.called_set.sub; have m3 := F.called_set.notType; have m4 := F.called_set.canCreate
  have m5 := F.typeCall_set_1 (.str x t)
  refine wpAny_call (codeAny_of_tree (show wpAny _ _ (callAny (.type "set") _) _ _ _ from wpAny_pure ⟨Code.quiet_builtin _ (by decide +kernel), codeAny_builtin F.entry_type_call ?_⟩))
  rw [Around.under_plain (weight_type_call_type "set" [.str x t] []) rfl]
  repeat (any_goals (first | assumption | wp_step))
  refine codeAny_mono (new_set1 (.str x t) (E := E) (R := fun obj s₁ => obj = .ref s.heap.objs.size ∧ s₁ = { s with heap := s.heap.push (set0 w) }) ⟨rfl, rfl⟩) fun r s₁ hr => ?_
  match r, hr with
  | .error e, hr => exact hr
  | .ok .next, hr => exact hr.elim
  | .ok .brk, hr => exact hr.elim
  | .ok .cont, hr => exact hr.elim
  | .ok (.ret obj), hr =>
    obtain ⟨rfl, rfl⟩ := hr
    have hS : (s.heap.push (set0 w)).get? s.heap.objs.size = some (set0 w) := Heap.get?_push_size _ rfl
    have hT : Shared.TypeIs { s with heap := s.heap.push (set0 w) } (.ref s.heap.objs.size) "set" := ⟨_, hS, rfl⟩
    have m6 := F.called_set.init.lookup; have m7 := F.called_set.init.bind (.ref s.heap.objs.size)
    repeat (any_goals (first | assumption | wp_step))
    refine codeAny_mono (codeAny_call_builtin (R := wants (fun r s₂ => r = .none ∧ Q (.ref s.heap.objs.size) s₂) E) F.called_set.init.plain F.entry_set_init (check_set_init_1 hT (init_text hh x t ha nd hl hQ))) fun r₂ s₂ hr₂ => ?_
    match r₂, hr₂ with
    | .error e, hr₂ => exact hr₂
    | .ok .next, hr₂ => exact hr₂.elim
    | .ok .brk, hr₂ => exact hr₂.elim
    | .ok .cont, hr₂ => exact hr₂.elim
    | .ok (.ret r), hr₂ =>
      obtain ⟨rfl, hq⟩ := hr₂
      repeat (any_goals (first | assumption | wp_step))
end
end LK

/-! texts, their parts -/
namespace LK
open PySem PySem.Spec PyProof.Rows L2
open scoped List

end LK
namespace LK
open PySem PySem.Spec PyProof.Rows L2
open scoped List
/-! ### all parts -/
end LK
namespace LK
open PySem PySem.Spec PyProof.Rows L2
open scoped List
open PySem.W (dataLe sortLe sortLe_total keyToks)
/-! ### the two ways to sort -/
abbrev tl (a b : List Nat) : Bool := itemOrd.blt (.inr a) (.inr b)
theorem leT_eq (a b : List Nat) : dataLe false encT a b = !tl b a := by
  show (!(lexLt itemOrd [.inr b] [.inr a])) = _
  show (!(tl b a || (!tl a b && false))) = _
  simp
theorem leT_anti {a b : List Nat} (h1 : dataLe false encT a b = true) (h2 : dataLe false encT b a = true) : a = b := by
  rw [leT_eq, Bool.not_eq_true'] at h1 h2
  have := itemOrd.total (.inr a) (.inr b) h2 h1
  exact Sum.inr.inj this
theorem srt (k : List Nat → PyData) (ks : List (List Nat)) : (ks.mergeSort (dataLe false k)).Pairwise fun a b => dataLe false k a b = true :=
  List.pairwise_mergeSort (fun a b c => (sortLe_total (listOrd itemOrd) false fun b => keyToks (k b)).trans a b c) (fun a b => by
    have := (sortLe_total (listOrd itemOrd) false fun b => keyToks (k b)).total a b
    rw [Bool.or_eq_true]; exact this) ks
end LK

namespace LK
open PySem PySem.Spec PyProof.Rows L2 PySem.Froz
open PySem.W (EachIs dataLe AllAlike Sortable)
/-! ### texts of one sign, sorted -/
theorem perm_of {α : Type} [BEq α] [LawfulBEq α] : ∀ {l ks : List α}, l.Nodup → (∀ x, x ∈ l → x ∈ ks) → ks.length = l.length → ks.Perm l
  | [], ks, _, _, h => by rw [List.length_eq_zero_iff.mp h]
  | x :: l, ks, nd, sub, h => by
    obtain ⟨n1, n2⟩ := List.nodup_cons.mp nd
    have hx := sub x (by simp)
    refine (List.perm_cons_erase hx).trans (.cons x (perm_of n2 (fun y hy => ?_) ?_))
    · have ne : y ≠ x := fun e => n1 (e ▸ hy)
      exact (List.mem_erase_of_ne ne).mpr (sub y (by simp [hy]))
    · rw [List.length_erase_of_mem hx, h]; rfl
theorem sorted_eq {ks l : List (List Nat)} (h : ks.Perm l) (s : l.Pairwise fun a b => dataLe false encT a b = true) (asy : ∀ a b, dataLe false encT a b = true → dataLe false encT b a = true → a = b) : ks.mergeSort (dataLe false encT) = l :=
  List.Perm.eq_of_pairwise (fun a b _ _ => asy a b) (srt encT ks) s ((List.mergeSort_perm _ _).trans h)
section
variable {X : Cx}
def Ris1 (l : List Nat) : Prop := l.Pairwise (· < ·)
/-- set(text) -/
def setT (P : Program) (w : World) : List V → Hp → VK → Prop := fun vs H Q => match vs with
  | [.str z] => Ris1 (cs z) ∧ (∀ c ∈ cs z, c < 128) ∧ (cs z).length ≤ 100 ∧ ∀ p, H p = none → Q (.ref p) (upd H p (SetS P w p (cs z).reverse))
  | _ => False
theorem c_setT (hc : X.calm = true) : CallR X (.type "set") (setT X.prog X.w) := by
  intro pins s σ H xs us Q I r h
  unfold setT at h
  split at h
  · rename_i z
    obtain ⟨hr, ha, hl, q⟩ := h
    obtain ⟨u, rfl, t, rfl⟩ := vals1 r
    have asc : z.cps.all (· < 128) = true := by
      rw [← Array.all_toList, List.all_eq_true]
      intro c hc
      exact decide_eq_true (ha c hc)
    refine set_of_text (I.ok.hd hc) z t asc (hr.imp fun h => Nat.ne_of_lt h) (by have := hl; show (cs z).length < scanBound; unfold scanBound; omega) fun h' tk keep S => ?_
    exact ⟨.ref s.heap.objs.size, upd H s.heap.objs.size (SetS X.prog X.w s.heap.objs.size (cs z).reverse), I.laid (t' := tk) keep (Nat.le_refl _) (setS_ok S), rfl, q _ (I.hok.fresh (Nat.le_refl _))⟩
  · exact h.elim
/-- the keys of the set's elements -/
theorem keys_perm {P : Program} {w : World} {D : SD} {l : List Nat} (S : SgD P w D l) (nd : l.Nodup) : ∃ ks : List (List Nat), ks.Perm (l.map fun c => [c]) ∧ EachIs RT (D.1.toList.map (·.2)) ks := by
  have key : ∀ es : List (Int × Value), (∀ e ∈ es, ∃ k, (strKind P w).is k e.2 = true) → ∃ ks : List (List Nat), EachIs RT (es.map (·.2)) ks ∧ ∀ k, (∃ e ∈ es, (strKind P w).is k e.2 = true) → cs k ∈ ks := by
    intro es
    induction es with
    | nil => exact fun _ => ⟨[], .nil, fun k ⟨e, z, _⟩ => nomatch z⟩
    | cons e es ih =>
      intro h
      obtain ⟨ks, e1, e2⟩ := ih fun x hx => h x (by simp [hx])
      obtain ⟨k, hk⟩ := h e (by simp)
      obtain ⟨t, ev⟩ := Value.isStrOf_shape (show Value.isStrOf k e.2 = true from hk)
      refine ⟨cs k :: ks, .cons ⟨t, ev⟩ e1, ?_⟩
      rintro k' ⟨e', he, hk'⟩
      rcases List.mem_cons.mp he with rfl | he
      · rw [(strKind P w).inj _ k' k hk' hk]; simp
      · exact List.mem_cons_of_mem _ (e2 k' ⟨e', he, hk'⟩)
  obtain ⟨ks, e1, e2⟩ := key D.1.toList fun e he => ⟨_, (S.tx.el e he).1.choose_spec.1⟩
  refine ⟨ks, perm_of ?_ ?_ ?_, e1⟩
  · refine List.Pairwise.map _ (fun a b h e => h (List.cons.inj e).1) nd
  · intro x hx
    obtain ⟨c, hc, rfl⟩ := List.mem_map.mp hx
    exact e2 (sing c) ((S.tx.mem _).mp (List.mem_map.mpr ⟨c, hc, rfl⟩))
  · rw [← e1.length, List.length_map, Array.length_toList, List.length_map]
    have := S.tx.sz
    rw [List.length_map] at this
    exact this
theorem le_sing {a b : Nat} (h : a < b) : dataLe false encT [a] [b] = true := by
  rw [leT_eq]
  show (!decide ([b] < [a])) = true
  have n : ¬ [b] < [a] := fun z => by
    rcases List.cons_lt_cons_iff.mp z with z | ⟨_, z⟩
    · omega
    · exact absurd z (List.lt_irrefl _)
  rw [decide_eq_false n]; rfl
theorem each_perm {α β : Type} {R : α → β → Prop} : ∀ {vs us : List α} {ks : List β}, EachIs R us ks → vs.Perm us → ∃ ks', ks'.Perm ks ∧ EachIs R vs ks' := by
  intro vs us ks e p
  induction p generalizing ks with
  | nil => exact ⟨ks, .refl _, e⟩
  | cons x _ ih => cases e with | cons h t => obtain ⟨k', p', e'⟩ := ih t; exact ⟨_ :: k', p'.cons _, .cons h e'⟩
  | swap x y l => cases e with | cons h t => cases t with | cons h2 t => exact ⟨_, .swap _ _ _, .cons h2 (.cons h t)⟩
  | trans _ _ ih1 ih2 =>
    obtain ⟨k1, p1, e1⟩ := ih2 e
    obtain ⟨k2, p2, e2⟩ := ih1 e1
    exact ⟨k2, p2.trans p1, e2⟩
/-- sorted(a set of signs) -/
def sortedS (P : Program) (w : World) : List V → Hp → VK → Prop := fun vs H Q => match vs with
  | [.ref a] => ∃ l, H a = some (SetS P w a l.reverse) ∧ Ris1 l ∧ l.length ≤ 100 ∧ ∀ p, H p = none → Q (.ref p) (upd H p (.lst (lets l)))
  | _ => False
theorem c_sortedS (hc : X.calm = true) (hu : X.A.units + 64 < cLine) : CallR X (.builtin "sorted") (sortedS X.prog X.w) := by
  intro pins s σ H xs us Q I r h
  unfold sortedS at h
  split at h
  · rename_i a
    obtain ⟨l, hd, hr, hl, q⟩ := h
    obtain ⟨u, rfl, ru⟩ := vals1 r
    obtain rfl : u = Value.ref a := ru
    obtain ⟨D, ho, S⟩ := (I.hok a _ hd).1
    have nd : l.reverse.Nodup := (List.pairwise_reverse.mpr (hr.imp fun h => Nat.ne_of_gt h))
    obtain ⟨ks, pk, ek⟩ := keys_perm S nd
    have sz : D.1.size = l.length := by have := S.tx.sz; rw [List.length_map, List.length_reverse] at this; exact this
    refine call_function_entry_kw kind_sorted plain_sorted entry_sorted (args_sorted1 _) ?_
    unfold Builtin.«sorted»
    refine wpAny_bind (m := checkCount "sorted" 1 1 _) (wpAny_pure ?_)
    refine wpAny_bind (collect_set (A := X.A.in1) (I.ok.hd hc) ⟨_, ho, rfl, rfl⟩ S.tx.fit (by rw [sz]; unfold scanBound; omega) S.ris S.led fun s1 vs k1 hz1 g1 o1 pm => ?_)
    have hvl : vs.length = l.length := by rw [pm.length_eq, List.length_map, Array.length_toList]; exact sz
    -- the values as they came, by their texts
    have ev : ∃ ks', ks'.Perm (l.map fun c => [c]) ∧ EachIs RT vs ks' := by
      obtain ⟨ks', p1, e1⟩ := each_perm ek pm
      refine ⟨ks', p1.trans (pk.trans ?_), e1⟩
      exact (List.reverse_perm l).map _
    obtain ⟨ks', p', e⟩ := ev
    have hz : ks'.length ≤ sizeLine := by rw [← e.length, hvl, sizeLine_eq]; omega
    refine wpAny_bind (wpAny_newList ?_ (by rw [hvl, sizeLine_eq]; omega))
    have hoL : (s1.heap.push (seqObj "list" vs.toArray 0)).get? s1.heap.objs.size = some (seqObj "list" vs.toArray 0) := Heap.get?_push_size _ rfl
    have St := PySem.W.SortsAt.data (prog := X.prog) (w := X.w) (A := X.A.in1.in1) (s := { s1 with heap := PySem.W.sortingHeap (s1.heap.push (seqObj "list" vs.toArray 0)) s1.heap.objs.size vs })
      (PySem.W.each_map (R := fun v d => ∃ as, Reads _ v d as) encT (reads_RT e)) (alike_T ks') (sortable_T ks')
      (PySem.W.bound_map (A := X.A.in1.in1) fun l _ => by show X.A.units + 1 + 1 + 0 < cLine; omega)
    refine wpAny_bind (wpAny_holding (wpAny_call_entry_kw slot_list_sort ⟨_, hoL, rfl⟩ entry_list_sort ?body (args_list_sort _)))
    refine PySem.W.list_sort_vals (s := { s1 with heap := s1.heap.push (seqObj "list" vs.toArray 0) }) hoL St (by rw [e.length]; exact hz) ⟨_, rfl, wpAny_pure ⟨_, rfl, ?_⟩⟩
    obtain ⟨c, hc'⟩ := PyProof.Rows.sortedHeap_at (vs := vs) (out := (PySem.W.sortVals (PySem.W.dataKind (PySem.W.sortingHeap (s1.heap.push (seqObj "list" vs.toArray 0)) s1.heap.objs.size vs) (ks'.map encT)) false vs vs).toArray) hoL
    have ro := PySem.W.sortVals_data (h' := PySem.W.sortingHeap (s1.heap.push (seqObj "list" vs.toArray 0)) s1.heap.objs.size vs) (R := RT) false e (reads_RT e) (alike_T ks')
    rw [sorted_eq p' (List.Pairwise.map _ (fun a b h => le_sing h) hr) (fun a b => leT_anti)] at ro
    have hn : H s1.heap.objs.size = none := I.hok.fresh hz1
    have keep : ∀ b o, s.heap.get? b = some o → (PyProof.Rows.sortedHeap (s1.heap.push (seqObj "list" vs.toArray 0)) s1.heap.objs.size vs (PySem.W.sortVals (PySem.W.dataKind (PySem.W.sortingHeap (s1.heap.push (seqObj "list" vs.toArray 0)) s1.heap.objs.size vs) (ks'.map encT)) false vs vs).toArray).get? b = some o := fun b o hb => by
      have z := k1 b o hb
      have lt := Heap.lt_size z
      rw [PyProof.Rows.sortedHeap_old (Nat.ne_of_lt lt) (by rw [size_push']; exact Nat.lt_succ_of_lt lt)]
      exact Heap.get?_push_of_some _ z
    have J : Inv X pins σ (upd H s1.heap.objs.size (.lst (lets l))) { s with heap := PyProof.Rows.sortedHeap (s1.heap.push (seqObj "list" vs.toArray 0)) s1.heap.objs.size vs (PySem.W.sortVals (PySem.W.dataKind (PySem.W.sortingHeap (s1.heap.push (seqObj "list" vs.toArray 0)) s1.heap.objs.size vs) (ks'.map encT)) false vs vs).toArray, gens := s1.gens, drawn := s1.drawn, toks := s1.toks } :=
      I.call (ch := []) (Un.laid keep hz1 hn) (I.hok.laid keep hz1 ⟨by rw [List.length_map, sizeLine_eq]; omega, _, c, (by
        have v := vals_RT ro
        rw [List.map_map] at v
        exact v), hc'⟩) (by show AllBare s1.gens; rw [g1]; exact I.bare) (fun _ z => nomatch z)
    obtain ⟨hp1, ge1, dr1, tk1, os1⟩ := s1
    cases o1
    exact ⟨.ref _, _, J, rfl, q _ hn⟩
  · exact h.elim
end
end LK

/-! list(text) -/
namespace LK
open PySem PySem.Spec PyProof.Rows L2
section
variable {X : Cx}
/-- list(text): its signs -/
def listT : List V → Hp → VK → Prop := fun vs H Q => match vs with
  | [.str z] => (cs z).length ≤ sizeLine ∧ ∀ p, H p = none → Q (.ref p) (upd H p (.lst (lets (cs z))))
  | _ => False
theorem c_listT (hc : X.calm = true) : CallR X (.type "list") listT := by
  intro pins s σ H xs us Q I r h
  unfold listT at h
  split at h
  · rename_i z
    obtain ⟨hz, q⟩ := h
    obtain ⟨u, rfl, t, rfl⟩ := vals1 r
    refine PySem.call_list_str (I.ok.hd hc) z t (fun h' tk acc c' hk e hi => ?_) hz
    refine ⟨.ref s.heap.objs.size, upd H s.heap.objs.size (.lst (lets (cs z))), I.laid hk (Nat.le_refl _) ⟨by rw [List.length_map]; exact hz, acc.toList, c', ?_, by rw [Array.toArray_toList]; exact e⟩, rfl, q _ (I.hok.fresh (Nat.le_refl _))⟩
    refine vals_of_idx _ _ (by rw [List.length_map, Array.length_toList]; exact hi.1) fun j u hj => ?_
    obtain ⟨c, t', hc, rfl⟩ := hi.2 j u (by rw [← Array.getElem?_toList]; exact hj)
    refine ⟨.str (T [c]), ?_, ⟨t', rfl⟩⟩
    rw [List.getElem?_map]
    have : (cs z)[j]? = some c := by rw [← hc]; exact Array.getElem?_toList
    rw [this]; rfl
  · exact h.elim
end
end LK

/-! for c, y in zip(text, list) -/
namespace LK
open PySem PySem.Spec PyProof.Rows L2
/-- the signs of x beside what the list at b holds at each turn, in new pairs; both are of one length -/
def ItSL (K : PySem.W.Frag) (x : Str) (b : Addr) : It where
  go := fun i H => i < x.cps.size ∧ ∃ ys y, SqL K H b ys ∧ ys[i]? = some y
  yld := fun i H v H' => ∃ T c y, v = .ref T ∧ H T = none ∧ H' = upd H T (.tup [.str ⟨#[c]⟩, y]) ∧ x.cps[i]? = some c ∧ ∀ ys, SqL K H b ys → ys[i]? = some y
  stop := fun i H => i = x.cps.size ∧ ∃ ys, SqL K H b ys ∧ i = ys.length
/-- where the parts of the walk lie -/
structure Far (z TI TO i1 i2 b : Addr) : Prop where
  a1 : TI ≠ z
  a2 : TO ≠ z
  a3 : TI ≠ TO
  a4 : TI ≠ i1
  a5 : TI ≠ i2
  a6 : z ≠ i1
  a7 : z ≠ i2
  a8 : TO ≠ i1
  a9 : TO ≠ i2
  b1 : i1 ≠ i2
  b2 : b ≠ i2
  b3 : z ≠ b
  b4 : TO ≠ b
  b5 : i1 ≠ b
theorem Far.sep {z TI TO i1 i2 b : Addr} (D : Far z TI TO i1 i2 b) : ZipSep2 z TI TO i1 i2 [i1] [i2, b] where
  TIz := D.a1
  TOz := D.a2
  TITO := D.a3
  TIi1 := D.a4
  mem1 := by simp
  zf1 := by simp [D.a6]
  Tf1 := by simp [D.a8]
  TIi2 := D.a5
  mem2 := by simp
  zf2 := by simp [D.a7, D.b3]
  Tf2 := by simp [D.a9, D.b4]
  sep1_2 := by simp [D.b1, D.b5]
  sep2_1 := by simp [D.b1.symm]
def StSL (x : Str) (t : Tok) (z TI TO i1 i2 b : Addr) (i : Nat) (h : Heap) : Prop :=
  IsZip h z TI TO .none ∧ IsPair h TI (.ref i1) (.ref i2) ∧ (∃ u v, IsPair h TO u v) ∧ h.IsStrIter i1 "str_ascii_iterator" x t i ∧ h.IsListIter i2 b i
theorem turn_zipSL {P : Program} {w : World} {K : PySem.W.Frag} {elts : List Expr} {kk : Nat} {tpos : Pos} {x : Str} {t : Tok} {b z TI TO i1 i2 : Addr} (D : Far z TI TO i1 i2 b) :
    Turn P w K (.Tuple elts kk tpos) (ItSL K x b) [z, TI, TO, i1, i2] z (StSL x t z TI TO i1 i2 b) where
  mem := by simp
  obj := fun i h st c hc => by
    obtain ⟨hz, hTI, ⟨u, v, hTO⟩, ⟨o1, e1, _, d1⟩, ⟨o2, e2, _, d2⟩⟩ := st
    simp only [List.mem_cons, List.not_mem_nil, or_false] at hc
    rcases hc with rfl | rfl | rfl | rfl | rfl
    · exact ⟨_, hz, fun v q => nomatch q⟩
    · exact ⟨_, hTI, fun v q => nomatch q⟩
    · exact ⟨_, hTO, fun v q => nomatch q⟩
    · exact ⟨o1, e1, fun v q => by rw [d1] at q; cases q⟩
    · exact ⟨o2, e2, fun v q => by rw [d2] at q; cases q⟩
  keep := fun i h h' st k => by
    obtain ⟨hz, hTI, ⟨u, v, hTO⟩, ⟨o1, e1, r1⟩, h2⟩ := st
    exact ⟨k z (by simp) _ hz, k TI (by simp) _ hTI, ⟨u, v, k TO (by simp) _ hTO⟩, ⟨o1, k i1 (by simp) _ e1, r1⟩, h2.at fun o q => k i2 (by simp) o q⟩
  item := by
    intro X hP hw hK hc i pins s σ H E I hf st ⟨hi, ys, y, hq, hy⟩
    subst hP hw hK
    obtain ⟨hz, hTI, ⟨u0, v0, hTO⟩, h1, h2⟩ := st
    obtain ⟨its, rv, p, _⟩ := I.list hq
    obtain ⟨v, hv, rvv⟩ := rv.get hy
    have hii : i < its.toArray.size := by
      have := (List.getElem?_eq_some_iff.mp hv).1
      simpa using this
    have hh : X.A.in1.handled = none := I.ok.hd hc
    have zl := Heap.lt_size hz
    refine wpAny_pyNext_zipD2_item D.sep (Draws.strAscii hh i1 x t) (Draws.list hh i2 b D.b2 its.toArray) hz hTI hTO h1 ⟨h2, p.isList⟩ hi hii fun c1 c2 h' tk hc1 hc2 z' TO' h1' h2' hT hsz hk => ?_
    obtain ⟨c, ut, hcc, rfl⟩ := hc1
    have e2 : c2 = v := by
      have : its[i]? = some c2 := by simpa using hc2
      rw [hv] at this; exact (Option.some.inj this).symm
    subst e2
    refine ⟨_, rfl, wpAny_letOwnedTupleGo_zip (s := { s with heap := h', toks := tk }) z' fun h'' z'' sb => ?_⟩
    have hT2 : h''.get? s.heap.objs.size = some { cls := .type "tuple", data := .seq #[.str ⟨#[c]⟩ ut, c2] } := (sb.2 _ (Nat.ne_of_gt zl)).trans hT
    have new : ObjOk X.prog X.w (upd H s.heap.objs.size (.tup [.str ⟨#[c]⟩, y])) h'' s.heap.objs.size (.tup [.str ⟨#[c]⟩, y]) :=
      ⟨by show 2 ≤ sizeLine; decide, [.str ⟨#[c]⟩ ut, c2], .cons ⟨ut, rfl⟩ (.cons rvv .nil), ⟨_, hT2, rfl, _, rfl⟩⟩
    have far : ∀ d o, d ∉ [z, TI, TO, i1, i2] → s.heap.get? d = some o → h''.get? d = some o := fun d o nd q => by
      simp only [List.mem_cons, List.not_mem_nil, or_false, not_or] at nd
      exact (sb.2 d nd.1).trans (hk d o nd.1 nd.2.2.1 nd.2.2.2.1 nd.2.2.2.2 q)
    refine ⟨.ref s.heap.objs.size, _, I.turnedNew (t' := tk) (ch := [z, TI, TO, i1, i2]) far hf (Nat.le_refl _) new, rfl, ⟨_, c, y, rfl, I.hok.fresh (Nat.le_refl _), rfl, hcc, fun l hl => by rw [I.list_inj hl hq]; exact hy⟩, ⟨z'', ?_, ⟨_, _, (sb.2 _ D.a2).trans TO'⟩, ?_, ?_⟩, fun d hd => ?_⟩
    · exact (sb.2 _ D.a1).trans (hk _ _ D.a1 D.a3 D.a4 D.a5 hTI)
    · obtain ⟨o1, e1, r1⟩ := h1'
      exact ⟨o1, (sb.2 _ D.a6.symm).trans e1, r1⟩
    · exact h2'.1.at fun o q => (sb.2 _ D.a7.symm).trans q
    · have lt : d < s.heap.objs.size := by
        simp only [List.mem_cons, List.not_mem_nil, or_false] at hd
        obtain ⟨o1, e1, _⟩ := h1
        obtain ⟨o2, e2, _⟩ := h2
        rcases hd with rfl | rfl | rfl | rfl | rfl
        · exact zl
        · exact Heap.lt_size hTI
        · exact Heap.lt_size hTO
        · exact Heap.lt_size e1
        · exact Heap.lt_size e2
      rw [upd_ne (Nat.ne_of_lt lt)]
      exact (hf d hd).1
  done := by
    intro X hP hw hK hc i pins s σ H E I hf st ⟨hi, ys, hq, hl⟩
    subst hP hw hK
    obtain ⟨hz, hTI, ⟨u0, v0, hTO⟩, h1, h2⟩ := st
    obtain ⟨its, rv, p, _⟩ := I.list hq
    have l1 := rv.length
    have hh : X.A.in1.handled = none := I.ok.hd hc
    have e2 : i = its.toArray.size := by rw [List.size_toArray]; omega
    exact wpAny_pyNext_zipD2_end D.sep (Draws.strAscii hh i1 x t) (Draws.list hh i2 b D.b2 its.toArray) hz hTI hTO h1 ⟨h2, p.isList⟩ (by omega) (by omega) (.inl hi) fun h' tk hk => ⟨rfl, I.turnedL (t' := tk) (ch := [z, TI, TO, i1, i2]) (fun d o nd q => by
      simp only [List.mem_cons, List.not_mem_nil, or_false, not_or] at nd
      exact hk d o nd.1 nd.2.2.1 nd.2.2.2.1 nd.2.2.2.2 q) hf⟩
  self := fun A i s Q E st h => wpAny_pyIter_zip st.1 h
section
variable {prog : Program} {w : World} {A : Around} {E : Value → Shared → Prop} {s : Shared}
abbrev zs1 (h : Heap) (x : Str) (t : Tok) : Heap := h.push { cls := .type "str_ascii_iterator", data := .fields #[.str x t, .int 0 0] }
abbrev zs2 (h : Heap) (x : Str) (t : Tok) (b : Addr) : Heap := (zs1 h x t).push { cls := .type "list_iterator", data := .fields #[.ref b, .int 0 0] }
abbrev zs3 (h : Heap) (x : Str) (t : Tok) (b : Addr) : Heap := (zs2 h x t b).push { cls := .type "tuple", data := .seq #[.ref h.objs.size, .ref (zs1 h x t).objs.size] }
abbrev zs4 (h : Heap) (x : Str) (t : Tok) (b : Addr) : Heap := (zs3 h x t b).push { cls := .type "tuple", data := .seq #[.none, .none] }
abbrev zs5 (h : Heap) (x : Str) (t : Tok) (b : Addr) : Heap := (zs4 h x t b).push { cls := .type "zip", data := .fields #[.none, .bool false, .bool false, .ref (zs2 h x t b).objs.size, .ref (zs3 h x t b).objs.size] }
theorem new_zipSL (x : Str) (t : Tok) (b : Addr) (ys : Array Value) (ha : x.cps.all (· < 128) = true) :
    Meets (Builtin.«zip.__new__» ⟨[.type "zip", .str x t, .ref b], []⟩) (fun _ R s => s.heap.IsList b ys ∧ R (.ok (.ret (.ref (zs4 s.heap x t b).objs.size))) { s with heap := zs5 s.heap x t b }) :=
  .of_wp fun prog w A R s h => by
    obtain ⟨hp, g, d, tk, os⟩ := s; obtain ⟨hl, h⟩ := h
    have hsub := sub_zip
    have hL2 : Heap.IsList (Shared.heap ⟨zs1 hp x t, g, d, tk, os⟩) b ys := Heap.IsList.push hl _
    wp_walk using wpAny_pyIter_ascii ha, wpAny_pyIter_list hL2
    exact ⟨_, rfl, h⟩
end
end LK

namespace LK
open PySem PySem.Spec PyProof.Rows L2
section
variable {prog : Program} {w : World} {A : Around} {E : Value → Shared → Prop} {s : Shared}
theorem zip_text_list {x : Str} {t : Tok} {b : Addr} {ys : Array Value} {Q : Value → Shared → Prop} (ha : x.cps.all (· < 128) = true) (hl : s.heap.IsList b ys)
    (h : ∀ h', StSL x t (s.heap.objs.size + 4) (s.heap.objs.size + 2) (s.heap.objs.size + 3) s.heap.objs.size (s.heap.objs.size + 1) b 0 h' →
      (∀ c o, s.heap.get? c = some o → h'.get? c = some o) → Q (.ref (s.heap.objs.size + 4)) { s with heap := h' }) :
    wpAny (model prog w) A (call (.type "zip") [.str x t, .ref b]) Q E s := by
  refine callType_new F.called_zip (by decide) (F.typeCall_zip_2 _ _) (F.newCall_zip_2 _ _) (fun obj => F.args_object_init_3 obj _ _) F.entry_zip_new (new_zipSL x t b ys ha) ⟨hl, ?_⟩
  have z1 : (zs1 s.heap x t).objs.size = s.heap.objs.size + 1 := Heap.size_push ..
  have z2 : (zs2 s.heap x t b).objs.size = s.heap.objs.size + 2 := by rw [Heap.size_push, z1]
  have z3 : (zs3 s.heap x t b).objs.size = s.heap.objs.size + 3 := by rw [Heap.size_push, z2]
  have z4 : (zs4 s.heap x t b).objs.size = s.heap.objs.size + 4 := by rw [Heap.size_push, z3]
  have up : ∀ {c o}, s.heap.get? c = some o → (zs5 s.heap x t b).get? c = some o := fun e =>
    Heap.get?_push_of_some _ (Heap.get?_push_of_some _ (Heap.get?_push_of_some _ (Heap.get?_push_of_some _ (Heap.get?_push_of_some _ e))))
  have g5 : (zs5 s.heap x t b).get? (s.heap.objs.size + 4) = some _ := z4 ▸ Heap.get?_push_size _ rfl
  have g4 : (zs5 s.heap x t b).get? (s.heap.objs.size + 3) = some _ := z3 ▸ Heap.get?_push_of_some _ (Heap.get?_push_size _ rfl)
  have g3 : (zs5 s.heap x t b).get? (s.heap.objs.size + 2) = some _ := z2 ▸ Heap.get?_push_of_some _ (Heap.get?_push_of_some _ (Heap.get?_push_size _ rfl))
  have g2 : (zs5 s.heap x t b).get? (s.heap.objs.size + 1) = some _ := z1 ▸ Heap.get?_push_of_some _ (Heap.get?_push_of_some _ (Heap.get?_push_of_some _ (Heap.get?_push_size _ rfl)))
  have g1 : (zs5 s.heap x t b).get? s.heap.objs.size = some _ := Heap.get?_push_of_some _ (Heap.get?_push_of_some _ (Heap.get?_push_of_some _ (Heap.get?_push_of_some _ (Heap.get?_push_size _ rfl))))
  rw [z2, z3] at g5
  rw [z1] at g3
  show _ ∧ _
  rw [z4]
  exact ⟨⟨_, g5, rfl⟩, h _ ⟨g5, g3, ⟨_, _, g4⟩, ⟨_, g1, rfl, rfl⟩, ⟨_, g2, rfl, rfl⟩⟩ fun c o e => up e⟩
end
theorem far_new (n b : Nat) (h : b < n) : Far (n + 4) (n + 2) (n + 3) n (n + 1) b := by
  constructor <;> (intro e; have e : (_ : Nat) = _ := e; omega)
def iZipSL (K : PySem.W.Frag) (ta : TA) : TI := fun σ H R => ta σ H fun vs H1 => match vs with
  | [.str x, .ref b] => (∀ c ∈ cs x, c < 128) ∧ (∃ ys, SqL K H1 b ys) ∧ R (ItSL K x b) H1
  | _ => False
theorem pi_zipSL {X : Cx} {e e2 : Expr} {ta : TA} {p pos tpos : Pos} {elts : List Expr} {kk : Nat} (hg : Gl X "zip") (hm : X.mg "zip" = none) (ha : PA X [e, e2] ta)
    (hs : starEach [e, e2] X.env = (false, eval e X.env) :: starEach [e2] X.env := by rfl) (hpl : (backTo pos (starEach [e2] X.env)).any (·.1) = false := by rfl) :
    PI X (.Tuple elts kk tpos) (.Call (.Name "zip" p) [e, e2] [] pos) (iZipSL X.K ta) := by
  refine ⟨fun pins s σ H R I h => ?_⟩
  refine Call_ (ld_blt I hg hm PyProof.Rows.boot_zip (PyProof.Rows.callWith_type1 (thn (ha.run pos pins s σ H _ I h) fun us s1 z => ?_) hs hpl))
  obtain ⟨vs, H1, I1, r1, q1⟩ := z
  split at q1
  · rename_i x b
    obtain ⟨hc, ⟨ys, hq⟩, q⟩ := q1
    cases r1 with
    | cons r rr =>
      cases rr with
      | cons r' rr =>
        cases rr
        obtain ⟨t, rfl⟩ := r
        cases r'
        obtain ⟨its, rv, p1, _⟩ := I1.list hq
        have lb : b < s1.heap.objs.size := p1.lt
        have asc : x.cps.all (· < 128) = true := by
          rw [← Array.all_toList, List.all_eq_true]
          exact fun c h => decide_eq_true (hc c h)
        refine zip_text_list asc p1.isList fun h' st hk => wpAny_pyIter_zip st.1 ?_
        refine ⟨_, [s1.heap.objs.size + 4, s1.heap.objs.size + 2, s1.heap.objs.size + 3, s1.heap.objs.size, s1.heap.objs.size + 1], _, _, H1, rfl, I1.kept (t' := s1.toks) hk, turn_zipSL ?_, st, fun c hcm => ?_, q⟩
        · exact far_new _ _ lb
        · have hle : s1.heap.objs.size ≤ c := by
            simp only [List.mem_cons, List.not_mem_nil, or_false] at hcm
            rcases hcm with z | z | z | z | z <;> rw [z]
            · exact Nat.le_add_right _ _
            · exact Nat.le_add_right _ _
            · exact Nat.le_add_right _ _
            · exact Nat.le_refl _
            · exact Nat.le_add_right _ _
          exact I1.fpOk hle (I1.hok.fresh hle)
  · exact q1.elim
/-- the loop -/
theorem for_zipSL {K : PySem.W.Frag} {ta : TA} {b : Addr} {l : List Nat} {ys : List V} {g : TG} {tb : TS} {D : Ends} {σ : L2.St} {H H1 : Hp}
    (h : ∀ R : List V → Hp → Prop, R [.str (T l), .ref b] H1 → ta σ H R) (ha : ∀ c ∈ l, c < 128) (hl : l.length = ys.length) (Iv : Nat → L2.St → Hp → Prop) (h0 : Iv 0 σ H1)
    (hq : ∀ i σ H, Iv i σ H → SqL K H b ys)
    (hs : ∀ (i c : Nat) (y : V) (p : Addr) (σ : L2.St) (H : Hp), l[i]? = some c → ys[i]? = some y → Iv i σ H → H p = none →
      g (.ref p) σ (upd H p (.tup [.str (T [c]), y])) fun σ2 H2 => tb { D with nx := Iv (i + 1), ct := Iv (i + 1), bk := D.nx } σ2 H2)
    (he : ∀ σ H, Iv l.length σ H → D.nx σ H) : tFor (iZipSL K ta) g tb D σ H := by
  refine h _ ⟨ha, ⟨ys, hq _ _ _ h0⟩, ?_⟩
  refine ⟨fun i m σ H => m = l.length - i ∧ i ≤ l.length ∧ Iv i σ H, ⟨l.length, rfl, Nat.zero_le _, h0⟩, ?_⟩
  rintro i m σ H ⟨rfl, hi, iv⟩
  have qy := hq i σ H iv
  by_cases lt : i < l.length
  · have hx : l[i]? = some l[i] := List.getElem?_eq_getElem lt
    have hy : ys[i]? = some (ys[i]'(by omega)) := List.getElem?_eq_getElem (by omega)
    refine .inr ⟨⟨lt, ys, _, qy, hy⟩, Iv (i + 1), fun σ' H' z => ⟨l.length - (i + 1), by omega, rfl, lt, z⟩, ?_⟩
    rintro v H' ⟨p, c, y, rfl, hp, rfl, hc, hyy⟩
    have e1 : c = l[i] := by
      have : (T l).cps[i]? = some l[i] := by rw [← Array.getElem?_toList]; exact hx
      rw [hc] at this; exact Option.some.inj this
    have e2 := hyy ys qy
    subst e1
    exact hs i _ y p σ H hx e2 iv hp
  · have e : i = l.length := by omega
    subst e
    exact .inl ⟨⟨rfl, ys, qy, hl⟩, he σ H iv⟩
end LK

/-! for i, x in enumerate(tuple) -/
namespace LK
open PySem PySem.Spec PyProof.Rows L2
open AutoSeq1 (wpAny_loadPart')
/-- what the tuple at a holds, each item beside its number in a new pair -/
def ItET (K : PySem.W.Frag) (a : Addr) : It where
  go := fun i H => ∃ xs x, SqT K H a xs ∧ xs[i]? = some x
  yld := fun i H v H' => ∃ T x, v = .ref T ∧ H T = none ∧ H' = upd H T (.tup [.int (i : Nat), x]) ∧ ∀ xs, SqT K H a xs → xs[i]? = some x
  stop := fun i H => ∃ xs, SqT K H a xs ∧ i = xs.length
theorem turn_enumT {P : Program} {w : World} {K : PySem.W.Frag} {elts : List Expr} {kk : Nat} {tpos : Pos} {a e it : Addr} (ne : e ≠ it) (n1 : e ≠ a) (n2 : a ≠ it) :
    Turn P w K (.Tuple elts kk tpos) (ItET K a) [e, it] e (fun i h => (∃ old, IsEnum h e it ((i : Nat) : Int) old) ∧ h.IsTupleIter it a i) where
  mem := by simp
  obj := fun i h st c hc => by
    obtain ⟨⟨old, he⟩, o, ho, _, hd⟩ := st
    simp only [List.mem_cons, List.not_mem_nil, or_false] at hc
    rcases hc with rfl | rfl
    · exact ⟨_, he, fun v q => nomatch q⟩
    · exact ⟨o, ho, fun v q => by rw [hd] at q; cases q⟩
  keep := fun i h h' st k => by
    obtain ⟨⟨old, he⟩, hi⟩ := st
    exact ⟨⟨old, k e (by simp) _ he⟩, hi.at fun o q => k it (by simp) o q⟩
  item := by
    intro X hP hw hK hc i pins s σ H E I hf st ⟨xs, x, hq, hx⟩
    subst hP hw hK
    obtain ⟨⟨old, he⟩, hit⟩ := st
    obtain ⟨its, rv, p, _⟩ := I.tuple hq
    obtain ⟨u, hu, ru⟩ := rv.get hx
    have hii : i < its.toArray.size := by
      have := (List.getElem?_eq_some_iff.mp hu).1
      simpa using this
    have hh : X.A.in1.handled = none := I.ok.hd hc
    have el := Heap.lt_size he
    have il : it < s.heap.objs.size := by obtain ⟨_, q, _⟩ := hit; exact Heap.lt_size q
    refine wpAny_pyNext_enum_itemD (Draws.tuple hh it a n2 its.toArray) he ⟨hit, p⟩ hii ne (by simp [ne, n1]) fun y h' tk hy ho hst hT hsz hk => ?_
    have ey : y = u := by
      have z : its[i]? = some y := by simpa using hy
      rw [hu] at z; exact (Option.some.inj z).symm
    subst ey
    refine ⟨_, rfl, wpAny_letOwnedTupleGo_enum (s := { s with heap := h', toks := tk + 1 }) ho fun h'' he' sb => ?_⟩
    have hT2 : h''.get? s.heap.objs.size = some { cls := .type "tuple", data := .seq #[.int i tk, y] } := (sb.2 _ (Nat.ne_of_gt el)).trans hT
    have new : ObjOk X.prog X.w (upd H s.heap.objs.size (.tup [.int (i : Nat), x])) h'' s.heap.objs.size (.tup [.int (i : Nat), x]) :=
      ⟨by show 2 ≤ sizeLine; decide, [.int i tk, y], .cons ⟨_, rfl⟩ (.cons ru .nil), ⟨_, hT2, rfl, _, rfl⟩⟩
    have far : ∀ d o, d ∉ [e, it] → s.heap.get? d = some o → h''.get? d = some o := fun d o nd q => by
      simp only [List.mem_cons, List.not_mem_nil, or_false, not_or] at nd
      exact (sb.2 d nd.1).trans (hk d o nd.1 nd.2 q)
    refine ⟨.ref s.heap.objs.size, _, I.turnedNew (t' := tk + 1) (ch := [e, it]) far hf (Nat.le_refl _) new, rfl, ⟨_, x, rfl, I.hok.fresh (Nat.le_refl _), rfl, fun l hl => by rw [I.tuple_inj hl hq]; exact hx⟩, ⟨⟨y, ?_⟩, hst.1.at fun o q => (sb.2 it ne.symm).trans q⟩, fun d hd => ?_⟩
    · rw [show ((i + 1 : Nat) : Int) = (i : Int) + 1 by omega]; exact he'
    · have lt : d < s.heap.objs.size := by
        simp only [List.mem_cons, List.not_mem_nil, or_false] at hd
        rcases hd with rfl | rfl
        · exact el
        · exact il
      rw [upd_ne (Nat.ne_of_lt lt)]; exact (hf d hd).1
  done := by
    intro X hP hw hK hc i pins s σ H E I hf st ⟨xs, hq, hl⟩
    subst hP hw hK
    obtain ⟨⟨old, he⟩, hit⟩ := st
    obtain ⟨its, rv, p, _⟩ := I.tuple hq
    obtain ⟨f0, f1, f2, f3, f4, f5⟩ := hf it (by simp)
    have l1 := rv.length
    have e2 : i = its.toArray.size := by rw [List.size_toArray]; omega
    have hh : X.A.in1.handled = none := I.ok.hd hc
    subst e2
    exact wpAny_pyNext_enum_endD (Draws.tuple hh it a n2 its.toArray) he ⟨hit, p⟩ fun h' eb => ⟨rfl, I.turned (t' := s.toks) (fun b o hb q => eb b o hb q) f0 f1 f3 f4 f5⟩
  self := fun A i s Q E st h => by obtain ⟨⟨_, he⟩, _⟩ := st; exact wpAny_pyIter_enum he h
theorem new_enumT (l : Addr) (items : Array Value) (n : Nat) (dct : Option Addr) (sl : Array (Option Value)) :
    Meets (Builtin.«enumerate.__new__» ⟨[.type "enumerate", .ref l], []⟩) (fun _ R s => s.heap.get? l = some { cls := .type "tuple", dict := dct, data := .seq items n, slots := sl } ∧
      R (.ok (.ret (.ref (s.heap.push { cls := .type "tuple_iterator", data := .fields #[.ref l, .int 0 0] }).objs.size)))
        { s with heap := (s.heap.push { cls := .type "tuple_iterator", data := .fields #[.ref l, .int 0 0] }).push { cls := .type "enumerate", data := .fields #[.none, .bool false, .ref s.heap.objs.size, rawInt 0, .none, .none] } }) :=
  .of_wp fun prog w A R s h => by
    obtain ⟨hp, g, d, tk, os⟩ := s; obtain ⟨hl, h⟩ := h
    have hsub := sub_enumerate
    have hL : Heap.IsTuple (Shared.heap ⟨hp, g, d, tk, os⟩) l items := ⟨_, hl, rfl, n, rfl⟩
    wp_walk using wpAny_loadPart' hl
    refine wpAny_stack_any fun st => wpAny_pure ?_
    split
    · rename_i c _ _ _ _ _
      cases (c == Value.type "enumerate") <;> (wp_walk using wpAny_loadPart' hl, wpAny_pyIter_tuple hL; exact ⟨_, rfl, h⟩)
    · wp_walk using wpAny_loadPart' hl, wpAny_pyIter_tuple hL
      exact ⟨_, rfl, h⟩
end LK

/-! walks over a list or a tuple -/
namespace LK
open PySem PySem.Spec PyProof.Rows L2
/-- the values of the list (tp = false) or of the tuple at a -/
def SqB (K : PySem.W.Frag) (tp : Bool) (H : Hp) (a : Addr) (xs : List V) : Prop := match tp with | true => SqT K H a xs | false => SqL K H a xs
def ItB (K : PySem.W.Frag) (tp : Bool) (a : Addr) : It := match tp with | true => Itt K a | false => Itl K a
def ItEB (K : PySem.W.Frag) (tp : Bool) (a : Addr) : It := match tp with | true => ItET K a | false => Ite K a
theorem wk_sq {K : PySem.W.Frag} {tp : Bool} {a : Addr} {xs : List V} : Wk (ItB K tp a) xs (fun H => SqB K tp H a xs) := by
  cases tp
  · exact wk_list
  · exact wk_tup
section
variable {X : Cx} {tg e : Expr} {te : TE} {p pos tpos : Pos} {elts : List Expr} {kk : Nat} {ta : TA}
def iSq (K : PySem.W.Frag) (te : TE) : TI := fun σ H R => te σ H fun x H1 => match x with
  | .ref a => ∃ tp xs, SqB K tp H1 a xs ∧ R (ItB K tp a) H1
  | _ => False
theorem pi_sq (he : PE X e te) : PI X tg e (iSq X.K te) := by
  refine ⟨fun pins s σ H R I h => thn (he.run pins s σ H _ I h) fun v s1 z => ?_⟩
  obtain ⟨x, H1, I1, r1, q⟩ := z
  cases x with
  | ref a =>
    obtain ⟨tp, xs, hx, q⟩ := q
    obtain rfl : v = Value.ref a := r1
    cases tp
    · obtain ⟨its, rv, p, _⟩ := I1.list hx
      exact wpAny_pyIter_list p.isList (pi_one (tk := s1.toks) I1 _ (turn_list a _) ⟨_, Heap.get?_push_size _ rfl, rfl, rfl⟩ q)
    · obtain ⟨its, rv, p, _⟩ := I1.tuple hx
      exact wpAny_pyIter_tuple p (pi_one (tk := s1.toks) I1 _ (turn_tuple a _) ⟨_, Heap.get?_push_size _ rfl, rfl, rfl⟩ q)
  | _ => exact q.elim
theorem call_enumT {A : Around} {E : Value → Shared → Prop} {prog : Program} {w : World} {s : Shared} {l : Addr} {items : Array Value} {Q : Value → Shared → Prop} (hL : s.heap.IsTuple l items)
    (h : ∀ h', IsEnum h' (s.heap.objs.size + 1) s.heap.objs.size 0 .none → h'.IsTupleIter s.heap.objs.size l 0 → (∀ b o, s.heap.get? b = some o → h'.get? b = some o) → Q (.ref (s.heap.objs.size + 1)) { s with heap := h' }) :
    wpAny (model prog w) A (call (.type "enumerate") [.ref l]) Q E s := by
  obtain ⟨⟨c, dct, dt, sl⟩, hl, hc, n, hd⟩ := hL
  obtain rfl : c = .type "tuple" := hc
  obtain rfl : dt = .seq items n := hd
  refine callType_new F.called_enumerate (by decide) (F.typeCall_enumerate_1 _) (F.newCall_enumerate_1 _) (fun obj => F.args_object_init_2 obj _) F.entry_enumerate_new (new_enumT l items n dct sl) ⟨hl, ?_⟩
  have hz : (s.heap.push { cls := .type "tuple_iterator", data := .fields #[.ref l, .int 0 0] }).objs.size = s.heap.objs.size + 1 := Heap.size_push ..
  have he : IsEnum ((s.heap.push { cls := .type "tuple_iterator", data := .fields #[.ref l, .int 0 0] }).push { cls := .type "enumerate", data := .fields #[.none, .bool false, .ref s.heap.objs.size, rawInt 0, .none, .none] }) (s.heap.objs.size + 1) s.heap.objs.size 0 .none :=
    hz ▸ Heap.get?_push_size _ rfl
  show _ ∧ _
  rw [hz]
  exact ⟨⟨_, he, rfl⟩, h _ he ⟨_, Heap.get?_push_of_some _ (Heap.get?_push_size _ rfl), rfl, rfl⟩ fun b o x => Heap.get?_push_of_some _ (Heap.get?_push_of_some _ x)⟩
def iEnumB (K : PySem.W.Frag) (ta : TA) : TI := fun σ H R => ta σ H fun vs H1 => match vs with
  | [.ref a] => ∃ tp xs, SqB K tp H1 a xs ∧ R (ItEB K tp a) H1
  | _ => False
theorem pi_enumB (hg : Gl X "enumerate") (hm : X.mg "enumerate" = none) (ha : PA X [e] ta) (hs : starEach [e] X.env = [(false, eval e X.env)] := by rfl) :
    PI X (.Tuple elts kk tpos) (.Call (.Name "enumerate" p) [e] [] pos) (iEnumB X.K ta) := by
  refine ⟨fun pins s σ H R I h => Call_ (ld_blt I hg hm boot_enumerate (PyProof.Rows.callWith_type1 (thn (ha.run pos pins s σ H _ I h) fun us s1 z => ?_) hs rfl))⟩
  obtain ⟨vs, H1, I1, r1, q1⟩ := z
  have key : ∃ a, vs = [.ref a] ∧ ∃ tp xs, SqB X.K tp H1 a xs ∧ R (ItEB X.K tp a) H1 := by
    split at q1
    · exact ⟨_, rfl, q1⟩
    · exact q1.elim
  obtain ⟨a, rfl, tp, xs, hx, q⟩ := key
  obtain ⟨u, rfl, ru⟩ := vals1 r1
  obtain rfl : u = Value.ref a := ru
  have fp : ∀ b ∈ [s1.heap.objs.size + 1, s1.heap.objs.size], FpOk X pins H1 b := fun b hb => by
    have hle : s1.heap.objs.size ≤ b := by
      simp only [List.mem_cons, List.not_mem_nil, or_false] at hb
      rcases hb with z | z <;> rw [z]
      · exact Nat.le_add_right _ _
      · exact Nat.le_refl _
    exact I1.fpOk hle (I1.hok.fresh hle)
  cases tp
  · obtain ⟨its, rv, p', _⟩ := I1.list hx
    refine call_enumerate_list p'.isList fun h' he hit _ hk => wpAny_pyIter_enum he ?_
    exact ⟨s1.heap.objs.size + 1, _, _, _, H1, rfl, I1.kept (t' := s1.toks) hk, turn_enum a (s1.heap.objs.size + 1) s1.heap.objs.size, ⟨⟨.none, he⟩, hit, Nat.succ_ne_self _⟩, fp, q⟩
  · obtain ⟨its, rv, p', _⟩ := I1.tuple hx
    have lt : a < s1.heap.objs.size := by obtain ⟨_, q, _⟩ := id p'; exact Heap.lt_size q
    refine call_enumT (show s1.heap.IsTuple a its.toArray from p') fun h' he hit hk => wpAny_pyIter_enum he ?_
    exact ⟨s1.heap.objs.size + 1, _, _, _, H1, rfl, I1.kept (t' := s1.toks) hk, turn_enumT (Nat.succ_ne_self _) (Nat.ne_of_gt (Nat.lt_succ_of_lt lt)) (Nat.ne_of_lt lt), ⟨⟨.none, he⟩, hit⟩, fp, q⟩
end
section
variable {K : PySem.W.Frag} {g : TG} {te : TE} {tb : TS} {σ : L2.St} {H H1 : Hp} {vs : List Nat} {Q : VK} {t : TE} {ta : TA} {D : Ends} {tp : Bool}
theorem for_sq {a : Addr} {xs : List V} (h : At t σ H (.ref a) H1) (hx : SqB K tp H1 a xs) (Iv : List V → L2.St → Hp → Prop) (hP : ∀ pre σ H, Iv pre σ H → SqB K tp H a xs) (h0 : Iv [] σ H1)
    (hs : ∀ pre x suf σ H, xs = pre ++ x :: suf → Iv pre σ H → g x σ H fun σ2 H2 => tb { D with nx := Iv (pre ++ [x]), ct := Iv (pre ++ [x]), bk := D.nx } σ2 H2)
    (he : ∀ σ H, Iv xs σ H → D.nx σ H) : tFor (iSq K t) g tb D σ H :=
  h _ ⟨tp, xs, hx, for_wk wk_sq Iv hP h0 hs he⟩
theorem lc_sq {a : Addr} {xs : List V} (h : At t σ H (.ref a) H1) (hx : SqB K tp H1 a xs) (R : Addr → List V → List V → Hp → Prop)
    (hP : ∀ D pre acc H, R D pre acc H → SqB K tp H a xs) (h0 : ∀ D, H1 D = none → R D [] [] (upd H1 D (.lst [])))
    (hs : ∀ D, H1 D = none → ∀ pre acc x suf H, xs = pre ++ x :: suf → R D pre acc H → g x (wipe σ vs) H fun σ2 H2 => wipe σ2 vs = wipe σ vs ∧ te σ2 H2 fun y H4 =>
      ∃ acc, H4 D = some (.lst acc) ∧ acc.length < sizeLine ∧ ∃ a, R D (pre ++ [x]) a (upd H4 D (.lst (acc ++ [y]))))
    (he : ∀ D, H1 D = none → ∀ acc H, R D xs acc H → Q (.ref D) H) : tLc (iSq K t) g tYes te vs σ H Q :=
  h _ ⟨tp, xs, hx, fun D nD => lc_wk wk_sq (fun pre acc H => R D pre acc H) (hP D) (h0 D nD) (hs D nD) (he D nD)⟩
/-- enumerate of a list or a tuple -/
theorem for_enB {a : Addr} {xs : List V} (h : ∀ R : List V → Hp → Prop, R [.ref a] H1 → ta σ H R) (hx : SqB K tp H1 a xs) (Iv : Nat → L2.St → Hp → Prop) (hP : ∀ i σ H, Iv i σ H → SqB K tp H a xs) (h0 : Iv 0 σ H1)
    (hs : ∀ (i : Nat) x p σ H, xs[i]? = some x → Iv i σ H → H p = none → g (.ref p) σ (upd H p (.tup [.int (i : Nat), x])) fun σ2 H2 => tb { D with nx := Iv (i + 1), ct := Iv (i + 1), bk := D.nx } σ2 H2)
    (he : ∀ σ H, Iv xs.length σ H → D.nx σ H) : tFor (iEnumB K ta) g tb D σ H := by
  refine h _ ⟨tp, xs, hx, ?_⟩
  refine ⟨fun i m σ H => m = xs.length - i ∧ i ≤ xs.length ∧ Iv i σ H, ⟨xs.length, rfl, Nat.zero_le _, h0⟩, ?_⟩
  rintro i m σ H ⟨rfl, hi, iv⟩
  have q := hP i σ H iv
  by_cases lt : i < xs.length
  · have hxi : xs[i]? = some xs[i] := List.getElem?_eq_getElem lt
    refine .inr ⟨?_, Iv (i + 1), fun σ' H' z => ⟨xs.length - (i + 1), by omega, rfl, lt, z⟩, ?_⟩
    · cases tp
      · exact ⟨xs, _, q, hxi⟩
      · exact ⟨xs, _, q, hxi⟩
    · intro v H' y
      have key : ∃ T x, v = .ref T ∧ H T = none ∧ H' = upd H T (.tup [.int (i : Nat), x]) ∧ xs[i]? = some x := by
        cases tp
        · obtain ⟨T, x, e1, e2, e3, e4⟩ := y; exact ⟨T, x, e1, e2, e3, e4 xs q⟩
        · obtain ⟨T, x, e1, e2, e3, e4⟩ := y; exact ⟨T, x, e1, e2, e3, e4 xs q⟩
      obtain ⟨T, x, rfl, hT, rfl, e⟩ := key
      exact hs i x T σ H e iv hT
  · have e : i = xs.length := by omega
    subst e
    refine .inl ⟨?_, he σ H iv⟩
    cases tp
    · exact ⟨xs, q, Nat.le_refl _⟩
    · exact ⟨xs, q, rfl⟩
end
end LK

/-! instances made, by place and by names the other way round; the fields that are read and written -/
namespace LK
open PySem PySem.Spec PyProof.Rows L2 Builtin
/-- a class that is called: its __init__ keeps sp -/
structure HasI (P : Program) (w : World) (K : PySem.W.Frag) (mg : Str → Option Value) (base : Heap) (k : Nat) (x : Str) (C : Addr) (ps : List Str) (sp : Sp) : Prop where
  ex : ∃ f fd, FnG P w K mg base CX0 k f fd (("self" : Str) :: ps) sp ∧ Mk K C f ∧ Binds K fd (("self" : Str) :: ps) [] ∧ mg x = some (.ref C) ∧
    ∀ (s : Shared) (z : Value) (us : List Value), us.length = ps.length → BindsTo s fd ⟨[z], (ps.zip us).reverse⟩ ((("self" : Str) :: ps).zip (z :: us))
theorem HasI.up {P : Program} {w : World} {K : PySem.W.Frag} {mg : Str → Option Value} {base : Heap} {j k : Nat} {x : Str} {C : Addr} {ps : List Str} {sp : Sp} (F : HasI P w K mg base j x C ps sp) (h : j ≤ k) : HasI P w K mg base k x C ps sp := by
  obtain ⟨f, fd, a, b⟩ := F.ex
  exact ⟨f, fd, a.up h, b⟩
section
variable {X : Cx} {k : Nat} {C : Addr} {x : Str} {ps : List Str} {sp : Sp} {p pos : Pos} {e : Expr} {es : List Expr} {kws : List Keyword} {t tk : TA}
theorem mkI_run {pins : List (Addr × Obj)} {σ : L2.St} {H : Hp} {s : Shared} {Q : VK} {f : Addr} {fd : FuncData} {us ws : List Value} {kw : List (Str × Value)} {vs : List V} (M : Mk X.K C f) (F : FnG X.prog X.w X.K X.mg X.base CX0 k f fd (("self" : Str) :: ps) sp)
    (hA : X.A.guards = some []) (hr : Room (k + 1) X.A) (I : Inv X pins σ H s) (r : Vals vs ws) (n : ws.length = ps.length)
    (b : ∀ s' : Shared, X.K.In s'.heap → ∀ z : Value, BindsTo s' fd ⟨z :: us, kw⟩ ((("self" : Str) :: ps).zip (z :: ws)))
    (h : ∀ a d, H a = none → H d = none → d ≠ a → sp (.ref a :: vs) (upd (upd H d (.own a)) a (.ins C d [])) (fun v H2 => v = .non ∧ Q (.ref a) H2) E0) :
    wpAny (model X.prog X.w) X.A (call (.ref C) us kw) (EP X pins σ Q) X.xe s := by
  have q := h (s.heap.objs.size + 1) s.heap.objs.size (I.hok.fresh (Nat.le_succ _)) (I.hok.fresh (Nat.le_refl _)) (Nat.ne_of_lt (Nat.lt_succ_self _))
  have I2 := Inv.made (C := C) I
  refine wpAny_call (make_map (f := f) I.kIn M.makes M.init (beq_iff_eq.mp M.fn) (codeAny_mono (F.run _ (under_guards hA) X.stack _ _ ⟨.ref (s.heap.objs.size + 1) :: us, kw⟩ (.ref (s.heap.objs.size + 1) :: ws) (.ref (s.heap.objs.size + 1) :: vs) _ E0
    (hr.make C us kw) (I2.env0.make C us kw) (b _ I2.kIn _) (.cons rfl r) q) fun r' s' z => ?_))
  match r', z with
  | .error er, z => exact pass0 pins σ _ _ er s' I2 z
  | .ok .next, z => exact z.elim
  | .ok .brk, z => exact z.elim
  | .ok .cont, z => exact z.elim
  | .ok (.ret u), z =>
    obtain ⟨v, H2, J2, rv, ev, q⟩ := I2.after z
    subst ev
    exact ⟨rv, .ref _, H2, J2, rfl, q⟩
/-- the new instance, and what its __init__ does -/
def mkSp (C : Addr) (sp : Sp) (vs : List V) (H : Hp) (Q : VK) : Prop := ∀ a d, H a = none → H d = none → d ≠ a → sp (.ref a :: vs) (upd (upd H d (.own a)) a (.ins C d [])) (fun v H2 => v = .non ∧ Q (.ref a) H2) E0
/-- C(e, ..) -/
theorem pe_mkI (F : HasI X.prog X.w X.K X.mg X.base k x C ps sp) (hA : X.A.guards = some []) (hr : Room (k + 1) X.A) (hg : Gl X x) (ha : PA X (e :: es) t)
    (hdb : (x == ("__debug__" : Str)) = false := by decide) (he : starEach (e :: es) X.env = (false, eval e X.env) :: starEach es X.env := by rfl) (hpl : (backTo pos (starEach es X.env)).any (·.1) = false := by rfl) :
    PE X (.Call (.Name x p) (e :: es) [] pos) (fun σ H Q => t σ H fun vs H1 => vs.length = ps.length ∧ mkSp C sp vs H1 Q) := by
  obtain ⟨f, fd, F, M, hb, hm, _⟩ := F.ex
  refine ⟨fun pins s σ H Q I h => ?_⟩
  refine wpAny_Call_Name_kw (ld_glob I hg hm ?_ hdb)
  refine PySem.W.callWith_K (h₀ := X.base) I.ok.mod.kin M.kp (thn (ha.run pos pins s σ H _ I h) fun us s1 z => ?_) he hpl
  obtain ⟨vs, H1, I1, r1, n, q⟩ := z
  have l : us.length = ps.length := r1.length ▸ n
  refine ⟨I1.kIn, mkI_run (us := us) (ws := us) (kw := []) M F hA hr I1 r1 l (fun s' X' z => ?_) q⟩
  have b := hb s' (z :: us) X' (by simp [l])
  simpa using b
/-! ### fields -/
def uFld (K : PySem.W.Frag) (f : Str) (ta : TE) : TE := fun σ H Q => ta σ H fun x H1 => match x with
  | .ref a => ∃ C dx fs v, H1 a = some (.ins C dx fs) ∧ Cls K C ∧ NoAttr K C f ∧ fs.lookup f = some v ∧ Q v H1
  | _ => False
theorem pe_fldU {f : Str} {ta : TE} (he : PE X e ta) (hb : attributeBase e f X.env (eval e X.env) = eval e X.env := by rfl) : PE X (.Attribute e f pos) (uFld X.K f ta) := by
  refine PE.imp (pe_fld he hb) fun σ H Q h => ?_
  unfold uFld at h
  unfold tFld
  have e : (fun x H1 => match x with | .ref a => ∃ C dx fs v, H1 a = some (HO.ins C dx fs) ∧ Cls X.K C ∧ NoAttr X.K C f ∧ fs.lookup f = some v ∧ Q v H1 | _ => False) =
      (fun x H1 => ∃ a C dx fs v, x = V.ref a ∧ H1 a = some (HO.ins C dx fs) ∧ Cls X.K C ∧ NoAttr X.K C f ∧ fs.lookup f = some v ∧ Q v H1) := by
    funext x H1
    apply propext
    constructor
    · intro h
      split at h
      · obtain ⟨C, dx, fs, v, h⟩ := h; exact ⟨_, C, dx, fs, v, rfl, h⟩
      · exact h.elim
    · rintro ⟨a, C, dx, fs, v, rfl, h⟩; exact ⟨C, dx, fs, v, h⟩
  rw [e] at h
  exact h
end
end LK

/-! places that are come to, least texts to them -/
namespace LK
abbrev Rows := List (List Nat)
def gls (R : Rows) (p : Nat) : List Nat := R.getD p []
def add1 (f : List Nat) (g : Nat) : List Nat := if g ∈ f then f else f ++ [g]
def adds (f gs : List Nat) : List Nat := gs.foldl add1 f
/-- what is found behind i places gone on with -/
def fnd (R : Rows) (s : Nat) : Nat → List Nat
  | 0 => [s]
  | i + 1 => match (fnd R s i)[i]? with
    | some p => adds (fnd R s i) (gls R p)
    | none => fnd R s i
def met (R : Rows) (s : Nat) : List Nat := fnd R s R.length
/-- each row leads to places that are there -/
structure RowsOk (R : Rows) (m : Nat) : Prop where
  len : ∀ r ∈ R, r.length = m
  lt : ∀ r ∈ R, ∀ g ∈ r, g < R.length
theorem add1_pre {f : List Nat} {g : Nat} : f <+: add1 f g := by
  unfold add1; split
  · exact List.prefix_refl _
  · exact List.prefix_append _ _
theorem adds_pre {gs : List Nat} : ∀ {f : List Nat}, f <+: adds f gs := by
  induction gs with
  | nil => exact List.prefix_refl _
  | cons g gs ih => exact add1_pre.trans ih
theorem mem_add1 {f : List Nat} {g x : Nat} : x ∈ add1 f g ↔ x ∈ f ∨ x = g := by
  unfold add1; split
  · rename_i h
    exact ⟨.inl, fun z => z.elim id fun e => e ▸ h⟩
  · simp
theorem mem_adds {gs : List Nat} {x : Nat} : ∀ {f : List Nat}, x ∈ adds f gs ↔ x ∈ f ∨ x ∈ gs := by
  induction gs with
  | nil => simp [adds]
  | cons g gs ih =>
    intro f
    show x ∈ adds (add1 f g) gs ↔ _
    rw [ih, mem_add1, List.mem_cons, or_assoc]
theorem nd_add1 {f : List Nat} {g : Nat} (h : f.Nodup) : (add1 f g).Nodup := by
  unfold add1; split
  · exact h
  · rename_i n
    exact List.nodup_append.mpr ⟨h, by simp, fun a ha b hb e => n (by simp at hb; rw [← hb, ← e]; exact ha)⟩
theorem nd_adds {gs : List Nat} : ∀ {f : List Nat}, f.Nodup → (adds f gs).Nodup := by
  induction gs with
  | nil => exact fun h => h
  | cons g gs ih => exact fun h => ih (nd_add1 h)
section
variable {R : Rows} {s : Nat}
theorem fnd_pre1 (i : Nat) : fnd R s i <+: fnd R s (i + 1) := by
  show _ <+: (match (fnd R s i)[i]? with | some p => adds (fnd R s i) (gls R p) | none => fnd R s i)
  split
  · exact adds_pre
  · exact List.prefix_refl _
theorem fnd_pre {i j : Nat} (h : i ≤ j) : fnd R s i <+: fnd R s j := by
  induction j with
  | zero => obtain rfl : i = 0 := by omega
            exact List.prefix_refl _
  | succ j ih =>
    by_cases e : i = j + 1
    · rw [e]; exact List.prefix_refl _
    · exact (ih (by omega)).trans (fnd_pre1 j)
theorem fnd_step {i p : Nat} (h : (fnd R s i)[i]? = some p) : fnd R s (i + 1) = adds (fnd R s i) (gls R p) := by
  show (match (fnd R s i)[i]? with | some p => adds (fnd R s i) (gls R p) | none => fnd R s i) = _
  rw [h]
theorem fnd_stop {i : Nat} (h : (fnd R s i).length ≤ i) : ∀ j, i ≤ j → fnd R s j = fnd R s i := by
  intro j hj
  induction j with
  | zero => obtain rfl : i = 0 := by omega
            rfl
  | succ j ih =>
    by_cases e : i = j + 1
    · rw [e]
    · have ij := ih (by omega)
      have n : (fnd R s j)[j]? = none := by rw [ij]; exact List.getElem?_eq_none (by omega)
      show (match (fnd R s j)[j]? with | some p => adds (fnd R s j) (gls R p) | none => fnd R s j) = _
      rw [n]; exact ij
theorem fnd_nd : ∀ i, (fnd R s i).Nodup
  | 0 => by simp [fnd]
  | i + 1 => by
    have ih := fnd_nd i
    show List.Nodup (match (fnd R s i)[i]? with | some p => adds (fnd R s i) (gls R p) | none => fnd R s i)
    split
    · exact nd_adds ih
    · exact ih
theorem fnd_head (i : Nat) : s ∈ fnd R s i := (fnd_pre (Nat.zero_le i)).subset (by simp [fnd])
theorem gls_lt {m p g : Nat} (ok : RowsOk R m) (h : g ∈ gls R p) : g < R.length := by
  unfold gls at h
  rw [List.getD_eq_getElem?_getD] at h
  cases e : R[p]? with
  | none => rw [e] at h; cases h
  | some r => rw [e] at h; exact ok.lt r (List.mem_of_getElem? e) g h
theorem fnd_lt {m : Nat} (ok : RowsOk R m) (hs : s < R.length) : ∀ i, ∀ x ∈ fnd R s i, x < R.length
  | 0, x, h => by simp [fnd] at h; omega
  | i + 1, x, h => by
    have ih := fnd_lt ok hs i
    have h : x ∈ (match (fnd R s i)[i]? with | some p => adds (fnd R s i) (gls R p) | none => fnd R s i) := h
    split at h
    · rcases mem_adds.mp h with h | h
      · exact ih x h
      · exact gls_lt ok h
    · exact ih x h
theorem len_le_of_lt {l : List Nat} {n : Nat} (nd : l.Nodup) (h : ∀ x ∈ l, x < n) : l.length ≤ n := by
  have := List.Nodup.length_le_of_subset nd (l₂ := List.range n) fun x hx => List.mem_range.mpr (h x hx)
  rwa [List.length_range] at this
theorem fnd_len {m : Nat} (ok : RowsOk R m) (hs : s < R.length) (i : Nat) : (fnd R s i).length ≤ R.length := len_le_of_lt (fnd_nd i) (fnd_lt ok hs i)
/-- a walk that has come to its end has met all -/
theorem fnd_met {m i : Nat} (ok : RowsOk R m) (hs : s < R.length) (h : (fnd R s i).length ≤ i) : fnd R s i = met R s := by
  have l := fnd_len ok hs i
  by_cases e : i ≤ R.length
  · exact (fnd_stop h R.length e).symm
  · have l2 := fnd_len ok hs R.length
    exact fnd_stop l2 i (by omega)
theorem fnd_more {i : Nat} (h : i < (fnd R s R.length).length) (hi : i ≤ R.length) : i < (fnd R s i).length := by
  refine Nat.lt_of_not_le fun z => ?_
  rw [fnd_stop z R.length hi] at h
  omega
theorem met_closed {m p g : Nat} (ok : RowsOk R m) (hs : s < R.length) (hp : p ∈ met R s) (hg : g ∈ gls R p) : g ∈ met R s := by
  obtain ⟨k, hk⟩ := List.mem_iff_getElem?.mp hp
  have lk : k < (met R s).length := (List.getElem?_eq_some_iff.mp hk).1
  have ln := fnd_len ok hs R.length
  have lk2 : k < R.length := Nat.lt_of_lt_of_le lk ln
  have l1 := fnd_more lk (by omega)
  have e : (fnd R s k)[k]? = some p := by
    obtain ⟨t, et⟩ := fnd_pre (R := R) (s := s) (i := k) (j := R.length) (by omega)
    have hk2 : (fnd R s R.length)[k]? = some p := hk
    rw [← et, List.getElem?_append_left l1] at hk2
    exact hk2
  refine (fnd_pre (i := k + 1) (j := R.length) lk2).subset ?_
  rw [fnd_step e]
  exact mem_adds.mpr (.inr hg)
inductive Reach (R : Rows) (s : Nat) : Nat → Prop
  | here : Reach R s s
  | on {p g : Nat} : Reach R s p → g ∈ gls R p → Reach R s g
theorem reach_fnd : ∀ i, ∀ x ∈ fnd R s i, Reach R s x
  | 0, x, h => by simp [fnd] at h; rw [h]; exact .here
  | i + 1, x, h => by
    have ih := reach_fnd i
    have h : x ∈ (match (fnd R s i)[i]? with | some p => adds (fnd R s i) (gls R p) | none => fnd R s i) := h
    split at h
    · rename_i p e
      rcases mem_adds.mp h with h | h
      · exact ih x h
      · exact .on (ih p (List.mem_of_getElem? e)) h
    · exact ih x h
theorem mem_met {m x : Nat} (ok : RowsOk R m) (hs : s < R.length) : x ∈ met R s ↔ Reach R s x := by
  refine ⟨reach_fnd _ x, fun h => ?_⟩
  induction h with
  | here => exact fnd_head _
  | on _ hg ih => exact met_closed ok hs ih hg
/-- all places are come to -/
def Whole (R : Rows) : Prop := ∀ x, x < R.length → x ∈ met R 0
end
end LK

namespace LK
/-! ### other numbers for the places -/
def rn (R : Rows) (L : List Nat) : Rows := L.map fun p => (gls R p).map fun g => L.idxOf g
section
variable {R : Rows} {s m : Nat} {L : List Nat}
theorem rn_len : (rn R L).length = L.length := by simp [rn]
theorem rn_gls {x p : Nat} (h : L[x]? = some p) : gls (rn R L) x = (gls R p).map fun g => L.idxOf g := by
  unfold gls rn
  rw [List.getD_eq_getElem?_getD, List.getElem?_map, h]; rfl
theorem gls_len (ok : RowsOk R m) {p : Nat} (h : p < R.length) : (gls R p).length = m := by
  unfold gls
  rw [List.getD_eq_getElem?_getD, List.getElem?_eq_getElem h]
  exact ok.len _ (List.getElem_mem h)
theorem idx_get {p : Nat} (h : p ∈ L) : L[L.idxOf p]? = some p := by
  have lt := List.idxOf_lt_length_iff.mpr h
  rw [List.getElem?_eq_getElem lt, List.getElem_idxOf lt]
theorem rn_ok (ok : RowsOk R m) (hs : s < R.length) (h : ∀ x, x ∈ L ↔ x ∈ met R s) : RowsOk (rn R L) m := by
  constructor
  · intro r hr
    obtain ⟨p, hp, rfl⟩ := List.mem_map.mp hr
    rw [List.length_map]
    exact gls_len ok (fnd_lt ok hs _ p ((h p).mp hp))
  · intro r hr g hg
    obtain ⟨p, hp, rfl⟩ := List.mem_map.mp hr
    obtain ⟨q, hq, rfl⟩ := List.mem_map.mp hg
    rw [rn_len]
    exact List.idxOf_lt_length_iff.mpr ((h q).mpr (met_closed ok hs ((h p).mp hp) hq))
theorem rn_whole (ok : RowsOk R m) (hs : s < R.length) (nd : L.Nodup) (h : ∀ x, x ∈ L ↔ x ∈ met R s) (h0 : L[0]? = some s) : Whole (rn R L) := by
  intro x hx
  rw [rn_len] at hx
  have ok2 := rn_ok ok hs h
  have l0 : 0 < (rn R L).length := by rw [rn_len]; omega
  have key : ∀ p, Reach R s p → Reach (rn R L) 0 (L.idxOf p) := by
    intro p hp
    induction hp with
    | here =>
      have e : L.idxOf s = 0 := by
        cases L with
        | nil => cases h0
        | cons y L => simp at h0; rw [h0]; simp
      rw [e]; exact .here
    | on hp hg ih =>
      rename_i p g
      have hm : p ∈ L := (h p).mpr ((mem_met ok hs).mpr hp)
      refine .on ih ?_
      rw [rn_gls (idx_get hm)]
      exact List.mem_map.mpr ⟨g, hg, rfl⟩
  have hm := List.getElem_mem hx
  have r := key L[x] ((mem_met ok hs).mp ((h _).mp hm))
  rw [nd.idxOf_getElem] at r
  exact (mem_met ok2 l0).mpr r
theorem met_nd : (met R s).Nodup := fnd_nd _
theorem met_zero : (met R s)[0]? = some s := by
  obtain ⟨t, e⟩ := fnd_pre (R := R) (s := s) (Nat.zero_le R.length)
  show (fnd R s R.length)[0]? = _
  rw [← e]; rfl
end
/-! ### least texts -/
section
variable {R : Rows} {s : Nat} {S : List Nat}
/-! ### they rise -/
end
end LK

/-! what any law's proof wants -/
namespace LK
open PySem PySem.Spec PyProof.Rows L2 LamX
open scoped List
theorem Room.u1 {k : Nat} {A : Around} (r : Room k A) : A.units + 1 < cLine := by have := r.un; omega
theorem Room.u64 {k : Nat} {A : Around} (r : Room k A) : A.units + 64 < cLine := by have := r.un; omega
/-- names of built-ins that the module leaves as they are -/
structure Mx (mg : Str → Option Value) : Prop where
  tuple : mg "tuple" = none
  zip : mg "zip" = none
  set : mg "set" = none
  bool : mg "bool" = none
  any : mg "any" = none
  enumerate : mg "enumerate" = none
  ve : mg "ValueError" = none
  re : mg "RuntimeError" = none
  ae : mg "ArithmeticError" = none
  len : mg "len" = none
  isi : mg "isinstance" = none
  all : mg "all" = none
  str : mg "str" = none
  list : mg "list" = none
  sorted : mg "sorted" = none
  range : mg "range" = none
  sum : mg "sum" = none
  repr : mg "repr" = none
  int : mg "int" = none
  abs : mg "abs" = none
  max : mg "max" = none
  min : mg "min" = none
  divmod : mg "divmod" = none

theorem b_tuple : bootBuiltins "tuple" = some (.type "tuple") := by decide +kernel
theorem b_set : bootBuiltins "set" = some (.type "set") := by decide +kernel
theorem b_bool : bootBuiltins "bool" = some (.type "bool") := by decide +kernel
theorem b_len : bootBuiltins "len" = some (.builtin "len") := by decide +kernel
theorem b_isi : bootBuiltins "isinstance" = some (.builtin "isinstance") := by decide +kernel
theorem b_all : bootBuiltins "all" = some (.builtin "all") := by decide +kernel
theorem b_str : bootBuiltins "str" = some (.type "str") := by decide +kernel
theorem b_list : bootBuiltins "list" = some (.type "list") := by decide +kernel
theorem b_sorted : bootBuiltins "sorted" = some (.builtin "sorted") := by decide +kernel
theorem b_sum : bootBuiltins "sum" = some (.builtin "sum") := by decide +kernel
theorem b_repr : bootBuiltins "repr" = some (.builtin "repr") := by decide +kernel
theorem b_int : bootBuiltins "int" = some (.type "int") := by decide +kernel
theorem b_abs : bootBuiltins "abs" = some (.builtin "abs") := by decide +kernel
theorem b_max : bootBuiltins "max" = some (.builtin "max") := by decide +kernel
theorem b_min : bootBuiltins "min" = some (.builtin "min") := by decide +kernel
theorem b_any : bootBuiltins "any" = some (.builtin "any") := by decide +kernel
theorem b_divmod : bootBuiltins "divmod" = some (.builtin "divmod") := by decide +kernel

/-! ### heaps -/
/-- all stays but what S names and the tables; what is told of the tables stays true -/
structure Ex (TT : List (Addr × Str)) (S : Addr → Prop) (H H' : Hp) : Prop where
  keep : ∀ b o, ¬ S b → H b = some o → (∀ ps, o ≠ .tbl ps) → H' b = some o
  tabs : Tabs TT H → Tabs TT H'
abbrev no : Addr → Prop := fun _ => False
abbrev at1 (p : Addr) : Addr → Prop := fun b => b = p
section
variable {TT : List (Addr × Str)} {S : Addr → Prop} {H H1 H2 : Hp}
theorem Ex.trans (a : Ex TT S H H1) (b : Ex TT S H1 H2) : Ex TT S H H2 := ⟨fun c o n h m => b.keep c o n (a.keep c o n h m) m, fun t => b.tabs (a.tabs t)⟩
theorem Ex.same (e : Same H H1) : Ex TT S H H1 := ⟨fun b o _ h _ => e b o h, fun t => t.ext e⟩
theorem same_upd {p : Addr} {o : HO} (h : H p = none) : Same H (upd H p o) := fun b x e => by
  rw [upd_ne (ne_of_none e h)]; exact e
theorem Ex.new {p : Addr} {o : HO} (h : H p = none) : Ex TT S H (upd H p o) := .same (same_upd h)
theorem Ex.sq {K : PySem.W.Frag} {a : Addr} {xs : List V} (e : Ex TT S H H1) (n : ¬ S a) (h : SqL K H a xs) : SqL K H1 a xs := by
  rcases h with (h | ⟨o, h⟩) | h
  · exact .inl (.inl (e.keep _ _ n h fun ps z => nomatch z))
  · exact .inl (.inr ⟨o, e.keep _ _ n h fun ps z => nomatch z⟩)
  · exact .inr h
theorem ex_of (x : ExtN H H1) (t : Tabs TT H1) : Ex TT S H H1 := ⟨fun b o _ h n => x b o h n, fun _ => t⟩
/-- a list, dict, ... of one's own is written -/
theorem Ex.write {p : Addr} {o o' : HO} (hS : S p) (h : H p = some o) (n : ∀ ps, o ≠ .tbl ps) (n2 : ∀ c q, o ≠ CodeO c q) : Ex TT S H (upd H p o') := by
  refine ⟨fun b u nb hb _ => ?_, fun t x hx => ?_⟩
  · have : b ≠ p := fun e => nb (e ▸ hS)
    rw [upd_ne this]; exact hb
  · obtain ⟨ps, h1, h2, h3⟩ := t x hx
    refine ⟨ps, ?_, h2, fun pos cv hc => ?_⟩
    · have : x.1 ≠ p := fun e => by rw [e, h] at h1; exact n _ (Option.some.inj h1)
      rw [upd_ne this]; exact h1
    · obtain ⟨c, e1, e2⟩ := h3 pos cv hc
      refine ⟨c, e1, ?_⟩
      have : c ≠ p := fun e => by rw [e, h] at e2; exact n2 _ _ (by rw [Option.some.inj e2])
      rw [upd_ne this]; exact e2
end

section
variable {X : Cx} {e : Expr} {t : TE} {K : PySem.W.Frag} {g : TG} {tb : TS} {D : Ends} {σ : L2.St} {H : Hp}
/-- a reading closed upwards -/
def cl (t : TE) : TE := fun σ H Q => ∃ Q0 : VK, t σ H Q0 ∧ ∀ v H', Q0 v H' → Q v H'
theorem pe_cl (h : PE X e t) : PE X e (cl t) := by
  refine ⟨fun pins s σ H Q I z => ?_⟩
  obtain ⟨Q0, h0, m⟩ := z
  refine wpAny_mono (h.run pins s σ H Q0 I h0) (fun v s' q => ?_) (fun _ _ z => z)
  obtain ⟨x, H', I', r, q⟩ := q
  exact ⟨x, H', I', r, m _ _ q⟩
/-- what a loop over a list asks, wherever the list comes to lie -/
def LoopL (K : PySem.W.Frag) (g : TG) (tb : TS) (D : Ends) (σ : L2.St) : VK := fun x H1 => ∃ a xs, x = .ref a ∧ SqL K H1 a xs ∧ ∃ Iv : List V → L2.St → Hp → Prop, (∀ pre σ H, Iv pre σ H → SqL K H a xs) ∧ Iv [] σ H1 ∧
  (∀ pre x suf σ H, xs = pre ++ x :: suf → Iv pre σ H → g x σ H fun σ2 H2 => tb { D with nx := Iv (pre ++ [x]), ct := Iv (pre ++ [x]), bk := D.nx } σ2 H2) ∧ (∀ σ H, Iv xs σ H → D.nx σ H)
theorem forM_list (h : t σ H (LoopL K g tb D σ)) : tFor (iList K (cl t)) g tb D σ H := by
  refine ⟨_, h, fun v H' z => ?_⟩
  obtain ⟨a, xs, rfl, hx, Iv, h1, h2, h3, h4⟩ := z
  exact ⟨a, rfl, ⟨_, hx⟩, for_wk wk_list Iv h1 h2 h3 h4⟩
end
theorem same_upd2 {H H1 : Hp} {p : Addr} {o : HO} (e : Same H H1) (h : H p = none) : Same H (upd H1 p o) := fun b x z => by
  rw [upd_ne (ne_of_none z h)]; exact e b x z

abbrev LT (l : List Nat) : V := .str (T l)
def New (H : Hp) (p : Addr) : Prop := ∀ b o, H b = some o → (∀ ps, o ≠ .tbl ps) → b ≠ p
def Pot (H : Hp) (p : Addr) : Prop := ∃ i j : Int, 0 ≤ i ∧ 0 ≤ j ∧ j < 2 ^ 32 ∧ H p = some (.lst [.int i, .int j])
section
variable {TT : List (Addr × Str)} {S : Addr → Prop} {H H1 : Hp}
theorem Pot.put {H : Hp} {p D : Addr} {o : HO} (h : Pot H p) (ne : p ≠ D) : Pot (upd H D o) p := by
  obtain ⟨i, j, a, b, c, d⟩ := h
  exact ⟨i, j, a, b, c, by rw [upd_ne ne]; exact d⟩
theorem Pot.ne {H : Hp} {p D : Addr} (h : Pot H p) (n : H D = none) : p ≠ D := by
  obtain ⟨i, j, a, b, c, d⟩ := h
  exact ne_of_none d n
end
section
variable {g : TG} {te : TE} {σ : L2.St} {H : Hp} {vs : List Nat} {Q : VK} {t : TE}
end
section
variable {TT : List (Addr × Str)} {S : Addr → Prop} {H H1 : Hp}
theorem Ex.putN {D : Addr} {o o' : HO} (e : Ex TT S H H1) (n : New H D) (h : H1 D = some o) (n1 : ∀ ps, o ≠ .tbl ps) (n2 : ∀ c q, o ≠ CodeO c q) : Ex TT S H (upd H1 D o') :=
  ⟨fun b u nb hb m => by
    have : b ≠ D := n b u hb m
    rw [upd_ne this]; exact e.keep b u nb hb m, fun t => (Ex.write (TT := TT) (S := at1 D) rfl h n1 n2).tabs (e.tabs t)⟩
theorem Ex.newN {p D : Addr} (e : Ex TT (at1 p) H H1) (pot : Pot H1 p) (n : H1 D = none) : New H D := fun b o hb m z => by
  subst z
  by_cases hp : b = p
  · subst hp; exact pot.ne n rfl
  · have := e.keep b o hp hb m
    rw [n] at this; cases this
end
theorem has_of {P : Program} {w : World} {K : PySem.W.Frag} {mg : Str → Option Value} {base : Heap} {k : Nat} {f : Addr} {fd : FuncData} {x : Str} {ps : List Str} {sp : Sp} (F : FnG P w K mg base CX0 k f fd ps sp) (hm : mg x = some (.ref f))
    (kp : PySem.W.keepIn K (.ref f) = true) (b : Binds K fd ps []) (bk : ∀ (s : Shared) (us : List Value), us.length = ps.length → BindsTo s fd ⟨[], ps.zip us⟩ (ps.zip us) ∧ BindsTo s fd ⟨[], (ps.zip us).reverse⟩ (ps.zip us)) : Has P w K mg base k x ps sp :=
  ⟨f, fd, F, hm, kp, b, bk⟩
section
def clT (t : TT) : TT := fun σ H Q => ∃ Q0 : Bool → Hp → Prop, t σ H Q0 ∧ ∀ v H', Q0 v H' → Q v H'
theorem pt_cl {X : Cx} {e : Expr} {t : TT} (h : PT X e t) : PT X e (clT t) := by
  refine ⟨fun pins s σ H Q I z => ?_⟩
  obtain ⟨Q0, h0, m⟩ := z
  refine wpAny_mono (h.run pins s σ H Q0 I h0) (fun v s' q => ?_) (fun _ _ z => z)
  obtain ⟨H', I', q⟩ := q
  exact ⟨H', I', m _ _ q⟩
end
/-! ### data that is shown -/
theorem dpAll_str {K : PySem.W.Frag} {H : Hp} : ∀ ls : List (List Nat), DpAll K H (ls.map fun l => .str (T l)) (ls.map encT)
  | [] => .nil
  | l :: ls => .cons (.str _) (dpAll_str ls)
theorem dpAll_bl {K : PySem.W.Frag} {H : Hp} : ∀ ls : List Bool, DpAll K H (ls.map V.bl) (ls.map PyData.bool)
  | [] => .nil
  | l :: ls => .cons (.bl _) (dpAll_bl ls)
end LK

/-! the program's statements, by their names -/
namespace LK
open PySem PySem.Spec PyProof.Rows L2 LamX
def topM (i : Nat) : Stmt := PySem.Challenge.pw_missedparts_k82_whole_heard_by_sets_of_p.main.body.getD i (.Pass ⟨0, 0, 0, 0⟩)
/-- the i-th statement within the class -/
def inCls (st : Stmt) (i : Nat) : Stmt := match st with
  | .ClassDef (body := b) .. => b.getD i (.Pass ⟨0, 0, 0, 0⟩)
  | _ => .Pass ⟨0, 0, 0, 0⟩
abbrev sIsInt : Stmt := topM 4
abbrev sIsText : Stmt := topM 5
abbrev sIsOver : Stmt := topM 6
abbrev sAreLet : Stmt := topM 7
abbrev sMach : Stmt := topM 24
abbrev sInit : Stmt := inCls sMach 1
abbrev sLetters : Stmt := inCls sMach 3
abbrev sRows : Stmt := inCls sMach 4
abbrev sKinds : Stmt := inCls sMach 5
abbrev sLeast : Stmt := inCls sMach 13
abbrev sLen : Stmt := inCls sMach 14
abbrev sEq : Stmt := inCls sMach 16
abbrev sRepr : Stmt := inCls sMach 17
abbrev sMarks : Stmt := topM 25
abbrev sMkInit : Stmt := inCls sMarks 0
abbrev sMkLed : Stmt := inCls sMarks 1
abbrev sMkSome : Stmt := inCls sMarks 2
abbrev sMkStay : Stmt := inCls sMarks 3
abbrev sMkTake : Stmt := inCls sMarks 4
abbrev sNeedPl : Stmt := topM 28
abbrev sBits : Stmt := topM 29
abbrev sMetG : Stmt := topM 30
abbrev sLeastOf : Stmt := topM 31
abbrev sAlike : Stmt := topM 32
abbrev sNeedParts : Stmt := topM 33
abbrev sIsRow : Stmt := topM 34
abbrev sIsPlace : Stmt := topM 35
abbrev sMetFrom : Stmt := topM 36
abbrev sNumFrom : Stmt := topM 37
abbrev sHeardP : Stmt := topM 42
abbrev sIsLine : Stmt := topM 43
abbrev sHeardM : Stmt := topM 44
abbrev sHeardAs : Stmt := topM 45
abbrev sAreHear : Stmt := topM 46
abbrev sNeedLine : Stmt := topM 47
abbrev sPot : Stmt := topM 49
abbrev sDraw : Stmt := topM 50
abbrev sPick : Stmt := topM 51
abbrev sMixed : Stmt := topM 52
abbrev sLRows : Stmt := topM 53
abbrev sLKinds : Stmt := topM 54
abbrev sMixLine : Stmt := topM 55
abbrev sLLine : Stmt := topM 56
abbrev sMissed : Stmt := topM 57
abbrev sLBehind : Stmt := topM 58
abbrev sModel : Stmt := topM 59
abbrev sFewer : Stmt := topM 60
abbrev sHeardR : Stmt := topM 61
abbrev sRight : Stmt := topM 62
abbrev sLaw : Stmt := topM 63
end LK

/-! k14: the defs of missedparts.basics -/
namespace LK
open PySem PySem.Spec PyProof.Rows L2 LamX
open scoped List
abbrev smalls : List Nat := cs "abcdefghijklmnopqrstuvwxyz"
def Small (l : List Nat) : Prop := ∀ c ∈ l, c ∈ smalls
theorem Small.asc {l : List Nat} (h : Small l) : ∀ c ∈ l, c < 128 := fun c hc => by
  have k : ∀ d ∈ smalls, d < 128 := by decide +kernel
  exact k c (h c hc)
/-- the letters of a machine -/
structure LetOk (S : List Nat) : Prop where
  up : Ris1 S
  sm : Small S
  lo : 1 ≤ S.length
  hi : S.length ≤ 3
abbrev iv (row : List Nat) : List V := row.map fun (g : Nat) => V.int (g : Int)
section
variable {X : Cx} {a b c : Expr} {ta tb tc : TE} {pos : Pos}
theorem pt_ch {op op' : CmpOp} {r r' : R2} (ho : OpR X (compareOp op) r) (ho' : OpR X (compareOp op') r') (ha : PE X a ta) (hb : PE X b tb) (hc : PE X c tc)
    (hm : lastMarks [op, op'] [b, c] = false := by with_unfolding_all rfl) : PT X (.Compare a [op, op'] [b, c] pos) (uT (uChain r r' ta tb tc)) := pt_chainU (t2 := ta) (pt_chain ho ho' ha hb hc hm)
theorem pe_ch {op op' : CmpOp} {r r' : R2} (ho : OpR X (compareOp op) r) (ho' : OpR X (compareOp op') r') (ha : PE X a ta) (hb : PE X b tb) (hc : PE X c tc)
    (hm : lastMarks [op, op'] [b, c] = false := by with_unfolding_all rfl) : PE X (.Compare a [op, op'] [b, c] pos) (uChain r r' ta tb tc) := pe_chainU ho ho' ha hb hc (pe_chain ho ho' ha hb hc hm)
end
section
variable {P : Program} {w : World} {K : PySem.W.Frag} {mg : Str → Option Value} {base : Heap}
theorem scIsInt : FnScope ["value"] ["value"] (defScope sIsInt) := ⟨rfl, rfl, rfl, by decide +kernel, rfl, by decide +kernel, by decide +kernel⟩
def spIsInt : Sp := fun vs H Q _ => ∃ i, vs = [.int i] ∧ Q (.bl true) H
theorem ok_isInt {f : Addr} {fd : FuncData} {k : Nat} (F : Fun K "is_integer" "is_integer" sIsInt f fd) (M : Mx mg) : FnG P w K mg base CX0 (k + 1) f fd ["value"] spIsInt := by
  refine okG F scIsInt (fun vs H Q E h => ?_) (fun cdv A hA outer s H vs Q E hr h => ?_)
  · obtain ⟨i, rfl, _⟩ := h; rfl
  · obtain ⟨i, rfl, q⟩ := h
    refine ⟨_, pss_one (ps_ret (pe_andU (pe_callB call_isi (by rfl) M.isi b_isi (pa_cons (uv 0) (pa_cons (pe_bltn (by rfl) M.int b_int (v := .ty "int") (by rfl)) pa_nil)))
      (pe_one (pe_notU (pe_callB call_isi (by rfl) M.isi b_isi (pa_cons (uv 0) (pa_cons (pe_bltn (by rfl) M.bool b_bool (v := .ty "bool") (by rfl)) pa_nil))))))), ?_⟩
    refine ⟨_, _, _, _, true, rfl, .ty _, .base (.int _), rfl, .yes ?_⟩
    exact ⟨_, _, _, _, false, rfl, .ty _, .base (.int _), rfl, q⟩
theorem scIsText : FnScope ["value", "letter"] ["value"] (defScope sIsText) := ⟨rfl, rfl, rfl, by decide +kernel, rfl, by decide +kernel, by decide +kernel⟩
def spIsText : Sp := fun vs H Q _ => ∃ l, vs = [.str (T l)] ∧ Small l ∧ l.length ≤ 1000000 ∧ ∀ H', Same H H' → Q (.bl true) H'
theorem ok_isText {f : Addr} {fd : FuncData} {k : Nat} {tS : Tok} (F : Fun K "is_text" "is_text" sIsText f fd) (M : Mx mg) (gS : mg "SMALL_LETTERS" = some (.str "abcdefghijklmnopqrstuvwxyz" tS)) :
    FnG P w K mg base CX0 (k + 1) f fd ["value"] spIsText := by
  refine okG F scIsText (fun vs H Q E h => ?_) (fun cdv A hA outer s H vs Q E hr h => ?_)
  · obtain ⟨l, rfl, _⟩ := h; rfl
  · obtain ⟨l, rfl, hs, hl, q⟩ := h
    refine ⟨_, pss_one (ps_ret (pe_andU (pe_callB call_isi (by rfl) M.isi b_isi (pa_cons (uv 0) (pa_cons (pe_bltn (by rfl) M.str b_str (v := .ty "str") (by rfl)) pa_nil)))
      (pe_one (pe_callB (c_all rfl) (by rfl) M.all b_all (pa_cons (pe_lc (own := [("letter", 1)]) (g := gName 1) (tt := tYes) rfl scIsText.nd (pi_str (uv 0)) (blkOk_by (N := ["value", "letter"]) (sc := defScope sIsText) (by decide +kernel))
        (fun _ _ _ _ _ => pg_name (i := 1) scIsText.nd rfl (Or.inl rfl)) (fun _ _ _ _ _ => pts_nil)
        (fun _ _ _ _ _ => pe_cmpR op_in_sign (uv 1) (pe_glob (v := .str "abcdefghijklmnopqrstuvwxyz") (by rfl) gS ⟨tS, rfl⟩) (by rfl))) pa_nil))))), ?_⟩
    refine ⟨_, _, _, _, true, rfl, .ty _, .base (.str _), rfl, .yes ?_⟩
    dsimp only [tCB, tCons]
    refine lc_str (l := l) (H1 := H) (by exact fun _ h => h) (fun D pre acc H1 => H1 = upd H D (.lst acc) ∧ acc = (pre.map fun _ => true).map V.bl) (fun D nD => ⟨rfl, rfl⟩) (fun D nD pre acc c suf H1 e r => ?_) (fun D nD acc H1 r => ?_)
    · obtain ⟨rfl, rfl⟩ := r
      refine ⟨rfl, c, _, rfl, rfl, _, upd_same, ?_, _, upd_upd, ?_⟩
      · have : pre.length < l.length := by rw [e]; simp
        rw [List.length_map, List.length_map, List.length_map]
        have := sizeLine_eq; omega
      · have hc : c ∈ smalls := hs c (by rw [e]; simp)
        have hd : decide (c ∈ (Str.ofString "abcdefghijklmnopqrstuvwxyz").cps.toList) = true := decide_eq_true hc
        rw [hd]
        simp [lets]
    · obtain ⟨rfl, rfl⟩ := r
      refine ⟨_, .inl (.inl upd_same), ?_⟩
      have : (((lets l).map fun _ => true).all id) = true := by simp
      show Q (.bl (((lets l).map fun _ => true).all id)) _
      rw [this]
      exact q _ (same_upd nD)
theorem scIsOver : FnScope ["value", "letters", "letter"] ["value", "letters"] (defScope sIsOver) := ⟨rfl, rfl, rfl, by decide +kernel, rfl, by decide +kernel, by decide +kernel⟩
/-- a text: whether its signs are of the letters; anything else: False -/
def spIsOver (K : PySem.W.Frag) : Sp := fun vs H Q _ => ∃ S x, vs = [x, .str (T S)] ∧
  ((∃ l, x = .str (T l) ∧ l.length ≤ 1000000 ∧ ∀ H', Same H H' → Q (.bl (decide (∀ c ∈ l, c ∈ S))) H') ∨ ∃ t, TyX K H x t ∧ PySem.W.kitOne K t (.type "str") = some false ∧ Q (.bl false) H)
theorem ok_isOver {f : Addr} {fd : FuncData} {k : Nat} (F : Fun K "is_over" "is_over" sIsOver f fd) (M : Mx mg) : FnG P w K mg base CX0 (k + 1) f fd ["value", "letters"] (spIsOver K) := by
  refine okG F scIsOver (fun vs H Q E h => ?_) (fun cdv A hA outer s H vs Q E hr h => ?_)
  · obtain ⟨S, x, rfl, _⟩ := h; rfl
  · obtain ⟨S, x, rfl, q⟩ := h
    refine ⟨_, pss_one (ps_ret (pe_andU (pe_callB call_isi (by rfl) M.isi b_isi (pa_cons (uv 0) (pa_cons (pe_bltn (by rfl) M.str b_str (v := .ty "str") (by rfl)) pa_nil)))
      (pe_one (pe_callB (c_all rfl) (by rfl) M.all b_all (pa_cons (pe_lc (own := [("letter", 2)]) (g := gName 2) (tt := tYes) rfl scIsOver.nd (pi_str (uv 0)) (blkOk_by (N := ["value", "letters", "letter"]) (sc := defScope sIsOver) (by decide +kernel))
        (fun _ _ _ _ _ => pg_name (i := 2) scIsOver.nd rfl (Or.inl rfl)) (fun _ _ _ _ _ => pts_nil)
        (fun _ _ _ _ _ => pe_cmpR op_in_sign (uv 2) (uv 1) (by rfl))) pa_nil))))), ?_⟩
    rcases q with ⟨l, rfl, hl, q⟩ | ⟨t, ty, hk, q⟩
    · refine ⟨_, _, _, _, true, rfl, .ty _, .base (.str _), rfl, .yes ?_⟩
      dsimp only [tCB, tCons]
      refine lc_str (l := l) (H1 := H) (by exact fun _ h => h) (fun D pre acc H1 => ∃ p, pre = lets p ∧ H1 = upd H D (.lst acc) ∧ acc = (p.map fun c => decide (c ∈ S)).map V.bl) (fun D nD => ⟨[], rfl, rfl, rfl⟩) (fun D nD pre acc c suf H1 e r => ?_) (fun D nD acc H1 r => ?_)
      · obtain ⟨p, ep, rfl, rfl⟩ := r
        refine ⟨rfl, c, _, rfl, rfl, _, upd_same, ?_, _, p ++ [c], ?_, upd_upd, ?_⟩
        · have : p.length = pre.length := by have := congrArg List.length ep; simpa using this.symm
          have : pre.length < l.length := by rw [e]; simp
          rw [List.length_map, List.length_map]
          have := sizeLine_eq; omega
        · rw [show lets (pre ++ [c]) = lets pre ++ [.str (T [c])] by simp [lets], ep]; simp [lets]
        · rw [List.map_append, List.map_append]; rfl
      · obtain ⟨p, ep, rfl, rfl⟩ := r
        refine ⟨_, .inl (.inl upd_same), ?_⟩
        have inj : ∀ a b : Nat, V.str (T [a]) = V.str (T [b]) → a = b := fun a b z => by
          have z1 := T_inj (V.str.inj z)
          exact (List.cons.inj z1).1
        obtain rfl : l = p := (List.map_inj_right inj).mp ep
        have e2 : ((l.map fun c => decide (c ∈ S)).all id) = decide (∀ c ∈ l, c ∈ S) := by
          rw [List.all_map, Bool.eq_iff_iff, List.all_eq_true]
          simp
        show Q (.bl ((l.map fun c => decide (c ∈ S)).all id)) _
        rw [e2]
        exact q _ (same_upd nD)
    · exact ⟨_, _, _, _, false, rfl, .ty _, ty, hk, .no q⟩
end
end LK

/-! lists of texts, of numbers, of truth values, rows of numbers: compared -/
namespace LK
open PySem PySem.Spec PyProof.Rows L2 LamX
open scoped List
/-- data that == takes, of a small depth -/
structure Flat (n : Nat) (d : PyData) : Prop where
  lay : d.canLay0 = true
  dp : d.depth ≤ n
theorem flat_int (i : Int) : Flat 0 (.int i) := ⟨rfl, Nat.le_refl _⟩
theorem flat_bl (b : Bool) : Flat 0 (.bool b) := ⟨rfl, Nat.le_refl _⟩
theorem flat_str {l : List Nat} (h : ∀ c ∈ l, c < 0x110000) : Flat 0 (.str (T l)) := ⟨by
  show (T l).cps.all _ = true
  rw [← Array.all_toList, List.all_eq_true]
  exact fun c hc => decide_eq_true (h c hc), Nat.le_refl _⟩
theorem flat_all {n : Nat} : ∀ {ds : List PyData}, (∀ d ∈ ds, Flat n d) → PyData.canLayAll0 ds = true ∧ PyData.depthAll ds ≤ n
  | [], _ => ⟨rfl, Nat.zero_le _⟩
  | d :: ds, h => by
    obtain ⟨a, b⟩ := flat_all fun x hx => h x (List.mem_cons_of_mem _ hx)
    have c := h d (by simp)
    exact ⟨by rw [PyData.canLayAll0, c.lay, a]; rfl, by rw [PyData.depthAll]; exact Nat.max_le.mpr ⟨c.dp, b⟩⟩
theorem flat_list {n : Nat} {ds : List PyData} (h : ∀ d ∈ ds, Flat n d) : Flat (n + 1) (.list ds) := by
  obtain ⟨a, b⟩ := flat_all h
  exact ⟨by rw [PyData.canLay0]; exact a, by rw [PyData.depth]; omega⟩
theorem flat_tup {n : Nat} {ds : List PyData} (h : ∀ d ∈ ds, Flat n d) : Flat (n + 1) (.tuple ds) := by
  obtain ⟨a, b⟩ := flat_all h
  exact ⟨by rw [PyData.canLay0]; exact a, by rw [PyData.depth]; omega⟩
theorem Flat.shaped {n : Nat} {d : PyData} (h : Flat n d) (hn : n ≤ 64) : SeqAt.shaped d = true := by
  show (d.canLay0 && decide (d.depth ≤ 64)) = true
  rw [h.lay, decide_eq_true (Nat.le_trans h.dp hn)]; rfl
/-- equal data answers True -/
theorem eqv_all_iff {α : Type} {f : α → PyData} (hf : ∀ a b, PyData.eqv (f a) (f b) = true ↔ a = b) : ∀ {as bs : List α}, PyData.eqvAll (as.map f) (bs.map f) = true ↔ as = bs
  | [], [] => by simp [PyData.eqvAll]
  | [], _ :: _ => by simp [PyData.eqvAll]
  | _ :: _, [] => by simp [PyData.eqvAll]
  | a :: as, b :: bs => by
    show (PyData.eqv (f a) (f b) && PyData.eqvAll (as.map f) (bs.map f)) = true ↔ _
    rw [Bool.and_eq_true, hf, eqv_all_iff hf, List.cons.injEq]
abbrev encR (r : List Nat) : PyData := .list (r.map fun (g : Nat) => .int (g : Int))
abbrev encRs (R : List (List Nat)) : PyData := .list (R.map encR)
abbrev encB (k : List Bool) : PyData := .list (k.map .bool)
abbrev encTs (ls : List (List Nat)) : PyData := .list (ls.map encT)
theorem eqv_row {a b : List Nat} : PyData.eqv (encR a) (encR b) = true ↔ a = b := by
  show PyData.eqvAll _ _ = true ↔ _
  refine eqv_all_iff (f := fun (g : Nat) => PyData.int (g : Int)) fun x y => ?_
  show ((x : Int) == (y : Int)) = true ↔ _
  rw [beq_iff_eq]; omega
theorem eqv_rows {a b : List (List Nat)} : PyData.eqv (encRs a) (encRs b) = true ↔ a = b := by
  show PyData.eqvAll _ _ = true ↔ _
  exact eqv_all_iff (f := encR) fun x y => eqv_row
theorem eqv_kinds {a b : List Bool} : PyData.eqv (encB a) (encB b) = true ↔ a = b := by
  show PyData.eqvAll _ _ = true ↔ _
  refine eqv_all_iff (f := PyData.bool) fun x y => ?_
  show (x == y) = true ↔ _
  rw [beq_iff_eq]
theorem eqv_strs {a b : List (List Nat)} : PyData.eqv (encTs a) (encTs b) = true ↔ a = b := by
  show PyData.eqvAll _ _ = true ↔ _
  refine eqv_all_iff (f := encT) fun x y => ?_
  show (T x == T y) = true ↔ _
  rw [beq_iff_eq]
  exact ⟨T_inj, fun e => by rw [e]⟩
theorem flat_rows (R : List (List Nat)) : Flat 2 (encRs R) := flat_list fun d hd => by
  obtain ⟨r, _, rfl⟩ := List.mem_map.mp hd
  exact flat_list fun d hd => by
    obtain ⟨g, _, rfl⟩ := List.mem_map.mp hd
    exact flat_int _
theorem flat_kinds (k : List Bool) : Flat 1 (encB k) := flat_list fun d hd => by
  obtain ⟨g, _, rfl⟩ := List.mem_map.mp hd
  exact flat_bl _
theorem flat_strs {ls : List (List Nat)} (h : ∀ l ∈ ls, ∀ c ∈ l, c < 0x110000) : Flat 1 (encTs ls) := flat_list fun d hd => by
  obtain ⟨g, hg, rfl⟩ := List.mem_map.mp hd
  exact flat_str (h g hg)
section
variable {K : PySem.W.Frag} {H : Hp}
theorem dp_lst {a : Addr} {xs : List V} {ds : List PyData} (h : SqL K H a xs) (e : DpAll K H xs ds) : Dp K H (.ref a) (.list ds) := .lst h e
theorem dpAll_lets (l : List Nat) : DpAll K H (lets l) ((l.map fun c => [c]).map encT) := by
  induction l with
  | nil => exact .nil
  | cons c l ih => exact .cons (.str _) ih
end
end LK

namespace LK
open PySem PySem.Spec PyProof.Rows L2 LamX
open scoped List
section
variable {P : Program} {w : World} {K : PySem.W.Frag} {mg : Str → Option Value} {base : Heap}
theorem scAreLet : FnScope ["value"] ["value"] (defScope sAreLet) := ⟨rfl, rfl, rfl, by decide +kernel, rfl, by decide +kernel, by decide +kernel⟩
def spAreLet : Sp := fun vs H Q _ => ∃ S, vs = [.str (T S)] ∧ LetOk S ∧ ∀ H', Same H H' → Q (.bl true) H'
theorem ok_areLet {f : Addr} {fd : FuncData} {k : Nat} {t3 : Tok} (F : Fun K "are_letters" "are_letters" sAreLet f fd) (M : Mx mg) (gM : mg "MOST_LETTERS" = some (.int 3 t3)) (HT : Has P w K mg base k "is_text" ["value"] spIsText) :
    FnG P w K mg base CX0 (k + 1) f fd ["value"] spAreLet := by
  refine okG F scAreLet (fun vs H Q E h => ?_) (fun cdv A hA outer s H vs Q E hr h => ?_)
  · obtain ⟨i, rfl, _⟩ := h; rfl
  · obtain ⟨S, rfl, ok, q⟩ := h
    refine ⟨_, pss_cons (ps_ifU (PW.pt (pw_orU (pt_not (pt_u (pe_callH HT hA hr (by rfl) (pa_cons (uv 0) pa_nil)))) (pw_or1 (pt_not (pt_ch o_le o_le pe_int (pe_callB c_len (by rfl) M.len b_len (pa_cons (uv 0) pa_nil)) (pe_glob (v := .int 3) (by rfl) gM ⟨t3, rfl⟩))))))
        (pss_one (ps_ret pe_bl)) pss_nil)
      (pss_one (ps_ret (pe_cu (o_eq hr.units) (pe_callTy (c_listT rfl) (by rfl) M.list b_list (pa_cons (uv 0) pa_nil))
        (pe_callB (c_sortedS rfl hr.units) (by rfl) M.sorted b_sorted (pa_cons (pe_callTy (c_setT rfl) (by rfl) M.set b_set (pa_cons (uv 0) pa_nil)) pa_nil))))), ?_⟩
    have hi := ok.hi
    have lo := ok.lo
    refine ⟨S, rfl, ok.sm, by omega, fun H1 e1 => .no ⟨by show S.length ≤ sizeLine; rw [sizeLine_eq]; omega, ?_⟩⟩
    have c1 : decide ((1 : Int) ≤ (S.length : Int)) = true := decide_eq_true (by omega)
    have c2 : decide ((S.length : Int) ≤ 3) = true := decide_eq_true (by omega)
    refine ⟨fun _ => .nd (fun z => (z (by show (S.length : Int) ≤ 3; omega)).elim) fun _ => ?_, fun z => ?_⟩
    case refine_2 =>
      have z : decide ((1 : Int) ≤ (S.length : Int)) = false := z
      rw [c1] at z; cases z
    refine ⟨by show S.length ≤ sizeLine; rw [sizeLine_eq]; omega, fun p np => ?_⟩
    refine ⟨ok.up, ok.sm.asc, by show S.length ≤ 100; omega, fun p2 np2 => ?_⟩
    have n2 : p ≠ p2 := ne_of_none upd_same np2
    refine ⟨S, upd_same, ok.up, by omega, fun p3 np3 => ?_⟩
    have n3 : p ≠ p3 := fun z => by rw [← z, upd_ne n2, upd_same] at np3; cases np3
    have l1 : SqL K (upd (upd (upd H1 p (.lst (lets (cs (T S))))) p2 (SetS P w p2 (cs (T S)).reverse)) p3 (.lst (lets S))) p (lets S) := .inl (.inl (by rw [upd_ne n3, upd_ne n2]; exact upd_same))
    have l2 : SqL K (upd (upd (upd H1 p (.lst (lets (cs (T S))))) p2 (SetS P w p2 (cs (T S)).reverse)) p3 (.lst (lets S))) p3 (lets S) := .inl (.inl upd_same)
    have sh : SeqAt.shaped (encTs (S.map fun c => [c])) = true := (flat_strs fun l hl c hc => by
      obtain ⟨d, hd, rfl⟩ := List.mem_map.mp hl
      have := ok.sm.asc d hd
      simp at hc
      omega).shaped (by decide)
    refine ⟨_, _, dp_lst l1 (dpAll_lets S), dp_lst l2 (dpAll_lets S), sh, sh, ?_⟩
    have ev : PyData.eqv (encTs (S.map fun c => [c])) (encTs (S.map fun c => [c])) = true := eqv_strs.mpr rfl
    show Q (.bl (PyData.eqv (encTs (S.map fun c => [c])) (encTs (S.map fun c => [c])))) _
    rw [ev]
    refine q _ (e1.trans ?_)
    exact ((same_upd np).trans (same_upd np2)).trans (same_upd np3)
end
end LK

namespace LK
open PySem PySem.Spec PyProof.Rows L2 LamX
open scoped List
theorem ty_sq {K : PySem.W.Frag} {tp : Bool} {H : Hp} {a : Addr} {xs : List V} (h : SqB K tp H a xs) : TyX K H (.ref a) (.type (if tp then "tuple" else "list")) := by
  cases tp
  · rcases h with (h | ⟨o, h⟩) | ⟨o, is, n, h1, h2, h3, _⟩
    · exact .base (.lst h)
    · exact .base (.frz h)
    · exact .kList h1 h2
  · rcases h with (h | ⟨o, h⟩) | ⟨o, is, n, h1, h2, h3, _⟩
    · exact .base (.tup h)
    · exact .fTuple h
    · exact .kTuple h1 h2
theorem SqB.ext {K : PySem.W.Frag} {tp : Bool} {H H' : Hp} {a : Addr} {xs : List V} (h : SqB K tp H a xs) (e : Same H H') : SqB K tp H' a xs := by
  cases tp
  · rcases h with (h | ⟨o, h⟩) | h
    · exact .inl (.inl (e _ _ h))
    · exact .inl (.inr ⟨o, e _ _ h⟩)
    · exact .inr h
  · rcases h with (h | ⟨o, h⟩) | h
    · exact .inl (.inl (e _ _ h))
    · exact .inl (.inr ⟨o, e _ _ h⟩)
    · exact .inr h
theorem SqB.or {K : PySem.W.Frag} {tp : Bool} {H : Hp} {a : Addr} {xs : List V} (h : SqB K tp H a xs) : SqL K H a xs ∨ SqT K H a xs := by
  cases tp
  · exact .inl h
  · exact .inr h
section
variable {P : Program} {w : World} {K : PySem.W.Frag} {mg : Str → Option Value} {base : Heap}
theorem scIsPlace : FnScope ["value", "many"] ["value", "many"] (defScope sIsPlace) := ⟨rfl, rfl, rfl, by decide +kernel, rfl, by decide +kernel, by decide +kernel⟩
def spIsPlace : Sp := fun vs H Q _ => ∃ (g n : Nat), vs = [.int g, .int n] ∧ g < n ∧ Q (.bl true) H
theorem ok_isPlace {f : Addr} {fd : FuncData} {k : Nat} (F : Fun K "is_place" "is_place" sIsPlace f fd) (HI : Has P w K mg base k "is_integer" ["value"] spIsInt) :
    FnG P w K mg base CX0 (k + 1) f fd ["value", "many"] spIsPlace := by
  refine okG F scIsPlace (fun vs H Q E h => ?_) (fun cdv A hA outer s H vs Q E hr h => ?_)
  · obtain ⟨g, n, rfl, _⟩ := h; rfl
  · obtain ⟨g, n, rfl, hg, q⟩ := h
    refine ⟨_, pss_one (ps_ret (pe_andU (pe_callH HI hA hr (by rfl) (pa_cons (uv 0) pa_nil)) (pe_one (pe_ch o_le o_lt pe_int (uv 0) (uv 1))))), ?_⟩
    refine ⟨_, rfl, .yes ⟨fun _ => ?_, fun z => ?_⟩⟩
    · have e : decide ((g : Int) < (n : Int)) = true := decide_eq_true (by omega)
      show Q (.bl (decide ((g : Int) < (n : Int)))) H
      rw [e]; exact q
    · have z : decide ((0 : Int) ≤ (g : Int)) = false := z
      rw [decide_eq_true (by omega)] at z; cases z
theorem scIsRow : FnScope ["value", "many_letters", "many_places", "goal"] ["value", "many_letters", "many_places"] (defScope sIsRow) := ⟨rfl, rfl, rfl, by decide +kernel, rfl, by decide +kernel, by decide +kernel⟩
def spIsRow (K : PySem.W.Frag) : Sp := fun vs H Q _ => ∃ (a : Addr) (n m : Nat) (row : List Nat) (tp : Bool), vs = [.ref a, .int m, .int n] ∧ SqB K tp H a (iv row) ∧ row.length = m ∧ m ≤ 100 ∧ (∀ g ∈ row, g < n) ∧ ∀ H', Same H H' → Q (.bl true) H'
theorem ok_isRow {f : Addr} {fd : FuncData} {k : Nat} (F : Fun K "_is_row" "_is_row" sIsRow f fd) (M : Mx mg) (HP : Has P w K mg base k "is_place" ["value", "many"] spIsPlace) :
    FnG P w K mg base CX0 (k + 1) f fd ["value", "many_letters", "many_places"] (spIsRow K) := by
  refine okG F scIsRow (fun vs H Q E h => ?_) (fun cdv A hA outer s H vs Q E hr h => ?_)
  · obtain ⟨a, n, m, row, tp, rfl, _⟩ := h; rfl
  · obtain ⟨a, n, m, row, tp, rfl, hs, hm, hm2, hg, q⟩ := h
    refine ⟨_, pss_cons (ps_ifU (PW.pt (pw_orU (pt_not (pt_u (pe_callB call_isiT (by rfl) M.isi b_isi (pa_cons (uv 0) (pa_cons (pe_tup (pa_cons (pe_bltn (by rfl) M.list b_list (v := .ty "list") (by rfl)) (pa_cons (pe_bltn (by rfl) M.tuple b_tuple (v := .ty "tuple") (by rfl)) pa_nil))) pa_nil)))))
          (pw_or1 (pt_cu (o_ne hr.units) (pe_callB c_len (by rfl) M.len b_len (pa_cons (uv 0) pa_nil)) (uv 1)))))
        (pss_one (ps_ret pe_bl)) pss_nil)
      (pss_one (ps_ret (pe_callB (c_all rfl) (by rfl) M.all b_all (pa_cons (pe_lc (own := [("goal", 3)]) (g := gName 3) (tt := tYes) rfl scIsRow.nd (pi_sq (uv 0)) (blkOk_by (N := ["value", "many_letters", "many_places", "goal"]) (sc := defScope sIsRow) (by decide +kernel))
        (fun _ _ _ _ _ => pg_name (i := 3) scIsRow.nd rfl (Or.inl rfl)) (fun _ _ _ _ _ => pts_nil)
        (fun _ _ _ _ _ => pe_callH HP hA hr (by rfl) (pa_cons (uv 3) (pa_cons (uv 2) pa_nil)))) pa_nil)))), ?_⟩
    refine ⟨by show 2 ≤ sizeLine; decide, fun p np => ?_⟩
    have hs1 : SqB K tp (upd H p (.tup [.ty "list", .ty "tuple"])) a (iv row) := hs.ext (same_upd np)
    refine ⟨_, p, _, _, [.type "list", .type "tuple"], true, rfl, upd_same, .cons (.ty _) (.cons (.ty _) .nil), ty_sq hs1, ?_, .no ?_⟩
    · cases tp
      · rfl
      · rfl
    refine .inl ⟨iv row, hs1.or, ?_⟩
    have e : decide (((iv row).length : Int) = (m : Int)) = true := decide_eq_true (by rw [List.length_map]; omega)
    show Br (!decide (((iv row).length : Int) = (m : Int))) _ _
    rw [e]
    refine .no ?_
    dsimp only [tNext, tRet, tCB, tCons]
    refine lc_sq (K := K) (t := uVar 0) (a := a) (xs := iv row) (tp := tp) (H1 := upd H p (.tup [.ty "list", .ty "tuple"])) (by exact fun _ h => h) hs1 (fun D pre acc H1 => H1 = upd (upd H p (.tup [.ty "list", .ty "tuple"])) D (.lst acc) ∧ acc = (pre.map fun _ => true).map V.bl ∧ upd H p (.tup [.ty "list", .ty "tuple"]) D = none)
      (fun D pre acc H1 r => by obtain ⟨rfl, _, n⟩ := r; exact hs1.ext (same_upd n)) (fun D nD => ⟨rfl, rfl, nD⟩) (fun D nD pre acc x suf H1 e r => ?_) (fun D nD acc H1 r => ?_)
    · obtain ⟨rfl, rfl, _⟩ := r
      obtain ⟨p1, q1, e1, e2, e3⟩ := List.map_eq_append_iff.mp e
      obtain ⟨g, q2, e4, e5, e6⟩ := List.map_eq_cons_iff.mp e3
      subst e5
      refine ⟨rfl, g, n, rfl, hg g (by rw [e1, e4]; simp), _, upd_same, ?_, _, upd_upd, ?_, nD⟩
      · have l1 : pre.length < (iv row).length := by rw [e]; simp
        rw [List.length_map] at l1
        rw [List.length_map, List.length_map]
        have := sizeLine_eq; omega
      · rw [List.map_append, List.map_append]; rfl
    · obtain ⟨rfl, rfl, _⟩ := r
      refine ⟨_, .inl (.inl upd_same), ?_⟩
      have e : (((iv row).map fun _ => true).all id) = true := by simp
      show Q (.bl (((iv row).map fun _ => true).all id)) _
      rw [e]
      exact q _ ((same_upd np).trans (same_upd nD))
end
end LK

namespace LK
open PySem PySem.Spec PyProof.Rows L2 LamX ClX
open scoped List
/-- rows as they are passed: a list or tuple of lists or tuples -/
def RowsAt (K : PySem.W.Frag) (H : Hp) (a : Addr) (R : Rows) : Prop := ∃ (tp : Bool) (rs : List Addr), SqB K tp H a (rs.map V.ref) ∧ rs.length = R.length ∧ ∀ i p, rs[i]? = some p → ∃ t2, SqB K t2 H p (iv (gls R i))
def KindsAt (K : PySem.W.Frag) (H : Hp) (a : Addr) (Kd : List Bool) : Prop := ∃ tp : Bool, SqB K tp H a (Kd.map V.bl)
theorem RowsAt.ext {K : PySem.W.Frag} {H H' : Hp} {a : Addr} {R : Rows} (h : RowsAt K H a R) (e : Same H H') : RowsAt K H' a R := by
  obtain ⟨tp, rs, h1, h2, h3⟩ := h
  exact ⟨tp, rs, h1.ext e, h2, fun i p hp => by
    obtain ⟨t2, h⟩ := h3 i p hp
    exact ⟨t2, h.ext e⟩⟩
theorem KindsAt.ext {K : PySem.W.Frag} {H H' : Hp} {a : Addr} {Kd : List Bool} (h : KindsAt K H a Kd) (e : Same H H') : KindsAt K H' a Kd := by
  obtain ⟨tp, h⟩ := h; exact ⟨tp, h.ext e⟩
/-- a right sheet -/
structure ShOk (S : List Nat) (R : Rows) (Kd : List Bool) : Prop where
  let_ : LetOk S
  rows : RowsOk R S.length
  lo : 1 ≤ R.length
  hi : R.length ≤ 40
  kinds : Kd.length = R.length
section
variable {P : Program} {w : World} {K : PySem.W.Frag} {mg : Str → Option Value} {base : Heap}
theorem scNeedParts : FnScope ["letters", "rows", "kinds", "position", "row", "kind"] ["letters", "rows", "kinds"] (defScope sNeedParts) := ⟨rfl, rfl, rfl, by decide +kernel, rfl, by decide +kernel, by decide +kernel⟩
def spNeedParts (K : PySem.W.Frag) : Sp := fun vs H Q _ => ∃ (r k : Addr) (S : List Nat) (R : Rows) (Kd : List Bool), vs = [.str (T S), .ref r, .ref k] ∧ ShOk S R Kd ∧ RowsAt K H r R ∧ KindsAt K H k Kd ∧ ∀ H', Same H H' → Q .non H'
theorem ok_needParts {f CM : Addr} {mc u : Value} {fd : FuncData} {k : Nat} (F : Fun K "_need_parts" "_need_parts" sNeedParts f fd) (M : Mx mg) (HL : Has P w K mg base k "are_letters" ["value"] spAreLet)
    (HR : Has P w K mg base k "_is_row" ["value", "many_letters", "many_places"] (spIsRow K)) (gM : mg "Machine" = some (.ref CM)) (cr : CRead K CM mc) (cv : CVal K CM mc "MOST_PLACES" (.int 40) u) :
    FnG P w K mg base CX0 (k + 1) f fd ["letters", "rows", "kinds"] (spNeedParts K) := by
  refine okG F scNeedParts (fun vs H Q E h => ?_) (fun cdv A hA outer s H vs Q E hr h => ?_)
  · obtain ⟨r, k, S, R, Kd, rfl, _⟩ := h; rfl
  · obtain ⟨r, k, S, R, Kd, rfl, ok, hR, hK, q⟩ := h
    have nd := scNeedParts.nd
    refine ⟨_, pss_cons (ps_ifU (pt_not (pt_u (pe_callH HL hA hr (by rfl) (pa_cons (uv 0) pa_nil)))) (pss_one ps_never) pss_nil)
      (pss_cons (ps_ifU (PW.pt (pw_orU (pt_not (pt_u (pe_callB call_isiT (by rfl) M.isi b_isi (pa_cons (uv 1) (pa_cons (pe_tup (pa_cons (pe_bltn (by rfl) M.list b_list (v := .ty "list") (by rfl)) (pa_cons (pe_bltn (by rfl) M.tuple b_tuple (v := .ty "tuple") (by rfl)) pa_nil))) pa_nil)))))
          (pw_or1 (pt_cu (o_eq hr.units) (pe_callB c_len (by rfl) M.len b_len (pa_cons (uv 1) pa_nil)) pe_int)))) (pss_one ps_never) pss_nil)
      (pss_cons (ps_for PassesOwn.never rfl (pi_enumB (by rfl) M.enumerate (pa_cons (uv 1) pa_nil)) (pg_tup rfl (pgs_cons (pg_name (i := 3) nd rfl (.inl rfl)) (pgs_cons (pg_name (i := 4) nd rfl (.inl rfl)) pgs_nil)))
        (pss_one (ps_ifU (pt_not (pt_u (pe_callH HR hA hr (by rfl) (pa_cons (uv 4) (pa_cons (pe_callB c_len (by rfl) M.len b_len (pa_cons (uv 0) pa_nil)) (pa_cons (pe_callB c_len (by rfl) M.len b_len (pa_cons (uv 1) pa_nil)) pa_nil)))))) (pss_one ps_never) pss_nil)))
      (pss_cons (ps_ifU (PW.pt (pw_orU (pt_not (pt_u (pe_callB call_isiT (by rfl) M.isi b_isi (pa_cons (uv 2) (pa_cons (pe_tup (pa_cons (pe_bltn (by rfl) M.list b_list (v := .ty "list") (by rfl)) (pa_cons (pe_bltn (by rfl) M.tuple b_tuple (v := .ty "tuple") (by rfl)) pa_nil))) pa_nil)))))
          (pw_or1 (pt_cu (o_ne hr.units) (pe_callB c_len (by rfl) M.len b_len (pa_cons (uv 2) pa_nil)) (pe_callB c_len (by rfl) M.len b_len (pa_cons (uv 1) pa_nil)))))) (pss_one ps_never) pss_nil)
      (pss_cons (ps_for PassesOwn.never rfl (pi_enumB (by rfl) M.enumerate (pa_cons (uv 2) pa_nil)) (pg_tup rfl (pgs_cons (pg_name (i := 3) nd rfl (.inl rfl)) (pgs_cons (pg_name (i := 5) nd rfl (.inl rfl)) pgs_nil)))
        (pss_one (ps_ifU (pt_not (pt_u (pe_callB call_isi (by rfl) M.isi b_isi (pa_cons (uv 5) (pa_cons (pe_bltn (by rfl) M.bool b_bool (v := .ty "bool") (by rfl)) pa_nil))))) (pss_one ps_never) pss_nil)))
      (pss_one (ps_ifU (pt_cu o_gt (pe_callB c_len (by rfl) M.len b_len (pa_cons (uv 1) pa_nil)) (pe_cval (pe_glob (v := .ref CM) (by rfl) gM rfl))) (pss_one ps_never) pss_nil)))))), ?_⟩
    have lo := ok.lo
    have hi := ok.hi
    have sl := sizeLine_eq
    refine ⟨S, rfl, ok.let_, fun H1 e1 => .no ?_⟩
    refine ⟨by show 2 ≤ sizeLine; decide, fun p np => ?_⟩
    have e2 := e1.trans (same_upd (o := .tup [.ty "list", .ty "tuple"]) np)
    obtain ⟨tp, rs, hs, hl, hrow⟩ := hR.ext e2
    refine ⟨_, p, _, _, [.type "list", .type "tuple"], true, rfl, upd_same, .cons (.ty _) (.cons (.ty _) .nil), ty_sq hs, by cases tp <;> rfl, .no ?_⟩
    refine .inl ⟨rs.map V.ref, hs.or, ?_⟩
    have n0 : decide (((rs.map V.ref).length : Int) = 0) = false := decide_eq_false (by rw [List.length_map]; omega)
    show Br (decide (((rs.map V.ref).length : Int) = 0)) _ _
    rw [n0]
    refine .no ?_
    dsimp only [tNext, tSeq]
    have look : ∀ {H2 : Hp}, Same (upd H1 p (.tup [.ty "list", .ty "tuple"])) H2 → SqB K tp H2 r (rs.map V.ref) ∧ ∀ i q, rs[i]? = some q → ∃ t2, SqB K t2 H2 q (iv (gls R i)) := fun e => ⟨hs.ext e, fun i q hq => by
      obtain ⟨t2, h⟩ := hrow i q hq
      exact ⟨t2, h.ext e⟩⟩
    generalize upd H1 p (.tup [.ty "list", .ty "tuple"]) = Ha at e2 hs hrow look
    refine for_enB (K := K) (tp := tp) (a := r) (xs := rs.map V.ref) (H1 := Ha) (by exact fun _ h => h) hs (fun i σ H2 => Same Ha H2 ∧ ∃ y3 y4, σ = [some (.str (T S)), some (.ref r), some (.ref k), y3, y4, none]) (fun i σ H2 iv => (look iv.1).1) ⟨Same.refl _, none, none, rfl⟩ (fun i x p2 σ H2 hx iv np2 => ?_) (fun σ H2 iv => ?_)
    · obtain ⟨e3, y3, y4, rfl⟩ := iv
      rw [List.getElem?_map] at hx
      obtain ⟨q2, hq2, rfl⟩ := Option.map_eq_some_iff.mp hx
      have e4 := e3.trans (same_upd (o := .tup [.int (i : Nat), .ref q2]) np2)
      obtain ⟨hs3, hrow3⟩ := look e4
      obtain ⟨t2, hq3⟩ := hrow3 i q2 hq2
      have li : i < R.length := by
        have := (List.getElem?_eq_some_iff.mp hq2).1
        omega
      refine ⟨p2, _, rfl, .inl (.inl upd_same), rfl, _, _, rfl, _, _, rfl, rfl, ?_⟩
      refine ⟨by show S.length ≤ sizeLine; have := ok.let_.hi; omega, .inl ⟨rs.map V.ref, hs3.or, ?_⟩⟩
      have e5 : (rs.map V.ref).length = R.length := by rw [List.length_map, hl]
      refine ⟨q2, (rs.map V.ref).length, S.length, gls R i, t2, rfl, hq3, gls_len ok.rows li, by have := ok.let_.hi; omega, fun g hg => by rw [e5]; exact gls_lt ok.rows hg, fun H3 e6 => .no ?_⟩
      exact ⟨e4.trans e6, _, _, rfl⟩
    obtain ⟨e3, y3, y4, rfl⟩ := iv
    refine ⟨by show 2 ≤ sizeLine; decide, fun p2 np2 => ?_⟩
    have e4 := e3.trans (same_upd (o := .tup [.ty "list", .ty "tuple"]) np2)
    obtain ⟨tk, hk⟩ := hK.ext (e2.trans e4)
    refine ⟨_, p2, _, _, [.type "list", .type "tuple"], true, rfl, upd_same, .cons (.ty _) (.cons (.ty _) .nil), ty_sq hk, by cases tk <;> rfl, .no ?_⟩
    have e5 : (rs.map V.ref).length = R.length := by rw [List.length_map, hl]
    refine .inl ⟨Kd.map V.bl, hk.or, .inl ⟨rs.map V.ref, (look e4).1.or, ?_⟩⟩
    have n1 : decide (((Kd.map V.bl).length : Int) = ((rs.map V.ref).length : Int)) = true := decide_eq_true (by rw [e5, List.length_map, ok.kinds])
    show Br (!decide (((Kd.map V.bl).length : Int) = ((rs.map V.ref).length : Int))) _ _
    rw [n1]
    refine .no ?_
    generalize upd H2 p2 (.tup [.ty "list", .ty "tuple"]) = Hb at e4 hk
    dsimp only [tNext, tSeq]
    refine for_enB (K := K) (tp := tk) (a := k) (xs := Kd.map V.bl) (H1 := Hb) (by exact fun _ h => h) hk (fun i σ H2 => Same Hb H2 ∧ ∃ y3 y4 y5, σ = [some (.str (T S)), some (.ref r), some (.ref k), y3, y4, y5]) (fun i σ H2 iv => hk.ext iv.1) ⟨Same.refl _, _, _, _, rfl⟩ (fun i x p3 σ H3 hx iv np3 => ?_) (fun σ H3 iv => ?_)
    · obtain ⟨e6, y3, y4, y5, rfl⟩ := iv
      rw [List.getElem?_map] at hx
      obtain ⟨b, _, rfl⟩ := Option.map_eq_some_iff.mp hx
      refine ⟨p3, _, rfl, .inl (.inl upd_same), rfl, _, _, rfl, _, _, rfl, rfl, ?_⟩
      refine ⟨_, _, _, _, true, rfl, .ty _, .base (.bl _), rfl, .no ?_⟩
      exact ⟨e6.trans (same_upd np3), _, _, _, rfl⟩
    obtain ⟨e6, y3, y4, y5, rfl⟩ := iv
    refine .inl ⟨rs.map V.ref, (look (e4.trans e6)).1.or, ?_⟩
    refine ⟨CM, mc, _, u, rfl, cr, cv, ?_⟩
    have n2 : decide ((40 : Int) < ((rs.map V.ref).length : Int)) = false := decide_eq_false (by rw [e5]; omega)
    show Br (decide ((40 : Int) < ((rs.map V.ref).length : Int))) _ _
    rw [n2]
    exact .no (q H3 (e2.trans (e4.trans e6)))
end
end LK

/-! dicts with whole numbers as keys -/
namespace LK
open PySem PySem.Spec PyProof.Rows L2 LamX
open scoped List
abbrev kI (g : Nat) : Key := .inl (g : Int)
abbrev kmp (ps : List (Nat × V)) : List (Key × V) := ps.map fun p => (kI p.1, p.2)
theorem kI_iff {a b : Nat} : kI a = kI b ↔ a = b := ⟨fun h => by have := Sum.inl.inj h; omega, fun h => h ▸ rfl⟩
theorem val_kmp (g : Nat) : ∀ ps : List (Nat × V), valV (kmp ps) (kI g) = ps.lookup g
  | [] => rfl
  | (a, v) :: ps => by
    have ih := val_kmp g ps
    by_cases e : a = g
    · subst e
      rw [List.lookup_cons_self]
      exact valV_pos (p := (kI a, v)) rfl
    · rw [List.lookup_cons]
      have : (g == a) = false := by simpa using fun z => e z.symm
      rw [this]
      exact (valV_neg (p := (kI a, v)) fun z => e (kI_iff.mp z)).trans ih
theorem look_none {ps : List (Nat × V)} {g : Nat} : ps.lookup g = none ↔ g ∉ ps.map (·.1) := by
  induction ps with
  | nil => simp
  | cons p ps ih =>
    rw [List.lookup_cons, List.map_cons, List.mem_cons]
    by_cases e : g = p.1
    · subst e; simp
    · have : (g == p.1) = false := by simpa using e
      rw [this]
      simp [ih, e]
theorem look_isSome {ps : List (Nat × V)} {g : Nat} : (ps.lookup g).isSome = decide (g ∈ ps.map (·.1)) := by
  by_cases h : g ∈ ps.map (·.1)
  · rw [decide_eq_true h]
    cases e : ps.lookup g with
    | none => exact absurd h (look_none.mp e)
    | some v => rfl
  · rw [decide_eq_false h, look_none.mpr h]; rfl
theorem put_kmp {ps : List (Nat × V)} {g : Nat} (v : V) (h : g ∉ ps.map (·.1)) : putK (kmp ps) (kI g) v = kmp (ps ++ [(g, v)]) := by
  rw [putK_new v (by rw [val_kmp]; exact look_none.mpr h), kmp, kmp, List.map_append]; rfl
/-- places by the numbers under which they were met -/
def nums (f : List Nat) : List (Nat × V) := f.zipIdx.map fun p => (p.1, V.int (p.2 : Nat))
theorem nums_keys (f : List Nat) : (nums f).map (·.1) = f := by
  unfold nums
  rw [List.map_map]
  show f.zipIdx.map Prod.fst = f
  exact List.zipIdx_map_fst 0 f
theorem nums_len (f : List Nat) : (nums f).length = f.length := by simp [nums]
theorem nums_app (f : List Nat) (g : Nat) : nums (f ++ [g]) = nums f ++ [(g, V.int (f.length : Nat))] := by
  unfold nums
  rw [List.zipIdx_append, List.map_append]
  simp
theorem nums_look {f : List Nat} {g : Nat} (nd : f.Nodup) (h : g ∈ f) : (nums f).lookup g = some (.int (f.idxOf g : Nat)) := by
  have key : ∀ (f : List Nat) (k : Nat), g ∈ f → ((f.zipIdx k).map fun p => (p.1, V.int (p.2 : Nat))).lookup g = some (.int ((k + f.idxOf g : Nat) : Int)) := by
    intro f
    induction f with
    | nil => intro k h; cases h
    | cons a f ih =>
      intro k h
      rw [List.zipIdx_cons, List.map_cons]
      by_cases e : g = a
      · subst e; rw [List.lookup_cons_self]; simp
      · rw [List.lookup_cons]
        have : (g == a) = false := by simpa using e
        rw [this]
        have hm : g ∈ f := (List.mem_cons.mp h).resolve_left e
        have := ih (k + 1) hm
        have e2 : (a :: f).idxOf g = f.idxOf g + 1 := by
          rw [List.idxOf_cons]
          have : (a == g) = false := by simpa using fun z => e z.symm
          rw [this]; rfl
        rw [this, e2]
        show some (V.int ((k + 1 + f.idxOf g : Nat) : Int)) = some (V.int ((k + (f.idxOf g + 1) : Nat) : Int))
        rw [show k + 1 + f.idxOf g = k + (f.idxOf g + 1) by omega]
  have := key f 0 h
  rw [Nat.zero_add] at this
  exact this
/-- a loop with while, its turns numbered down -/
theorem wh {c : TT} {tb : TS} {D : Ends} {σ : L2.St} {H : Hp} (W : Nat → L2.St → Hp → Prop) {m0 : Nat} (h0 : W m0 σ H)
    (hs : ∀ m σ H, W m σ H → c σ H fun b H1 => if b = true then tb { D with nx := fun σ' H' => ∃ m', m' < m ∧ W m' σ' H', ct := fun σ' H' => ∃ m', m' < m ∧ W m' σ' H', bk := D.nx } σ H1 else D.nx σ H1)
    (mono : ∀ σ H Q Q', (∀ b H1, Q b H1 → Q' b H1) → c σ H Q → c σ H Q') : tWhile c tb D σ H := by
  refine ⟨W, ⟨m0, h0⟩, fun m σ H w => mono σ H _ _ (fun b H1 q => ?_) (hs m σ H w)⟩
  cases b with
  | true => exact ⟨_, fun σ' H' z => z, q⟩
  | false => exact q
end LK

namespace LK
open PySem PySem.Spec PyProof.Rows L2 LamX ClX
open scoped List
theorem iv_app (a b : List Nat) : iv (a ++ b) = iv a ++ iv b := List.map_append
theorem iv_inj {a b : List Nat} (h : iv a = iv b) : a = b := (List.map_inj_right fun x y z => by have := V.int.inj z; omega).mp h
theorem adds_app {f gs : List Nat} {g : Nat} : adds f (gs ++ [g]) = add1 (adds f gs) g := by unfold adds; rw [List.foldl_append]; rfl
theorem adds_len {R : Rows} {m s i p : Nat} {gs rest : List Nat} (ok : RowsOk R m) (hs : s < R.length) (e : gls R p = gs ++ rest) : (adds (fnd R s i) gs).length ≤ R.length :=
  len_le_of_lt (nd_adds (fnd_nd i)) fun x hx => by
    rcases mem_adds.mp hx with h | h
    · exact fnd_lt ok hs i x h
    · exact gls_lt ok (p := p) (by rw [e]; simp [h])
section
variable {P : Program} {w : World} {K : PySem.W.Frag} {mg : Str → Option Value} {base : Heap}
theorem scMetFrom : FnScope ["rows", "start", "numbers", "row", "longer", "place", "goal"] ["rows", "start"] (defScope sMetFrom) := ⟨rfl, rfl, rfl, by decide +kernel, rfl, by decide +kernel, by decide +kernel⟩
def spMetFrom (K : PySem.W.Frag) : Sp := fun vs H Q _ => ∃ (r : Addr) (s m : Nat) (R : Rows), vs = [.ref r, .int s] ∧ RowsAt K H r R ∧ RowsOk R m ∧ s < R.length ∧ R.length ≤ 1000 ∧
  ∀ H' D, Same H H' → H D = none → H' D = some (.dK (kmp (nums (met R s)))) → Q (.ref D) H'
theorem ok_metFrom {f : Addr} {fd : FuncData} {k : Nat} (F : Fun K "_met_from" "_met_from" sMetFrom f fd) (M : Mx mg) : FnG P w K mg base CX0 (k + 1) f fd ["rows", "start"] (spMetFrom K) := by
  refine okG F scMetFrom (fun vs H Q E h => ?_) (fun cdv A hA outer s H vs Q E hr h => ?_)
  · obtain ⟨r, s0, m, R, rfl, _⟩ := h; rfl
  · obtain ⟨r, s0, m, R, rfl, hR, ok, hs, hn, q⟩ := h
    have nd := scMetFrom.nd
    have sl := sizeLine_eq
    refine ⟨_, pss_cons (ps_set (i := 2) nd rfl (.inl rfl) (pe_disp (pps_cons (uv 1) pe_int pps_nil) (by rfl) (by rfl) (fun z => by cases z) (by decide)))
      (pss_cons (ps_set (i := 3) nd rfl (.inl rfl) (pe_lst (pa_cons (uv 1) pa_nil)))
      (pss_cons (ps_while PassesOwn.never (pt_truth (uv 3) (by intro _; rfl))
        (pss_cons (ps_set (i := 4) nd rfl (.inl rfl) (pe_lst pa_nil))
        (pss_cons (ps_for PassesOwn.never rfl (pi_list (uv 3)) (pg_name (i := 5) nd rfl (.inl rfl))
          (pss_one (ps_for PassesOwn.never rfl (pi_sq (pe_ixU (uv 0) (uv 5))) (pg_name (i := 6) nd rfl (.inl rfl))
            (pss_one (ps_ifU (pt_cmp (pc_dnotin (Room.u1 hr) (uv 6) (uv 2)))
              (pss_cons (ps_dput (Room.u1 hr) (uv 2) (uv 6) (pe_callB c_len (by rfl) M.len b_len (pa_cons (uv 2) pa_nil)) rfl)
              (pss_one (ps_expr (pe_bm PySem.F.plainAttrs_list PySem.F.slot_list_append PySem.F.type_list_append mt_append (uv 4) (pa_cons (uv 6) pa_nil))))) pss_nil)))))
        (pss_one (ps_set (i := 3) nd rfl (.inl rfl) (uv 4))))))
      (pss_one (ps_ret (uv 2))))), ?_⟩
    obtain ⟨tp, rs, hs', hl', hrow'⟩ := hR
    intro D nD
    refine ⟨upd_same, [(kI s0, .int 0)], rfl, by show 1 ≤ 15; omega, ?_⟩
    refine ⟨by show 1 ≤ sizeLine; omega, fun L nL => ?_⟩
    have eD : upd (upd H D (.dK [])) D (.dK (mergeK [] [(kI s0, V.int 0)])) = upd H D (.dK (kmp (nums (fnd R s0 0)))) := by rw [upd_upd]; rfl
    rw [eD] at nL ⊢
    have hLD : L ≠ D := fun e => by rw [e, upd_same] at nL; cases nL
    have sD : Same H (upd H D (.dK (kmp (nums (fnd R s0 0))))) := same_upd nD
    have nLH : H L = none := Same.free sD nL
    dsimp only [tSeq, tAsg, gName]
    show tWhile _ _ _ _ _
    refine wh (m0 := R.length) (fun mm σ H2 => ∃ i L y4 y5 y6, mm = R.length - i ∧ i ≤ (fnd R s0 i).length ∧ Same H H2 ∧ H2 D = some (.dK (kmp (nums (fnd R s0 i)))) ∧ H2 L = some (.lst (iv ((fnd R s0 i).drop i))) ∧ H L = none ∧ L ≠ D ∧
      σ = [some (.ref r), some (.int s0), some (.ref D), some (.ref L), y4, y5, y6]) ⟨0, L, none, none, none, rfl, Nat.zero_le _, same_upd2 sD nLH, by rw [upd_ne hLD.symm]; exact upd_same, upd_same, nLH, hLD, rfl⟩ (fun mm σ H2 iv2 => ?_) (fun σ H Q Q' hm h => ?_)
    case refine_2 =>
      simp only [uVar] at h ⊢
      split at h
      · obtain ⟨kk, a, b⟩ := h; exact ⟨kk, a, hm _ _ b⟩
      · exact h.elim
    clear nL hLD sD nLH eD L
    obtain ⟨i, L, y4, y5, y6, rfl, hi, e2, hD, hL, nL, hLD, rfl⟩ := iv2
    have hf := fnd_len ok hs i
    generalize hfe : fnd R s0 i = fi at hi hD hL hf
    by_cases hlt : fi.length ≤ i
    · have e3 : fi.drop i = [] := List.drop_eq_nil_iff.mpr hlt
      refine ⟨false, .inl ⟨_, .inl (.inl hL), by rw [e3]; rfl⟩, ?_⟩
      have em : fi = met R s0 := by rw [← hfe]; exact fnd_met ok hs (by rw [hfe]; exact hlt)
      rw [em] at hD
      show (if false = true then _ else _)
      rw [if_neg Bool.false_ne_true]
      exact q _ _ e2 nD hD
    have e3 : (!(iv (fi.drop i)).isEmpty) = true := by
      have : fi.drop i ≠ [] := fun z => hlt (List.drop_eq_nil_iff.mp z)
      cases h : fi.drop i with
      | nil => exact absurd h this
      | cons _ _ => rfl
    refine ⟨true, .inl ⟨_, .inl (.inl hL), e3.symm⟩, ?_⟩
    show (if true = true then _ else _)
    rw [if_pos rfl]
    refine ⟨by show 0 ≤ sizeLine; omega, fun B nB => ?_⟩
    have hBD : B ≠ D := fun e => by rw [e, hD] at nB; cases nB
    have hBL : B ≠ L := fun e => by rw [e, hL] at nB; cases nB
    have nBH : H B = none := Same.free e2 nB
    dsimp only [tNext, tSeq]
    refine for_list (K := K) (a := L) (xs := iv (fi.drop i)) (H1 := upd H2 B (.lst [])) (by exact fun _ h => h) (.inl (.inl (by rw [upd_ne hBL.symm]; exact hL))) (fun pre σ H3 => ∃ j y5 y6, pre = iv ((fi.drop i).take j) ∧ j ≤ (fi.drop i).length ∧ Same H H3 ∧
        H3 D = some (.dK (kmp (nums (fnd R s0 (i + j))))) ∧ H3 L = some (.lst (iv (fi.drop i))) ∧ H3 B = some (.lst (iv ((fnd R s0 (i + j)).drop fi.length))) ∧ σ = [some (.ref r), some (.int s0), some (.ref D), some (.ref L), some (.ref B), y5, y6])
      (fun pre σ H3 h => ?_) ⟨0, y5, y6, rfl, Nat.zero_le _, same_upd2 e2 nBH, ?_, ?_, ?_, rfl⟩ (fun pre x suf σ H3 ex h => ?_) (fun σ H3 h => ?_)
    · obtain ⟨_, _, _, _, _, _, _, h, _⟩ := h; exact .inl (.inl h)
    · rw [upd_ne hBD.symm]; show _ = some (HO.dK (kmp (nums (fnd R s0 (i + 0))))); rw [Nat.add_zero, hfe]; exact hD
    · rw [upd_ne hBL.symm]; exact hL
    · rw [upd_same, Nat.add_zero, hfe, List.drop_length]; rfl
    · obtain ⟨j, y5, y6, rfl, hj, e4, hD4, hL4, hB4, rfl⟩ := h
      have lj : (iv ((fi.drop i).take j)).length = j := by rw [List.length_map, List.length_take]; omega
      have hj2 : j < (fi.drop i).length := by
        have := congrArg List.length ex
        rw [List.length_append, lj, List.length_map, List.length_cons] at this
        omega
      have hx : (iv (fi.drop i))[j]? = some x := by
        rw [ex, List.getElem?_append_right (by omega), lj, Nat.sub_self]; rfl
      rw [List.getElem?_map, List.getElem?_eq_getElem hj2] at hx
      have hx := (Option.some.inj hx).symm
      subst hx
      have hp0 : fi[i + j]? = some (fi.drop i)[j] := by rw [← List.getElem?_drop]; exact List.getElem?_eq_getElem hj2
      generalize (fi.drop i)[j] = p at hp0 ex ⊢
      have hp : (fnd R s0 (i + j))[i + j]? = some p := by
        obtain ⟨t, et⟩ := fnd_pre (R := R) (s := s0) (i := i) (j := i + j) (by omega)
        rw [← et, hfe, List.getElem?_append_left (List.getElem?_eq_some_iff.mp hp0).1]; exact hp0
      have plt : p < R.length := fnd_lt ok hs (i + j) p (List.mem_of_getElem? hp)
      have hqa : rs[p]? = some rs[p] := List.getElem?_eq_getElem (by omega)
      generalize rs[p] = qa at hqa
      obtain ⟨t2, hq⟩ := hrow' p qa hqa
      have fl : fi.length ≤ (fnd R s0 (i + j)).length := by
        have := (fnd_pre (R := R) (s := s0) (i := i) (j := i + j) (by omega)).length_le
        rw [hfe] at this; exact this
      show tFor (iSq K (tOp (ixU K) (uVar 0) (uVar 5))) _ _ _ _ _
      refine for_sq (K := K) (tp := t2) (a := qa) (xs := iv (gls R p)) (H1 := H3) (fun R' hR' => ⟨rs.map V.ref, .ref qa, (hs'.ext e4).or, atI_nat (by rw [List.getElem?_map, hqa]; rfl), hR'⟩) (hq.ext e4)
        (fun pre2 σ H4 => ∃ gs rest y6, gls R p = gs ++ rest ∧ pre2 = iv gs ∧ Same H H4 ∧ H4 D = some (.dK (kmp (nums (adds (fnd R s0 (i + j)) gs)))) ∧ H4 L = some (.lst (iv (fi.drop i))) ∧ H4 B = some (.lst (iv ((adds (fnd R s0 (i + j)) gs).drop fi.length))) ∧
          σ = [some (.ref r), some (.int s0), some (.ref D), some (.ref L), some (.ref B), some (.int p), y6])
        (fun pre2 σ H4 h => by obtain ⟨_, _, _, _, _, h, _⟩ := h; exact hq.ext h) ⟨[], gls R p, y6, rfl, rfl, e4, hD4, hL4, hB4, rfl⟩ (fun pre2 x2 suf2 σ H4 ex2 h => ?_) (fun σ H4 h => ?_)
      · obtain ⟨gs, rest, y6, eg, rfl, e5, hD5, hL5, hB5, rfl⟩ := h
        have er : iv rest = x2 :: suf2 := by
          have e7 : iv gs ++ iv rest = iv gs ++ x2 :: suf2 := by rw [← ex2, eg, iv_app]
          exact List.append_cancel_left e7
        obtain ⟨g, rest', rfl, rfl, rfl⟩ := List.map_eq_cons_iff.mp er
        have cl := adds_len (i := i + j) ok hs eg
        have cl2 : fi.length ≤ (adds (fnd R s0 (i + j)) gs).length := Nat.le_trans fl adds_pre.length_le
        have eg2 : gls R p = (gs ++ [g]) ++ rest' := by rw [eg]; simp
        have ea := adds_app (f := fnd R s0 (i + j)) (gs := gs) (g := g)
        generalize adds (fnd R s0 (i + j)) gs = cur at hD5 hB5 cl cl2 ea
        refine ⟨D, _, rfl, DGet.k (k := kI g) hD5, _, rfl, ?_⟩
        rw [val_kmp, look_isSome, nums_keys]
        refine .nd (fun hg => ?_) (fun hg => ?_)
        · have ec : add1 cur g = cur ++ [g] := if_neg hg
          have lk : (kmp (nums cur)).length = cur.length := by rw [List.length_map, nums_len]
          have ep : putK (kmp (nums cur)) (kI g) (.int ((kmp (nums cur)).length : Nat)) = kmp (nums (cur ++ [g])) := by
            rw [put_kmp _ (by rw [nums_keys]; exact hg), nums_app, lk]
          refine .inr ⟨_, hD5, D, _, rfl, DPut.k (k := kI g) hD5 (by rw [lk]; omega), ?_⟩
          rw [ep]
          have hB6 : (upd H4 D (.dK (kmp (nums (cur ++ [g]))))) B = some (.lst (iv (cur.drop fi.length))) := by rw [upd_ne hBD]; exact hB5
          refine ⟨.inl ⟨rfl, _, .inl (.inl hB6)⟩, B, _, _, rfl, rfl, hB6, by rw [List.length_map, List.length_drop]; omega, ?_⟩
          refine ⟨gs ++ [g], rest', _, eg2, by rw [iv_app]; rfl, same_upd2 (same_upd2 e5 nD) nBH, ?_, ?_, ?_, rfl⟩
          · rw [upd_ne hBD.symm, upd_same, ea, ec]
          · rw [upd_ne hBL.symm, upd_ne hLD]; exact hL5
          · rw [upd_same, ea, ec, List.drop_append_of_le_length cl2, iv_app]; rfl
        · have ec : add1 cur g = cur := if_pos hg
          exact ⟨gs ++ [g], rest', _, eg2, by rw [iv_app]; rfl, e5, by rw [ea, ec]; exact hD5, hL5, by rw [ea, ec]; exact hB5, rfl⟩
      · obtain ⟨gs, rest, y6, eg, e6, e5, hD5, hL5, hB5, rfl⟩ := h
        obtain rfl := iv_inj e6
        have es := fnd_step hp
        rw [← es] at hD5 hB5
        refine ⟨j + 1, _, _, ?_, hj2, e5, hD5, hL5, hB5, rfl⟩
        have : (fi.drop i).take (j + 1) = (fi.drop i).take j ++ [p] := by
          rw [List.take_add_one, show (fi.drop i)[j]? = some p by rw [List.getElem?_drop]; exact hp0]; rfl
        rw [this, iv_app]; rfl
    · obtain ⟨j, y5, y6, ej, hj, e4, hD4, hL4, hB4, rfl⟩ := h
      have ej := iv_inj ej
      have lj : j = (fi.drop i).length := by
        have := congrArg List.length ej
        rw [List.length_take] at this
        omega
      have ij : i + j = fi.length := by rw [lj, List.length_drop]; omega
      rw [ij] at hD4 hB4
      have fl : fi.length ≤ (fnd R s0 fi.length).length := by
        have := (fnd_pre (R := R) (s := s0) (i := i) (j := fi.length) (by omega)).length_le
        rw [hfe] at this; exact this
      exact ⟨R.length - fi.length, by omega, fi.length, B, _, _, _, rfl, fl, e4, hD4, hB4, nBH, hBD, rfl⟩
end
end LK

/-! comprehensions with if -/
namespace LK
open PySem PySem.Spec PyProof.Rows L2 LamX
open scoped List
theorem lc_wkF {J : It} {xs : List V} {P : Hp → Prop} (W : Wk J xs P) {g : TG} {tt : TT} {te : TE} {σ : L2.St} {H : Hp} {vs : List Nat} {Q : VK} {D : Addr} (R : List V → List V → Hp → Prop)
    (hP : ∀ pre acc H, R pre acc H → P H) (h0 : R [] [] (upd H D (.lst [])))
    (hs : ∀ pre acc x suf H, xs = pre ++ x :: suf → R pre acc H → g x (wipe σ vs) H fun σ2 H2 => wipe σ2 vs = wipe σ vs ∧ tt σ2 H2 fun b H3 => if b = true then te σ2 H3 fun y H4 =>
      ∃ acc, H4 D = some (.lst acc) ∧ acc.length < sizeLine ∧ ∃ a, R (pre ++ [x]) a (upd H4 D (.lst (acc ++ [y]))) else ∃ a, R (pre ++ [x]) a H3)
    (he : ∀ acc H, R xs acc H → Q (.ref D) H) :
    ∃ W : Nat → Nat → Hp → Prop, (∃ m, W 0 m (upd H D (.lst []))) ∧ ∀ i m H, W i m H →
  (J.stop i H ∧ Q (.ref D) H) ∨ (J.go i H ∧ ∃ Nx : Hp → Prop, (∀ H', Nx H' → ∃ m', m' < m ∧ W (i + 1) m' H') ∧ ∀ x H', J.yld i H x H' → g x (wipe σ vs) H' fun σ2 H2 => wipe σ2 vs = wipe σ vs ∧ tt σ2 H2 fun b H3 =>
    if b = true then te σ2 H3 fun y H4 => ∃ acc, H4 D = some (.lst acc) ∧ acc.length < sizeLine ∧ Nx (upd H4 D (.lst (acc ++ [y]))) else Nx H3) := by
  refine ⟨fun i m H => i + m = xs.length ∧ ∃ acc, R (xs.take i) acc H, ⟨xs.length, by omega, [], h0⟩, fun i m H h => ?_⟩
  obtain ⟨em, acc, iv⟩ := h
  by_cases hi : i < xs.length
  · have hx := List.getElem?_eq_getElem hi
    obtain ⟨e1, e2⟩ := split_at hx
    refine .inr ⟨W.go i H (hP _ _ _ iv) hi, fun H' => ∃ acc, R (xs.take i ++ [xs[i]]) acc H', fun H' n => ?_, fun x H' y => ?_⟩
    · obtain ⟨acc, n⟩ := n
      exact ⟨m - 1, by omega, by omega, acc, by rw [e2]; exact n⟩
    · obtain ⟨rfl, hx2⟩ := W.yld i H x H' (hP _ _ _ iv) hi y
      rw [hx] at hx2
      cases hx2
      exact hs _ _ _ _ _ e1 iv
  · have e : xs.take i = xs := List.take_of_length_le (by omega)
    rw [e] at iv
    exact .inl ⟨W.stop i H (hP _ _ _ iv) (by omega), he _ _ iv⟩
section
variable {K : PySem.W.Frag} {g : TG} {tt : TT} {te : TE} {σ : L2.St} {H H1 : Hp} {vs : List Nat} {Q : VK} {t : TA}
theorem lc_rngF {n : Nat} (h : ∀ R : List V → Hp → Prop, R [.int n] H1 → t σ H R) (hn : n < 1000000) (R : Addr → Nat → List V → Hp → Prop)
    (h0 : ∀ D, H1 D = none → R D 0 [] (upd H1 D (.lst [])))
    (hs : ∀ D, H1 D = none → ∀ i acc H, i < n → R D i acc H → g (.int i) (wipe σ vs) H fun σ2 H2 => wipe σ2 vs = wipe σ vs ∧ tt σ2 H2 fun b H3 => if b = true then te σ2 H3 fun y H4 =>
      ∃ acc, H4 D = some (.lst acc) ∧ acc.length < sizeLine ∧ ∃ a, R D (i + 1) a (upd H4 D (.lst (acc ++ [y]))) else ∃ a, R D (i + 1) a H3)
    (he : ∀ D, H1 D = none → ∀ acc H, R D n acc H → Q (.ref D) H) : tLc (iRng1 t) g tt te vs σ H Q := by
  refine h _ ⟨n, rfl, by omega, by omega, fun D nD => ?_⟩
  refine lc_wkF (wk_rng 0 n) (fun pre acc H => R D pre.length acc H) (fun _ _ _ _ => trivial) (h0 D nD) (fun pre acc x suf H2 e r => ?_) (fun acc H r => he D nD acc H ?_)
  · have hl : pre.length < n := by
      have := congrArg List.length e
      simp at this; omega
    have hx : (rng 0 n)[pre.length]? = some x := by rw [e]; simp
    rw [List.getElem?_map, List.getElem?_range hl] at hx
    have hx := Option.some.inj hx
    simp only [Int.zero_add] at hx
    subst hx
    have z := hs D nD pre.length acc H2 hl r
    rw [List.length_append]
    exact z
  · rw [List.length_map, List.length_range] at r; exact r
end
end LK

/-! own errors with one field: made, raised, caught; defs that raise; for any law -/
namespace LK
open PySem PySem.Spec PyProof.Rows L2 LamX
open scoped List
section
variable {P : Program} {w : World} {K : PySem.W.Frag} {mg : Str → Option Value} {base : Heap}
/-- self.f = y for each field: the exception gets its dict -/
def spI (C : Addr) (fs : List Str) : Sp := fun vs H Q _ => ∃ (a : Addr) (ys : List V), vs = .ref a :: ys ∧ ys.length = fs.length ∧ H a = some (exo a C none) ∧
  ∀ d H', H d = none → d ≠ a → H' a = some (exo a C (some d)) → H' d = some (exd d (fs.zip ys).reverse) → (∀ b, b ≠ a → b ≠ d → H' b = H b) → Q .non H'
theorem ok_init1 {q fn : Str} {st : Stmt} {f : Addr} {fd : FuncData} {k : Nat} {C : Addr} {bmB : List Value} {B newId : String} {p1 p2 p3 p4 : Pos} (SF : StoreFacts B bmB "object.__setattr__" "object") (F : Fun K "__init__" q st f fd) (S : FnScope ["self", fn] ["self", fn] (defScope st))
    (body : defBody st = [.Assign [.Attribute (.Name "self" p1) fn p2] (.Name fn p3) p4]) (v0 : Vis (defScope st) "self") (v1 : Vis (defScope st) fn) (d1 : (fn == ("__debug__" : Str)) = false) (c1 : (fn == ("__classdict__" : Str)) = false)
    (sw : ∀ env : Env, env.scope = defScope st → swapsWith (.Name fn p3) (some (.Attribute (.Name "self" p1) fn p2)) p4.line env = pure false) (T : ExcK K C bmB newId) (hno : PySem.W.takerIn K C fn = some none) :
    FnG P w K mg base CX0 (k + 1) f fd ["self", fn] (spI C [fn]) := by
  refine okG F S (fun vs H Q E h => ?_) (fun cdv A hA outer s H vs Q E hr h => ?_)
  · obtain ⟨a, ys, rfl, hl, _⟩ := h
    rw [List.length_cons, hl]; rfl
  · obtain ⟨a, ys, rfl, hl, ha, qq⟩ := h
    match ys, hl with
    | [y], _ =>
      rw [body]
      refine ⟨_, pss_one (ps_stE SF (uv 0 rfl v0) (uv 1 rfl v1 d1 c1) (sw _ rfl)), ?_⟩
      refine ⟨C, newId, T, hno, .inl ⟨ha, fun d nd ne => ?_⟩⟩
      exact qq d _ nd ne upd_same (by rw [upd_ne ne, upd_same]; rfl) (fun b h1 h2 => by rw [upd_ne h1, upd_ne h2])
end
/-- an own error class of the module: its fields, how it is made -/
structure HasC (P : Program) (w : World) (K : PySem.W.Frag) (mg : Str → Option Value) (base : Heap) (k : Nat) (x : Str) (C : Addr) (fs : List Str) : Prop where
  ex : ∃ (B newId initId : String) (bmB : List Value) (fI : Addr) (fd : FuncData), ExcBaseFacts B newId initId bmB ∧ ExcK K C bmB newId ∧ PySem.W.typeIn K (.ref C) = some (.type "type") ∧ PySem.W.findIn K (.ref C) "__init__" = some (some (.ref fI)) ∧
    PySem.W.typeIn K (.ref fI) = some (.type "function") ∧ FnG P w K mg base CX0 k fI fd (("self" : Str) :: fs) (spI C fs) ∧ Binds K fd (("self" : Str) :: fs) [] ∧
    (∀ (s : Shared) (z : Value) (ws : List Value), ws.length = fs.length → BindsTo s fd ⟨[z], fs.zip ws⟩ ((("self" : Str) :: fs).zip (z :: ws)) ∧ BindsTo s fd ⟨[z], (fs.zip ws).reverse⟩ ((("self" : Str) :: fs).zip (z :: ws)))
  mgC : mg x = some (.ref C)
theorem HasC.up {P : Program} {w : World} {K : PySem.W.Frag} {mg : Str → Option Value} {base : Heap} {j k : Nat} {x : Str} {C : Addr} {fs : List Str} (F : HasC P w K mg base j x C fs) (h : j ≤ k) : HasC P w K mg base k x C fs := by
  obtain ⟨B, newId, initId, bmB, fI, fd, a, b, c, d, e, f, g⟩ := F.ex
  exact ⟨⟨B, newId, initId, bmB, fI, fd, a, b, c, d, e, f.up h, g⟩, F.mgC⟩
section
variable {X : Cx} {x : Str} {C : Addr} {k : Nat} {fs : List Str} {p pos : Pos} {e : Expr} {es : List Expr} {ta : TA}
theorem pmk_new (F : HasC X.prog X.w X.K X.mg X.base k x C fs) (hA : X.A.guards = some []) (hr : Room (k + 1) X.A) (hg : Gl X x) (ha : PA X (e :: es) ta)
    (hdb : (x == ("__debug__" : Str)) = false := by decide) (he : starEach (e :: es) X.env = (false, eval e X.env) :: starEach es X.env := by rfl) (hpl : (backTo pos (starEach es X.env)).any (·.1) = false := by rfl) :
    PMk X (.Call (.Name x p) (e :: es) [] pos) (tPmE C (spI C fs) ta) := by
  obtain ⟨B, newId, initId, bmB, fI, fd, FB, T, ty, iC, tI, F1, hb, _⟩ := F.ex
  exact pmk_mkE (pos := pos) (p := p) FB T ty iC tI F1 hA hr hb hg F.mgC ha hdb he hpl
/-- the reading of a new error behind raise: all else stays, the fields lie in a new dict -/
theorem pm_end {vs : List V} {H1 : Hp} {Q : XK} (hl : vs.length = fs.length) (q : ∀ d H', Same H1 H' → H1 d = none → H' d = some (HO.xd (fs.zip vs).reverse) → Q (.ref C) (some d) H') (a : Addr) (na : H1 a = none) :
    spI C fs (.ref a :: vs) (upd H1 a (exo a C none)) (fun v H2 => v = .non ∧ ∃ d gs, H2 a = some (exo a C (some d)) ∧ H2 d = some (exd d gs) ∧ H1 d = none ∧ Q (.ref C) (some d) (upd (del H2 a) d (HO.xd gs))) E0 := by
  refine ⟨a, vs, rfl, hl, upd_same, fun d H' nd ne ha hd rest => ⟨rfl, d, _, ha, hd, ?_, ?_⟩⟩
  · rw [upd_ne ne] at nd; exact nd
  · have nd1 : H1 d = none := by rw [upd_ne ne] at nd; exact nd
    refine q d _ (fun b o hb => ?_) nd1 upd_same
    have na' : b ≠ a := ne_of_none hb na
    have nd' : b ≠ d := ne_of_none hb nd1
    rw [upd_ne nd', show del H' a b = H' b from if_neg na', rest b na' nd', upd_ne na']
    exact hb
end
section
variable {X : Cx} {pins pn' : List (Addr × Obj)} {σ : L2.St} {H : Hp} {a : Addr} {cls : Value} {d : Option Addr} {B : Heap} {sI s : Shared} {D : Ends}
end
section
variable {X : Cx} {CX : CXT} {k : Nat} {f C : Addr} {fd : FuncData} {ps : List Str} {sp : Sp} {E : L2.St → XK} {x : Str} {p pos : Pos} {e : Expr} {es : List Expr} {t : TA}
end
section
variable {P : Program} {w : World} {K : PySem.W.Frag} {mg : Str → Option Value} {base : Heap}
/-- a def that raises -/
theorem okGX {x q : Str} {st : Stmt} {f : Addr} {fd : FuncData} {N ps : List Str} {k : Nat} {sp : Sp} (F : Fun K x q st f fd)
    (S : FnScope N ps (defScope st)) (len : ∀ vs H Q E, sp vs H Q E → vs.length = ps.length)
    (hb : ∀ (cd : Value) (A : Around), A.guards = some [] → ∀ (outer : List Env) (s : Shared) (H : Hp) (vs : List V) (Q : VK) (E : XK),
      Room k (A.deeper (envOfC q (defScope st) s.heap.objs.size f cd)) → sp vs H Q E →
      ∃ t, PSs (cxOf (CX P w) P w K mg base N q (defScope st) f cd A outer s H E) (defBody st) t ∧
        t { nx := fun _ H' => Q .non H', rt := Q } (start N vs) H) : FnG P w K mg base (CX P w) (k + 1) f fd ps sp := by
  obtain ⟨oc, od, kV, dc, pm, an, cd, ct, sl, rfl, lk, hc⟩ := F.ex
  refine fnG_of lk hc S len ?_
  intro A hA outer s H vs Q E hr hs
  exact hb cd A hA outer s H vs Q E hr hs
end
section
variable {P : Program} {w : World} {K : PySem.W.Frag} {mg : Str → Option Value} {base : Heap}
/-- where no error is wanted none leaves -/
theorem FnG.ox {k : Nat} {f : Addr} {fd : FuncData} {ps : List Str} {sp sp' : Sp} (F : FnG P w K mg base (CX P w) k f fd ps sp) (h : ∀ vs H Q E, sp' vs H Q E → sp vs H Q E0) : FnG P w K mg base CX0 k f fd ps sp' where
  len := fun vs H Q E q => F.len _ _ _ _ (h _ _ _ _ q)
  run := fun A hA outer s H args us vs Q E hr e b v q => codeAny_mono (F.run A hA outer s H args us vs Q E0 hr e b v (h _ _ _ _ q)) (fun r s' z => by
    cases r with
    | ok fl => cases fl <;> exact z
    | error e => obtain ⟨_, _, _, _, _, _, _, _, _, _, _, _, z⟩ := z; exact z.elim)
/-- a class whose __init__ may raise -/
structure HasIX (P : Program) (w : World) (K : PySem.W.Frag) (mg : Str → Option Value) (base : Heap) (k : Nat) (x : Str) (C : Addr) (ps : List Str) (sp : Sp) : Prop where
  ex : ∃ f fd, FnG P w K mg base (CX P w) k f fd (("self" : Str) :: ps) sp ∧ Mk K C f ∧ Binds K fd (("self" : Str) :: ps) [] ∧ mg x = some (.ref C) ∧
    ∀ (s : Shared) (z : Value) (us : List Value), us.length = ps.length → BindsTo s fd ⟨[z], (ps.zip us).reverse⟩ ((("self" : Str) :: ps).zip (z :: us))
theorem HasIX.calm {k : Nat} {x : Str} {C : Addr} {ps : List Str} {sp sp' : Sp} (F : HasIX P w K mg base k x C ps sp) (h : ∀ vs H Q E, sp' vs H Q E → sp vs H Q E0) : HasI P w K mg base k x C ps sp' := by
  obtain ⟨f, fd, a, b⟩ := F.ex
  exact ⟨f, fd, a.ox h, b⟩
end
section
variable {X : Cx} {k : Nat} {C : Addr} {x : Str} {ps : List Str} {sp : Sp} {p pos : Pos} {e : Expr} {es : List Expr} {t : TA} {E : L2.St → XK}
end
end LK

namespace LK
open PySem PySem.Spec PyProof.Rows L2 LamX ClX
open scoped List
/-- what is kept of the class: its fields are its own -/
structure ClsM (K : PySem.W.Frag) (C : Addr) : Prop where
  cls : Cls K C
  nL : NoAttr K C "_letters"
  nR : NoAttr K C "_rows"
  nK : NoAttr K C "_kinds"
abbrev mf1 (S : List Nat) : List (Str × V) := [("_letters", .str (T S))]
abbrev mf2 (S : List Nat) (r : Addr) : List (Str × V) := [("_letters", .str (T S)), ("_rows", .ref r)]
abbrev mf3 (S : List Nat) (r k : Addr) : List (Str × V) := [("_letters", .str (T S)), ("_rows", .ref r), ("_kinds", .ref k)]
/-- a: a machine with these letters, rows, kinds, in lists of its own -/
def Mach (C : Addr) (H : Hp) (a : Addr) (S : List Nat) (R : Rows) (Kd : List Bool) : Prop := ∃ (dx r k : Addr) (rs : List Addr), H a = some (.ins C dx (mf3 S r k)) ∧
  H r = some (.lst (rs.map V.ref)) ∧ rs.length = R.length ∧ (∀ i p, rs[i]? = some p → H p = some (.lst (iv (gls R i)))) ∧ H k = some (.lst (Kd.map V.bl))
theorem Mach.ext {C : Addr} {H H' : Hp} {a : Addr} {S : List Nat} {R : Rows} {Kd : List Bool} (h : Mach C H a S R Kd) (e : Same H H') : Mach C H' a S R Kd := by
  obtain ⟨dx, r, k, rs, h1, h2, h3, h4, h5⟩ := h
  exact ⟨dx, r, k, rs, e _ _ h1, e _ _ h2, h3, fun i p hp => e _ _ (h4 i p hp), e _ _ h5⟩
/-- .. in lists that are new beside H0 -/
def MachN (C : Addr) (H0 H : Hp) (a : Addr) (S : List Nat) (R : Rows) (Kd : List Bool) : Prop := ∃ (dx r k : Addr) (rs : List Addr), H a = some (.ins C dx (mf3 S r k)) ∧
  H r = some (.lst (rs.map V.ref)) ∧ rs.length = R.length ∧ (∀ i p, rs[i]? = some p → H p = some (.lst (iv (gls R i))) ∧ H0 p = none) ∧ H k = some (.lst (Kd.map V.bl)) ∧ H0 r = none ∧ H0 k = none
theorem MachN.m {C : Addr} {H0 H : Hp} {a : Addr} {S : List Nat} {R : Rows} {Kd : List Bool} (h : MachN C H0 H a S R Kd) : Mach C H a S R Kd := by
  obtain ⟨dx, r, k, rs, h1, h2, h3, h4, h5, _⟩ := h
  exact ⟨dx, r, k, rs, h1, h2, h3, fun i p hp => (h4 i p hp).1, h5⟩
theorem MachN.of {C : Addr} {H0 H1 H : Hp} {a : Addr} {S : List Nat} {R : Rows} {Kd : List Bool} (h : MachN C H1 H a S R Kd) (e : Same H0 H1) : MachN C H0 H a S R Kd := by
  obtain ⟨dx, r, k, rs, h1, h2, h3, h4, h5, h6, h7⟩ := h
  have fr : ∀ b, H1 b = none → H0 b = none := fun b n => by
    cases hb : H0 b with
    | none => rfl
    | some o => rw [e b o hb] at n; cases n
  exact ⟨dx, r, k, rs, h1, h2, h3, fun i p hp => ⟨(h4 i p hp).1, fr _ (h4 i p hp).2⟩, h5, fr _ h6, fr _ h7⟩
/-- all stays but what stands at a -/
def But (a : Addr) (H H' : Hp) : Prop := ∀ b o, b ≠ a → H b = some o → H' b = some o
theorem But.of {a : Addr} {H H' : Hp} (e : Same H H') : But a H H' := fun b o _ h => e b o h
theorem But.trans {a : Addr} {H H' H'' : Hp} (e : But a H H') (e2 : But a H' H'') : But a H H'' := fun b o n h => e2 b o n (e b o n h)
theorem But.at {a : Addr} {H : Hp} {o : HO} : But a H (upd H a o) := fun b u n h => by rw [upd_ne n]; exact h
theorem But.put {a p : Addr} {H H' : Hp} {o : HO} (e : But a H H') (n : H p = none) : But a H (upd H' p o) := fun b u nb h => by
  rw [upd_ne (ne_of_none h n)]; exact e b u nb h
theorem SqB.but {K : PySem.W.Frag} {tp : Bool} {a C dx x : Addr} {fs : List (Str × V)} {H H' : Hp} {xs : List V} (h : SqB K tp H x xs) (e : But a H H') (ha : H a = some (.ins C dx fs)) : SqB K tp H' x xs := by
  have ne : ∀ o, H x = some o → (∀ C dx fs, o ≠ .ins C dx fs) → x ≠ a := fun o ho n z => by
    rw [z, ha] at ho; exact n _ _ _ (Option.some.inj ho).symm
  cases tp
  · rcases h with (h | ⟨o, h⟩) | h
    · exact .inl (.inl (e _ _ (ne _ h fun _ _ _ z => nomatch z) h))
    · exact .inl (.inr ⟨o, e _ _ (ne _ h fun _ _ _ z => nomatch z) h⟩)
    · exact .inr h
  · rcases h with (h | ⟨o, h⟩) | h
    · exact .inl (.inl (e _ _ (ne _ h fun _ _ _ z => nomatch z) h))
    · exact .inl (.inr ⟨o, e _ _ (ne _ h fun _ _ _ z => nomatch z) h⟩)
    · exact .inr h
section
variable {P : Program} {w : World} {K : PySem.W.Frag} {mg : Str → Option Value} {base : Heap}
theorem scInit : FnScope ["self", "letters", "rows", "kinds", "met", "missing", "place", "row"] ["self", "letters", "rows", "kinds"] (defScope sInit) := ⟨rfl, rfl, rfl, by decide +kernel, rfl, by decide +kernel, by decide +kernel⟩
def spInit (K : PySem.W.Frag) (C : Addr) : Sp := fun vs H Q _ => ∃ (a dx r k : Addr) (S : List Nat) (R : Rows) (Kd : List Bool), vs = [.ref a, .str (T S), .ref r, .ref k] ∧ ShOk S R Kd ∧ Whole R ∧ RowsAt K H r R ∧ KindsAt K H k Kd ∧ H a = some (.ins C dx []) ∧
  ∀ H', (∀ b o, b ≠ a → H b = some o → H' b = some o) → MachN C H H' a S R Kd → Q .non H'
/-- .. and if some places are not come to -/
def spInitX (K : PySem.W.Frag) (C cN : Addr) : Sp := fun vs H Q E => ∃ (a dx r k : Addr) (S : List Nat) (R : Rows) (Kd : List Bool), vs = [.ref a, .str (T S), .ref r, .ref k] ∧ ShOk S R Kd ∧ RowsAt K H r R ∧ KindsAt K H k Kd ∧ H a = some (.ins C dx []) ∧
  (Whole R → ∀ H', (∀ b o, b ≠ a → H b = some o → H' b = some o) → MachN C H H' a S R Kd → Q .non H') ∧ (¬ Whole R → ∀ (c : Nat) d H', c < R.length → c ∉ met R 0 → (∀ x, x < c → x ∈ met R 0) → Same H H' → H' d = some (HO.xd [("place", .int (c : Nat))]) → E (.ref cN) (some d) H')
theorem spInit_X {K : PySem.W.Frag} {C cN : Addr} (vs : List V) (H : Hp) (Q : VK) (E : XK) (h : spInit K C vs H Q E) : spInitX K C cN vs H Q E0 := by
  obtain ⟨a, dx, r, k, S, R, Kd, e, ok, wh, hR, hK, ha, q⟩ := h
  exact ⟨a, dx, r, k, S, R, Kd, e, ok, hR, hK, ha, fun _ => q, fun n => absurd wh n⟩
theorem iv_len (l : List Nat) : (iv l).length = l.length := List.length_map _
theorem miss_nil {R : Rows} : ((List.range R.length).filter fun x => !decide (x ∈ met R 0)) = [] ↔ Whole R := by
  rw [List.filter_eq_nil_iff]
  constructor
  · intro h x hx
    have := h x (List.mem_range.mpr hx)
    simpa using this
  · intro h x hx
    have := h x (List.mem_range.mp hx)
    simpa using this
theorem first_miss {n c : Nat} {p : Nat → Bool} {l : List Nat} (h : (List.range n).filter p = c :: l) : c < n ∧ p c = true ∧ ∀ x, x < c → p x = false := by
  obtain ⟨l1, l2, e, h1, h2, _⟩ := List.filter_eq_cons_iff.mp h
  have g : (List.range n)[l1.length]? = some c := by rw [e, List.getElem?_append_right (Nat.le_refl _), Nat.sub_self]; rfl
  have lt : l1.length < n := by have := (List.getElem?_eq_some_iff.mp g).1; rwa [List.length_range] at this
  rw [List.getElem?_range lt] at g
  have ec : l1.length = c := Option.some.inj g
  refine ⟨by omega, h2, fun x hx => ?_⟩
  have gx : (List.range n)[x]? = some x := List.getElem?_range (by omega)
  rw [e, List.getElem?_append_left (by omega)] at gx
  have := h1 x (List.mem_of_getElem? gx)
  simpa using this
theorem ok_initX {f C cN : Addr} {fd : FuncData} {k : Nat} (F : Fun K "__init__" "Machine.__init__" sInit f fd) (M : Mx mg) (cM : ClsM K C) (HN : Has P w K mg base (k + 1) "_need_parts" ["letters", "rows", "kinds"] (spNeedParts K))
    (HM : Has P w K mg base (k + 1) "_met_from" ["rows", "start"] (spMetFrom K)) (HC : HasC P w K mg base k "NotComeTo" cN ["place"]) : FnG P w K mg base (CX P w) (k + 2) f fd ["self", "letters", "rows", "kinds"] (spInitX K C cN) := by
  refine okGX F scInit (fun vs H Q E h => ?_) (fun cdv A hA outer s H vs Q E hr h => ?_)
  · obtain ⟨a, dx, r, k, S, R, Kd, rfl, _⟩ := h; rfl
  · obtain ⟨a, dx, r, k, S, R, Kd, rfl, ok, hR, hK, ha, q, qx⟩ := h
    have nd := scInit.nd
    have sl := sizeLine_eq
    have hi := ok.hi
    refine ⟨_, pss_cons (ps_expr (pe_callH HN hA hr (by rfl) (pa_cons (uv 1) (pa_cons (uv 2) (pa_cons (uv 3) pa_nil)))))
      (pss_cons (ps_set (i := 4) nd rfl (.inr rfl) (pe_callH HM hA hr (by rfl) (pa_cons (uv 2) (pa_cons pe_int pa_nil))))
      (pss_cons (ps_setLc (i := 5) (own := [("place", 6)]) (g := gName 6) (by rfl) nd rfl rfl (sw_true rfl rfl rfl (by decide +kernel)) (pi_range1 (by rfl) M.range (pa_cons (pe_callB c_len (by rfl) M.len b_len (pa_cons (uv 2) pa_nil)) pa_nil))
        (blkOk_by (N := ["self", "letters", "rows", "kinds", "met", "missing", "place", "row"]) (sc := defScope sInit) (by decide +kernel))
        (fun _ _ _ _ _ => pg_name (i := 6) nd rfl (Or.inl rfl)) (fun _ _ _ _ _ => pts_one (pt_cmp (pc_dnotin (Room.u1 hr) (uv 6) (uv 4)))) (fun _ _ _ _ _ => uv 6))
      (pss_cons (ps_ifU (pt_truth (uv 5) (by intro _; rfl)) (pss_one (ps_raise rfl (takes_of rfl rfl rfl rfl) (pmk_new HC hA hr (by rfl) (pa_cons (pe_ixU (uv 5) pe_int) pa_nil)))) pss_nil)
      (pss_cons (ps_fld (uv 0) (uv 1) (by rfl))
      (pss_cons (ps_fld (uv 0) (pe_lc (own := [("row", 7)]) (g := gName 7) (tt := tYes) rfl nd (pi_sq (uv 2)) (blkOk_by (N := ["self", "letters", "rows", "kinds", "met", "missing", "place", "row"]) (sc := defScope sInit) (by decide +kernel))
        (fun _ _ _ _ _ => pg_name (i := 7) nd rfl (Or.inl rfl)) (fun _ _ _ _ _ => pts_nil) (fun _ _ _ _ _ => pe_callTy (r := listU K) (c_list rfl) (by rfl) M.list b_list (pa_cons (uv 7) pa_nil))) (by rfl))
      (pss_one (ps_fld (uv 0) (pe_callTy (c_list rfl) (by rfl) M.list b_list (pa_cons (uv 3) pa_nil)) (by rfl)))))))), ?_⟩
    refine ⟨r, k, S, R, Kd, rfl, ok, hR, hK, fun H1 e1 => ?_⟩
    refine ⟨r, 0, S.length, R, rfl, hR.ext e1, ok.rows, by have := ok.lo; omega, by omega, fun H2 D e2 nD hD => ?_⟩
    have e3 := e1.trans e2
    obtain ⟨tp, rs, hs', hl', hrow'⟩ := hR
    obtain ⟨tk, hk'⟩ := hK
    have lr : (rs.map V.ref).length = R.length := by rw [List.length_map, hl']
    dsimp only [tSeq, tAsg, gName]
    have nLen : ∀ i, ((List.range i).filter fun x => !decide (x ∈ met R 0)).length ≤ i := fun i => by
      have := List.length_filter_le (fun x => !decide (x ∈ met R 0)) (List.range i)
      rw [List.length_range] at this; exact this
    refine lc_rngF (n := (rs.map V.ref).length) (H1 := H2) (fun R' h => .inl ⟨rs.map V.ref, (hs'.ext e3).or, h⟩) (by omega) (fun D2 i acc H3 => H3 = upd H2 D2 (.lst (iv ((List.range i).filter fun x => !decide (x ∈ met R 0))))) (fun D2 n2 => rfl) (fun D2 n2 i acc H3 hi2 h => ?_) (fun D2 n2 acc H3 h => ?_)
    · subst h
      have ne : D ≠ D2 := ne_of_none hD n2
      refine ⟨rfl, D, _, rfl, DGet.k (k := kI i) (by rw [upd_ne ne]; exact hD), _, rfl, ?_⟩
      rw [val_kmp, look_isSome, nums_keys]
      by_cases hm : i ∈ met R 0
      · rw [decide_eq_true hm]
        simp only [Bool.not_true, Bool.false_eq_true, if_false]
        refine ⟨[], ?_⟩
        rw [List.range_succ, List.filter_append, show [i].filter (fun x => !decide (x ∈ met R 0)) = [] by simp [hm], List.append_nil]
      · rw [decide_eq_false hm]
        simp only [Bool.not_false, if_true]
        refine ⟨_, upd_same, by rw [iv_len]; have := nLen i; omega, [], ?_⟩
        rw [List.range_succ, List.filter_append, show [i].filter (fun x => !decide (x ∈ met R 0)) = [i] by simp [hm], iv_app, upd_upd]
        rfl
    subst h
    rw [lr] at *
    by_cases wh : Whole R
    case neg =>
      have hne : ((List.range R.length).filter fun x => !decide (x ∈ met R 0)) ≠ [] := fun z => wh (miss_nil.mp z)
      obtain ⟨c, l, el⟩ := List.exists_cons_of_ne_nil hne
      rw [el]
      have e4 : Same H (upd H2 D2 (.lst (iv (c :: l)))) := same_upd2 e3 (Same.free e3 n2)
      refine ⟨true, .inl ⟨_, .inl (.inl upd_same), rfl⟩, .yes ?_⟩
      refine ⟨iv (c :: l), .int (c : Nat), .inl (.inl (.inl upd_same)), atI_nat (xs := iv (c :: l)) (j := 0) (v := V.int (c : Nat)) rfl, ?_⟩
      obtain ⟨c1, c2, c3⟩ := first_miss el
      exact ⟨by show 1 ≤ 1000; omega, fun a' na => pm_end (vs := [.int (c : Nat)]) (fs := ["place"]) rfl (fun d H' e nd hd => qx wh c d H' c1 (by simpa using c2) (fun x hx => by simpa using c3 x hx) (e4.trans e) hd) a' na⟩
    have q := q wh
    rw [miss_nil.mpr wh]
    refine ⟨false, .inl ⟨[], .inl (.inl upd_same), rfl⟩, .no ?_⟩
    have e4 : Same H (upd H2 D2 (.lst (iv []))) := same_upd2 e3 (Same.free e3 n2)
    generalize upd H2 D2 (.lst (iv [])) = H3 at e4
    refine ⟨a, C, dx, [], rfl, e4 _ _ ha, cM.cls, cM.nL, by show 0 < 1000; omega, ?_⟩
    have b4 : But a H (upd H3 a (.ins C dx (putF "_letters" (.str (T S)) []))) := (But.of e4).trans .at
    have h4 : (upd H3 a (.ins C dx (putF "_letters" (.str (T S)) []))) a = some (.ins C dx (mf1 S)) := upd_same
    have ex : ∀ b, H b ≠ none → (upd H3 a (.ins C dx (putF "_letters" (.str (T S)) []))) b ≠ none := fun b hb z => by
      by_cases e : b = a
      · subst e; rw [h4] at z; cases z
      · cases h : H b with
        | none => exact hb h
        | some o => rw [b4 b o e h] at z; cases z
    generalize upd H3 a (.ins C dx (putF "_letters" (.str (T S)) [])) = H4 at b4 h4 ex
    have fr : ∀ b, H4 b = none → H b = none := fun b z => Classical.byContradiction fun n => ex b n z
    dsimp only [tSeq, sFld]
    refine lc_sq (K := K) (tp := tp) (a := r) (xs := rs.map V.ref) (H1 := H4) (by exact fun _ h => h) (hs'.but b4 ha) (fun D3 pre acc H5 => ∃ ls : List Addr, pre = (rs.take ls.length).map V.ref ∧ ls.length ≤ rs.length ∧ acc = ls.map V.ref ∧ But a H H5 ∧
        H5 a = some (.ins C dx (mf1 S)) ∧ H5 D3 = some (.lst (ls.map V.ref)) ∧ ∀ i p, ls[i]? = some p → H5 p = some (.lst (iv (gls R i))) ∧ p ≠ D3 ∧ p ≠ a ∧ H p = none)
      (fun D3 pre acc H5 h => by obtain ⟨_, _, _, _, h, _⟩ := h; exact hs'.but h ha) (fun D3 n3 => ⟨[], rfl, Nat.zero_le _, rfl, b4.put (fr _ n3), by rw [upd_ne (ne_of_none h4 n3)]; exact h4, upd_same, fun i p z => nomatch z⟩)
      (fun D3 n3 pre acc x suf H5 ex2 h => ?_) (fun D3 n3 acc H5 h => ?_)
    · obtain ⟨ls, rfl, ll, rfl, b5, h5, hd5, hl5⟩ := h
      have l1 : ((rs.take ls.length).map V.ref).length = ls.length := by rw [List.length_map, List.length_take]; omega
      have l2 : ls.length < rs.length := by
        have := congrArg List.length ex2
        rw [List.length_append, l1, List.length_map, List.length_cons] at this
        omega
      have hx : (rs.map V.ref)[ls.length]? = some x := by rw [ex2, List.getElem?_append_right (by omega), l1, Nat.sub_self]; rfl
      rw [List.getElem?_map] at hx
      obtain ⟨qa, hqa, rfl⟩ := Option.map_eq_some_iff.mp hx
      obtain ⟨t2, hq⟩ := hrow' _ qa hqa
      refine ⟨rfl, .inl ⟨iv (gls R ls.length), (hq.but b5 ha).or, fun l nl => ?_⟩⟩
      have n1 : l ≠ a := fun z => by rw [z, h5] at nl; cases nl
      have n2 : l ≠ D3 := fun z => by rw [z, hd5] at nl; cases nl
      have nlH : H l = none := Classical.byContradiction fun n => by
        cases h : H l with
        | none => exact n h
        | some o => rw [b5 l o n1 h] at nl; cases nl
      refine ⟨ls.map V.ref, by rw [upd_ne n2.symm]; exact hd5, by rw [List.length_map]; omega, _, ls ++ [l], ?_, by rw [List.length_append]; exact l2, rfl, (b5.put nlH).put (fr _ n3), ?_, by rw [upd_same, List.map_append]; rfl, fun i p hp => ?_⟩
      · rw [List.length_append]
        show _ = (rs.take (ls.length + 1)).map V.ref
        rw [List.take_add_one, hqa, List.map_append]; rfl
      · have n3' : a ≠ D3 := ne_of_none h4 n3
        rw [upd_ne n3', upd_ne n1.symm]; exact h5
      · rcases Nat.lt_or_ge i ls.length with hlt | hge
        · rw [List.getElem?_append_left hlt] at hp
          obtain ⟨g1, g2, g3, g0⟩ := hl5 i p hp
          have n4 : p ≠ l := fun z => by rw [z, nl] at g1; cases g1
          exact ⟨by rw [upd_ne g2, upd_ne n4]; exact g1, g2, g3, g0⟩
        · rw [List.getElem?_append_right hge] at hp
          have e6 : i - ls.length = 0 := by
            have := (List.getElem?_eq_some_iff.mp hp).1
            simp at this; omega
          rw [e6] at hp
          have : l = p := by simpa using hp
          subst this
          have : i = ls.length := by omega
          subst this
          exact ⟨by rw [upd_ne n2]; exact upd_same, n2, n1, nlH⟩
    obtain ⟨ls, el, ll, rfl, b5, h5, hd5, hl5⟩ := h
    have lls : ls.length = rs.length := by
      have := congrArg List.length el
      rw [List.length_map, List.length_map, List.length_take] at this
      omega
    refine ⟨a, C, dx, (mf1 S), rfl, h5, cM.cls, cM.nR, by show 1 < 1000; omega, ?_⟩
    have e6 : putF "_rows" (.ref D3) (mf1 S) = (mf2 S D3) := rfl
    rw [e6]
    have b6 : But a H (upd H5 a (.ins C dx (mf2 S D3))) := b5.trans .at
    refine .inl ⟨Kd.map V.bl, (hk'.but b6 ha).or, fun l nl => ?_⟩
    have n3' : D3 ≠ a := fun z => by rw [z, h5] at hd5; cases hd5
    have nla : l ≠ a := fun z => by rw [z, upd_same] at nl; cases nl
    have nld : l ≠ D3 := fun z => by rw [z, upd_ne n3', hd5] at nl; cases nl
    refine ⟨a, C, dx, (mf2 S D3), rfl, by rw [upd_ne nla.symm]; exact upd_same, cM.cls, cM.nK, by show 2 < 1000; omega, ?_⟩
    have e7 : putF "_kinds" (.ref l) (mf2 S D3) = (mf3 S D3 l) := rfl
    rw [e7]
    have nlH : H l = none := Classical.byContradiction fun n => by
      cases h : H l with
      | none => exact n h
      | some o => rw [b6 l o nla h] at nl; cases nl
    refine q _ ((b6.put nlH).trans .at) ⟨dx, D3, l, ls, upd_same, ?_, by omega, fun i p hp => ?_, ?_, fr _ n3, nlH⟩
    · rw [upd_ne n3', upd_ne nld.symm, upd_ne n3']; exact hd5
    · obtain ⟨g1, g2, g3, g0⟩ := hl5 i p hp
      have n4 : p ≠ l := fun z => by rw [z] at g1 g3; rw [upd_ne g3, g1] at nl; cases nl
      exact ⟨by rw [upd_ne g3, upd_ne n4, upd_ne g3]; exact g1, g0⟩
    · rw [upd_ne nla]; exact upd_same
end
end LK

namespace LK
open PySem PySem.Spec PyProof.Rows L2 LamX ClX
open scoped List
theorem Ris1.nodup {S : List Nat} (h : Ris1 S) : S.Nodup := h.imp fun z => Nat.ne_of_lt z
section
variable {P : Program} {w : World} {K : PySem.W.Frag} {mg : Str → Option Value} {base : Heap} {C : Addr}
theorem scKinds : FnScope ["self"] ["self"] (defScope sKinds) := ⟨rfl, rfl, rfl, by decide +kernel, rfl, by decide +kernel, by decide +kernel⟩
def spKinds (C : Addr) : Sp := fun vs H Q _ => ∃ (a : Addr) (S : List Nat) (R : Rows) (Kd : List Bool), vs = [.ref a] ∧ Mach C H a S R Kd ∧ ∀ p, H p = none → Q (.ref p) (upd H p (.lst (Kd.map V.bl)))
theorem ok_kinds {f : Addr} {fd : FuncData} {k : Nat} (F : Fun K "kinds" "Machine.kinds" sKinds f fd) (M : Mx mg) (cM : ClsM K C) : FnG P w K mg base CX0 (k + 1) f fd ["self"] (spKinds C) := by
  refine okG F scKinds (fun vs H Q E h => ?_) (fun cdv A hA outer s H vs Q E hr h => ?_)
  · obtain ⟨a, S, R, Kd, rfl, _⟩ := h; rfl
  · obtain ⟨a, S, R, Kd, rfl, ⟨dx, r, kk, rs, h1, h2, h3, h4, h5⟩, q⟩ := h
    refine ⟨_, pss_one (ps_ret (pe_callTy (c_list rfl) (by rfl) M.list b_list (pa_cons (pe_fldU (uv 0)) pa_nil))), ?_⟩
    exact ⟨C, dx, _, .ref kk, h1, cM.cls, cM.nK, rfl, .inl ⟨Kd.map V.bl, .inl (.inl (.inl h5)), q⟩⟩
theorem scLen : FnScope ["self"] ["self"] (defScope sLen) := ⟨rfl, rfl, rfl, by decide +kernel, rfl, by decide +kernel, by decide +kernel⟩
def spLen (C : Addr) : Sp := fun vs H Q _ => ∃ (a : Addr) (S : List Nat) (R : Rows) (Kd : List Bool), vs = [.ref a] ∧ Mach C H a S R Kd ∧ Q (.int (R.length : Nat)) H
theorem ok_len {f : Addr} {fd : FuncData} {k : Nat} (F : Fun K "__len__" "Machine.__len__" sLen f fd) (M : Mx mg) (cM : ClsM K C) : FnG P w K mg base CX0 (k + 1) f fd ["self"] (spLen C) := by
  refine okG F scLen (fun vs H Q E h => ?_) (fun cdv A hA outer s H vs Q E hr h => ?_)
  · obtain ⟨a, S, R, Kd, rfl, _⟩ := h; rfl
  · obtain ⟨a, S, R, Kd, rfl, ⟨dx, r, kk, rs, h1, h2, h3, h4, h5⟩, q⟩ := h
    refine ⟨_, pss_one (ps_ret (pe_callB c_len (by rfl) M.len b_len (pa_cons (pe_fldU (uv 0)) pa_nil))), ?_⟩
    refine ⟨C, dx, _, .ref r, h1, cM.cls, cM.nR, rfl, .inl ⟨rs.map V.ref, .inl (.inl (.inl h2)), ?_⟩⟩
    rw [List.length_map, h3]; exact q
end
end LK

namespace LK
open PySem PySem.Spec PyProof.Rows L2 LamX ClX
open scoped List
/-- no field of a machine has the name of a method -/
theorem mf_none {S : List Nat} {r k : Addr} {m : Str} (h1 : (m == ("_letters" : Str)) = false) (h2 : (m == ("_rows" : Str)) = false) (h3 : (m == ("_kinds" : Str)) = false) : (mf3 S r k).lookup m = none := by
  show List.lookup m [_, _, _] = none
  rw [List.lookup_cons, h1]
  show List.lookup m [_, _] = none
  rw [List.lookup_cons, h2]
  show List.lookup m [_] = none
  rw [List.lookup_cons, h3]; rfl
section
variable {P : Program} {w : World} {K : PySem.W.Frag} {mg : Str → Option Value} {base : Heap} {C : Addr}
theorem scRows : FnScope ["self", "row"] ["self"] (defScope sRows) := ⟨rfl, rfl, rfl, by decide +kernel, rfl, by decide +kernel, by decide +kernel⟩
/-- new lists all through -/
def spRows (C : Addr) : Sp := fun vs H Q _ => ∃ (a : Addr) (S : List Nat) (R : Rows) (Kd : List Bool), vs = [.ref a] ∧ Mach C H a S R Kd ∧ R.length ≤ 1000 ∧ ∀ (H' : Hp) (p : Addr) (ls : List Addr), Same H H' → H p = none → H' p = some (.lst (ls.map V.ref)) → ls.length = R.length →
  (∀ i q, ls[i]? = some q → H q = none ∧ q ≠ p ∧ H' q = some (.lst (iv (gls R i)))) → ls.Nodup → Q (.ref p) H'
theorem ok_rows {f : Addr} {fd : FuncData} {k : Nat} (F : Fun K "rows" "Machine.rows" sRows f fd) (M : Mx mg) (cM : ClsM K C) : FnG P w K mg base CX0 (k + 1) f fd ["self"] (spRows C) := by
  refine okG F scRows (fun vs H Q E h => ?_) (fun cdv A hA outer s H vs Q E hr h => ?_)
  · obtain ⟨a, S, R, Kd, rfl, _⟩ := h; rfl
  · obtain ⟨a, S, R, Kd, rfl, ⟨dx, r, kk, rs, h1, h2, h3, h4, h5⟩, hz, q⟩ := h
    have nd := scRows.nd
    have sl := sizeLine_eq
    refine ⟨_, pss_one (ps_ret (pe_lc (own := [("row", 1)]) (g := gName 1) (tt := tYes) rfl nd (pi_list (pe_fldU (uv 0))) (blkOk_by (N := ["self", "row"]) (sc := defScope sRows) (by decide +kernel))
        (fun _ _ _ _ _ => pg_name (i := 1) nd rfl (Or.inl rfl)) (fun _ _ _ _ _ => pts_nil) (fun _ _ _ _ _ => pe_callTy (r := listU K) (c_list rfl) (by rfl) M.list b_list (pa_cons (uv 1) pa_nil)))), ?_⟩
    dsimp only [tRet]
    refine lc_list (K := K) (t := uFld K "_rows" (uVar 0)) (a := r) (xs := rs.map V.ref) (H1 := H) (fun R' h => ⟨C, dx, _, .ref r, h1, cM.cls, cM.nR, rfl, h⟩) (.inl (.inl h2)) (fun D pre acc H5 => ∃ ls : List Addr, pre = (rs.take ls.length).map V.ref ∧ ls.length ≤ rs.length ∧ acc = ls.map V.ref ∧ Same H H5 ∧
        H5 D = some (.lst (ls.map V.ref)) ∧ (∀ i p, ls[i]? = some p → H p = none ∧ p ≠ D ∧ H5 p = some (.lst (iv (gls R i)))) ∧ ls.Nodup)
      (fun D pre acc H5 h => by obtain ⟨_, _, _, _, h, _⟩ := h; exact .inl (.inl (h _ _ h2))) (fun D nD => ⟨[], rfl, Nat.zero_le _, rfl, same_upd nD, upd_same, (fun i p z => nomatch z), List.Pairwise.nil⟩)
      (fun D nD pre acc x suf H5 ex2 h => ?_) (fun D nD acc H5 h => ?_)
    · obtain ⟨ls, rfl, ll, rfl, b5, hd5, hl5, ndl⟩ := h
      have l1 : ((rs.take ls.length).map V.ref).length = ls.length := by rw [List.length_map, List.length_take]; omega
      have l2 : ls.length < rs.length := by
        have := congrArg List.length ex2
        rw [List.length_append, l1, List.length_map, List.length_cons] at this
        omega
      have hx : (rs.map V.ref)[ls.length]? = some x := by rw [ex2, List.getElem?_append_right (by omega), l1, Nat.sub_self]; rfl
      rw [List.getElem?_map] at hx
      obtain ⟨qa, hqa, rfl⟩ := Option.map_eq_some_iff.mp hx
      refine ⟨rfl, .inl ⟨iv (gls R ls.length), .inl (.inl (.inl (b5 _ _ (h4 _ _ hqa)))), fun l nl => ?_⟩⟩
      have n2 : l ≠ D := fun z => by rw [z, hd5] at nl; cases nl
      have nlH := Same.free b5 nl
      refine ⟨ls.map V.ref, by rw [upd_ne n2.symm]; exact hd5, by rw [List.length_map]; omega, _, ls ++ [l], ?_, by rw [List.length_append]; exact l2, rfl, same_upd2 (same_upd2 b5 nlH) nD, by rw [upd_same, List.map_append]; rfl, fun i p hp => ?_, ?_⟩
      · rw [List.length_append]
        show _ = (rs.take (ls.length + 1)).map V.ref
        rw [List.take_add_one, hqa, List.map_append]; rfl
      · rcases Nat.lt_or_ge i ls.length with hlt | hge
        · rw [List.getElem?_append_left hlt] at hp
          obtain ⟨g1, g2, g3⟩ := hl5 i p hp
          have n4 : p ≠ l := fun z => by rw [z, nl] at g3; cases g3
          exact ⟨g1, g2, by rw [upd_ne g2, upd_ne n4]; exact g3⟩
        · rw [List.getElem?_append_right hge] at hp
          have e6 : i - ls.length = 0 := by
            have := (List.getElem?_eq_some_iff.mp hp).1
            simp at this; omega
          rw [e6] at hp
          have : l = p := by simpa using hp
          subst this
          have : i = ls.length := by omega
          subst this
          exact ⟨nlH, n2, by rw [upd_ne n2]; exact upd_same⟩
      · refine List.nodup_append.mpr ⟨ndl, by simp, fun x hx y hy e => ?_⟩
        simp at hy; subst hy; subst e
        obtain ⟨i, hi⟩ := List.mem_iff_getElem?.mp hx
        have := (hl5 i x hi).2.2
        rw [nl] at this; cases this
    · obtain ⟨ls, el, ll, rfl, b5, hd5, hl5, ndl⟩ := h
      have lls : ls.length = rs.length := by
        have := congrArg List.length el
        rw [List.length_map, List.length_map, List.length_take] at this
        omega
      exact q _ D ls b5 nD hd5 (by omega) hl5 ndl
end
end LK

/-! least texts: lengths, look-ups -/
namespace LK
open PySem PySem.Spec PyProof.Rows L2 LamX
open scoped List
section
variable {R : Rows} {s : Nat} {S : List Nat}
end
end LK

namespace LK
open PySem PySem.Spec PyProof.Rows L2 LamX ClX
open scoped List
/-- the machine's own rows: lists of a list -/
def RowsL (H : Hp) (r : Addr) (R : Rows) : Prop := ∃ rs : List Addr, H r = some (.lst (rs.map V.ref)) ∧ rs.length = R.length ∧ ∀ i p, rs[i]? = some p → H p = some (.lst (iv (gls R i)))
theorem RowsL.ext {H H' : Hp} {r : Addr} {R : Rows} (h : RowsL H r R) (e : Same H H') : RowsL H' r R := by
  obtain ⟨rs, h1, h2, h3⟩ := h
  exact ⟨rs, e _ _ h1, h2, fun i p hp => e _ _ (h3 i p hp)⟩
end LK

/-! walks over a dict's keys in a comprehension; what comes of known values -/
namespace LK
open PySem PySem.Spec PyProof.Rows L2 LamX
open scoped List
theorem wk_keys {d : Addr} {o : Obj} {kvs : List (Key × V)} : Wk (Itk d o kvs) (kvs.map fun kv => kV kv.1) (fun H => H d = some (.frz o (.dK kvs))) := by
  refine ⟨fun i H h l => ⟨h, by rw [List.length_map] at l; exact l⟩, fun i H x H' h _ y => ?_, fun i H h l => ⟨h, by rw [List.length_map] at l; exact l⟩⟩
  obtain ⟨e, k, v, hk, rfl⟩ := y
  exact ⟨e, by rw [List.getElem?_map, hk]; rfl⟩
/-! the same rules, K said by itself: within a comprehension -/
section
variable {X : Cx} {K : PySem.W.Frag} {a b e tg : Expr} {ta tb te : TE} {pos : Pos}
theorem pe_ixK (hK : X.K = K) (ha : PE X a ta) (hb : PE X b tb) (hs : PlainIx b := by exact fun _ _ => rfl) : PE X (.Subscript a b pos) (tOp (ixU K) ta tb) := hK ▸ pe_ixU ha hb hs
theorem pi_sqK (hK : X.K = K) (he : PE X e te) : PI X tg e (iSq K te) := hK ▸ pi_sq he
theorem pi_listK (hK : X.K = K) (he : PE X e te) : PI X tg e (iList K te) := hK ▸ pi_list he
end
/-- a comprehension within a comprehension: its free names are cells or free names of the outer one -/
theorem relook {env : Env} {x : Str} : ∀ {names : List (Str × NameKind)}, (names.lookup x = some .cell ∨ names.lookup x = some .free) →
    ((names.map fun (n, k) => if (k == NameKind.free && env.scope.kind == .function && env.kindOf n == some .cell) then (n, NameKind.cell) else (n, k)).lookup x = some .cell ∨
      (names.map fun (n, k) => if (k == NameKind.free && env.scope.kind == .function && env.kindOf n == some .cell) then (n, NameKind.cell) else (n, k)).lookup x = some .free)
  | [], h => by rcases h with h | h <;> cases h
  | (n, k) :: r, h => by
    have ih := relook (env := env) (names := r) (x := x)
    simp only [List.map_cons]
    by_cases e : x = n
    · subst e
      rw [List.lookup_cons_self] at h
      by_cases c : (k == NameKind.free && env.scope.kind == .function && env.kindOf x == some .cell) = true
      · rw [if_pos c, List.lookup_cons_self]; exact .inl rfl
      · rw [if_neg c, List.lookup_cons_self]; exact h
    · have ne : (x == n) = false := by simpa using e
      rw [List.lookup_cons, ne] at h
      by_cases c : (k == NameKind.free && env.scope.kind == .function && env.kindOf n == some .cell) = true
      · rw [if_pos c, List.lookup_cons, ne]; exact ih h
      · rw [if_neg c, List.lookup_cons, ne]; exact ih h
theorem blkOk_in {env : Env} {N : List Str} {sc scope : Scope} {own : List (Str × Nat)} (h : blkC N sc scope own = true) : BlkOk N (relabel sc env) scope own :=
  let b := blkOk_by h
  ⟨b.kind, b.uniq, b.ix, fun y hy e => relook (b.free y hy e), b.own⟩
section
variable {K : PySem.W.Frag} {g : TG} {te : TE} {σ : L2.St} {H H1 : Hp} {vs : List Nat} {Q : VK} {t : TE}
/-- a comprehension over the keys of a locked dict: y i comes of the i-th key; all else stays -/
theorem lc_keys {d : Addr} {o : Obj} {kvs : List (Key × V)} (h : At t σ H (.ref d) H1) (hd : H1 d = some (.frz o (.dK kvs))) (R : Addr → List V → List V → Hp → Prop)
    (hP : ∀ D pre acc H, R D pre acc H → H d = some (.frz o (.dK kvs))) (h0 : ∀ D, H1 D = none → R D [] [] (upd H1 D (.lst [])))
    (hs : ∀ D, H1 D = none → ∀ pre acc x suf H, (kvs.map fun kv => kV kv.1) = pre ++ x :: suf → R D pre acc H → g x (wipe σ vs) H fun σ2 H2 => wipe σ2 vs = wipe σ vs ∧ te σ2 H2 fun y H4 =>
      ∃ acc, H4 D = some (.lst acc) ∧ acc.length < sizeLine ∧ ∃ a, R D (pre ++ [x]) a (upd H4 D (.lst (acc ++ [y]))))
    (he : ∀ D, H1 D = none → ∀ acc H, R D (kvs.map fun kv => kV kv.1) acc H → Q (.ref D) H) : tLc (iKeys t) g tYes te vs σ H Q :=
  h _ ⟨d, o, rfl, .inl ⟨kvs, hd, fun D nD => lc_wk wk_keys (fun pre acc H => R D pre acc H) (hP D) (h0 D nD) (hs D nD) (he D nD)⟩⟩
end
theorem keys_nums (f : List Nat) : ((kmp (nums f)).map fun kv => kV kv.1) = iv f := by
  unfold kmp
  rw [List.map_map]
  have : ((fun kv : Key × V => kV kv.1) ∘ fun p : Nat × V => (kI p.1, p.2)) = (fun g : Nat => V.int (g : Int)) ∘ Prod.fst := rfl
  rw [this, ← List.map_map, nums_keys]
theorem split_iv {f : List Nat} {pre suf : List V} {x : V} (h : iv f = pre ++ x :: suf) : ∃ p g q, f = p ++ g :: q ∧ pre = iv p ∧ x = .int (g : Nat) := by
  obtain ⟨p, q, e1, e2, e3⟩ := List.map_eq_append_iff.mp h
  obtain ⟨g, q', rfl, rfl, _⟩ := List.map_eq_cons_iff.mp e3
  exact ⟨p, g, q', e1, e2.symm, rfl⟩
end LK

namespace LK
open PySem PySem.Spec PyProof.Rows L2 LamX ClX
open scoped List
theorem nil_none {α : Type} {i : Nat} {q : α} (h : ([] : List α)[i]? = some q) : False := by rw [List.getElem?_nil] at h; cases h
section
variable {P : Program} {w : World} {K : PySem.W.Frag} {mg : Str → Option Value} {base : Heap} {C : Addr}
abbrev scN1 : Scope := { kind := .function, names := [(".0", .local), ("place", .local), ("numbers", .free), ("rows", .free)], isGenerator := false, isCoroutine := false }
theorem scNumFrom : FnScope ["letters", "rows", "kinds", "start", "numbers", "made", "place", "goal"] ["letters", "rows", "kinds", "start"] (defScope sNumFrom) := ⟨rfl, rfl, rfl, by decide +kernel, rfl, by decide +kernel, by decide +kernel⟩
/-- a new machine: the places that are come to from s, numbered as come to -/
def spNumFrom (K : PySem.W.Frag) (C : Addr) : Sp := fun vs H Q _ => ∃ (r k : Addr) (s : Nat) (S : List Nat) (R : Rows) (Kd : List Bool), vs = [.str (T S), .ref r, .ref k, .int s] ∧ ShOk S R Kd ∧ s < R.length ∧ RowsAt K H r R ∧ KindsAt K H k Kd ∧
  ∀ H' a, Same H H' → H a = none → MachN C H H' a S (rn R (met R s)) ((met R s).map fun p => Kd.getD p false) → Q (.ref a) H'
theorem ok_numFrom {f : Addr} {fd : FuncData} {k : Nat} (F : Fun K "_numbered_from" "_numbered_from" sNumFrom f fd) (M : Mx mg) (HM : Has P w K mg base (k + 1) "_met_from" ["rows", "start"] (spMetFrom K))
    (HI : HasI P w K mg base k "Machine" C ["letters", "rows", "kinds"] (spInit K C)) : FnG P w K mg base CX0 (k + 2) f fd ["letters", "rows", "kinds", "start"] (spNumFrom K C) := by
  refine okG F scNumFrom (fun vs H Q E h => ?_) (fun cdv A hA outer s H vs Q E hr h => ?_)
  · obtain ⟨r, k, s0, S, R, Kd, rfl, _⟩ := h; rfl
  · obtain ⟨r, k, s0, S, R, Kd, rfl, ok, hs, hRA, ⟨tk, hk⟩, q⟩ := h
    obtain ⟨tp, rs, hs', hl', hrow'⟩ := id hRA
    have nd := scNumFrom.nd
    have sl := sizeLine_eq
    refine ⟨_, pss_cons (ps_set (i := 4) nd rfl (.inr rfl) (pe_callH HM hA hr (by rfl) (pa_cons (uv 1) (pa_cons (uv 3) pa_nil))))
      (pss_cons (ps_lock (ps_setLc (i := 5) (own := [("place", 6)]) (g := gName 6) (by rfl) nd rfl rfl (sw_true rfl rfl rfl (by decide +kernel)) (pi_keys (uv 4))
        (blkOk_by (N := ["letters", "rows", "kinds", "start", "numbers", "made", "place", "goal"]) (sc := defScope sNumFrom) (by decide +kernel))
        (fun _ _ _ _ _ => pg_name (i := 6) nd rfl (Or.inl rfl)) (fun _ _ _ _ _ => pts_nil)
        (fun _ _ _ _ _ => pe_lc (own := [("goal", 7)]) (g := gName 7) (tt := tYes) rfl nd (pi_sqK (K := K) rfl (pe_ixK (K := K) rfl (uv 1) (uv 6))) (blkOk_in (N := ["letters", "rows", "kinds", "start", "numbers", "made", "place", "goal"]) (sc := scN1) (by decide +kernel))
          (fun _ _ _ _ _ => pg_name (i := 7) nd rfl (Or.inl rfl)) (fun _ _ _ _ _ => pts_nil)
          (fun _ _ _ _ _ => pe_dget (Room.u1 hr) (uv 4) (uv 7) (fun _ _ => rfl)))))
      (pss_one (ps_ret (pe_mkI HI hA hr (by rfl) (pa_cons (uv 0) (pa_cons (uv 5) (pa_cons (pe_lock (pe_lc (own := [("place", 6)]) (g := gName 6) (tt := tYes) rfl nd (pi_keys (uv 4)) (blkOk_by (N := ["letters", "rows", "kinds", "start", "numbers", "made", "place", "goal"]) (sc := defScope sNumFrom) (by decide +kernel))
          (fun _ _ _ _ _ => pg_name (i := 6) nd rfl (Or.inl rfl)) (fun _ _ _ _ _ => pts_nil)
          (fun _ _ _ _ _ => pe_ixK (K := K) rfl (uv 2) (uv 6)))) pa_nil))))))), ?_⟩
    have hi := ok.hi
    refine ⟨r, s0, S.length, R, rfl, hRA, ok.rows, hs, by omega, fun H1 D e1 nD hD => ?_⟩
    have hclo := fun (p g : Nat) => met_closed (p := p) (g := g) ok.rows hs
    have hltL : ∀ x ∈ met R s0, x < R.length := fnd_lt ok.rows hs _
    have ndL : (met R s0).Nodup := met_nd
    have lenL : (met R s0).length ≤ R.length := fnd_len ok.rows hs _
    have rnok := rn_ok (L := met R s0) ok.rows hs (fun x => Iff.rfl)
    have rnwh := rn_whole (L := met R s0) ok.rows hs ndL (fun x => Iff.rfl) met_zero
    have s0L : s0 ∈ met R s0 := fnd_head _
    generalize met R s0 = L at hD hclo hltL ndL lenL rnok rnwh s0L q
    refine ⟨D, _, hD, trivial, fun od => ?_⟩
    have e2 : Same H (upd H1 D (.frz od (.dK (kmp (nums L))))) := same_upd2 e1 nD
    have hD2 : (upd H1 D (.frz od (.dK (kmp (nums L))))) D = some (.frz od (.dK (kmp (nums L)))) := upd_same
    generalize upd H1 D (.frz od (.dK (kmp (nums L)))) = H2 at e2 hD2
    dsimp only [tAsg]
    refine lc_keys (d := D) (o := od) (kvs := kmp (nums L)) (H1 := H2) (by exact fun _ h => h) hD2 (fun B pre acc H3 => ∃ (ps : List Nat) (ls : List Addr), pre = iv ps ∧ ps.length = ls.length ∧ acc = ls.map V.ref ∧ Same H H3 ∧ H3 D = some (.frz od (.dK (kmp (nums L)))) ∧ H3 B = some (.lst (ls.map V.ref)) ∧ ls.length ≤ L.length ∧
        ∀ i q p, ls[i]? = some q → ps[i]? = some p → q ≠ B ∧ q ≠ D ∧ H3 q = some (.lst (iv ((gls R p).map fun g => L.idxOf g))))
      (fun B pre acc H3 h => by obtain ⟨_, _, _, _, _, _, h, _⟩ := h; exact h) (fun B nB => ⟨[], [], rfl, rfl, rfl, same_upd2 e2 (Same.free e2 nB), by rw [upd_ne (ne_of_none hD2 nB)]; exact hD2, upd_same, Nat.zero_le _, fun i q p z _ => (nil_none z).elim⟩)
      (fun B nB pre acc x suf H3 ex h => ?_) (fun B nB acc H3 h => ?_)
    · obtain ⟨ps, ls, rfl, lps, rfl, e3, hD3, hB3, ll, hls⟩ := h
      rw [keys_nums] at ex
      obtain ⟨p0, g, q0, eL, ep, rfl⟩ := split_iv ex
      obtain rfl := iv_inj ep
      have nBH : H B = none := Same.free e2 nB
      have hBD : B ≠ D := fun z => by rw [z, hD3] at hB3; cases hB3
      have gL : g ∈ L := by rw [eL]; simp
      have lps2 : ps.length + 1 ≤ L.length := by rw [eL]; simp
      obtain ⟨qa, hqa⟩ : ∃ qa, rs[g]? = some qa := ⟨_, List.getElem?_eq_getElem (by rw [hl']; exact hltL g gL)⟩
      obtain ⟨t2, hq2⟩ := hrow' g qa hqa
      have hrq := hq2.ext e3
      refine ⟨rfl, ?_⟩
      refine lc_sq (K := K) (tp := t2) (a := qa) (xs := iv (gls R g)) (H1 := H3) (fun R' hR' => ⟨rs.map V.ref, .ref qa, (hs'.ext e3).or, atI_nat (by rw [List.getElem?_map, hqa]; rfl), hR'⟩) hrq
        (fun B2 pre2 acc2 H4 => H3 B2 = none ∧ H4 = upd H3 B2 (.lst acc2) ∧ ∃ gs, pre2 = iv gs ∧ acc2 = iv (gs.map fun g => L.idxOf g)) (fun B2 pre2 acc2 H4 h => ?_) (fun B2 nB2 => ⟨nB2, rfl, [], rfl, rfl⟩) (fun B2 nB2 pre2 acc2 x2 suf2 H4 ex2 h => ?_) (fun B2 nB2 acc2 H4 h => ?_)
      · obtain ⟨n, rfl, _⟩ := h
        exact hrq.ext (same_upd n)
      · obtain ⟨_, rfl, gs, rfl, rfl⟩ := h
        obtain ⟨p1, g2, q1, eg, ep1, rfl⟩ := split_iv ex2
        obtain rfl := iv_inj ep1
        have g2L : g2 ∈ L := hclo g g2 gL (by rw [eg]; simp)
        have lg := gls_len ok.rows (hltL g gL)
        have l3 := ok.let_.hi
        have lg2 : gs.length ≤ 3 := by
          have := congrArg List.length eg
          rw [List.length_append, List.length_cons] at this
          omega
        have nDB : D ≠ B2 := ne_of_none hD3 nB2
        have dg : DGet (upd H3 B2 (.lst (iv (gs.map fun g => L.idxOf g)))) D (.int g2) (some (.int (L.idxOf g2 : Nat))) :=
          .inl ⟨kmp (nums L), kI g2, .inr ⟨od, by rw [upd_ne nDB]; exact hD3⟩, rfl, by rw [val_kmp, nums_look ndL g2L]⟩
        refine ⟨rfl, D, .int (L.idxOf g2 : Nat), rfl, dg, _, upd_same, by rw [List.length_map, List.length_map]; omega, _, nB2, upd_upd, gs ++ [g2], by rw [iv_app]; rfl, by rw [List.map_append, iv_app]; rfl⟩
      · obtain ⟨_, rfl, gs, eg, rfl⟩ := h
        obtain rfl := iv_inj eg
        have nB2B : B ≠ B2 := ne_of_none hB3 nB2
        have nDB : D ≠ B2 := ne_of_none hD3 nB2
        have nB2H : H B2 = none := Same.free e3 nB2
        refine ⟨ls.map V.ref, by rw [upd_ne nB2B]; exact hB3, by rw [List.length_map]; omega, _, ps ++ [g], ls ++ [B2], by rw [iv_app]; rfl, by rw [List.length_append, List.length_append, lps]; rfl, rfl, same_upd2 (same_upd2 e3 nB2H) nBH, ?_, by rw [upd_same, List.map_append]; rfl, by rw [List.length_append, ← lps]; exact lps2, fun i q p hq hp => ?_⟩
        · rw [upd_ne hBD.symm, upd_ne nDB]; exact hD3
        · rcases Nat.lt_or_ge i ls.length with hlt | hge
          · rw [List.getElem?_append_left hlt] at hq
            rw [List.getElem?_append_left (by omega)] at hp
            obtain ⟨a1, a2, a3⟩ := hls i q p hq hp
            exact ⟨a1, a2, by rw [upd_ne a1, upd_ne (ne_of_none a3 nB2)]; exact a3⟩
          · rw [List.getElem?_append_right hge] at hq
            rw [List.getElem?_append_right (by omega)] at hp
            have e6 : i - ls.length = 0 := by
              have := (List.getElem?_eq_some_iff.mp hq).1
              simp at this; omega
            rw [e6] at hq
            rw [show i - ps.length = 0 by omega] at hp
            have : B2 = q := by simpa using hq
            subst this
            have : g = p := by simpa using hp
            subst this
            exact ⟨nB2B.symm, nDB.symm, by rw [upd_ne nB2B.symm]; exact upd_same⟩
    · obtain ⟨ps, ls, ep, lps, rfl, e3, hD3, hB3, ll, hls⟩ := h
      rw [keys_nums] at ep
      obtain rfl := iv_inj ep
      refine ⟨hD3, ?_⟩
      have nBH : H B = none := Same.free e2 nB
      have hBD : B ≠ D := fun z => by rw [z, hD3] at hB3; cases hB3
      -- the dict is free again
      have e4 : Same H (upd H3 D (.dK (kmp (nums L)))) := same_upd2 e3 nD
      have hD4 : (upd H3 D (.dK (kmp (nums L)))) D = some (.dK (kmp (nums L))) := upd_same
      have hB4 : (upd H3 D (.dK (kmp (nums L)))) B = some (.lst (ls.map V.ref)) := by rw [upd_ne hBD]; exact hB3
      have hls4 : ∀ i q p, ls[i]? = some q → L[i]? = some p → (upd H3 D (.dK (kmp (nums L)))) q = some (.lst (iv ((gls R p).map fun g => L.idxOf g))) := fun i q p hq hp => by
        obtain ⟨a1, a2, a3⟩ := hls i q p hq hp
        rw [upd_ne a2]; exact a3
      generalize upd H3 D (.dK (kmp (nums L))) = H4 at e4 hD4 hB4 hls4
      refine ⟨D, _, hD4, trivial, fun od2 => ?_⟩
      have e5 : Same H (upd H4 D (.frz od2 (.dK (kmp (nums L))))) := same_upd2 e4 nD
      have hD5 : (upd H4 D (.frz od2 (.dK (kmp (nums L))))) D = some (.frz od2 (.dK (kmp (nums L)))) := upd_same
      refine lc_keys (d := D) (o := od2) (kvs := kmp (nums L)) (H1 := upd H4 D (.frz od2 (.dK (kmp (nums L))))) (by exact fun _ h => h) hD5
        (fun B2 pre acc H6 => (upd H4 D (.frz od2 (.dK (kmp (nums L))))) B2 = none ∧ H6 = upd (upd H4 D (.frz od2 (.dK (kmp (nums L))))) B2 (.lst acc) ∧ ∃ ps, pre = iv ps ∧ acc = (ps.map fun p => Kd.getD p false).map V.bl)
        (fun B2 pre acc H6 h => ?_) (fun B2 nB2 => ⟨nB2, rfl, [], rfl, rfl⟩) (fun B2 nB2 pre acc x suf H6 ex h => ?_) (fun B2 nB2 acc H6 h => ?_)
      · obtain ⟨n, rfl, _⟩ := h
        rw [upd_ne (ne_of_none hD5 n)]; exact hD5
      · obtain ⟨_, rfl, ps, rfl, rfl⟩ := h
        rw [keys_nums] at ex
        obtain ⟨p0, g, q0, eL, ep, rfl⟩ := split_iv ex
        obtain rfl := iv_inj ep
        have gL : g ∈ L := by rw [eL]; simp
        have lps2 : ps.length + 1 ≤ L.length := by rw [eL]; simp
        have hk6 : SqB K tk (upd (upd H4 D (.frz od2 (.dK (kmp (nums L))))) B2 (.lst ((ps.map fun p => Kd.getD p false).map V.bl))) k (Kd.map V.bl) := hk.ext (same_upd2 e5 (Same.free e5 nB2))
        have hkd : Kd[g]? = some (Kd.getD g false) := by
          rw [List.getD_eq_getElem?_getD, List.getElem?_eq_getElem (by rw [ok.kinds]; exact hltL g gL)]; rfl
        refine ⟨rfl, Kd.map V.bl, .bl (Kd.getD g false), hk6.or, atI_nat (by rw [List.getElem?_map, hkd]; rfl), ?_⟩
        exact ⟨_, upd_same, by rw [List.length_map, List.length_map]; omega, _, nB2, upd_upd, ps ++ [g], by rw [iv_app]; rfl, by rw [List.map_append, List.map_append]; rfl⟩
      · obtain ⟨_, rfl, ps, ep2, rfl⟩ := h
        rw [keys_nums] at ep2
        obtain rfl := iv_inj ep2
        have nDB2 : D ≠ B2 := ne_of_none hD5 nB2
        have nB2H : H B2 = none := Same.free e5 nB2
        have h4B2 : H4 B2 = none := by rw [upd_ne nDB2.symm] at nB2; exact nB2
        have nBB2 : B ≠ B2 := ne_of_none hB4 h4B2
        refine ⟨by rw [upd_ne nDB2]; exact hD5, rfl, ?_⟩
        have e7 : Same H (upd (upd (upd H4 D (.frz od2 (.dK (kmp (nums L))))) B2 (.lst ((L.map fun p => Kd.getD p false).map V.bl))) D (.dK (kmp (nums L)))) := same_upd2 (same_upd2 e5 nB2H) nD
        have hB7 : (upd (upd (upd H4 D (.frz od2 (.dK (kmp (nums L))))) B2 (.lst ((L.map fun p => Kd.getD p false).map V.bl))) D (.dK (kmp (nums L)))) B = some (.lst (ls.map V.ref)) := by
          rw [upd_ne hBD, upd_ne nBB2, upd_ne hBD]; exact hB4
        have hB27 : (upd (upd (upd H4 D (.frz od2 (.dK (kmp (nums L))))) B2 (.lst ((L.map fun p => Kd.getD p false).map V.bl))) D (.dK (kmp (nums L)))) B2 = some (.lst ((L.map fun p => Kd.getD p false).map V.bl)) := by
          rw [upd_ne nDB2.symm]; exact upd_same
        have hls7 : ∀ i q p, ls[i]? = some q → L[i]? = some p → (upd (upd (upd H4 D (.frz od2 (.dK (kmp (nums L))))) B2 (.lst ((L.map fun p => Kd.getD p false).map V.bl))) D (.dK (kmp (nums L)))) q = some (.lst (iv ((gls R p).map fun g => L.idxOf g))) := fun i q p hq hp => by
          have a := hls4 i q p hq hp
          have a2 : q ≠ D := fun z => by rw [z, hD4] at a; cases a
          rw [upd_ne a2, upd_ne (ne_of_none a h4B2), upd_ne a2]; exact a
        generalize upd (upd (upd H4 D (.frz od2 (.dK (kmp (nums L))))) B2 (.lst ((L.map fun p => Kd.getD p false).map V.bl))) D (.dK (kmp (nums L))) = H8 at e7 hB7 hB27 hls7
        intro a d na nd2 nad
        have naH := Same.free e7 na
        have e9 : Same H8 (upd (upd H8 d (.own a)) a (.ins C d [])) := (same_upd nd2).trans (same_upd (by rw [upd_ne nad.symm]; exact na))
        have l0 : 1 ≤ L.length := by
          cases L with
          | nil => cases s0L
          | cons _ _ => simp
        refine ⟨a, d, B, B2, S, rn R L, L.map fun p => Kd.getD p false, rfl, ⟨ok.let_, rnok, by rw [rn_len]; exact l0, by rw [rn_len]; omega, by rw [List.length_map, rn_len]⟩, rnwh, ⟨false, ls, .inl (.inl (e9 _ _ hB7)), by rw [rn_len]; exact lps.symm, fun i q hq => ?_⟩, ⟨false, .inl (.inl (e9 _ _ hB27))⟩, upd_same, fun H' but mach => ?_⟩
        · have li : i < L.length := by
            have := (List.getElem?_eq_some_iff.mp hq).1
            omega
          have hp : L[i]? = some L[i] := List.getElem?_eq_getElem li
          refine ⟨false, .inl (.inl ?_)⟩
          rw [rn_gls hp]
          exact e9 _ _ (hls7 i q _ hq hp)
        · refine ⟨rfl, q H' a (fun b o hb => ?_) naH (mach.of (e7.trans e9))⟩
          have nba : b ≠ a := ne_of_none hb naH
          exact but b o nba (e9 _ _ (e7 _ _ hb))
end
end LK

namespace LK
open PySem PySem.Spec PyProof.Rows L2 LamX ClX
open scoped List
section
variable {P : Program} {w : World} {K : PySem.W.Frag} {mg : Str → Option Value} {base : Heap} {C : Addr}
end
end LK

namespace LK
open PySem PySem.Spec PyProof.Rows L2 LamX ClX
open scoped List
/-- what isinstance asks of the class -/
structure IsM (K : PySem.W.Frag) (C : Addr) : Prop where
  ty : ∀ (H : Hp) (a dx : Addr) (fs : List (Str × V)), H a = some (.ins C dx fs) → fs.lookup ("__class__" : Str) = none → TyX K H (.ref a) (.ref C)
  yes : PySem.W.kitOne K (.ref C) (.ref C) = some true
/-- a property and its promise -/
structure HasP (P : Program) (w : World) (K : PySem.W.Frag) (mg : Str → Option Value) (base : Heap) (k : Nat) (C : Addr) (f : Str) (sp : Sp) : Prop where
  ex : ∃ p g fd, PropOf K C f p g ∧ FnOk P w K mg base CX0 k g fd ["self"] sp ∧ Binds K fd ["self"] []
theorem HasP.up {P : Program} {w : World} {K : PySem.W.Frag} {mg : Str → Option Value} {base : Heap} {j k : Nat} {C : Addr} {f : Str} {sp : Sp} (F : HasP P w K mg base j C f sp) (h : j ≤ k) : HasP P w K mg base k C f sp := by
  obtain ⟨p, g, fd, a, b, c⟩ := F.ex
  exact ⟨p, g, fd, a, ⟨b.len, fun A outer s H args us vs Q E r => b.run A outer s H args us vs Q E (r.mono h)⟩, c⟩
theorem pe_propH {X : Cx} {k : Nat} {C : Addr} {f : Str} {sp : Sp} {e : Expr} {ta : TE} {pos : Pos} (F : HasP X.prog X.w X.K X.mg X.base k C f sp) (c : Cls X.K C) (hr : Room (k + 1) X.A) (he : PE X e ta)
    (hab : attributeBase e f X.env (eval e X.env) = eval e X.env := by rfl) : PE X (.Attribute e f pos) (tProp C sp [] E0 ta) := by
  obtain ⟨p, g, fd, hp, F, hb⟩ := F.ex
  exact pe_prop he c hp F hr hb .nil pass0 hab
theorem dpAll_rows {K : PySem.W.Frag} {H : Hp} : ∀ {rs : List Addr} {R : Rows}, rs.length = R.length → (∀ i p, rs[i]? = some p → H p = some (.lst (iv (gls R i)))) → DpAll K H (rs.map V.ref) (R.map encR)
  | [], [], _, _ => .nil
  | [], _ :: _, h, _ => by cases h
  | _ :: _, [], h, _ => by cases h
  | p :: rs, r :: R, h, hr => by
    refine .cons (.lst (.inl (.inl (hr 0 p rfl))) ?_) (dpAll_rows (by simpa using h) fun i q hq => hr (i + 1) q hq)
    show DpAll K H (iv r) (r.map fun (g : Nat) => .int (g : Int))
    induction r with
    | nil => exact .nil
    | cons g r ih => exact .cons (.int _) (dpAll_ints r)
where dpAll_ints {K : PySem.W.Frag} {H : Hp} : ∀ r : List Nat, DpAll K H (iv r) (r.map fun (g : Nat) => .int (g : Int))
  | [] => .nil
  | g :: r => .cons (.int _) (dpAll_ints r)
theorem dp_rows {K : PySem.W.Frag} {H : Hp} {r : Addr} {R : Rows} (h : RowsL H r R) : Dp K H (.ref r) (encRs R) := by
  obtain ⟨rs, h1, h2, h3⟩ := h
  exact .lst (.inl (.inl h1)) (dpAll_rows h2 h3)
theorem dp_kinds {K : PySem.W.Frag} {H : Hp} {k : Addr} {Kd : List Bool} (h : H k = some (.lst (Kd.map V.bl))) : Dp K H (.ref k) (encB Kd) := .lst (.inl (.inl h)) (dpAll_bl Kd)
theorem eqv_rowsB {a b : Rows} : PyData.eqv (encRs a) (encRs b) = decide (a = b) := by rw [Bool.eq_iff_iff, eqv_rows, decide_eq_true_eq]
theorem eqv_kindsB {a b : List Bool} : PyData.eqv (encB a) (encB b) = decide (a = b) := by rw [Bool.eq_iff_iff, eqv_kinds, decide_eq_true_eq]
section
variable {P : Program} {w : World} {K : PySem.W.Frag} {mg : Str → Option Value} {base : Heap} {C : Addr}
theorem scEq : FnScope ["self", "other"] ["self", "other"] (defScope sEq) := ⟨rfl, rfl, rfl, by decide +kernel, rfl, by decide +kernel, by decide +kernel⟩
/-- is it a machine with the same parts -/
def spEq (K : PySem.W.Frag) (C : Addr) : Sp := fun vs H Q _ => ∃ (a : Addr) (y : V) (S : List Nat) (R : Rows) (Kd : List Bool), vs = [.ref a, y] ∧ Mach C H a S R Kd ∧ R.length ≤ 1000 ∧
  ((∃ (b : Addr) (S' : List Nat) (R' : Rows) (Kd' : List Bool), y = .ref b ∧ Mach C H b S' R' Kd' ∧ R'.length ≤ 1000 ∧ ∀ H', Same H H' → Q (.bl (decide (S = S' ∧ R = R' ∧ Kd = Kd'))) H') ∨
    ∃ t, TyX K H y t ∧ PySem.W.kitOne K t (.ref C) = some false ∧ Q (.bl false) H)
theorem ok_eq {f : Addr} {fd : FuncData} {k : Nat} (F : Fun K "__eq__" "Machine.__eq__" sEq f fd) (M : Mx mg) (cM : ClsM K C) (iM : IsM K C) (gM : mg "Machine" = some (.ref C)) (HL : HasP P w K mg base k C "letters" (getSp C "_letters")) (HR : HasM P w K mg base (k + 1) C "rows" [] (spRows C)) (HK : HasM P w K mg base (k + 1) C "kinds" [] (spKinds C)) :
    FnG P w K mg base CX0 (k + 2) f fd ["self", "other"] (spEq K C) := by
  refine okG F scEq (fun vs H Q E h => ?_) (fun cdv A hA outer s H vs Q E hr h => ?_)
  · obtain ⟨a, x, S, R, Kd, rfl, _⟩ := h; rfl
  · obtain ⟨a, y, S, R, Kd, rfl, mm, hz, q⟩ := h
    refine ⟨_, pss_one (ps_ret (pe_andU (pe_callB call_isi (by rfl) M.isi b_isi (pa_cons (uv 1) (pa_cons (pe_glob (v := .ref C) (by rfl) gM rfl) pa_nil)))
      (pe_andU (pe_cu (o_eq hr.units) (pe_fldU (uv 0)) (pe_propH HL cM.cls hr (uv 1)))
      (pe_andU (pe_cu (o_eq hr.units) (pe_fldU (uv 0)) (pe_mH0 HR cM.cls hA hr (uv 1)))
      (pe_one (pe_cu (o_eq hr.units) (pe_fldU (uv 0)) (pe_mH0 HK cM.cls hA hr (uv 1)))))))), ?_⟩
    obtain ⟨dx, r, kk, rs, h1, h2, h3, h4, h5⟩ := id mm
    rcases q with ⟨b, S', R', Kd', rfl, mb, hz', q⟩ | ⟨t, ty, hk, q⟩
    · obtain ⟨dx', r', kk', rs', g1, g2, g3, g4, g5⟩ := id mb
      refine ⟨_, _, _, _, true, rfl, .own C, iM.ty _ _ _ _ g1 (mf_none (by decide +kernel) (by decide +kernel) (by decide +kernel)), iM.yes, .yes ?_⟩
      refine ⟨C, dx, _, .str (T S), h1, cM.cls, cM.nL, rfl, b, dx', _, rfl, g1, b, dx', _, .str (T S'), rfl, g1, rfl, ?_⟩
      refine Br.d (p := cs (T S) = cs (T S')) (fun eS => ?_) (fun nS => ?_)
      · have eS : S = S' := eS
        refine ⟨C, dx, _, .ref r, h1, cM.cls, cM.nR, rfl, dx', _, g1, mf_none (by decide +kernel) (by decide +kernel) (by decide +kernel), b, S', R', Kd', rfl, mb, hz', fun H1 p ls e1 np hp hl hls _ => ?_⟩
        refine ⟨encRs R, encRs R', dp_rows ⟨rs, e1 _ _ h2, h3, fun i p hp => e1 _ _ (h4 i p hp)⟩, dp_rows ⟨ls, hp, hl, fun i p hp => (hls i p hp).2.2⟩, (flat_rows R).shaped (by decide), (flat_rows R').shaped (by decide), ?_⟩
        show Br (PyData.eqv (encRs R) (encRs R')) _ _
        rw [eqv_rowsB]
        refine Br.d (fun eR => ?_) (fun nR => ?_)
        · refine ⟨C, dx, _, .ref kk, e1 _ _ h1, cM.cls, cM.nK, rfl, dx', _, e1 _ _ g1, mf_none (by decide +kernel) (by decide +kernel) (by decide +kernel), b, S', R', Kd', rfl, mb.ext e1, fun p2 np2 => ?_⟩
          refine ⟨encB Kd, encB Kd', dp_kinds (same_upd np2 _ _ (e1 _ _ h5)), dp_kinds upd_same, (flat_kinds Kd).shaped (by decide), (flat_kinds Kd').shaped (by decide), ?_⟩
          have := q _ (e1.trans (same_upd (o := .lst (Kd'.map V.bl)) np2))
          show Q (.bl (PyData.eqv (encB Kd) (encB Kd'))) _
          rw [eqv_kindsB]
          have e : decide (S = S' ∧ R = R' ∧ Kd = Kd') = decide (Kd = Kd') := decide_eq_decide.mpr ⟨fun z => z.2.2, fun z => ⟨eS, eR, z⟩⟩
          rw [e] at this
          exact this
        · have := q H1 e1
          rw [decide_eq_false (fun z => nR z.2.1)] at this
          exact this
      · have := q H (Same.refl _)
        rw [decide_eq_false (fun z => nS (by rw [z.1]))] at this
        exact this
    · exact ⟨_, _, _, _, false, rfl, .own C, ty, hk, .no q⟩
end
end LK

/-! == and != of lists of instances whose class has an __eq__ of its own, where all are equal one by one; no repr is under way -/
namespace LK
open PySem PySem.Spec PyProof.Rows L2 Builtin
open PySem.SeqAt
open AutoSeq1 (wpAny_loadPart')
open MeetsSeq MeetsSeq2 MeetsSeq3 SeqRoads2
section
variable {prog : Program} {w : World} {A : Around} {R : Result → Shared → Prop}
end
section
variable {prog : Program} {w : World} {A : Around} {E : Value → Shared → Prop} {s : Shared}
end
/-- what is asked below a body X at a place A -/
theorem Inv.envAt {X : Cx} {pins : List (Addr × Obj)} {σ : L2.St} {H : Hp} {s : Shared} {A : Around} (I : Inv X pins σ H s) (h : A.frames = X.A.frames) : Env0 X.prog X.w X.K X.mg X.base A X.stack s H := by
  have e := I.env0
  exact ⟨by rw [h]; exact e.frames, e.mod, e.bs, e.bsz, e.funs, e.frf, e.hok, e.bare⟩
section
variable {X : Cx} {n k : Nat} {C : Addr} {sp : Sp} {p : Str}
end
end LK

/-! a promise that is asked also where reprs of lists are under way, each of a list that holds an instance; repr of a list of instances whose class has a __repr__ of its own -/
namespace LK
open PySem PySem.Spec PyProof.Rows L2 Builtin
/-- each list of which a repr is under way holds an instance -/
def GN (g : List Code) (H : Hp) : Prop := ∀ id v rest kw, Code.builtin id ⟨v :: rest, kw⟩ ∈ g → ∃ (b : Addr) (xs : List V) (m C dx : Addr) (fs : List (Str × V)), v = .ref b ∧ H b = some (.lst xs) ∧ V.ref m ∈ xs ∧ H m = some (.ins C dx fs)
theorem ReadsAll.item {h : Heap} : ∀ {vs : List Value} {ds : List PyData} {as : List Addr}, ReadsAll h vs ds as → ∀ v ∈ vs, ∃ d bs, Reads h v d bs
  | _, _, _, .nil, _, hv => nomatch hv
  | _, _, _, .cons r rs, v, hv => by
    rcases List.mem_cons.mp hv with rfl | hv
    · exact ⟨_, _, r⟩
    · exact ReadsAll.item rs v hv
section
variable {X : Cx} {pins : List (Addr × Obj)} {σ : L2.St} {H : Hp} {s : Shared}
theorem GN.clear {g : List Code} (h : GN g H) (I : Inv X pins σ H s) {b : Addr} {d : PyData} {as : List Addr} (r : Reads s.heap (.ref b) d as) : Clear g b := by
  intro id v rest kw hm e
  obtain ⟨b', xs, m, C, dx, fs, rfl, hb, hx, hi⟩ := h id v rest kw hm
  obtain rfl : b' = b := Value.ref.inj e
  obtain ⟨z, its, k, r1, e1⟩ := I.hok b' _ hb
  obtain ⟨i, gi⟩ := List.mem_iff_getElem?.mp hx
  obtain ⟨u, gu, ru⟩ := r1.get gi
  obtain rfl : u = Value.ref m := ru
  obtain ⟨mA, J, _⟩ := ins_get I.hok hi
  obtain ⟨od, ⟨J, jc, _⟩, _⟩ := J.look
  cases r with
  | list h1 h2 h3 h4 =>
    rw [e1] at h1
    obtain rfl := Option.some.inj h1
    injection h3 with h3 h5
    subst h3
    obtain ⟨d', bs, r'⟩ := ReadsAll.item h4 (.ref m) (by simpa using List.mem_of_getElem? gu)
    cases r' with
    | list k1 k2 k3 k4 => rw [J] at k1; obtain rfl := Option.some.inj k1; rw [jc] at k2; cases k2
    | tuple k1 k2 k3 k4 => rw [J] at k1; obtain rfl := Option.some.inj k1; rw [jc] at k2; cases k2
    | dict k1 k2 k3 k4 k5 => rw [J] at k1; obtain rfl := Option.some.inj k1; rw [jc] at k2; cases k2
  | tuple h1 h2 h3 h4 => rw [e1] at h1; obtain rfl := Option.some.inj h1; exact absurd h2 (by intro z; injection z with z; exact absurd z (by decide))
  | dict h1 h2 h3 h4 h5 => rw [e1] at h1; obtain rfl := Option.some.inj h1; exact absurd h2 (by intro z; injection z with z; exact absurd z (by decide))
end
end LK

namespace LK
open PySem PySem.Spec PyProof.Rows L2 Builtin
/-- a def's promise where reprs of lists that hold instances may be under way -/
structure FnR (P : Program) (w : World) (K : PySem.W.Frag) (mg : Str → Option Value) (base : Heap) (CX : CXT) (k : Nat) (f : Addr) (fd : FuncData) (ps : List Str) (sp : Sp) : Prop where
  len : ∀ vs H Q E, sp vs H Q E → vs.length = ps.length
  run : ∀ (A : Around) (g : List Code), A.guards = some g → ∀ (outer : List Env) (s : Shared) (H : Hp) (args : Args) (us : List Value) (vs : List V) (Q : VK) (E : XK), GN g H → Room k A → Env0 P w K mg base A outer s H →
    BindsTo s fd args (ps.zip us) → Vals vs us → sp vs H Q E → codeAny (model P w) A (.call (.ref f) args) (CR CX outer P w H s Q E) s
section
variable {P : Program} {w : World} {K : PySem.W.Frag} {mg : Str → Option Value} {base : Heap} {CX : CXT} {k : Nat} {f : Addr} {fd : FuncData} {ps : List Str} {sp : Sp}
theorem FnR.up {j : Nat} (F : FnR P w K mg base CX j f fd ps sp) (h : j ≤ k) : FnR P w K mg base CX k f fd ps sp := ⟨F.len, fun A g hg outer s H args us vs Q E gn r => F.run A g hg outer s H args us vs Q E gn (r.mono h)⟩
theorem fnR_of {nm q : Str} {pa : Arguments} {bd : List Stmt} {sc : Scope} {dV kV dc pm cd ct oc : Value} {an od : Option Addr} {sl : Array (Option Value)} {N : List Str}
    (lk : K.lookup f = some ⟨oc, od, .func (PySem.W.fnOf nm q pa bd sc dV kV dc pm an cd ct), sl⟩) (hc : PySem.W.codeIn K cd q = true) (S : FnScope N ps sc) (len : ∀ vs H Q E, sp vs H Q E → vs.length = ps.length)
    (hb : ∀ (A : Around) (g : List Code), A.guards = some g → ∀ (outer : List Env) (s : Shared) (H : Hp) (vs : List V) (Q : VK) (E : XK), GN g H → Room k (A.deeper (envOfC q sc s.heap.objs.size f cd)) → sp vs H Q E →
      ∃ t, PSs (cxOf CX P w K mg base N q sc f cd A outer s H E) bd t ∧ t { nx := fun _ H' => Q .non H', rt := Q } (start N vs) H) :
    FnR P w K mg base CX (k + 1) f (PySem.W.fnOf nm q pa bd sc dV kV dc pm an cd ct) ps sp where
  len := len
  run := by
    intro A g hg outer s H args us vs Q E gn hr e0 bnd rel hs
    have inB : ∀ b o, base.get? b = some o → s.heap.get? b = some o := fun b o e => (e0.bs b o e).1
    have kin : K.In s.heap := e0.mod.kin.keeps inB
    have kd : ∀ y ∈ ps.zip us, sc.names.lookup y.1 = some .local ∨ (sc.names.lookup y.1 = some .cell ∧ ((cellsFrom (s.heap.objs.size + 1) sc.names []).lookup y.1).isSome = true) := fun y hy =>
      (S.par y.1 (List.of_mem_zip (a := y.1) (b := y.2) hy).1).imp id fun z => ⟨z, PySem.W.cellsFrom_some _ _ _ (.inl z)⟩
    refine codeAny_call_function hr.depth (kin _ _ lk) rfl S.co S.gen rfl (PySem.W.codeRec_of kin hc) (bnd _ _ _ _ ?_)
    refine wpAny_newFunctionEnv_cells S.kind kd ?_
    intro env he s1 inC
    subst he
    refine ⟨(e0.mod.nolimit.keeps inB).keeps inC.toInCall.keep, codeAny_func ?_⟩
    obtain ⟨t, ht, hq⟩ := hb A g hg outer s H vs Q E gn (hr.deeper _) hs
    have I0 := inv_start (CX := CX) (mg := mg) (E := E) S hr.hd e0 (len _ _ _ _ hs) rel inC
    refine wpAny_mono (ht.run [] s1 (start N vs) H _ I0 hq) ?_ (fun _ _ z => z)
    intro fl s' z
    have fin : ∀ (σ' : L2.St) (H' : Hp) (v : V) (u : Value), Inv (cxOf CX P w K mg base N q sc f cd A outer s H E) [] σ' H' s' → L2.RelV v u → Q v H' → CE outer P w H s Q u s' :=
      fun _ H' v _ J rv y => ⟨v, H', J.os, J.bare, J.base, J.hok, rv, y⟩
    cases fl with
    | ret u => obtain ⟨v, σ', H', J, rv, y⟩ := z; exact fin σ' H' v u J rv y
    | next => obtain ⟨σ', H', J, y⟩ := z; exact fin σ' H' V.non Value.none J rfl y
    | brk => obtain ⟨_, _, _, y⟩ := z; exact y.elim
    | cont => obtain ⟨_, _, _, y⟩ := z; exact y.elim
end
section
variable {P : Program} {w : World} {K : PySem.W.Frag} {mg : Str → Option Value} {base : Heap}
theorem okR {x q : Str} {st : Stmt} {f : Addr} {fd : FuncData} {N ps : List Str} {k : Nat} {sp : Sp} (F : Fun K x q st f fd) (S : FnScope N ps (defScope st)) (len : ∀ vs H Q E, sp vs H Q E → vs.length = ps.length)
    (hb : ∀ (cd : Value) (A : Around) (g : List Code), A.guards = some g → ∀ (outer : List Env) (s : Shared) (H : Hp) (vs : List V) (Q : VK) (E : XK), GN g H → Room k (A.deeper (envOfC q (defScope st) s.heap.objs.size f cd)) → sp vs H Q E →
      ∃ t, PSs (cxOf CX0 P w K mg base N q (defScope st) f cd A outer s H E).nox (defBody st) t ∧ t { nx := fun _ H' => Q .non H', rt := Q } (start N vs) H) : FnR P w K mg base CX0 (k + 1) f fd ps sp := by
  obtain ⟨oc, od, kV, dc, pm, an, cd, ct, sl, rfl, lk, hc⟩ := F.ex
  refine fnR_of lk hc S len ?_
  intro A g hg outer s H vs Q E gn hr hs
  obtain ⟨t, h, z⟩ := hb cd A g hg outer s H vs Q E gn hr hs
  exact ⟨t, h.nox, z⟩
/-- a method with such a promise -/
structure HasR (P : Program) (w : World) (K : PySem.W.Frag) (mg : Str → Option Value) (base : Heap) (k : Nat) (C : Addr) (m : Str) (sp : Sp) : Prop where
  ex : ∃ f fd, FnR P w K mg base CX0 k f fd ["self"] sp ∧ Meth K C m f ∧ Binds K fd ["self"] []
theorem HasR.up {j k : Nat} {C : Addr} {m : Str} {sp : Sp} (F : HasR P w K mg base j C m sp) (h : j ≤ k) : HasR P w K mg base k C m sp := by
  obtain ⟨f, fd, a, b⟩ := F.ex
  exact ⟨f, fd, a.up h, b⟩
end
section
variable {X : Cx} {e : Expr} {te : TE} {pos : Pos} {g : List Code}
/-- {e!r}, e a list of data, where reprs may be under way -/
def tFmtR (K : PySem.W.Frag) (g : List Code) (te : TE) : TE := fun σ H Q => te σ H fun x H1 => match x with
  | .ref a => ∃ d ds, GN g H1 ∧ Dp K H1 (.ref a) (.list (d :: ds)) ∧ Shw (.list (d :: ds)) ∧ (PyData.list (d :: ds)).shown.length ≤ sizeLine ∧ Q (.str (PyData.list (d :: ds)).shown) H1
  | .str y => (reprText y).length ≤ sizeLine ∧ Q (.str (reprText y)) H1
  | _ => False
theorem pe_fmtR (hA : X.A.guards = some g) (hu : X.A.units + 64 < cLine) (he : PE X e te) : PE X (.FormattedValue e 114 none pos) (tFmtR X.K g te) := by
  constructor
  intro pins s σ H Q I w
  refine wpAny_FormattedValue_repr (thn (he.run pins s σ H _ I w) fun v s1 z => ?_)
  obtain ⟨x, H1, I1, r1, q⟩ := z
  cases x with
  | ref a =>
    obtain ⟨d, ds, gn, hd, hw, hl, q⟩ := q
    obtain rfl : v = Value.ref a := r1
    obtain ⟨as, rd⟩ := Dp.reads I1 (.list (d :: ds)) _ (Value.ref a) hd rfl
    have dp := hw.dp
    have fin : ∀ h' u tk, (∀ b o, s1.heap.get? b = some o → h'.get? b = some o) → wpAny (model X.prog X.w) X.A (formatField (.str (PyData.list (d :: ds)).shown u) Str.empty) (EP X pins σ Q) X.xe { s1 with heap := h', toks := tk } := fun h' u tk hk => by
      have J := I1.kept (t' := tk) hk
      exact wpAny_formatField_str ⟨.str _, H1, J, ⟨_, rfl⟩, q⟩ ⟨.str _, H1, J.tok _, ⟨_, rfl⟩, q⟩ hl
    have rd0 := rd
    cases rd with
    | list h1 h2 h3 h4 =>
      rename_i o vs n as1
      have hz' : (listText (PyData.shownAll (d :: ds))).length ≤ sizeLine := by simpa only [PyData.shown] using hl
      have sh := hw.sh
      obtain ⟨bs, hb, hk⟩ := ReprAllK.of_readsAll (prog := X.prog) (w := X.w) h4 (by simpa [PyData.showable] using sh) (fun hx hm => (hw.nd (by simpa [PyData.hasDict] using hx)).elim) (fun t ht => Nat.le_trans (listText_mem_le ht) hz')
      have hna : a ∉ bs := not_mem_of_deeper rd0 (by simp only [PyData.depth]; omega) hb
      simp only [PyData.depth] at dp
      obtain ⟨l⟩ := vs
      cases l with
      | nil => cases h4
      | cons y l =>
        refine wpAny_pyReprObj_listK h1 h2 h3 hna (by simpa using hk.length_eq) (fun i z e => hk.item i z (by simpa using e)) hA (fun b hm => ?_) (by omega) (fun _ _ e => e) (fun h' u tk hkp => ?_) hz'
        · rcases List.mem_cons.mp hm with rfl | hm
          · exact gn.clear I1 rd0
          · obtain ⟨d', as', r', _⟩ := hb b hm
            exact gn.clear I1 r'
        · have := fin h' u tk hkp
          simpa only [PyData.shown] using this
  | str y =>
    obtain ⟨hl, q⟩ := q
    obtain ⟨t, rfl⟩ := r1
    exact pyReprObj_str (wpAny_formatField_str ⟨.str (reprText y), H1, I1.tok _, ⟨_, rfl⟩, q⟩ ⟨.str (reprText y), H1, I1.tok _, ⟨_, rfl⟩, q⟩ hl) hl
  | _ => exact q.elim
end
end LK

namespace LK
open PySem PySem.Spec PyProof.Rows L2 Builtin
open Builtin.List
theorem bndBy {M : Model} {A : Around} {E : Value → Shared → Prop} {s : Shared} {K : PySem.W.Frag} {x C f : Addr} {ox : Obj} {od : Option Obj} {name : Str} {last : Value → List Value → Sem Value} {Q : Option Value → Shared → Prop}
    (X : K.In s.heap) (J : PySem.W.InstAt s.heap x ox C od) (hs : PySem.W.findIn K (.ref C) name = some (some (.ref f))) (hf : PySem.W.isFn K (.ref f) = true)
    (h : wpAny M A (last (.ref f) [.ref x]) (fun v => Q (some v)) E s) : wpAny M A (callSpecialIfBoundBy? last (.ref x) name) Q E s := by
  simp only [callSpecialIfBoundBy?, bindSpecialIfBound?]
  refine wpAny_holding (wpAny_bind (wpAny_bind (wpAny_bind (J.type.here ((PySem.W.looks_findIn X hs).here ?_)))))
  refine wpAny_bind (wpAny_askSetting (wpAny_ite ?_))
  have fin : wpAny M A (last (.ref f) [.ref x] >>= fun v => pure (some v)) Q E s := wpAny_bind (wpAny_mono h (fun v s' h' => wpAny_pure h') fun _ _ h' => h')
  split
  · exact wpAny_bind ((PySem.W.bind_fn X _ (beq_iff_eq.mp hf)).here (wpAny_pure (by exact fin)))
  · exact wpAny_tryCatch (wpAny_bind ((PySem.W.bind_fn X _ (beq_iff_eq.mp hf)).here (wpAny_pure (by exact fin))))
section
variable {X : Cx} {pins : List (Addr × Obj)} {σ : L2.St} {H : Hp} {s : Shared} {n : Nat} {C : Addr} {sp : Sp}
theorem item_repr (F : HasR X.prog X.w X.K X.mg X.base n C "__repr__" sp) {A : Around} {g : List Code} {E : Value → Shared → Prop} {m dx : Addr} {fs : List (Str × V)} {t : Str} {base : Nat} (hA : A.guards = some g) (hf : A.frames = X.A.frames) (hr : Room n A)
    (I : Inv X pins σ H s) (gn : GN g H) (hi : H m = some (.ins C dx fs)) (hb : base ≤ sizeLine) (q : sp [.ref m] H (fun v H' => v = .str t ∧ Ext H H') E0) {Q : Str → Shared → Prop} (fin : ∀ s' H', Inv X pins σ H' s' → Ext H H' → Q t s') :
    wpAny (model X.prog X.w) A (pyReprUnder base (.ref m)) Q E s := by
  obtain ⟨f, fd, F, hm, hbd⟩ := F.ex
  obtain ⟨ox, od, J⟩ := inst_at I hi
  have kin := I.kIn
  refine wpAny_pyReprUnder_ref hb ?_
  unfold pyReprObjUnder pyReprObjBy
  refine wpAny_bind (wpAny_cRoomFor hr.units0 ?_)
  refine wpAny_bind (wpAny_bind (J.type.here ((PySem.W.looks_findIn kin hm.at_).here ?_)))
  show wpAny _ _ (if (some (Value.ref f)).isNone = true then _ else _) _ _ _
  rw [if_neg (by simp)]
  refine wpAny_bind (m := callSpecialIfBoundBy? _ (.ref m) (Str.ofString "__repr__")) (bndBy kin J hm.at_ hm.fn ?_)
  show wpAny _ _ (call (.ref f) [.ref m]) _ _ _
  have hl := F.len _ _ _ _ q
  refine wpAny_call (codeAny_mono (F.run A g hA X.stack s H ⟨[.ref m], []⟩ [.ref m] [.ref m] _ E0 gn hr (Inv.envAt I hf) (by
    have := hbd s [.ref m] I.kIn (by simpa using hl)
    simpa using this) (.cons rfl .nil) q) fun r s' hq => ?_)
  cases r with
  | error e => exact hq.elim
  | ok fl =>
    cases fl with
    | ret w =>
      obtain ⟨z, H', I', rz, ez, ex⟩ := I.after hq
      subst ez
      obtain ⟨tk, rfl⟩ := rz
      exact wpAny_bind (wpAny_isInstance (T := "str") (b := true) rfl isSubtype_str_str (wpAny_pure ⟨t, tk, rfl, fin _ _ I' ex⟩))
    | next => exact hq.elim
    | brk => exact hq.elim
    | cont => exact hq.elim
theorem loop_depth {A : Around} {args : Args} : (A.under (.builtin "list.__repr__.loop" args)).depth ≤ A.depth + 1 := by
  first | exact Nat.le_refl _ | exact Nat.le_succ _ | (simp [Around.under, Code.weight, Code.isCreation, Code.isGuard, Code.isCaller, Code.frames, Code.isFrame, guardIds]) | (unfold Around.under; simp [Code.weight]; split <;> omega)
theorem room_loop {k : Nat} {A : Around} {args : Args} (r : Room (k + 1) A) : Room k (A.under (.builtin "list.__repr__.loop" args)) :=
  ⟨r.hd, by have := r.dp; have := loop_depth (A := A) (args := args); omega, by have := r.un; rw [units_under_list_loop]; omega⟩
theorem strs_of : ∀ {l : List Str} {us : List Value}, Vals (l.map V.str) us → ∃ done : List (Str × Tok), us = strValues done ∧ done.map (·.1) = l
  | [], [], _ => ⟨[], rfl, rfl⟩
  | [], _ :: _, h => by cases h
  | _ :: _, [], h => by cases h
  | t :: l, u :: us, .cons r h => by
    obtain ⟨done, e1, e2⟩ := strs_of h
    obtain ⟨tk, rfl⟩ := r
    exact ⟨(t, tk) :: done, by rw [e1]; rfl, by rw [List.map_cons, e2]⟩
end
end LK

namespace LK
open PySem PySem.Spec PyProof.Rows L2 LamX ClX
open scoped List
/-! a sheet's rows and kinds as they are shown -/
structure Shn (n m : Nat) (d : PyData) : Prop where
  sh : d.showable = true
  nd : d.hasDict = false
  dp : d.depth ≤ n
  lf : d.leavesShort 13 = true
  wt : d.weight ≤ m
theorem shn_int {g : Nat} (h : g < 64) : Shn 0 6 (.int g) := by
  have key : ∀ g : Nat, g < 64 → (PyData.int (g : Int)).showable = true ∧ (PyData.int (g : Int)).leavesShort 13 = true ∧ (PyData.int (g : Int)).weight ≤ 6 := by decide +kernel
  obtain ⟨a, b, c⟩ := key g h
  exact ⟨a, rfl, Nat.le_refl _, b, c⟩
theorem shn_bl (b : Bool) : Shn 0 6 (.bool b) := ⟨rfl, rfl, Nat.le_refl _, rfl, by show 0 ≤ 6; omega⟩
theorem shn_list {n m : Nat} {ds : List PyData} (h : ∀ d ∈ ds, Shn n m d) : Shn (n + 1) ((m + 1) * ds.length) (.list ds) := by
  have key : PyData.showableAll ds = true ∧ PyData.hasDictAll ds = false ∧ PyData.depthAll ds ≤ n ∧ PyData.leavesShortAll 13 ds = true ∧ PyData.weightAll ds ≤ (m + 1) * ds.length := by
    induction ds with
    | nil => exact ⟨rfl, rfl, Nat.zero_le _, rfl, Nat.zero_le _⟩
    | cons d ds ih =>
      obtain ⟨a, b, c, e, f⟩ := ih fun x hx => h x (List.mem_cons_of_mem _ hx)
      obtain ⟨a1, b1, c1, e1, f1⟩ := h d (by simp)
      refine ⟨by rw [PyData.showableAll, a1, a]; rfl, by rw [PyData.hasDictAll, b1, b]; rfl, by rw [PyData.depthAll]; exact Nat.max_le.mpr ⟨c1, c⟩, by rw [PyData.leavesShortAll, e1, e]; rfl, ?_⟩
      rw [PyData.weightAll, List.length_cons, Nat.mul_succ]; omega
  obtain ⟨a, b, c, e, f⟩ := key
  exact ⟨by rw [PyData.showable]; exact a, by rw [PyData.hasDict]; exact b, by rw [PyData.depth]; omega, by rw [PyData.leavesShort]; exact e, by rw [PyData.weight]; exact f⟩
theorem Shn.mono {n m m' : Nat} {d : PyData} (h : Shn n m d) (l : m ≤ m') : Shn n m' d := ⟨h.sh, h.nd, h.dp, h.lf, Nat.le_trans h.wt l⟩
theorem Shn.shw {n m : Nat} {d : PyData} (h : Shn n m d) (hn : n ≤ 3) (hm : m ≤ 2 ^ 20) : Shw d := ⟨h.sh, (fun z => by rw [h.nd] at z; cases z), Nat.le_trans h.dp hn, h.lf, Nat.le_trans h.wt hm⟩
theorem Shn.len {n m : Nat} {d : PyData} (h : Shn n m d) : d.shown.length ≤ 15 * m + 13 := by
  have a := PyData.shown_le 13 (by omega) d h.lf
  have b := Nat.mul_le_mul_left 15 h.wt
  omega
theorem shn_rows {S : List Nat} {R : Rows} {Kd : List Bool} (ok : ShOk S R Kd) : Shn 2 880 (encRs R) := by
  have hi := ok.hi
  have l3 := ok.let_.hi
  have : Shn 2 ((21 + 1) * (R.map encR).length) (encRs R) := shn_list fun d hd => by
    obtain ⟨r, hr, rfl⟩ := List.mem_map.mp hd
    have lr := ok.rows.len r hr
    refine (shn_list (m := 6) fun d hd => ?_).mono (by rw [List.length_map]; omega)
    obtain ⟨g, hg, rfl⟩ := List.mem_map.mp hd
    exact shn_int (by have := ok.rows.lt r hr g hg; omega)
  exact this.mono (by rw [List.length_map]; omega)
theorem shn_kinds {S : List Nat} {R : Rows} {Kd : List Bool} (ok : ShOk S R Kd) : Shn 1 280 (encB Kd) := by
  have hi := ok.hi
  have hk := ok.kinds
  exact (shn_list (m := 6) fun d hd => by
    obtain ⟨g, _, rfl⟩ := List.mem_map.mp hd
    exact shn_bl _).mono (by rw [List.length_map]; omega)
theorem rep_let {S : List Nat} (ok : LetOk S) : (reprText (T S)).length ≤ 32 := by
  have a := PySem.StrLaws.reprText_len (T S) fun c hc => by
    have := ok.sm.asc c hc
    have : (128 : Nat) < 16 ^ 8 := by decide
    omega
  have b : (T S).length = S.length := rfl
  have := ok.hi
  omega
/-- a machine as it is shown -/
def spk (S : List Nat) (R : Rows) (Kd : List Bool) : Str := Str.empty ++ "Machine(" ++ reprText (T S) ++ ", " ++ (encRs R).shown ++ ", " ++ (encB Kd).shown ++ ")"
section
variable {P : Program} {w : World} {K : PySem.W.Frag} {mg : Str → Option Value} {base : Heap} {C : Addr}
theorem scRepr : FnScope ["self"] ["self"] (defScope sRepr) := ⟨rfl, rfl, rfl, by decide +kernel, rfl, by decide +kernel, by decide +kernel⟩
def spRepr (C : Addr) : Sp := fun vs H Q _ => ∃ (a : Addr) (S : List Nat) (R : Rows) (Kd : List Bool), vs = [.ref a] ∧ Mach C H a S R Kd ∧ ShOk S R Kd ∧ Q (.str (spk S R Kd)) H
theorem ok_repr {f : Addr} {fd : FuncData} {k : Nat} (F : Fun K "__repr__" "Machine.__repr__" sRepr f fd) (cM : ClsM K C) : FnR P w K mg base CX0 (k + 1) f fd ["self"] (spRepr C) := by
  refine okR F scRepr (fun vs H Q E h => ?_) (fun cdv A g hA outer s H vs Q E gn hr h => ?_)
  · obtain ⟨a, S, R, Kd, rfl, _⟩ := h; rfl
  · obtain ⟨a, S, R, Kd, rfl, mm, ok, q⟩ := h
    refine ⟨_, pss_one (ps_ret (pe_joined (.cons pe_str (.cons (pe_fmtR hA hr.units (pe_fldU (uv 0))) (.cons pe_str (.cons (pe_fmtR hA hr.units (pe_fldU (uv 0))) (.cons pe_str (.cons (pe_fmtR hA hr.units (pe_fldU (uv 0))) (.cons pe_str .nil))))))))), ?_⟩
    have lo := ok.lo
    have lk := ok.kinds
    obtain ⟨r0, R', rfl⟩ := List.exists_cons_of_ne_nil (l := R) (fun z => by rw [z] at lo; exact absurd lo (by decide))
    obtain ⟨b0, B', rfl⟩ := List.exists_cons_of_ne_nil (l := Kd) (fun z => by rw [z] at lk; simp at lk)
    obtain ⟨dx, r, kk, rs, h1, h2, h3, h4, h5⟩ := id mm
    have sl := sizeLine_eq
    have r1 := rep_let ok.let_
    have r2 := (shn_rows ok).len
    have r3 := (shn_kinds ok).len
    have r2' : (PyData.list (encR r0 :: R'.map encR)).shown.length ≤ 15 * 880 + 13 := r2
    have r3' : (PyData.list (PyData.bool b0 :: B'.map PyData.bool)).shown.length ≤ 15 * 280 + 13 := r3
    have k1 : (Str.empty ++ Str.ofString "Machine(").length = 8 := by decide +kernel
    have k2 : (Str.ofString ", ").length = 2 := by decide +kernel
    have k3 : (Str.ofString ")").length = 1 := by decide +kernel
    have ad : ∀ x y : Str, (x ++ y).length = x.length + y.length := fun x y => PySem.strLen_append x y
    refine ⟨_, rfl, by rw [k1]; omega, C, dx, _, .str (T S), h1, cM.cls, cM.nL, rfl, ⟨by omega, _, rfl, by rw [ad, k1]; omega, ?_⟩⟩
    refine ⟨_, rfl, by rw [ad, ad, k1, k2]; omega, C, dx, _, .ref r, h1, cM.cls, cM.nR, rfl, encR r0, R'.map encR, gn, dp_rows ⟨rs, h2, h3, h4⟩, (shn_rows ok).shw (by omega) (by decide), (show (encRs (r0 :: R')).shown.length ≤ sizeLine by omega), _, rfl, by rw [ad, ad, ad, k1, k2]; omega, ?_⟩
    refine ⟨_, rfl, by rw [ad, ad, ad, ad, k1, k2]; omega, C, dx, _, .ref kk, h1, cM.cls, cM.nK, rfl, PyData.bool b0, B'.map PyData.bool, gn, dp_kinds h5, (shn_kinds ok).shw (by omega) (by decide), (show (encB (b0 :: B')).shown.length ≤ sizeLine by omega), _, rfl, by rw [ad, ad, ad, ad, ad, k1, k2]; omega, ?_⟩
    exact ⟨_, rfl, by rw [ad, ad, ad, ad, ad, ad, k1, k2, k3]; omega, q⟩
end
end LK

/-! machines that go side by side are numbered alike -/
namespace LK
open PySem PySem.Spec PyProof.Rows L2
open scoped List
/-- a relation that is one to one -/
structure One (Rl : Nat → Nat → Prop) : Prop where
  fn : ∀ {a b c}, Rl a b → Rl a c → b = c
  inj : ∀ {a b c}, Rl a c → Rl b c → a = b
/-- two lists side by side -/
inductive Side (Rl : Nat → Nat → Prop) : List Nat → List Nat → Prop
  | nil : Side Rl [] []
  | cons {a b : Nat} {l k : List Nat} : Rl a b → Side Rl l k → Side Rl (a :: l) (b :: k)
namespace Side
variable {Rl : Nat → Nat → Prop}
theorem len : ∀ {l k : List Nat}, Side Rl l k → l.length = k.length
  | _, _, .nil => rfl
  | _, _, .cons _ h => by rw [List.length_cons, List.length_cons, h.len]
theorem get : ∀ {l k : List Nat}, Side Rl l k → ∀ {i a b : Nat}, l[i]? = some a → k[i]? = some b → Rl a b
  | _, _, .cons h _, 0, a, b, h1, h2 => by
    simp at h1 h2; subst h1; subst h2; exact h
  | _, _, .cons _ h, i + 1, a, b, h1, h2 => h.get (i := i) (by simpa using h1) (by simpa using h2)
theorem some_of {l k : List Nat} (h : Side Rl l k) {i a : Nat} (ha : l[i]? = some a) : ∃ b, k[i]? = some b ∧ Rl a b := by
  have hi := (List.getElem?_eq_some_iff.mp ha).1
  have hi2 : i < k.length := by rw [← h.len]; exact hi
  have hk : k[i]? = some k[i] := List.getElem?_eq_getElem hi2
  exact ⟨_, hk, h.get ha hk⟩
theorem snoc : ∀ {l k : List Nat} {a b : Nat}, Side Rl l k → Rl a b → Side Rl (l ++ [a]) (k ++ [b])
  | _, _, _, _, .nil, h => .cons h .nil
  | _, _, _, _, .cons h0 t, h => .cons h0 (t.snoc h)
theorem mem (o : One Rl) : ∀ {l k : List Nat} {a b : Nat}, Side Rl l k → Rl a b → (a ∈ l ↔ b ∈ k)
  | _, _, _, _, .nil, _ => by simp
  | _, _, a, b, .cons (a := x) (b := y) h t, r => by
    rw [List.mem_cons, List.mem_cons, t.mem o r]
    constructor
    · rintro (rfl | h2)
      · exact .inl (o.fn r h)
      · exact .inr h2
    · rintro (rfl | h2)
      · exact .inl (o.inj r h)
      · exact .inr h2
theorem add1 (o : One Rl) {l k : List Nat} {a b : Nat} (h : Side Rl l k) (r : Rl a b) : Side Rl (LK.add1 l a) (LK.add1 k b) := by
  unfold LK.add1
  by_cases e : a ∈ l
  · rw [if_pos e, if_pos ((h.mem o r).mp e)]; exact h
  · rw [if_neg e, if_neg fun z => e ((h.mem o r).mpr z)]; exact h.snoc r
theorem adds (o : One Rl) : ∀ {g1 g2 : List Nat}, Side Rl g1 g2 → ∀ {l k : List Nat}, Side Rl l k → Side Rl (LK.adds l g1) (LK.adds k g2)
  | _, _, .nil, _, _, h => h
  | _, _, .cons r t, _, _, h => t.adds o (h.add1 o r)
end Side
section
variable {Rl : Nat → Nat → Prop} {R1 R2 : Rows} {s1 s2 : Nat}
/-- goals side by side -/
def Steps (Rl : Nat → Nat → Prop) (R1 R2 : Rows) : Prop := ∀ a b, Rl a b → Side Rl (gls R1 a) (gls R2 b)
theorem fnd_side (o : One Rl) (st : Steps Rl R1 R2) (h : Rl s1 s2) : ∀ i, Side Rl (fnd R1 s1 i) (fnd R2 s2 i)
  | 0 => .cons h .nil
  | i + 1 => by
    have ih := fnd_side o st h i
    show Side Rl (match (fnd R1 s1 i)[i]? with | some p => adds (fnd R1 s1 i) (gls R1 p) | none => fnd R1 s1 i) (match (fnd R2 s2 i)[i]? with | some p => adds (fnd R2 s2 i) (gls R2 p) | none => fnd R2 s2 i)
    cases h1 : (fnd R1 s1 i)[i]? with
    | none =>
      have : (fnd R2 s2 i)[i]? = none := by
        rw [List.getElem?_eq_none_iff] at h1 ⊢
        rw [← ih.len]; exact h1
      rw [this]; exact ih
    | some p =>
      obtain ⟨q, h2, r⟩ := ih.some_of h1
      rw [h2]
      exact (st _ _ r).adds o ih
theorem met_side {m1 m2 : Nat} (o : One Rl) (st : Steps Rl R1 R2) (h : Rl s1 s2) (ok1 : RowsOk R1 m1) (ok2 : RowsOk R2 m2) (h1 : s1 < R1.length) (h2 : s2 < R2.length) : Side Rl (met R1 s1) (met R2 s2) := by
  have a := fnd_side o st h (R1.length + R2.length)
  have e1 : fnd R1 s1 (R1.length + R2.length) = met R1 s1 := fnd_met ok1 h1 (by have := fnd_len (s := s1) ok1 h1 (R1.length + R2.length); omega)
  have e2 : fnd R2 s2 (R1.length + R2.length) = met R2 s2 := fnd_met ok2 h2 (by have := fnd_len (s := s2) ok2 h2 (R1.length + R2.length); omega)
  rw [e1, e2] at a; exact a
end
end LK

/-! what machines take: least machines are one for all machines with the same texts -/
namespace LK
open PySem PySem.Spec PyProof.Rows L2
open scoped List
abbrev kd (K : List Bool) (p : Nat) : Bool := K.getD p false
/-- the place to which some columns lead -/
def go (R : Rows) (p : Nat) (is : List Nat) : Nat := is.foldl (fun p i => (gls R p).getD i 0) p
def Col (m : Nat) (is : List Nat) : Prop := ∀ i ∈ is, i < m
section
variable {R : Rows} {m p : Nat} {is js : List Nat}
theorem Col.app (h : Col m is) (k : Col m js) : Col m (is ++ js) := fun i hi => (List.mem_append.mp hi).elim (h i) (k i)
theorem Col.one {i : Nat} (h : i < m) : Col m [i] := fun j hj => by simp at hj; omega
theorem Col.nil : Col m [] := fun _ h => nomatch h
theorem go_app : go R p (is ++ js) = go R (go R p is) js := by unfold go; rw [List.foldl_append]
theorem go_one {i : Nat} : go R p [i] = (gls R p).getD i 0 := rfl
theorem getD_mem {l : List Nat} {i : Nat} (h : i < l.length) : l.getD i 0 ∈ l := by
  rw [List.getD_eq_getElem?_getD, List.getElem?_eq_getElem h]; exact List.getElem_mem h
theorem go_step (ok : RowsOk R m) (hp : p < R.length) {i : Nat} (hi : i < m) : (gls R p).getD i 0 ∈ gls R p := getD_mem (by rw [gls_len ok hp]; exact hi)
theorem go_lt (ok : RowsOk R m) : ∀ {is : List Nat} {p : Nat}, p < R.length → Col m is → go R p is < R.length
  | [], p, hp, _ => hp
  | i :: is, p, hp, h => go_lt ok (is := is) (p := (gls R p).getD i 0) (gls_lt (p := p) ok (go_step ok hp (h i (by simp)))) fun j hj => h j (by simp [hj])
end
/-- from p and from q the same texts lead to places that take -/
def Alike (m : Nat) (R : Rows) (K : List Bool) (p q : Nat) : Prop := ∀ is, Col m is → kd K (go R p is) = kd K (go R q is)
theorem Alike.go {m : Nat} {R : Rows} {K : List Bool} {p q : Nat} (h : Alike m R K p q) {is : List Nat} (c : Col m is) : Alike m R K (go R p is) (go R q is) := fun js d => by
  rw [← go_app, ← go_app]; exact h _ (c.app d)
/-- two machines, each from a place of its own, take the same -/
def SameL (m : Nat) (R1 : Rows) (K1 : List Bool) (p1 : Nat) (R2 : Rows) (K2 : List Bool) (p2 : Nat) : Prop := ∀ is, Col m is → kd K1 (LK.go R1 p1 is) = kd K2 (LK.go R2 p2 is)
/-- the least machine of what R, K take from s on, numbered as come to -/
structure LeastOf (m : Nat) (R : Rows) (K : List Bool) (s : Nat) (A : Rows) (KA : List Bool) : Prop where
  rows : RowsOk A m
  lo : 1 ≤ A.length
  hi : A.length ≤ R.length
  kinds : KA.length = A.length
  canon : met A 0 = List.range A.length
  lang : SameL m A KA 0 R K s
  red : ∀ p q, p < A.length → q < A.length → Alike m A KA p q → p = q
theorem side_of {Rl : Nat → Nat → Prop} : ∀ {l k : List Nat}, l.length = k.length → (∀ i, i < l.length → Rl (l.getD i 0) (k.getD i 0)) → Side Rl l k
  | [], [], _, _ => .nil
  | [], _ :: _, h, _ => by simp at h
  | _ :: _, [], h, _ => by simp at h
  | a :: l, b :: k, h, f => .cons (f 0 (by simp)) (side_of (by simpa using h) fun i hi => by
      have := f (i + 1) (by simp; omega)
      simpa using this)
theorem side_eq {Rl : Nat → Nat → Prop} (h : ∀ a b, Rl a b → a = b) : ∀ {l k : List Nat}, Side Rl l k → l = k
  | _, _, .nil => rfl
  | _, _, .cons r t => by rw [h _ _ r, side_eq h t]
theorem gls_at {R : Rows} {i : Nat} (h : i < R.length) : gls R i = R[i] := by
  unfold gls; rw [List.getD_eq_getElem?_getD, List.getElem?_eq_getElem h]; rfl
theorem LeastOf.uniq {m : Nat} {R1 R2 A B : Rows} {K1 K2 KA KB : List Bool} {s1 s2 : Nat} (h1 : LeastOf m R1 K1 s1 A KA) (h2 : LeastOf m R2 K2 s2 B KB) (h : SameL m R1 K1 s1 R2 K2 s2) : A = B ∧ KA = KB := by
  have ab : SameL m A KA 0 B KB 0 := fun is c => by rw [h1.lang is c, h is c, h2.lang is c]
  let Rl : Nat → Nat → Prop := fun a b => ∃ is, Col m is ∧ LK.go A 0 is = a ∧ LK.go B 0 is = b
  have o : One Rl := by
    constructor
    · rintro a b c ⟨is, c1, e1, e2⟩ ⟨js, c2, e3, e4⟩
      refine h2.red b c (e2 ▸ go_lt h2.rows h2.lo c1) (e4 ▸ go_lt h2.rows h2.lo c2) fun ks c3 => ?_
      rw [← e2, ← e4, ← go_app, ← go_app, ← ab _ (c1.app c3), ← ab _ (c2.app c3), go_app, go_app, e1, e3]
    · rintro a b c ⟨is, c1, e1, e2⟩ ⟨js, c2, e3, e4⟩
      refine h1.red a b (e1 ▸ go_lt h1.rows h1.lo c1) (e3 ▸ go_lt h1.rows h1.lo c2) fun ks c3 => ?_
      rw [← e1, ← e3, ← go_app, ← go_app, ab _ (c1.app c3), ab _ (c2.app c3), go_app, go_app, e2, e4]
  have st : Steps Rl A B := by
    rintro a b ⟨is, c, e1, e2⟩
    have la : a < A.length := e1 ▸ go_lt h1.rows h1.lo c
    have lb : b < B.length := e2 ▸ go_lt h2.rows h2.lo c
    refine side_of (by rw [gls_len h1.rows la, gls_len h2.rows lb]) fun i hi => ?_
    rw [gls_len h1.rows la] at hi
    refine ⟨is ++ [i], c.app (.one hi), ?_, ?_⟩
    · rw [go_app, e1, go_one]
    · rw [go_app, e2, go_one]
  have ms := met_side (s1 := 0) (s2 := 0) o st ⟨[], Col.nil, rfl, rfl⟩ h1.rows h2.rows h1.lo h2.lo
  rw [h1.canon, h2.canon] at ms
  have ll : A.length = B.length := by have := ms.len; rwa [List.length_range, List.length_range] at this
  have dia : ∀ i, i < A.length → Rl i i := fun i hi => ms.get (i := i) (by rw [List.getElem?_range hi]) (by rw [List.getElem?_range (by omega)])
  have eq : ∀ a b, Rl a b → a = b := fun a b r => by
    have la : a < A.length := by obtain ⟨is, c, e, _⟩ := r; exact e ▸ go_lt h1.rows h1.lo c
    exact o.fn (dia a la) r
  refine ⟨List.ext_getElem ll fun i hi hj => ?_, List.ext_getElem (by rw [h1.kinds, h2.kinds, ll]) fun i hi hj => ?_⟩
  · have := side_eq eq (st i i (dia i hi))
    rwa [gls_at hi, gls_at hj] at this
  · obtain ⟨is, c, e1, e2⟩ := dia i (by rw [← h1.kinds]; exact hi)
    have := ab is c
    rw [e1, e2, kd, kd, List.getD_eq_getElem?_getD, List.getD_eq_getElem?_getD, List.getElem?_eq_getElem hi, List.getElem?_eq_getElem hj] at this
    exact this
theorem SameL.trans {m : Nat} {R1 R2 R3 : Rows} {K1 K2 K3 : List Bool} {s1 s2 s3 : Nat} (h : SameL m R1 K1 s1 R2 K2 s2) (k : SameL m R2 K2 s2 R3 K3 s3) : SameL m R1 K1 s1 R3 K3 s3 := fun is c => (h is c).trans (k is c)
theorem SameL.refl {m : Nat} {R1 : Rows} {K1 : List Bool} {s1 : Nat} : SameL m R1 K1 s1 R1 K1 s1 := fun _ _ => rfl
/-! ### other numbers -/
section
variable {R : Rows} {m s : Nat} {L : List Nat} {Kd : List Bool}
/-- L: places, closed under all steps -/
structure Clo (R : Rows) (m : Nat) (L : List Nat) : Prop where
  nd : L.Nodup
  lt : ∀ p ∈ L, p < R.length
  on : ∀ p ∈ L, ∀ g ∈ gls R p, g ∈ L
theorem met_clo (ok : RowsOk R m) (hs : s < R.length) : Clo R m (met R s) := ⟨met_nd, fnd_lt ok hs _, fun _ hp _ hg => met_closed ok hs hp hg⟩
theorem rn_ok' (ok : RowsOk R m) (c : Clo R m L) : RowsOk (rn R L) m := by
  constructor
  · intro r hr
    obtain ⟨p, hp, rfl⟩ := List.mem_map.mp hr
    rw [List.length_map]
    exact gls_len ok (c.lt p hp)
  · intro r hr g hg
    obtain ⟨p, hp, rfl⟩ := List.mem_map.mp hr
    obtain ⟨q, hq, rfl⟩ := List.mem_map.mp hg
    rw [rn_len]
    exact List.idxOf_lt_length_iff.mpr (c.on p hp q hq)
def RlL (L : List Nat) : Nat → Nat → Prop := fun x p => L[x]? = some p
theorem rl_one (c : Clo R m L) : One (RlL L) := by
  refine ⟨fun h k => by rw [RlL] at h k; rw [h] at k; exact Option.some.inj k, fun {a b p} h k => ?_⟩
  have h1 := (List.getElem?_eq_some_iff.mp h).1
  exact (List.getElem?_inj h1 c.nd).mp (h.trans k.symm)
theorem rl_steps (c : Clo R m L) : Steps (RlL L) (rn R L) R := fun x p h => by
  rw [rn_gls h]
  have hp : p ∈ L := List.mem_of_getElem? h
  have : ∀ l : List Nat, (∀ g ∈ l, g ∈ L) → Side (RlL L) (l.map fun g => L.idxOf g) l := by
    intro l hl
    induction l with
    | nil => exact .nil
    | cons g l ih => exact .cons (idx_get (hl g (by simp))) (ih fun g hg => hl g (by simp [hg]))
  exact this _ (c.on p hp)
theorem go_rn (ok : RowsOk R m) (c : Clo R m L) : ∀ {is : List Nat} {x p : Nat}, L[x]? = some p → Col m is → L[go (rn R L) x is]? = some (go R p is)
  | [], x, p, h, _ => h
  | i :: is, x, p, h, ci => by
    have hp : p ∈ L := List.mem_of_getElem? h
    have hi : i < (gls R p).length := by rw [gls_len ok (c.lt p hp)]; exact ci i (by simp)
    refine go_rn ok c (is := is) (x := (gls (rn R L) x).getD i 0) (p := (gls R p).getD i 0) ?_ fun j hj => ci j (by simp [hj])
    rw [rn_gls h]
    have e : ((gls R p).map fun g => L.idxOf g).getD i 0 = L.idxOf ((gls R p).getD i 0) := by
      rw [List.getD_eq_getElem?_getD, List.getElem?_map, List.getD_eq_getElem?_getD, List.getElem?_eq_getElem hi]; rfl
    rw [e]
    exact idx_get (c.on p hp _ (getD_mem hi))
/-- kinds with other numbers -/
abbrev kn (L : List Nat) (Kd : List Bool) : List Bool := L.map fun p => Kd.getD p false
theorem kd_kn {x p : Nat} (h : L[x]? = some p) : kd (kn L Kd) x = kd Kd p := by
  rw [kd, List.getD_eq_getElem?_getD, List.getElem?_map, h]; rfl
theorem same_rn (ok : RowsOk R m) (c : Clo R m L) {x p : Nat} (h : L[x]? = some p) : SameL m (rn R L) (kn L Kd) x R Kd p := fun is ci => kd_kn (go_rn ok c h ci)
/-- numbered as come to: they are come to in their sequence -/
theorem met_rn (ok : RowsOk R m) (hs : s < R.length) : met (rn R (met R s)) 0 = List.range (met R s).length := by
  have c := met_clo (s := s) ok hs
  have h0 : (met R s)[0]? = some s := met_zero
  have hx : 0 < (rn R (met R s)).length := by rw [rn_len]; exact (List.getElem?_eq_some_iff.mp h0).1
  have ms := met_side (rl_one c) (rl_steps c) h0 (rn_ok' ok c) ok hx hs
  refine List.ext_getElem (by rw [List.length_range]; exact ms.len) fun i hi hj => ?_
  rw [List.getElem_range]
  have hi2 : i < (met R s).length := by rw [← ms.len]; exact hi
  have r := ms.get (i := i) (List.getElem?_eq_getElem hi) (List.getElem?_eq_getElem hi2)
  exact (rl_one c).inj r (List.getElem?_eq_getElem hi2)
end
end LK

/-! dicts whose keys are pairs of a number and a tuple of numbers, with numbers as values -/
namespace LK
open PySem PySem.Spec PyProof.Rows L2 LamX
open scoped List
abbrev Sg := Nat × List Nat
/-- the key of a sign -/
def kS (s : Sg) : NestedKey := .tup [.num (s.1 : Nat), .tup (s.2.map fun g => .num (g : Nat))]
theorem kS_inj {a b : Sg} (h : kS a = kS b) : a = b := by
  unfold kS at h
  injection h with h
  injection h with h1 h2
  injection h1 with h1
  injection h2 with h2 _
  injection h2 with h2
  obtain ⟨a1, a2⟩ := a
  obtain ⟨b1, b2⟩ := b
  have e1 : a1 = b1 := by have : (a1 : Int) = b1 := h1; omega
  have e2 : a2 = b2 := by
    clear h1 e1
    have h2 : a2.map (fun g => NestedKey.num (g : Nat)) = b2.map fun g => NestedKey.num (g : Nat) := h2
    exact (List.map_inj_right fun x y z => by injection z with z; omega).mp h2
  rw [e1, e2]
theorem kS_depth (s : Sg) : (kS s).depth ≤ 8 := by
  have : ∀ l : List Nat, NestedKey.depthAll (l.map fun g => NestedKey.num (g : Nat)) = 0 := by
    intro l
    induction l with
    | nil => rfl
    | cons g l ih => rw [List.map_cons, NestedKey.depthAll, ih]; rfl
  unfold kS
  rw [NestedKey.depth, NestedKey.depthAll, NestedKey.depthAll, NestedKey.depth, NestedKey.depth, this, NestedKey.depthAll]
  decide
/-- the tuple at a is the sign -/
def SgAt (H : Hp) (s : Sg) (a : Addr) : Prop := ∃ b : Addr, H a = some (.tup [.int (s.1 : Nat), .ref b]) ∧ H b = some (.tup (s.2.map fun g => V.int (g : Nat)))
theorem SgAt.ext {H H' : Hp} {s : Sg} {a : Addr} (h : SgAt H s a) (e : Same H H') : SgAt H' s a := by
  obtain ⟨b, h1, h2⟩ := h; exact ⟨b, e _ _ h1, e _ _ h2⟩
theorem nested_ints {h : Heap} : ∀ {l : List Nat} {us : List Value}, L2.Vals (l.map fun g => V.int (g : Nat)) us → NestedAll h (l.map fun g => NestedKey.num (g : Nat)) us
  | [], _, .nil => .nil
  | g :: l, _, .cons r t => by
    obtain ⟨k, rfl⟩ := r
    exact .cons (.int _ _) (nested_ints t)
section
variable {P : Program} {w : World}
theorem key_sg {H : Hp} {h : Heap} {s : Sg} {a : Addr} (ok : HOk P w H h) (e : SgAt H s a) : (nestedKind P w).is h (kS s) a := by
  obtain ⟨b, h1, h2⟩ := e
  obtain ⟨_, its, r, o, g1, g2, n, g3⟩ := (show ObjOk P w H h a (.tup _) from ok a _ h1)
  obtain ⟨_, its2, r2, o2, k1, k2, n2, k3⟩ := (show ObjOk P w H h b (.tup _) from ok b _ h2)
  refine ⟨?_, kS_depth s⟩
  cases r with
  | cons ra t =>
    cases t with
    | cons rb t =>
      cases t
      obtain ⟨k, rfl⟩ := ra
      obtain rfl : _ = Value.ref b := rb
      refine .tup g1 g2 g3 ?_
      refine .cons (.int _ _) (.cons (.tup k1 k2 k3 ?_) .nil)
      exact nested_ints r2
abbrev Nds := List (Sg × Addr × Nat)
def NdR (xs : Nds) (ys : List (NestedKey × Addr × Value)) : Prop := Paired (fun (x : Sg × Addr × Nat) (y : NestedKey × Addr × Value) => y.1 = kS x.1 ∧ y.2.1 = x.2.1 ∧ ∃ t, y.2.2 = .int (x.2.2 : Nat) t) xs ys
/-- the dict at d, its keys' tuples by where they lie -/
def NdPhi (P : Program) (w : World) (d : Addr) (xs : Nds) (h : Heap) : Prop := xs.length ≤ sizeLine ∧ (d == sysModules) = false ∧ ∃ ys, NdR xs ys ∧ ∃ o es ep, h.get? d = some o ∧ o.ExactDict ∧ o.data = .dict es ep ∧ es.toList = ys.map (entryOfKey (nestedKind P w)) ∧ (ys.map (·.1)).Nodup
def ND (P : Program) (w : World) (d : Addr) (xs : Nds) : HO := .ext (NdPhi P w d xs)
def lookN (xs : Nds) (s : Sg) : Option Nat := (xs.find? fun x => decide (x.1 = s)).map (·.2.2)
theorem lookN_none {xs : Nds} {s : Sg} : lookN xs s = none ↔ s ∉ xs.map (·.1) := by
  unfold lookN
  rw [Option.map_eq_none_iff, List.find?_eq_none]
  constructor
  · intro h z
    obtain ⟨x, hx, e⟩ := List.mem_map.mp z
    have := h x hx
    simp [e] at this
  · intro h x hx z
    exact h (List.mem_map.mpr ⟨x, hx, of_decide_eq_true z⟩)
theorem ndR_at {xs : Nds} {ys : List (NestedKey × Addr × Value)} (r : NdR xs ys) (s : Sg) : (∀ n, lookN xs s = some n → ∃ p t, atKey ys (kS s) = some p ∧ p.2 = .int (n : Nat) t) ∧ (lookN xs s = none → atKey ys (kS s) = none) := by
  unfold NdR at r
  induction r with
  | nil => exact ⟨fun n h => by simp [lookN] at h, fun _ => rfl⟩
  | @cons x y xs ys hr t ih =>
    obtain ⟨e1, e2, tk, e3⟩ := hr
    by_cases e : x.1 = s
    · have l : lookN (x :: xs) s = some x.2.2 := by unfold lookN; rw [List.find?_cons_of_pos (by simpa using e)]; rfl
      have a : atKey (y :: ys) (kS s) = some y.2 := by unfold atKey; rw [List.find?_cons_of_pos (by simp [e1, e])]; rfl
      refine ⟨fun n h => ⟨y.2, tk, a, ?_⟩, fun h => ?_⟩
      · rw [l] at h; cases h; exact e3
      · rw [l] at h; cases h
    · have l : lookN (x :: xs) s = lookN xs s := by unfold lookN; rw [List.find?_cons_of_neg (by simpa using e)]
      have a : atKey (y :: ys) (kS s) = atKey ys (kS s) := by
        unfold atKey; rw [List.find?_cons_of_neg (by simp only [decide_eq_true_eq]; rw [e1]; exact fun z => e (kS_inj z))]
      rw [l, a]; exact ih
theorem ndR_is {xs : Nds} {ys : List (NestedKey × Addr × Value)} {H : Hp} {h : Heap} (r : NdR xs ys) (ok : HOk P w H h) (hk : ∀ x ∈ xs, SgAt H x.1 x.2.1) : ∀ y ∈ ys, (nestedKind P w).is h y.1 y.2.1 := by
  induction r with
  | nil => intro y hy; cases hy
  | @cons x y xs ys hr t ih =>
    intro z hz
    rcases List.mem_cons.mp hz with rfl | hz
    · rw [hr.1, hr.2.1]; exact key_sg ok (hk x (by simp))
    · exact ih (fun x hx => hk x (by simp [hx])) z hz
theorem nd_dict {H : Hp} {h : Heap} {d : Addr} {xs : Nds} (ok : HOk P w H h) (e : H d = some (ND P w d xs)) (hk : ∀ x ∈ xs, SgAt H x.1 x.2.1) : xs.length ≤ sizeLine ∧ (d == sysModules) = false ∧ ∃ ys, NdR xs ys ∧ h.DictOfH (nestedKind P w) d ys := by
  obtain ⟨z, hd, ys, r, o, es, ep, h1, h2, h3, h4, h5⟩ := (show NdPhi P w d xs h from (ok d _ e).1)
  exact ⟨z, hd, ys, r, o, es, ep, h1, h2, h3, h4, ndR_is r ok hk, h5⟩
theorem nd_new {H : Hp} {h : Heap} {d : Addr} {xs : Nds} (p : NdPhi P w d xs h) : ObjOk P w H h d (ND P w d xs) := by
  obtain ⟨z, hd, ys, r, o, es, ep, h1, h2, h3, h4, h5⟩ := id p
  refine ⟨p, ⟨o, h1⟩, fun g1 g2 q k => ?_⟩
  obtain ⟨z, hd, ys, r, o, es, ep, h1, h2⟩ := q
  exact ⟨z, hd, ys, r, o, es, ep, k _ h1, h2⟩
end
section
variable {X : Cx} {pos : Pos}
/-- {}, to be such a dict -/
def tDNewN (P : Program) (w : World) : TE := fun _ H Q => ∀ p, H p = none → Q (.ref p) (upd H p (ND P w p []))
theorem pe_dnewN : PE X (.Dict [] [] pos) (tDNewN X.prog X.w) := ⟨fun pins s σ H Q I h =>
  wpAny_Dict_empty ⟨.ref s.heap.objs.size, _, I.laid (a := s.heap.objs.size) (o := ND X.prog X.w s.heap.objs.size []) (t' := s.toks) (fun _ _ q => Heap.get?_push_of_some _ q) (Nat.le_refl _)
    (nd_new ⟨Nat.zero_le _, beq_eq_false_iff_ne.mpr (Ne.symm (Nat.ne_of_lt I.big)), [], .nil, _, #[], 0, Heap.get?_push_size _ rfl, ⟨rfl, rfl, rfl⟩, rfl, rfl, List.nodup_nil⟩), rfl, h _ (I.hok.fresh (Nat.le_refl _))⟩⟩
/-- len(d) -/
def rLenN (P : Program) (w : World) : List V → Hp → VK → Prop := fun vs H Q => match vs with
  | [.ref d] => ∃ xs, H d = some (ND P w d xs) ∧ (∀ x ∈ xs, SgAt H x.1 x.2.1) ∧ Q (.int (xs.length : Nat)) H
  | _ => False
theorem c_lenN : CallR X (.builtin "len") (rLenN X.prog X.w) := by
  intro pins s σ H xs us Q I r h
  unfold rLenN at h
  split at h
  · rename_i d
    obtain ⟨xs, hd, hk, q⟩ := h
    obtain ⟨u, rfl, ru⟩ := vals1 r
    obtain rfl : u = Value.ref d := ru
    obtain ⟨z, hm, ys, rel, dd⟩ := nd_dict I.hok hd hk
    have hl : xs.length = ys.length := Paired.length rel
    refine call_len_dictH hm dd (by rw [← hl]; rw [sizeLine_eq] at z; omega) ?_
    rw [← hl]
    exact ⟨.int (xs.length : Nat), H, I.tok _, ⟨_, rfl⟩, q⟩
  · exact h.elim
/-- d[s] -/
def tNGet (P : Program) (w : World) (td ty : TE) : TE := fun σ H Q => td σ H fun x H1 => ty σ H1 fun y H2 => ∃ d a xs sg n, x = .ref d ∧ y = .ref a ∧ H2 d = some (ND P w d xs) ∧ (∀ e ∈ xs, SgAt H2 e.1 e.2.1) ∧ SgAt H2 sg a ∧ lookN xs sg = some n ∧ Q (.int (n : Nat)) H2
theorem pe_nget {o i : Expr} {td ty : TE} (hu : X.A.units + 64 < cLine) (ho : PE X o td) (hi : PE X i ty) (hs : NoSl i) : PE X (.Subscript o i pos) (tNGet X.prog X.w td ty) := by
  refine ⟨fun pins s σ H Q I h => ?_⟩
  refine subD_of PySem.F.slot_dict_getitem.lookup hs (thn (ho.run pins s σ H _ I h) fun u s1 ⟨x, H1, I1, rx, q1⟩ => thn (hi.run pins s1 σ H1 _ I1 q1) fun iv s2 ⟨y, H2, I2, ry, d, a, xs, sg, n, ex, ey, hd, hk, hs, hn, q2⟩ => ?_)
  subst ex; subst ey
  obtain rfl : u = Value.ref d := rx
  obtain rfl : iv = Value.ref a := ry
  obtain ⟨z, hm, ys, rel, dd⟩ := nd_dict I2.hok hd hk
  obtain ⟨p, t, hp, hv⟩ := (ndR_at rel sg).1 n hn
  refine ⟨dd.typeIs, wpAny_getItem_heap (knd := nestedKind X.prog X.w) (show X.A.in1.units + 8 < cLine from by show X.A.units + 1 + 8 < cLine; omega) (key_sg I2.hok hs) dd hp ?_⟩
  rw [hv]
  exact ⟨.int (n : Nat), H2, I2.tok _, ⟨_, rfl⟩, q2⟩
/-- d.setdefault(s, n) -/
def tNSetd (P : Program) (w : World) (td ty tx : TE) : TE := fun σ H Q => td σ H fun x H1 => ∃ d xs, x = .ref d ∧ H1 d = some (ND P w d xs) ∧ (∀ e ∈ xs, SgAt H1 e.1 e.2.1) ∧ ty σ H1 fun y H2 => tx σ H2 fun z H3 => ∃ (a : Addr) (sg : Sg) (n : Nat), y = .ref a ∧ z = .int (n : Nat) ∧
  H3 d = some (ND P w d xs) ∧ (∀ e ∈ xs, SgAt H3 e.1 e.2.1) ∧ SgAt H3 sg a ∧ xs.length < sizeLine ∧ (∀ v, lookN xs sg = some v → Q (.int (v : Nat)) H3) ∧ (lookN xs sg = none → Q (.int (n : Nat)) (upd H3 d (ND P w d (xs ++ [(sg, a, n)]))))
theorem pe_nsetd {o e f : Expr} {td ty tx : TE} {apos cpos : Pos} (hu : X.A.units + 64 < cLine) (ho : PE X o td) (he : PE X e ty) (hf : PE X f tx) (m : M2 X o "setdefault" apos e f cpos) : PE X (.Call (.Attribute o "setdefault" apos) [e, f] [] cpos) (tNSetd X.prog X.w td ty tx) := by
  refine ⟨fun pins s σ H Q I h => ?_⟩
  refine wpAny_Call_method m.base m.few m.line PySem.F.plainAttrs_dict PySem.F.slot_dict_setdefault PySem.F.type_dict_setdefault (thn (ho.run pins s σ H _ I h) fun u s1 ⟨x, H1, I1, rx, d, xs, ex, hd, hk, q1⟩ => ?_)
  subst ex
  obtain rfl : u = Value.ref d := rx
  obtain ⟨z, hm, ys, rel, dd⟩ := nd_dict I1.hok hd hk
  refine ⟨dd.typeIs, fun b q => ?_, ?_⟩
  · cases q
    obtain ⟨ob, _, _, h1, h2, _⟩ := dd
    exact ⟨ob, h1, h2.2.1⟩
  rw [m.trees]
  refine Calls.callWith_builtin rfl (Calls.evalArgs_plain (Calls.spliced_cons (thn (he.run pins s1 σ H1 _ I1 q1) fun iv s2 ⟨y, H2, I2, ry, q2⟩ =>
    Calls.spliced_cons (thn (hf.run pins s2 σ H2 _ I2 q2) fun fv s3 ⟨z, H3, I3, rz, a, sg, n, ey, ez, hd3, hk3, hs3, hl, q3, q4⟩ => Calls.spliced_nil ?_))))
  subst ey; subst ez
  obtain rfl : iv = Value.ref a := ry
  obtain ⟨z3, hm3, ys3, rel3, dd3⟩ := nd_dict I3.hok hd3 hk3
  refine call_setdefault_heap (knd := nestedKind X.prog X.w) (hsz := by rw [← Paired.length rel3]; exact z3) (show X.A.in1.units + 8 < cLine from by show X.A.units + 1 + 8 < cLine; omega) (key_sg I3.hok hs3) hm3 dd3 (fun p hp => ?_) fun hn h' dd' hs => ?_
  · cases hl2 : lookN xs sg with
    | none => rw [(ndR_at rel3 sg).2 hl2] at hp; cases hp
    | some v =>
      obtain ⟨p2, t, hp2, hv⟩ := (ndR_at rel3 sg).1 v hl2
      rw [hp] at hp2; cases hp2
      rw [hv]
      exact ⟨.int (v : Nat), H3, I3.tok _, ⟨_, rfl⟩, q3 v hl2⟩
  · cases hl2 : lookN xs sg with
    | some v =>
      obtain ⟨p2, t, hp2, hv⟩ := (ndR_at rel3 sg).1 v hl2
      rw [hn] at hp2; cases hp2
    | none =>
      obtain ⟨ob, es, ep, hq, g2, g3, g4, _, g5⟩ := dd'
      rw [storedH_new hn] at g4 g5
      refine ⟨.int (n : Nat), _, d_write I3 (by rw [hd3]; exact True.intro) hs ⟨ob, hq⟩ (nd_new ⟨by rw [List.length_append]; exact hl, hm3, _, ?_, ob, es, ep, hq, g2, g3, g4, g5⟩), rz, q4 hl2⟩
      exact Paired.snoc rel3 ⟨rfl, rfl, rz⟩
end
end LK

/-! classes of alike places: parted by signs until nothing is parted any more -/
namespace LK
open PySem PySem.Spec PyProof.Rows L2
open scoped List
/-- the sign of a place: its class, those of its goals -/
def sg (R : Rows) (c : List Nat) (p : Nat) : Sg := (c.getD p 0, (gls R p).map fun g => c.getD g 0)
def sgs (R : Rows) (c : List Nat) : List Sg := (List.range R.length).map (sg R c)
def addS (f : List Sg) (s : Sg) : List Sg := if s ∈ f then f else f ++ [s]
def ddS (l : List Sg) : List Sg := l.foldl addS []
def nxt (R : Rows) (c : List Nat) : List Nat := (sgs R c).map fun s => (ddS (sgs R c)).idxOf s
/-- how many unlike numbers -/
def cnt (c : List Nat) : Nat := (adds [] c).length
theorem getD_some {l : List Nat} {i : Nat} (h : i < l.length) : l[i]? = some (l.getD i 0) := by
  rw [List.getD_eq_getElem?_getD, List.getElem?_eq_getElem h]; rfl
theorem ddS_app (l : List Sg) (s : Sg) : ddS (l ++ [s]) = addS (ddS l) s := by unfold ddS; rw [List.foldl_append]; rfl
theorem foldS_mem {x : Sg} : ∀ {l f : List Sg}, x ∈ l.foldl addS f ↔ x ∈ f ∨ x ∈ l
  | [], f => by simp
  | s :: l, f => by
    show x ∈ l.foldl addS (addS f s) ↔ _
    rw [foldS_mem, List.mem_cons]
    unfold addS
    split
    · rename_i h
      constructor
      · rintro (z | z)
        · exact .inl z
        · exact .inr (.inr z)
      · rintro (z | rfl | z)
        · exact .inl z
        · exact .inl h
        · exact .inr z
    · rw [List.mem_append, List.mem_singleton, or_assoc]
theorem ddS_mem {x : Sg} {l : List Sg} : x ∈ ddS l ↔ x ∈ l := by unfold ddS; rw [foldS_mem]; simp
theorem foldS_nd : ∀ {l f : List Sg}, f.Nodup → (l.foldl addS f).Nodup
  | [], f, h => h
  | s :: l, f, h => by
    show (l.foldl addS (addS f s)).Nodup
    refine foldS_nd ?_
    unfold addS
    split
    · exact h
    · rename_i hn
      rw [List.nodup_append]
      exact ⟨h, by simp, fun a ha b hb e => by simp at hb; rw [e, hb] at ha; exact hn ha⟩
theorem ddS_nd {l : List Sg} : (ddS l).Nodup := foldS_nd (by simp)
theorem idxS_inj {l : List Sg} {a b : Sg} (ha : a ∈ l) (hb : b ∈ l) (h : l.idxOf a = l.idxOf b) : a = b := by
  have la := List.idxOf_lt_length_iff.mpr ha
  have lb := List.idxOf_lt_length_iff.mpr hb
  have e1 : l[l.idxOf a] = a := List.getElem_idxOf la
  have e2 : l[l.idxOf b] = b := List.getElem_idxOf lb
  have e3 : l[l.idxOf a]? = l[l.idxOf b]? := by rw [h]
  rw [List.getElem?_eq_getElem la, List.getElem?_eq_getElem lb, e1, e2] at e3
  exact Option.some.inj e3
section
variable {m : Nat} {R : Rows} {K : List Bool} {c : List Nat}
theorem sgs_len : (sgs R c).length = R.length := by rw [sgs, List.length_map, List.length_range]
theorem nxt_len : (nxt R c).length = R.length := by rw [nxt, List.length_map, sgs_len]
theorem sg_mem {p : Nat} (h : p < R.length) : sg R c p ∈ sgs R c := List.mem_map.mpr ⟨p, List.mem_range.mpr h, rfl⟩
theorem sgs_at {p : Nat} (h : p < R.length) : (sgs R c)[p]? = some (sg R c p) := by rw [sgs, List.getElem?_map, List.getElem?_range h]; rfl
theorem nxt_at {p : Nat} (h : p < R.length) : (nxt R c).getD p 0 = (ddS (sgs R c)).idxOf (sg R c p) := by
  rw [List.getD_eq_getElem?_getD, nxt, List.getElem?_map, sgs_at h]; rfl
theorem nxt_iff {p q : Nat} (hp : p < R.length) (hq : q < R.length) : (nxt R c).getD p 0 = (nxt R c).getD q 0 ↔ sg R c p = sg R c q := by
  rw [nxt_at hp, nxt_at hq]
  exact ⟨idxS_inj (ddS_mem.mpr (sg_mem hp)) (ddS_mem.mpr (sg_mem hq)), fun h => by rw [h]⟩
/-- a parting on the way: classes never hold unlike kinds, alike places are never parted -/
structure Ref (m : Nat) (R : Rows) (K : List Bool) (c : List Nat) : Prop where
  len : c.length = R.length
  comp : ∀ p q, p < R.length → q < R.length → c.getD p 0 = c.getD q 0 → kd K p = kd K q
  coarse : ∀ p q, p < R.length → q < R.length → Alike m R K p q → c.getD p 0 = c.getD q 0
theorem Ref.nxt (ok : RowsOk R m) (h : Ref m R K c) : Ref m R K (LK.nxt R c) := by
  refine ⟨nxt_len, fun p q hp hq e => ?_, fun p q hp hq e => ?_⟩
  · exact h.comp p q hp hq (congrArg Prod.fst ((nxt_iff hp hq).mp e))
  · refine (nxt_iff hp hq).mpr (Prod.ext (h.coarse p q hp hq e) ?_)
    show (gls R p).map _ = (gls R q).map _
    refine List.ext_getElem (by rw [List.length_map, List.length_map, gls_len ok hp, gls_len ok hq]) fun i h1 h2 => ?_
    rw [List.length_map] at h1 h2
    rw [List.getElem_map, List.getElem_map]
    have im : i < m := by rwa [gls_len ok hp] at h1
    have a := e.go (is := [i]) (.one im)
    rw [go_one, go_one, List.getD_eq_getElem?_getD, List.getD_eq_getElem?_getD, List.getElem?_eq_getElem h1, List.getElem?_eq_getElem h2] at a
    exact h.coarse _ _ (gls_lt ok (List.getElem_mem h1)) (gls_lt ok (List.getElem_mem h2)) a
theorem nxt_fine {p q : Nat} (hp : p < R.length) (hq : q < R.length) (e : (nxt R c).getD p 0 = (nxt R c).getD q 0) : c.getD p 0 = c.getD q 0 := congrArg Prod.fst ((nxt_iff hp hq).mp e)
theorem adds_nil_mem {x : Nat} {l : List Nat} : x ∈ adds [] l ↔ x ∈ l := by rw [mem_adds]; simp
theorem getD_in {l : List Nat} {p : Nat} (h : p < l.length) : l.getD p 0 ∈ l := getD_mem h
theorem mem_getD {l : List Nat} {x : Nat} (h : x ∈ l) : ∃ p, p < l.length ∧ l.getD p 0 = x := by
  obtain ⟨p, hp⟩ := List.mem_iff_getElem?.mp h
  exact ⟨p, (List.getElem?_eq_some_iff.mp hp).1, by rw [List.getD_eq_getElem?_getD, hp]; rfl⟩
theorem idx_getD {l : List Nat} {x : Nat} (h : x ∈ l) : l.idxOf x < l.length ∧ l.getD (l.idxOf x) 0 = x := by
  have lt := List.idxOf_lt_length_iff.mpr h
  exact ⟨lt, by rw [List.getD_eq_getElem?_getD, List.getElem?_eq_getElem lt]; exact List.getElem_idxOf lt⟩
theorem inj_of_nd {f : Nat → Nat} : ∀ {l : List Nat}, (l.map f).Nodup → ∀ {a b : Nat}, a ∈ l → b ∈ l → f a = f b → a = b
  | [], _, a, b, h, _, _ => nomatch h
  | x :: l, nd, a, b, ha, hb, e => by
    rw [List.map_cons, List.nodup_cons] at nd
    rcases List.mem_cons.mp ha with rfl | ha
    · rcases List.mem_cons.mp hb with rfl | hb
      · rfl
      · exact absurd (List.mem_map.mpr ⟨b, hb, e.symm⟩) nd.1
    · rcases List.mem_cons.mp hb with hbx | hb
      · exact absurd (List.mem_map.mpr ⟨a, ha, hbx ▸ e⟩) nd.1
      · exact inj_of_nd nd.2 ha hb e
section
variable {c' : List Nat} (hl : c.length = R.length) (hl' : c'.length = R.length) (fine : ∀ p q, p < R.length → q < R.length → c'.getD p 0 = c'.getD q 0 → c.getD p 0 = c.getD q 0)
/-- the class in c of a class in c' -/
def back (c c' : List Nat) (v : Nat) : Nat := c.getD (c'.idxOf v) 0
include hl hl' fine in
theorem back_at {p : Nat} (hp : p < R.length) : back c c' (c'.getD p 0) = c.getD p 0 := by
  have hm : c'.getD p 0 ∈ c' := getD_in (by omega)
  obtain ⟨h1, h2⟩ := idx_getD hm
  exact fine _ _ (by omega) hp h2
include hl hl' fine in
theorem back_sub : adds [] c ⊆ (adds [] c').map (back c c') := by
  intro v hv
  obtain ⟨p, hp, rfl⟩ := mem_getD (adds_nil_mem.mp hv)
  exact List.mem_map.mpr ⟨c'.getD p 0, adds_nil_mem.mpr (getD_in (by omega)), back_at hl hl' fine (by omega)⟩
include hl hl' fine in
theorem cnt_le : cnt c ≤ cnt c' := by
  have := List.Nodup.length_le_of_subset (nd_adds (gs := c) (List.nodup_nil)) (back_sub hl hl' fine)
  rwa [List.length_map] at this
include hl hl' fine in
theorem cnt_eq (h : cnt c' ≤ cnt c) {p q : Nat} (hp : p < R.length) (hq : q < R.length) (e : c.getD p 0 = c.getD q 0) : c'.getD p 0 = c'.getD q 0 := by
  have le := cnt_le hl hl' fine
  have pm := perm_of (l := adds [] c) (ks := (adds [] c').map (back c c')) (nd_adds List.nodup_nil) (fun x hx => back_sub hl hl' fine hx) (by rw [List.length_map]; exact Nat.le_antisymm h le)
  have nd : ((adds [] c').map (back c c')).Nodup := pm.nodup_iff.mpr (nd_adds List.nodup_nil)
  refine inj_of_nd nd (adds_nil_mem.mpr (getD_in (by omega))) (adds_nil_mem.mpr (getD_in (by omega))) ?_
  rw [back_at hl hl' fine hp, back_at hl hl' fine hq, e]
end
/-- the classes of alike places -/
structure ClsN (m : Nat) (R : Rows) (K : List Bool) (c : List Nat) : Prop where
  len : c.length = R.length
  iff : ∀ p q, p < R.length → q < R.length → (c.getD p 0 = c.getD q 0 ↔ Alike m R K p q)
  num : ∃ k, k ≤ R.length ∧ (∀ p, p < R.length → c.getD p 0 < k) ∧ ∀ v, v < k → ∃ p, p < R.length ∧ c.getD p 0 = v
theorem cls_of (ok : RowsOk R m) (h : Ref m R K c) (st : cnt (nxt R c) ≤ cnt c) : ClsN m R K (nxt R c) := by
  have hn := h.nxt ok
  have fine : ∀ p q, p < R.length → q < R.length → (nxt R c).getD p 0 = (nxt R c).getD q 0 → c.getD p 0 = c.getD q 0 := fun p q hp hq e => nxt_fine hp hq e
  have same : ∀ p q, p < R.length → q < R.length → c.getD p 0 = c.getD q 0 → sg R c p = sg R c q := fun p q hp hq e => (nxt_iff hp hq).mp (cnt_eq h.len hn.len fine st hp hq e)
  have alike : ∀ (is : List Nat) p q, p < R.length → q < R.length → Col m is → c.getD p 0 = c.getD q 0 → kd K (go R p is) = kd K (go R q is) := by
    intro is
    induction is with
    | nil => intro p q hp hq _ e; exact h.comp p q hp hq e
    | cons i is ih =>
      intro p q hp hq ci e
      have im : i < m := ci i (by simp)
      have g1 : i < (gls R p).length := by rw [gls_len ok hp]; exact im
      have g2 : i < (gls R q).length := by rw [gls_len ok hq]; exact im
      refine ih ((gls R p).getD i 0) ((gls R q).getD i 0) (gls_lt ok (getD_mem g1)) (gls_lt ok (getD_mem g2)) (fun j hj => ci j (by simp [hj])) ?_
      have e2 : (gls R p).map (fun g => c.getD g 0) = (gls R q).map fun g => c.getD g 0 := congrArg Prod.snd (same p q hp hq e)
      have e3 := congrArg (fun l : List Nat => l[i]?) e2
      simp only [List.getElem?_map, getD_some g1, getD_some g2, Option.map_some] at e3
      exact Option.some.inj e3
  refine ⟨hn.len, fun p q hp hq => ⟨fun e is ci => alike is p q hp hq ci (fine p q hp hq e), fun e => hn.coarse p q hp hq e⟩, (ddS (sgs R c)).length, ?_, fun p hp => ?_, fun v hv => ?_⟩
  · have := List.Nodup.length_le_of_subset (ddS_nd (l := sgs R c)) (fun x hx => ddS_mem.mp hx)
    rwa [sgs_len] at this
  · rw [nxt_at hp]
    exact List.idxOf_lt_length_iff.mpr (ddS_mem.mpr (sg_mem hp))
  · have hm : (ddS (sgs R c))[v] ∈ sgs R c := ddS_mem.mp (List.getElem_mem hv)
    obtain ⟨p, hp, e⟩ := List.mem_map.mp hm
    have hp := List.mem_range.mp hp
    refine ⟨p, hp, ?_⟩
    rw [nxt_at hp, e]
    exact ddS_nd.idxOf_getElem v hv
theorem cnt_pos (h : 0 < c.length) : 1 ≤ cnt c := by
  cases c with
  | nil => cases h
  | cons x c =>
    have : x ∈ adds [] (x :: c) := adds_nil_mem.mpr (by simp)
    exact List.length_pos_iff.mpr fun z => by rw [z] at this; cases this
theorem cnt_len : cnt c ≤ c.length := List.Nodup.length_le_of_subset (nd_adds (gs := c) List.nodup_nil) fun x hx => adds_nil_mem.mp hx
/-- the first classes: the kinds -/
def cls0 (K : List Bool) : List Nat := K.map fun k => if k then 1 else 0
theorem ref0 (hk : K.length = R.length) : Ref m R K (cls0 K) := by
  have at_ : ∀ p, p < R.length → (cls0 K).getD p 0 = if kd K p then 1 else 0 := fun p hp => by
    have : p < K.length := by omega
    rw [List.getD_eq_getElem?_getD, cls0, List.getElem?_map, kd, List.getD_eq_getElem?_getD, List.getElem?_eq_getElem this]; rfl
  refine ⟨by rw [cls0, List.length_map, hk], fun p q hp hq e => ?_, fun p q hp hq e => ?_⟩
  · rw [at_ p hp, at_ q hq] at e
    cases h1 : kd K p <;> cases h2 : kd K q <;> rw [h1, h2] at e <;> simp at e ⊢
  · have : kd K p = kd K q := e [] Col.nil
    rw [at_ p hp, at_ q hq, this]
end
/-! ### the least machine of classes -/
section
variable {m s : Nat} {R : Rows} {K : List Bool} {c : List Nat}
/-- the first place of each class -/
def fsts (c : List Nat) (k : Nat) : List Nat := (List.range k).map fun v => c.idxOf v
def qrows (R : Rows) (c : List Nat) (k : Nat) : Rows := (fsts c k).map fun p => (gls R p).map fun g => c.getD g 0
def qkinds (K : List Bool) (c : List Nat) (k : Nat) : List Bool := (fsts c k).map fun p => K.getD p false
theorem fsts_at {k v : Nat} (h : v < k) : (fsts c k)[v]? = some (c.idxOf v) := by rw [fsts, List.getElem?_map, List.getElem?_range h]; rfl
theorem fsts_len {k : Nat} : (fsts c k).length = k := by rw [fsts, List.length_map, List.length_range]
theorem qrows_len {k : Nat} : (qrows R c k).length = k := by rw [qrows, List.length_map, fsts_len]
theorem qrows_at {k v : Nat} (h : v < k) : gls (qrows R c k) v = (gls R (c.idxOf v)).map fun g => c.getD g 0 := by
  unfold gls qrows
  rw [List.getD_eq_getElem?_getD, List.getElem?_map, fsts_at h]; rfl
structure Num (R : Rows) (c : List Nat) (k : Nat) : Prop where
  len : c.length = R.length
  le : k ≤ R.length
  lt : ∀ p, p < R.length → c.getD p 0 < k
  all : ∀ v, v < k → ∃ p, p < R.length ∧ c.getD p 0 = v
theorem Num.idx {k v : Nat} (h : Num R c k) (hv : v < k) : c.idxOf v < R.length ∧ c.getD (c.idxOf v) 0 = v := by
  obtain ⟨p, hp, e⟩ := h.all v hv
  have hm : v ∈ c := e ▸ getD_in (by rw [h.len]; exact hp)
  have := idx_getD hm
  rw [h.len] at this
  exact this
theorem qrows_ok {k : Nat} (ok : RowsOk R m) (n : Num R c k) : RowsOk (qrows R c k) m := by
  constructor
  · intro r hr
    obtain ⟨p, hp, rfl⟩ := List.mem_map.mp hr
    obtain ⟨v, hv, rfl⟩ := List.mem_map.mp hp
    rw [List.length_map, gls_len ok (n.idx (List.mem_range.mp hv)).1]
  · intro r hr g hg
    obtain ⟨p, hp, rfl⟩ := List.mem_map.mp hr
    obtain ⟨v, hv, rfl⟩ := List.mem_map.mp hp
    obtain ⟨g0, hg0, rfl⟩ := List.mem_map.mp hg
    rw [qrows_len]
    exact n.lt g0 (gls_lt ok hg0)
/-- walks go over to classes -/
theorem go_q {k : Nat} (ok : RowsOk R m) (n : Num R c k) (cl : ClsN m R K c) : ∀ {is : List Nat} {p : Nat}, p < R.length → Col m is → go (qrows R c k) (c.getD p 0) is = c.getD (go R p is) 0
  | [], p, _, _ => rfl
  | i :: is, p, hp, ci => by
    have im : i < m := ci i (by simp)
    obtain ⟨h1, h2⟩ := n.idx (n.lt p hp)
    have g1 : i < (gls R (c.idxOf (c.getD p 0))).length := by rw [gls_len ok h1]; exact im
    have g2 : i < (gls R p).length := by rw [gls_len ok hp]; exact im
    have l1 := gls_lt ok (getD_mem g1)
    have l2 := gls_lt ok (getD_mem g2)
    have al := ((cl.iff _ _ h1 hp).mp h2).go (is := [i]) (.one im)
    rw [go_one, go_one] at al
    have e : (gls (qrows R c k) (c.getD p 0)).getD i 0 = c.getD ((gls R p).getD i 0) 0 := by
      rw [qrows_at (n.lt p hp), List.getD_eq_getElem?_getD, List.getElem?_map, getD_some g1]
      exact (cl.iff _ _ l1 l2).mpr al
    show go (qrows R c k) ((gls (qrows R c k) (c.getD p 0)).getD i 0) is = c.getD (go R ((gls R p).getD i 0) is) 0
    rw [e]
    exact go_q ok n cl l2 fun j hj => ci j (by simp [hj])
theorem qk_at {k v : Nat} (h : v < k) : kd (qkinds K c k) v = kd K (c.idxOf v) := by
  rw [kd, List.getD_eq_getElem?_getD, qkinds, List.getElem?_map, fsts_at h]; rfl
theorem same_q {k : Nat} (ok : RowsOk R m) (n : Num R c k) (cl : ClsN m R K c) {p : Nat} (hp : p < R.length) : SameL m (qrows R c k) (qkinds K c k) (c.getD p 0) R K p := fun is ci => by
  have l := go_lt ok hp ci
  obtain ⟨h1, h2⟩ := n.idx (n.lt _ l)
  rw [go_q ok n cl hp ci, qk_at (n.lt _ l)]
  exact (cl.iff _ _ h1 l).mp h2 [] Col.nil
theorem least_of_cls {k : Nat} (ok : RowsOk R m) (n : Num R c k) (cl : ClsN m R K c) (hs : s < R.length) : LeastOf m R K s (rn (qrows R c k) (met (qrows R c k) (c.getD s 0))) (kn (met (qrows R c k) (c.getD s 0)) (qkinds K c k)) := by
  have qok := qrows_ok ok n
  have hs2 : c.getD s 0 < (qrows R c k).length := by rw [qrows_len]; exact n.lt s hs
  have clo := met_clo (s := c.getD s 0) qok hs2
  have z0 : (met (qrows R c k) (c.getD s 0))[0]? = some (c.getD s 0) := met_zero
  have ml : (met (qrows R c k) (c.getD s 0)).length ≤ k := by have := fnd_len (s := c.getD s 0) qok hs2 (qrows R c k).length; exact Nat.le_trans this (Nat.le_of_eq qrows_len)
  have rl := rn_len (R := qrows R c k) (L := met (qrows R c k) (c.getD s 0))
  refine ⟨rn_ok' qok clo, ?_, ?_, by rw [rl, List.length_map], ?_, ?_, fun p q hp hq al => ?_⟩
  · rw [rl]; exact (List.getElem?_eq_some_iff.mp z0).1
  · rw [rl]; exact Nat.le_trans ml n.le
  · rw [rl]; exact met_rn qok hs2
  · exact (same_rn qok clo z0).trans (same_q ok n cl hs)
  · rw [rl] at hp hq
    have gp := List.getElem?_eq_getElem hp
    have gq := List.getElem?_eq_getElem hq
    have vp := clo.lt _ (List.getElem_mem hp)
    have vq := clo.lt _ (List.getElem_mem hq)
    rw [qrows_len] at vp vq
    obtain ⟨a1, a2⟩ := n.idx vp
    obtain ⟨b1, b2⟩ := n.idx vq
    have e : (met (qrows R c k) (c.getD s 0))[p] = (met (qrows R c k) (c.getD s 0))[q] := by
      rw [← a2, ← b2]
      refine (cl.iff _ _ a1 b1).mpr fun is ci => ?_
      have t1 := same_rn (Kd := qkinds K c k) qok clo gp is ci
      have t2 := same_rn (Kd := qkinds K c k) qok clo gq is ci
      have u1 := same_q ok n cl a1 is ci
      have u2 := same_q ok n cl b1 is ci
      rw [a2] at u1
      rw [b2] at u2
      rw [← u1, ← u2, ← t1, ← t2]
      exact al is ci
    exact (List.getElem?_inj hp clo.nd).mp (by rw [gp, gq, e])
end
end LK

/-! len(set(numbers)); alike_classes -/
namespace LK
open PySem PySem.Spec PyProof.Rows L2 LamX ClX
open scoped List
theorem firstMet_adds (c : List Nat) : ∀ n, n ≤ c.length → firstMet (fun i => (c.map fun (g : Nat) => (g : Int)).getD i 0) n = (adds [] (c.take n)).map fun (g : Nat) => (g : Int)
  | 0, _ => by rw [firstMet_zero]; rfl
  | n + 1, h => by
    have ih := firstMet_adds c n (by omega)
    rw [firstMet_succ, ih]
    have hx : c[n]? = some c[n] := List.getElem?_eq_getElem (by omega)
    have e1 : (c.map fun (g : Nat) => (g : Int)).getD n 0 = (c[n] : Int) := by rw [List.getD_eq_getElem?_getD, List.getElem?_map, hx]; rfl
    rw [e1, List.take_add_one, hx]
    show step_dedup _ _ = (adds [] (c.take n ++ [c[n]])).map _
    rw [adds_app]
    unfold step_dedup add1
    have iff : (((adds [] (c.take n)).map fun (g : Nat) => (g : Int)).any (· == (c[n] : Int))) = decide (c[n] ∈ adds [] (c.take n)) := by
      rw [Bool.eq_iff_iff, List.any_eq_true, decide_eq_true_eq]
      constructor
      · rintro ⟨x, hx, e⟩
        obtain ⟨g, hg, rfl⟩ := List.mem_map.mp hx
        have e : ((g : Int) == (c[n] : Int)) = true := e
        have e := beq_iff_eq.mp e
        have : g = c[n] := by omega
        exact this ▸ hg
      · exact fun h => ⟨_, List.mem_map.mpr ⟨_, h, rfl⟩, by simp⟩
    rw [iff]
    by_cases hm : c[n] ∈ adds [] (c.take n)
    · rw [decide_eq_true hm, if_pos rfl, if_pos hm]
    · rw [decide_eq_false hm, if_neg Bool.false_ne_true, if_neg hm, List.map_append]; rfl
section
variable {X : Cx} {K : PySem.W.Frag}
/-- len(set(xs)), xs a list of numbers -/
def tLenSetI (K : PySem.W.Frag) (ta : TE) : TE := fun σ H Q => ta σ H fun x H1 => match x with
  | .ref l => ∃ c : List Nat, SqL K H1 l (iv c) ∧ c.length ≤ 1000 ∧ Q (.int (cnt c : Nat)) H1
  | _ => False
theorem ints_of_iv : ∀ {c : List Nat} {us : List Value}, Vals (iv c) us → IntsAre us (c.map fun (g : Nat) => (g : Int))
  | [], _, .nil => .nil
  | g :: c, _, .cons r t => by
    obtain ⟨k, rfl⟩ := r
    exact .cons _ k (ints_of_iv t)
theorem pe_lenSetI {a : Expr} {ta : TE} {p p2 q pos : Pos} (hK : X.K = K) (hc : X.calm = true) (hg : Gl X "len") (hm : X.mg "len" = none) (hg2 : Gl X "set") (hm2 : X.mg "set" = none) (ha : PE X a ta)
    (na : starEach [a] X.env = (false, eval a X.env) :: starEach [] X.env := by rfl) : PE X (.Call (.Name "len" p) [.Call (.Name "set" p2) [a] [] q] [] pos) (tLenSetI K ta) := by
  subst hK
  refine ⟨fun pins s σ H Q I h => ?_⟩
  refine Call_ (ld_blt I hg hm boot_len ?_)
  refine PyProof.Rows.callWith_builtin1 (PyProof.Rows.args_cons ?_ rfl) rfl rfl
  refine Call_ (ld_blt I hg2 hm2 boot_set ?_)
  refine PyProof.Rows.callWith_type1 (PyProof.Rows.args_cons (thn (ha.run pins s σ H _ I h) fun v s1 ⟨x, H1, I1, r1, q1⟩ => PyProof.Rows.args_nil ?_) na) na rfl
  dsimp only at q1
  split at q1
  · rename_i l
    obtain ⟨c, hq, h1, q1⟩ := q1
    cases r1
    obtain ⟨its, r, pl, hz⟩ := I1.list hq
    have hl : its.toArray.size = c.length := by rw [List.size_toArray, ← r.length, List.length_map]
    refine PySem.call_set_list (I1.ok.hd hc) pl.isList (by simpa using ints_of_iv r) (by rw [hl]; show _ < 4096; omega) fun h' tk hS hk => PyProof.Rows.args_nil ?_
    rw [hl, firstMet_adds c c.length (Nat.le_refl _), List.take_length, List.length_map] at hS
    obtain ⟨o, es, ep, t, ho, hex, hd, _, _, hb, hf, hn⟩ := hS
    have I2 : Inv X pins σ H1 { s1 with heap := h', toks := tk } := I1.kept fun b o e => hk b o (Heap.lt_size e) e
    have hb : es.size < 4096 := hb
    exact call_len_set ho hex hd hf (by omega) ⟨.int (cnt c : Nat), H1, I2.tok _, ⟨_, by rw [hn]; rfl⟩, q1⟩
  · exact q1.elim
/-! the rules said with P, w and K -/
variable {P : Program} {w : World}
theorem pe_ngetK {o i : Expr} {td ty : TE} {pos : Pos} (hP : X.prog = P) (hw : X.w = w) (hu : X.A.units + 64 < cLine) (ho : PE X o td) (hi : PE X i ty) (hs : NoSl i) : PE X (.Subscript o i pos) (tNGet P w td ty) := hP ▸ hw ▸ pe_nget hu ho hi hs
theorem pe_nsetdK {o e f : Expr} {td ty tx : TE} {apos cpos : Pos} (hP : X.prog = P) (hw : X.w = w) (hu : X.A.units + 64 < cLine) (ho : PE X o td) (he : PE X e ty) (hf : PE X f tx) (m : M2 X o "setdefault" apos e f cpos) : PE X (.Call (.Attribute o "setdefault" apos) [e, f] [] cpos) (tNSetd P w td ty tx) := hP ▸ hw ▸ pe_nsetd hu ho he hf m
theorem pe_dnewNK {pos : Pos} (hP : X.prog = P) (hw : X.w = w) : PE X (.Dict [] [] pos) (tDNewN P w) := hP ▸ hw ▸ pe_dnewN
theorem c_lenNK (hP : X.prog = P) (hw : X.w = w) : CallR X (.builtin "len") (rLenN P w) := hP ▸ hw ▸ c_lenN
theorem pe_tupleOfK {a : Expr} {ta : TE} {p pos : Pos} (hK : X.K = K) (hg : Gl X "tuple") (hm : X.mg "tuple" = none) (ha : PE X a ta) (na : starEach [a] X.env = (false, eval a X.env) :: starEach [] X.env := by rfl) :
    PE X (.Call (.Name "tuple" p) [a] [] pos) (tThen ta (kTup K)) := hK ▸ pe_tupleOf hg hm ha na
end
/-- signs, by where they lie -/
def Sgs (H : Hp) (R : Rows) (c : List Nat) (ls : List Addr) : Prop := ls.length ≤ R.length ∧ ∀ j t, ls[j]? = some t → SgAt H (sg R c j) t
theorem SgAt.put {H : Hp} {s : Sg} {a Z : Addr} {o : HO} (h : SgAt H s a) (hx : ∀ vs, H Z ≠ some (.tup vs)) : SgAt (upd H Z o) s a := by
  obtain ⟨b, h1, h2⟩ := h
  exact ⟨b, by rw [upd_ne (fun z => hx _ (z ▸ h1))]; exact h1, by rw [upd_ne (fun z => hx _ (z ▸ h2))]; exact h2⟩
theorem Sgs.put {H : Hp} {R : Rows} {c : List Nat} {ls : List Addr} {Z : Addr} {o : HO} (h : Sgs H R c ls) (hx : ∀ vs, H Z ≠ some (.tup vs)) : Sgs (upd H Z o) R c ls := ⟨h.1, fun j t ht => (h.2 j t ht).put hx⟩
/-- the dict of the signs that were met, each with its number -/
structure NdOk (H : Hp) (xs : Nds) (fs : List Sg) : Prop where
  len : xs.length = fs.length
  at_ : ∀ (j : Nat) (x : Sg × Addr × Nat), xs[j]? = some x → fs[j]? = some x.1 ∧ x.2.2 = j ∧ SgAt H x.1 x.2.1
theorem NdOk.ext {H H' : Hp} {xs : Nds} {fs : List Sg} (h : NdOk H xs fs) (e : Same H H') : NdOk H' xs fs := ⟨h.len, fun j x hx => by
  obtain ⟨a, b, c⟩ := h.at_ j x hx; exact ⟨a, b, c.ext e⟩⟩
theorem NdOk.put {H : Hp} {xs : Nds} {fs : List Sg} {Z : Addr} {o : HO} (h : NdOk H xs fs) (hx : ∀ vs, H Z ≠ some (.tup vs)) : NdOk (upd H Z o) xs fs := ⟨h.len, fun j x hx' => by
  obtain ⟨a, b, c⟩ := h.at_ j x hx'; exact ⟨a, b, c.put hx⟩⟩
theorem NdOk.all {H : Hp} {xs : Nds} {fs : List Sg} (h : NdOk H xs fs) : ∀ x ∈ xs, SgAt H x.1 x.2.1 := fun x hx => by
  obtain ⟨j, hj⟩ := List.mem_iff_getElem?.mp hx
  exact (h.at_ j x hj).2.2
theorem NdOk.keys {H : Hp} {xs : Nds} {fs : List Sg} (h : NdOk H xs fs) : xs.map (·.1) = fs := by
  refine List.ext_getElem (by rw [List.length_map]; exact h.len) fun i h1 h2 => ?_
  rw [List.length_map] at h1
  have := (h.at_ i _ (List.getElem?_eq_getElem h1)).1
  rw [List.getElem?_eq_getElem h2] at this
  rw [List.getElem_map]
  exact (Option.some.inj this).symm
theorem NdOk.look {H : Hp} {xs : Nds} {fs : List Sg} (h : NdOk H xs fs) {s : Sg} (hs : s ∈ fs) : lookN xs s = some (fs.idxOf s) := by
  have hn : lookN xs s ≠ none := fun z => lookN_none.mp z (by rw [h.keys]; exact hs)
  have key : ∀ (xs : Nds) (fs : List Sg) (k : Nat), xs.length = fs.length → (∀ (j : Nat) (x : Sg × Addr × Nat), xs[j]? = some x → fs[j]? = some x.1 ∧ x.2.2 = k + j) → s ∈ fs → lookN xs s = some (k + fs.idxOf s) := by
    intro xs
    induction xs with
    | nil => intro fs k hl _ hm; cases fs with
      | nil => cases hm
      | cons _ _ => cases hl
    | cons x xs ih => intro fs k hl ha hm; cases fs with
      | nil => cases hl
      | cons f fs =>
        obtain ⟨a1, a2⟩ := ha 0 x rfl
        have a1 : f = x.1 := Option.some.inj a1
        by_cases e : f = s
        · have l : lookN (x :: xs) s = some x.2.2 := by unfold lookN; rw [List.find?_cons_of_pos (by rw [← a1]; simpa using e)]; rfl
          rw [l, a2, ← e, List.idxOf_cons_self]
        · have l : lookN (x :: xs) s = lookN xs s := by unfold lookN; rw [List.find?_cons_of_neg (by rw [← a1]; simpa using e)]
          rw [l, ih fs (k + 1) (by simpa using hl) (fun j y hy => by
            obtain ⟨b1, b2⟩ := ha (j + 1) y (by simpa using hy)
            exact ⟨by simpa using b1, by omega⟩) ((List.mem_cons.mp hm).resolve_left fun z => e z.symm)]
          rw [List.idxOf_cons]
          have : (f == s) = false := by simpa using e
          rw [this]
          show some (k + 1 + fs.idxOf s) = some (k + (fs.idxOf s + 1))
          congr 1; omega
  have := key xs fs 0 h.len (fun j x hx => by
    obtain ⟨a, b, _⟩ := h.at_ j x hx
    exact ⟨a, by omega⟩) hs
  rwa [Nat.zero_add] at this
section
variable {P : Program} {w : World} {K : PySem.W.Frag} {mg : Str → Option Value} {base : Heap} {C : Addr}
abbrev nAl : List Str := ["rows", "kinds", "classes", "many", "signs", "numbers", "sign", "kind", "goal", "place"]
theorem scAlike : FnScope nAl ["rows", "kinds"] (defScope sAlike) := ⟨rfl, rfl, rfl, by decide +kernel, rfl, by decide +kernel, by decide +kernel⟩
abbrev scA1 : Scope := { kind := .function, names := [(".0", .local), ("place", .local), ("tuple", .globalImplicit), ("classes", .free), ("rows", .free)], isGenerator := false, isCoroutine := false }
def spAlike : Sp := fun vs H Q _ => ∃ (r kk : Addr) (m : Nat) (R : Rows) (Kd : List Bool), vs = [.ref r, .ref kk] ∧ RowsL H r R ∧ H kk = some (.lst (Kd.map V.bl)) ∧ RowsOk R m ∧ 0 < R.length ∧ R.length ≤ 900 ∧ Kd.length = R.length ∧ m ≤ 100 ∧
  ∀ H' CA c, Same H H' → H CA = none → H' CA = some (.lst (iv c)) → ClsN m R Kd c → Q (.ref CA) H'
theorem ok_alike {f : Addr} {fd : FuncData} {k : Nat} (F : Fun K "alike_classes" "alike_classes" sAlike f fd) (M : Mx mg) : FnG P w K mg base CX0 (k + 1) f fd ["rows", "kinds"] spAlike := by
  refine okG F scAlike (fun vs H Q E h => ?_) (fun cdv A hA outer s H vs Q E hr h => ?_)
  · obtain ⟨r, kk, m, R, Kd, rfl, _⟩ := h; rfl
  · obtain ⟨r, kk, m, R, Kd, rfl, ⟨rs, h2, h3, h4⟩, hk, ok, lo, hi, lk, hm, q⟩ := h
    have nd := scAlike.nd
    have sl := sizeLine_eq
    refine ⟨_, pss_cons (ps_set (i := 2) nd rfl (.inr rfl) (pe_lc (own := [("kind", 7)]) (g := gName 7) (tt := tYes) rfl nd (pi_list (uv 1)) (blkOk_by (N := nAl) (sc := defScope sAlike) (by decide +kernel))
        (fun _ _ _ _ _ => pg_name (i := 7) nd rfl (Or.inl rfl)) (fun _ _ _ _ _ => pts_nil) (fun _ _ _ _ _ => pe_callTy (r := intU) c_int (by rfl) M.int b_int (pa_cons (uv 7) pa_nil))))
      (pss_cons (ps_set (i := 3) nd rfl (.inl rfl) pe_int)
      (pss_cons (ps_while PassesOwn.never (pt_cl (pt_cu o_lt (uv 3) (pe_lenSetI (K := K) rfl rfl (by rfl) M.len (by rfl) M.set (uv 2))))
        (pss_cons (ps_set (i := 3) nd rfl (.inl rfl) (pe_lenSetI (K := K) rfl rfl (by rfl) M.len (by rfl) M.set (uv 2)))
        (pss_cons (ps_setLc (i := 4) (own := [("place", 9)]) (g := gName 9) (by rfl) nd rfl rfl (sw_true rfl rfl rfl (by decide +kernel)) (pi_range1 (by rfl) M.range (pa_cons (pe_callB c_len (by rfl) M.len b_len (pa_cons (uv 0) pa_nil)) pa_nil))
          (blkOk_by (N := nAl) (sc := defScope sAlike) (by decide +kernel)) (fun _ _ _ _ _ => pg_name (i := 9) nd rfl (Or.inl rfl)) (fun _ _ _ _ _ => pts_nil)
          (fun _ _ _ _ _ => pe_tup (pa_cons (pe_ixK (K := K) rfl (uv 2) (uv 9)) (pa_cons (pe_tupleOfK (K := K) rfl (by rfl) M.tuple (pe_lc (own := [("goal", 8)]) (g := gName 8) (tt := tYes) rfl nd (pi_listK (K := K) rfl (pe_ixK (K := K) rfl (uv 0) (uv 9))) (blkOk_in (N := nAl) (sc := scA1) (by decide +kernel))
            (fun _ _ _ _ _ => pg_name (i := 8) nd rfl (Or.inl rfl)) (fun _ _ _ _ _ => pts_nil) (fun _ _ _ _ _ => pe_ixK (K := K) rfl (uv 2) (uv 8)))) pa_nil))))
        (pss_cons (ps_set (i := 5) nd rfl (.inr rfl) (pe_dnewNK (P := P) (w := w) rfl rfl))
        (pss_cons (ps_for PassesOwn.never rfl (pi_list (uv 4)) (pg_name (i := 6) nd rfl (.inl rfl))
          (pss_one (ps_expr (pe_nsetdK (P := P) (w := w) rfl rfl (Room.u64 hr) (uv 5) (uv 6) (pe_callB (c_lenNK (P := P) (w := w) rfl rfl) (by rfl) M.len b_len (pa_cons (uv 5) pa_nil)) ⟨rfl, rfl, rfl, rfl⟩))))
        (pss_one (ps_set (i := 2) nd rfl (.inr rfl) (pe_lc (own := [("sign", 6)]) (g := gName 6) (tt := tYes) rfl nd (pi_list (uv 4)) (blkOk_by (N := nAl) (sc := defScope sAlike) (by decide +kernel))
          (fun _ _ _ _ _ => pg_name (i := 6) nd rfl (Or.inl rfl)) (fun _ _ _ _ _ => pts_nil) (fun _ _ _ _ _ => pe_ngetK (P := P) (w := w) rfl rfl (Room.u64 hr) (uv 5) (uv 6) (fun _ _ => rfl)))))))))) 
      (pss_one (ps_ret (uv 2))))), ?_⟩
    dsimp only [tSeq, tAsg, gName]
    refine lc_list (K := K) (a := kk) (xs := Kd.map V.bl) (H1 := H) (by exact fun _ h => h) (.inl (.inl hk)) (fun D pre acc H2 => H D = none ∧ H2 = upd H D (.lst acc) ∧ ∃ j, j ≤ Kd.length ∧ pre = (Kd.take j).map V.bl ∧ acc = iv (cls0 (Kd.take j)))
      (fun D pre acc H2 h => by obtain ⟨n, rfl, _⟩ := h; exact .inl (.inl (same_upd n _ _ hk))) (fun D nD => ⟨nD, rfl, 0, Nat.zero_le _, rfl, rfl⟩) (fun D nD pre acc x suf H2 ex h => ?_) (fun CA nCA acc H2 h => ?_)
    · obtain ⟨_, rfl, j, hj, rfl, rfl⟩ := h
      have lj : ((Kd.take j).map V.bl).length = j := by rw [List.length_map, List.length_take]; omega
      have hj2 : j < Kd.length := by
        have := congrArg List.length ex
        rw [List.length_append, lj, List.length_map, List.length_cons] at this
        omega
      have hx : (Kd.map V.bl)[j]? = some x := by rw [ex, List.getElem?_append_right (by omega), lj, Nat.sub_self]; rfl
      rw [List.getElem?_map] at hx
      obtain ⟨b, hb, rfl⟩ := Option.map_eq_some_iff.mp hx
      have et : Kd.take (j + 1) = Kd.take j ++ [b] := by rw [List.take_add_one, hb]; rfl
      refine ⟨rfl, _, upd_same, by rw [List.length_map, cls0, List.length_map, List.length_take]; omega, _, nD, upd_upd, j + 1, hj2, by rw [et, List.map_append]; rfl, ?_⟩
      rw [et, cls0, cls0, List.map_append, iv_app]
      cases b <;> rfl
    obtain ⟨n0, rfl, j, hj, ej, rfl⟩ := h
    have lj : j = Kd.length := by
      have := congrArg List.length ej
      rw [List.length_map, List.length_map, List.length_take] at this
      omega
    rw [lj, List.take_length]
    have e0 : Same H (upd H CA (.lst (iv (cls0 Kd)))) := same_upd nCA
    have h0 : (upd H CA (.lst (iv (cls0 Kd)))) CA = some (.lst (iv (cls0 Kd))) := upd_same
    generalize upd H CA (.lst (iv (cls0 Kd))) = H0 at e0 h0
    show tWhile _ _ _ _ _
    refine wh (m0 := R.length + 1) (fun mm σ H2 => ∃ (many : Nat) (c : List Nat) (CA : Addr) (y4 y5 y6 y7 y8 y9 : Option V), R.length + 1 - many ≤ mm ∧ many ≤ R.length ∧ Ref m R Kd c ∧ (many = 0 ∨ ∃ prev, many = cnt prev ∧ Ref m R Kd prev ∧ c = nxt R prev) ∧ Same H H2 ∧ H CA = none ∧
        H2 CA = some (.lst (iv c)) ∧ σ = [some (.ref r), some (.ref kk), some (.ref CA), some (.int (many : Nat)), y4, y5, y6, y7, y8, y9])
      ⟨0, cls0 Kd, CA, none, none, none, none, none, none, Nat.le_refl _, Nat.zero_le _, ref0 lk, .inl rfl, e0, nCA, h0, rfl⟩ (fun mm σ H2 iv2 => ?_) (fun σ H Q Q' hm h => ?_)
    case refine_2 =>
      obtain ⟨Q0, h0, m0⟩ := h
      exact ⟨Q0, h0, fun v H' z => hm _ _ (m0 v H' z)⟩
    clear e0 h0
    obtain ⟨many, c, CA, y4, y5, y6, y7, y8, y9, hmm, hmany, rf, hpv, e2, nCA, hCA, rfl⟩ := iv2
    have lc := rf.len
    have cp := cnt_pos (c := c) (by omega)
    have cl := cnt_len (c := c)
    refine ⟨fun b H' => b = decide ((many : Int) < (cnt c : Nat)) ∧ H' = H2, ⟨c, .inl (.inl hCA), by omega, rfl, rfl⟩, fun b H' z => ?_⟩
    obtain ⟨rfl, rfl⟩ := z
    by_cases hlt : many < cnt c
    case neg =>
      rw [if_neg (by rw [decide_eq_false (by omega)]; exact Bool.false_ne_true)]
      rcases hpv with rfl | ⟨prev, ep, rp, rfl⟩
      · omega
      · exact q _ CA _ e2 nCA hCA (cls_of ok rp (by omega))
    rw [if_pos (decide_eq_true (by omega))]
    dsimp only [tSeq, tAsg, gName]
    refine ⟨c, .inl (.inl hCA), by omega, ?_⟩
    refine lc_rng (n := R.length) (H1 := H') (fun R' h => .inl ⟨rs.map V.ref, .inl (.inl (.inl (e2 _ _ h2))), by rw [List.length_map, h3]; exact h⟩) (by omega)
      (fun D i acc H4 => ∃ ls : List Addr, acc = ls.map V.ref ∧ ls.length = i ∧ i ≤ R.length ∧ Same H' H4 ∧ H4 D = some (.lst (ls.map V.ref)) ∧ Sgs H4 R c ls)
      (fun D nD => ⟨[], rfl, rfl, Nat.zero_le _, same_upd nD, upd_same, ⟨Nat.zero_le _, fun j t z => nomatch z⟩⟩) (fun D nD i acc H4 hi2 h => ?_) (fun SA nSA acc H4 h => ?_)
    · obtain ⟨ls, rfl, lls, _, e4, hD4, hs4⟩ := h
      obtain ⟨qa, hqa⟩ : ∃ qa, rs[i]? = some qa := ⟨_, List.getElem?_eq_getElem (by omega)⟩
      have e24 := e2.trans e4
      have hrow := e24 _ _ (h4 i qa hqa)
      have hCA4 := e4 _ _ hCA
      have lrow := gls_len ok hi2
      refine ⟨rfl, ?_⟩
      refine ⟨iv c, .int (c.getD i 0 : Nat), .inl (.inl (.inl hCA4)), atI_nat (by rw [List.getElem?_map, getD_some (show i < c.length by omega)]; rfl), ?_⟩
      dsimp only [tCons, tThen]
      refine lc_list (K := K) (a := qa) (xs := iv (gls R i)) (H1 := H4) (fun R' hR' => ⟨rs.map V.ref, .ref qa, .inl (.inl (.inl (e24 _ _ h2))), atI_nat (by rw [List.getElem?_map, hqa]; rfl), hR'⟩) (.inl (.inl hrow))
        (fun B pre acc H5 => H4 B = none ∧ H5 = upd H4 B (.lst acc) ∧ ∃ gs rest, gls R i = gs ++ rest ∧ pre = iv gs ∧ acc = iv (gs.map fun g => c.getD g 0))
        (fun B pre acc H5 h => by obtain ⟨n, rfl, _⟩ := h; exact .inl (.inl (same_upd n _ _ hrow))) (fun B nB => ⟨nB, rfl, [], gls R i, rfl, rfl, rfl⟩) (fun B nB pre acc x suf H5 ex h => ?_) (fun B nB acc H5 h => ?_)
      · obtain ⟨_, rfl, gs, rest, eg, rfl, rfl⟩ := h
        have er : iv rest = x :: suf := by
          have e7 : iv gs ++ iv rest = iv gs ++ x :: suf := by rw [← ex, eg, iv_app]
          exact List.append_cancel_left e7
        obtain ⟨g, rest', rfl, rfl, rfl⟩ := List.map_eq_cons_iff.mp er
        have gl : g < R.length := gls_lt ok (p := i) (by rw [eg]; simp)
        have lg : gs.length ≤ m := by
          have := congrArg List.length eg
          rw [List.length_append, lrow] at this
          omega
        refine ⟨rfl, iv c, .int (c.getD g 0 : Nat), .inl (.inl (.inl (same_upd nB _ _ hCA4))), atI_nat (by rw [List.getElem?_map, getD_some (show g < c.length by omega)]; rfl), ?_⟩
        exact ⟨_, upd_same, by rw [List.length_map, List.length_map]; omega, _, nB, upd_upd, gs ++ [g], rest', by rw [eg]; simp, by rw [iv_app]; rfl, by rw [List.map_append, iv_app]; rfl⟩
      · obtain ⟨_, rfl, gs, rest, eg, ep, rfl⟩ := h
        obtain rfl := iv_inj ep
        have e5 : Same H4 (upd H4 B (.lst (iv ((gls R i).map fun g => c.getD g 0)))) := same_upd nB
        refine .inl ⟨B, _, rfl, .inl (.inl upd_same), fun T nT => ?_⟩
        have e6 := e5.trans (same_upd (o := .tup (iv ((gls R i).map fun g => c.getD g 0))) nT)
        have hT := upd_same (H := upd H4 B (.lst (iv ((gls R i).map fun g => c.getD g 0)))) (a := T) (o := .tup (iv ((gls R i).map fun g => c.getD g 0)))
        generalize upd (upd H4 B (.lst (iv ((gls R i).map fun g => c.getD g 0)))) T (.tup (iv ((gls R i).map fun g => c.getD g 0))) = H6 at e6 hT
        refine ⟨by show 2 ≤ sizeLine; omega, fun Z nZ => ?_⟩
        have e7 : Same H6 (upd H6 Z (.tup [.int (c.getD i 0 : Nat), .ref T])) := same_upd nZ
        have hZ := upd_same (H := H6) (a := Z) (o := .tup [.int (c.getD i 0 : Nat), .ref T])
        have hT7 := e7 _ _ hT
        have e8 := e6.trans e7
        generalize upd H6 Z (.tup [.int (c.getD i 0 : Nat), .ref T]) = H7 at e7 hZ hT7 e8
        have hD7 := e8 _ _ hD4
        have nDt : ∀ vs, H7 D ≠ some (.tup vs) := fun vs z => by rw [hD7] at z; cases z
        refine ⟨_, hD7, by rw [List.length_map]; omega, _, ls ++ [Z], by rw [List.map_append], by rw [List.length_append, lls]; rfl, hi2, same_upd2 (e4.trans e8) nD, by rw [upd_same, List.map_append]; rfl, ?_⟩
        refine Sgs.put ⟨by rw [List.length_append]; show ls.length + 1 ≤ _; omega, fun j t ht => ?_⟩ nDt
        rcases Nat.lt_or_ge j ls.length with hl | hl
        · rw [List.getElem?_append_left hl] at ht
          exact (hs4.2 j t ht).ext e8
        · rw [List.getElem?_append_right hl] at ht
          have e9 : j - ls.length = 0 := by
            have := (List.getElem?_eq_some_iff.mp ht).1
            simp at this; omega
          rw [e9] at ht
          have : Z = t := by simpa using ht
          subst this
          have : j = i := by omega
          subst this
          exact ⟨T, hZ, hT7⟩
    · obtain ⟨ls, rfl, lls, _, e4, hSA, hs4⟩ := h
      have hCA4 := e4 _ _ hCA
      have e24 := e2.trans e4
      have sat : ∀ j t, ls[j]? = some t → SgAt H4 (sg R c j) t := hs4.2
      have lsg := sgs_len (R := R) (c := c)
      intro N nN
      have e5 : Same H4 (upd H4 N (ND P w N [])) := same_upd nN
      refine for_list (K := K) (a := SA) (xs := ls.map V.ref) (H1 := upd H4 N (ND P w N [])) (by exact fun _ h => h) (.inl (.inl (e5 _ _ hSA)))
        (fun pre σ H6 => ∃ (j : Nat) (xs : Nds) (y6 : Option V), pre = (ls.take j).map V.ref ∧ j ≤ ls.length ∧ Same H4 H6 ∧ H6 N = some (ND P w N xs) ∧ NdOk H6 xs (ddS ((sgs R c).take j)) ∧
          σ = [some (.ref r), some (.ref kk), some (.ref CA), some (.int (cnt c : Nat)), some (.ref SA), some (.ref N), y6, y7, y8, y9])
        (fun pre σ H6 h => by obtain ⟨_, _, _, _, _, e, _⟩ := h; exact .inl (.inl (e _ _ hSA))) ⟨0, [], y6, rfl, Nat.zero_le _, e5, upd_same, ⟨rfl, fun j x z => nomatch z⟩, rfl⟩ (fun pre x suf σ H6 ex h => ?_) (fun σ H6 h => ?_)
      · obtain ⟨j, xs, y6, rfl, hj, e6, hN, nd6, rfl⟩ := h
        have lj : ((ls.take j).map V.ref).length = j := by rw [List.length_map, List.length_take]; omega
        have hj2 : j < ls.length := by
          have := congrArg List.length ex
          rw [List.length_append, lj, List.length_map, List.length_cons] at this
          omega
        have hx : (ls.map V.ref)[j]? = some x := by rw [ex, List.getElem?_append_right (by omega), lj, Nat.sub_self]; rfl
        rw [List.getElem?_map] at hx
        obtain ⟨t, ht, rfl⟩ := Option.map_eq_some_iff.mp hx
        have st := (sat j t ht).ext e6
        have et : (sgs R c).take (j + 1) = (sgs R c).take j ++ [sg R c j] := by rw [List.take_add_one, sgs_at (by omega)]; rfl
        have ea := ddS_app ((sgs R c).take j) (sg R c j)
        rw [← et] at ea
        have lx := nd6.len
        have lx2 : (ddS ((sgs R c).take j)).length ≤ j := by
          have := List.Nodup.length_le_of_subset (ddS_nd (l := (sgs R c).take j)) (fun x hx => ddS_mem.mp hx)
          rw [List.length_take] at this; omega
        refine ⟨N, xs, rfl, hN, nd6.all, xs, hN, nd6.all, t, sg R c j, xs.length, rfl, rfl, hN, nd6.all, st, by omega, fun v hv => ?_, fun hv => ?_⟩
        · have hm : sg R c j ∈ ddS ((sgs R c).take j) := by
            rw [← nd6.keys]
            exact Classical.byContradiction fun z => by rw [lookN_none.mpr z] at hv; cases hv
          have eb : ddS ((sgs R c).take (j + 1)) = ddS ((sgs R c).take j) := by rw [ea, addS, if_pos hm]
          refine ⟨j + 1, xs, _, ?_, hj2, e6, hN, by rw [eb]; exact nd6, rfl⟩
          rw [List.take_add_one, ht, List.map_append]; rfl
        · have hm : sg R c j ∉ ddS ((sgs R c).take j) := by rw [← nd6.keys]; exact lookN_none.mp hv
          have eb : ddS ((sgs R c).take (j + 1)) = ddS ((sgs R c).take j) ++ [sg R c j] := by rw [ea, addS, if_neg hm]
          have nNt : ∀ vs, H6 N ≠ some (.tup vs) := fun vs z => by rw [hN] at z; cases z
          refine ⟨j + 1, xs ++ [(sg R c j, t, xs.length)], _, ?_, hj2, same_upd2 e6 nN, upd_same, ?_, rfl⟩
          · rw [List.take_add_one, ht, List.map_append]; rfl
          · rw [eb]
            have n2 := nd6.put (Z := N) (o := ND P w N (xs ++ [(sg R c j, t, xs.length)])) nNt
            have st2 := st.put (Z := N) (o := ND P w N (xs ++ [(sg R c j, t, xs.length)])) nNt
            refine ⟨by rw [List.length_append, List.length_append, lx]; rfl, fun i y hy => ?_⟩
            rcases Nat.lt_or_ge i xs.length with hl | hl
            · rw [List.getElem?_append_left hl] at hy
              rw [List.getElem?_append_left (by omega)]
              exact n2.at_ i y hy
            · rw [List.getElem?_append_right hl] at hy
              have e9 : i - xs.length = 0 := by
                have := (List.getElem?_eq_some_iff.mp hy).1
                simp at this; omega
              rw [e9] at hy
              have : (sg R c j, t, xs.length) = y := by simpa using hy
              subst this
              rw [List.getElem?_append_right (by omega), show i - (ddS ((sgs R c).take j)).length = 0 by omega]
              exact ⟨rfl, by show xs.length = i; omega, st2⟩
      · obtain ⟨j, xs, y6, ej, hj, e6, hN, nd6, rfl⟩ := h
        have lj : j = ls.length := by
          have := congrArg List.length ej
          rw [List.length_map, List.length_map, List.length_take] at this
          omega
        have eall : (sgs R c).take j = sgs R c := List.take_of_length_le (by omega)
        rw [eall] at nd6
        have hSA6 := e6 _ _ hSA
        dsimp only [tSeq, tAsg, gName]
        refine lc_list (K := K) (a := SA) (xs := ls.map V.ref) (H1 := H6) (by exact fun _ h => h) (.inl (.inl hSA6))
          (fun B pre acc H7 => H6 B = none ∧ H7 = upd H6 B (.lst acc) ∧ ∃ j, j ≤ ls.length ∧ pre = (ls.take j).map V.ref ∧ acc = iv (((sgs R c).take j).map fun s => (ddS (sgs R c)).idxOf s))
          (fun B pre acc H7 h => by obtain ⟨n, rfl, _⟩ := h; exact .inl (.inl (same_upd n _ _ hSA6))) (fun B nB => ⟨nB, rfl, 0, Nat.zero_le _, rfl, rfl⟩) (fun B nB pre acc x suf H7 ex h => ?_) (fun B nB acc H7 h => ?_)
        · obtain ⟨_, rfl, i, hi2, rfl, rfl⟩ := h
          have li : ((ls.take i).map V.ref).length = i := by rw [List.length_map, List.length_take]; omega
          have hi3 : i < ls.length := by
            have := congrArg List.length ex
            rw [List.length_append, li, List.length_map, List.length_cons] at this
            omega
          have hx : (ls.map V.ref)[i]? = some x := by rw [ex, List.getElem?_append_right (by omega), li, Nat.sub_self]; rfl
          rw [List.getElem?_map] at hx
          obtain ⟨t, ht, rfl⟩ := Option.map_eq_some_iff.mp hx
          have e7 : Same H6 (upd H6 B (.lst (iv (((sgs R c).take i).map fun s => (ddS (sgs R c)).idxOf s)))) := same_upd nB
          have hin : sg R c i ∈ ddS (sgs R c) := ddS_mem.mpr (sg_mem (by omega))
          have n7 := nd6.ext e7
          have et : (sgs R c).take (i + 1) = (sgs R c).take i ++ [sg R c i] := by rw [List.take_add_one, sgs_at (by omega)]; rfl
          refine ⟨rfl, N, t, xs, sg R c i, _, rfl, rfl, e7 _ _ hN, n7.all, ((sat i t ht).ext e6).ext e7, n7.look hin, ?_⟩
          refine ⟨_, upd_same, by rw [List.length_map, List.length_map, List.length_take]; omega, _, nB, upd_upd, i + 1, hi3, ?_, ?_⟩
          · rw [List.take_add_one, ht, List.map_append]; rfl
          · rw [et, List.map_append, iv_app]; rfl
        · obtain ⟨_, rfl, i, hi2, ei, rfl⟩ := h
          have li : i = ls.length := by
            have := congrArg List.length ei
            rw [List.length_map, List.length_map, List.length_take] at this
            omega
          have ei2 : (sgs R c).take i = sgs R c := List.take_of_length_le (by omega)
          rw [ei2]
          have nBH : H B = none := Same.free (e24.trans e6) nB
          exact ⟨R.length + 1 - cnt c, by omega, cnt c, nxt R c, B, _, _, _, _, _, _, Nat.le_refl _, by omega, rf.nxt ok, .inr ⟨c, rfl, rf, rfl⟩, same_upd2 (e24.trans e6) nBH, nBH, upd_same, rfl⟩
end
end LK

/-! for c, x, y in zip(text, list, list) -/
namespace LK
open PySem PySem.Spec PyProof.Rows L2
section
variable {prog : Program} {w : World} {A : Around} {E : Value → Shared → Prop} {s : Shared}
end
end LK

/-! pairs of places as keys; need_same_letters, _first_with_kinds where nothing is found, parting, is_same -/
namespace LK
open PySem PySem.Spec PyProof.Rows L2 LamX ClX
open scoped List
section
variable {X : Cx} {pos : Pos}
end
/-! ### pairs of numbers as keys -/
abbrev kP (e : Nat × Nat) : List Key := [kI e.1, kI e.2]
theorem kP_iff {a b : Nat × Nat} : kP a = kP b ↔ a = b := by
  constructor
  · intro h
    injection h with h1 h2
    injection h2 with h2 _
    exact Prod.ext (kI_iff.mp h1) (kI_iff.mp h2)
  · rintro rfl; rfl
/-- so many pairs there are at most -/
theorem pairs_len {l : List (Nat × Nat)} {n m : Nat} (nd : l.Nodup) (h : ∀ g ∈ l, g.1 < n ∧ g.2 < m) : l.length ≤ n * m := by
  have nd2 : (l.map fun g => g.1 * m + g.2).Nodup := by
    refine List.pairwise_map.mpr (List.Pairwise.imp_of_mem (fun {a b} ha hb hne => ?_) nd)
    intro e
    have h1 := h a ha
    have h2 := h b hb
    apply hne
    have m0 : 0 < m := by omega
    have e1 : (a.1 * m + a.2) / m = (b.1 * m + b.2) / m := by rw [e]
    have e2 : (a.1 * m + a.2) % m = (b.1 * m + b.2) % m := by rw [e]
    rw [Nat.mul_comm a.1 m, Nat.mul_comm b.1 m, Nat.mul_add_div m0, Nat.mul_add_div m0, Nat.div_eq_of_lt h1.2, Nat.div_eq_of_lt h2.2] at e1
    rw [Nat.mul_comm a.1 m, Nat.mul_comm b.1 m, Nat.mul_add_mod, Nat.mul_add_mod, Nat.mod_eq_of_lt h1.2, Nat.mod_eq_of_lt h2.2] at e2
    exact Prod.ext (by omega) e2
  have := len_le_of_lt nd2 (n := n * m) fun x hx => by
    obtain ⟨g, hg, rfl⟩ := List.mem_map.mp hx
    have := h g hg
    calc g.1 * m + g.2 < g.1 * m + m := by omega
      _ = (g.1 + 1) * m := by rw [Nat.add_mul, Nat.one_mul]
      _ ≤ n * m := Nat.mul_le_mul_right _ (by omega)
  rwa [List.length_map] at this
section
variable {P : Program} {w : World} {K : PySem.W.Frag} {mg : Str → Option Value} {base : Heap} {C : Addr}
theorem kd_some {K : List Bool} {p n : Nat} (h : K.length = n) (hp : p < n) : K[p]? = some (kd K p) := by
  rw [kd, List.getD_eq_getElem?_getD, List.getElem?_eq_getElem (by rw [h]; exact hp)]; rfl
end
end LK

/-! least_of, least -/
namespace LK
open PySem PySem.Spec PyProof.Rows L2 LamX ClX
open scoped List
theorem uvG {i : Nat} {σ : L2.St} {H : Hp} {Q : VK} {v : V} (h : σ[i]? = some (some v)) (q : Q v H) : uVar i σ H Q := by unfold uVar; rw [h]; exact q
theorem ClsN.nums {m : Nat} {R : Rows} {K : List Bool} {c : List Nat} (h : ClsN m R K c) : Num R c (cnt c) := by
  obtain ⟨k, hk, h1, h2⟩ := h.num
  have e : cnt c = k := by
    refine Nat.le_antisymm ?_ ?_
    · refine len_le_of_lt (nd_adds List.nodup_nil) fun x hx => ?_
      obtain ⟨p, hp, rfl⟩ := mem_getD (adds_nil_mem.mp hx)
      exact h1 p (by rw [← h.len]; exact hp)
    · have := List.Nodup.length_le_of_subset (l₁ := List.range k) (l₂ := adds [] c) List.nodup_range fun x hx => by
        obtain ⟨p, hp, e⟩ := h2 x (List.mem_range.mp hx)
        exact adds_nil_mem.mpr (e ▸ getD_in (by rw [h.len]; exact hp))
      rwa [List.length_range] at this
  rw [e]
  exact ⟨h.len, hk, h1, h2⟩
theorem idx_first {v : Nat} : ∀ (c : List Nat) (i : Nat), c[i]? = some v → v ∉ c.take i → c.idxOf v = i
  | [], i, h, _ => by simp at h
  | x :: c, 0, h, _ => by simp at h; subst h; simp
  | x :: c, i + 1, h, n => by
    rw [List.take_succ_cons, List.mem_cons, not_or] at n
    have ih := idx_first c i (by simpa using h) n.2
    rw [List.idxOf_cons]
    have : (x == v) = false := by simpa using fun z => n.1 z.symm
    rw [this, ih]; rfl
/-- each class with its first place, as far as i -/
def fstP (c : List Nat) (i : Nat) : List (Nat × V) := (adds [] (c.take i)).map fun v => (v, V.int (c.idxOf v : Nat))
theorem fstP_keys (c : List Nat) (i : Nat) : (fstP c i).map (·.1) = adds [] (c.take i) := by
  unfold fstP; rw [List.map_map]; exact List.map_id' _
theorem fstP_len (c : List Nat) (i : Nat) : (kmp (fstP c i)).length = (adds [] (c.take i)).length := by rw [List.length_map, fstP, List.length_map]
theorem fstP_look {c : List Nat} {i v : Nat} (h : v ∈ adds [] (c.take i)) : (fstP c i).lookup v = some (V.int (c.idxOf v : Nat)) := by
  unfold fstP
  generalize adds [] (c.take i) = l at h
  induction l with
  | nil => cases h
  | cons x l ih =>
    rw [List.map_cons]
    by_cases e : v = x
    · subst e; rw [List.lookup_cons_self]
    · rw [List.lookup_cons]
      have : (v == x) = false := by simpa using e
      rw [this]
      exact ih ((List.mem_cons.mp h).resolve_left e)
theorem fstP_all {c : List Nat} (v : Nat) (h : v ∈ c) : (fstP c c.length).lookup v = some (V.int (c.idxOf v : Nat)) := fstP_look (by rw [List.take_length]; exact adds_nil_mem.mpr h)
section
variable {P : Program} {w : World} {K : PySem.W.Frag} {mg : Str → Option Value} {base : Heap} {C : Addr}
abbrev nLO : List Str := ["letters", "rows", "kinds", "start", "classes", "firsts", "place", "number", "made", "goal"]
theorem scLeastOf : FnScope nLO ["letters", "rows", "kinds", "start"] (defScope sLeastOf) := ⟨rfl, rfl, rfl, by decide +kernel, rfl, by decide +kernel, by decide +kernel⟩
abbrev scL1 : Scope := { kind := .function, names := [(".0", .local), ("number", .local), ("classes", .free), ("firsts", .free), ("rows", .free)], isGenerator := false, isCoroutine := false }
def spLeastOf (C : Addr) : Sp := fun vs H Q _ => ∃ (r kk : Addr) (s : Nat) (S : List Nat) (R : Rows) (Kd : List Bool), vs = [.str (T S), .ref r, .ref kk, .int s] ∧ RowsL H r R ∧ H kk = some (.lst (Kd.map V.bl)) ∧ ShOk S R Kd ∧ s < R.length ∧
  ∀ H' a A KA, Same H H' → H a = none → Mach C H' a S A KA → LeastOf S.length R Kd s A KA → Q (.ref a) H'
theorem ok_leastOf {f CM : Addr} {mc u : Value} {fd : FuncData} {k : Nat} (F : Fun K "least_of" "least_of" sLeastOf f fd) (M : Mx mg) (HAl : Has P w K mg base k "alike_classes" ["rows", "kinds"] spAlike) (HN : Has P w K mg base k "_numbered_from" ["letters", "rows", "kinds", "start"] (spNumFrom K C))
    (gM : mg "Machine" = some (.ref CM)) (cr : CRead K CM mc) (cv : CVal K CM mc "MOST_PLACES" (.int 40) u) : FnG P w K mg base CX0 (k + 1) f fd ["letters", "rows", "kinds", "start"] (spLeastOf C) := by
  refine okG F scLeastOf (fun vs H Q E h => ?_) (fun cdv A hA outer s H vs Q E hr h => ?_)
  · obtain ⟨r, kk, s0, S, R, Kd, rfl, _⟩ := h; rfl
  · obtain ⟨r, kk, s0, S, R, Kd, rfl, hRL, hk, ok, hs, q⟩ := h
    obtain ⟨rs, h2, h3, h4⟩ := id hRL
    have nd := scLeastOf.nd
    have sl := sizeLine_eq
    refine ⟨_, (pss_cons (ps_set (i := 4) nd rfl (.inr rfl) (pe_callH HAl hA hr (by rfl) (pa_cons (uv 1) (pa_cons (uv 2) pa_nil))))
      (pss_cons (ps_set (i := 5) nd rfl (.inr rfl) pe_dnewK)
      (pss_cons (ps_for PassesOwn.never rfl (pi_enumB (by rfl) M.enumerate (pa_cons (uv 4) pa_nil)) (pg_tup rfl (pgs_cons (pg_name (i := 6) nd rfl (.inl rfl)) (pgs_cons (pg_name (i := 7) nd rfl (.inl rfl)) pgs_nil)))
        (pss_one (ps_expr (pe_dsetd (uv 5) (uv 7) (uv 6) ⟨rfl, rfl, rfl, rfl⟩))))
      (pss_cons (ps_ifU (pt_cu o_gt (pe_callB c_len (by rfl) M.len b_len (pa_cons (uv 5) pa_nil)) (pe_cval (pe_glob (v := .ref CM) (by rfl) gM rfl))) (pss_one ps_never) pss_nil)
      (pss_cons (ps_setLc (i := 8) (own := [("number", 7)]) (g := gName 7) (by rfl) nd rfl rfl (sw_true rfl rfl rfl (by decide +kernel)) (pi_range1 (by rfl) M.range (pa_cons (pe_callB c_len (by rfl) M.len b_len (pa_cons (uv 5) pa_nil)) pa_nil))
          (blkOk_by (N := nLO) (sc := defScope sLeastOf) (by decide +kernel))
          (fun _ _ _ _ _ => pg_name (i := 7) nd rfl (Or.inl rfl)) (fun _ _ _ _ _ => pts_nil)
          (fun _ _ _ _ _ => (pe_lc (own := [("goal", 9)]) (g := gName 9) (tt := tYes) rfl nd (pi_listK (K := K) rfl (pe_ixK (K := K) rfl (uv 1) (pe_dget (Room.u1 hr) (uv 5) (uv 7) (fun _ _ => rfl)))) (blkOk_in (N := nLO) (sc := scL1) (by decide +kernel))
          (fun _ _ _ _ _ => pg_name (i := 9) nd rfl (Or.inl rfl)) (fun _ _ _ _ _ => pts_nil)
          (fun _ _ _ _ _ => (pe_ixK (K := K) rfl (uv 4) (uv 9))))))
      (pss_one (ps_ret (pe_callH HN hA hr (by rfl) (pa_cons (uv 0) (pa_cons (uv 8) (pa_cons (pe_lc (own := [("number", 7)]) (g := gName 7) (tt := tYes) rfl nd (pi_range1 (by rfl) M.range (pa_cons (pe_callB c_len (by rfl) M.len b_len (pa_cons (uv 5) pa_nil)) pa_nil)) (blkOk_by (N := nLO) (sc := defScope sLeastOf) (by decide +kernel))
          (fun _ _ _ _ _ => pg_name (i := 7) nd rfl (Or.inl rfl)) (fun _ _ _ _ _ => pts_nil)
          (fun _ _ _ _ _ => (pe_ixK (K := K) rfl (uv 2) (pe_dget (Room.u1 hr) (uv 5) (uv 7) (fun _ _ => rfl))))) (pa_cons (pe_ixK (K := K) rfl (uv 4) (uv 3)) pa_nil)))))))))))), ?_⟩
    have lo := ok.lo
    have hi := ok.hi
    have l3 := ok.let_.hi
    refine ⟨r, kk, S.length, R, Kd, rfl, hRL, hk, ok.rows, lo, by omega, ok.kinds, by omega, fun H1 CA c e1 nCA hCA cls => ?_⟩
    have num := cls.nums
    have lc := cls.len
    have lcnt := num.le
    intro D nD
    have eD : Same H1 (upd H1 D (.dK (kmp (fstP c 0)))) := same_upd nD
    have nDH : H D = none := Same.free e1 nD
    dsimp only [tSeq, tAsg, gName]
    refine for_enB (K := K) (tp := false) (a := CA) (xs := iv c) (H1 := upd H1 D (.dK [])) (by exact fun _ h => h) (.inl (.inl (eD _ _ hCA))) (fun i σ H2 => ∃ y6 y7 : Option V, Same H1 H2 ∧ H2 D = some (.dK (kmp (fstP c i))) ∧
        σ = [some (.str (T S)), some (.ref r), some (.ref kk), some (.int s0), some (.ref CA), some (.ref D), y6, y7, none, none])
      (fun i σ H2 h => by obtain ⟨_, _, e, _⟩ := h; exact .inl (.inl (e _ _ hCA))) ⟨none, none, eD, upd_same, rfl⟩ (fun i x p σ H2 hx h np => ?_) (fun σ H2 h => ?_)
    · obtain ⟨y6, y7, e2, hD2, rfl⟩ := h
      rw [List.getElem?_map] at hx
      obtain ⟨v, hv, rfl⟩ := Option.map_eq_some_iff.mp hx
      refine ⟨p, _, rfl, .inl (.inl upd_same), rfl, _, _, rfl, _, _, rfl, rfl, ?_⟩
      have e3 : Same H2 (upd H2 p (.tup [.int (i : Nat), .int (v : Nat)])) := same_upd np
      have hD3 := e3 _ _ hD2
      have e13 := e2.trans e3
      generalize upd H2 p (.tup [.int (i : Nat), .int (v : Nat)]) = H3 at e3 hD3 e13
      have et : c.take (i + 1) = c.take i ++ [v] := by rw [List.take_add_one, hv]; rfl
      have ea := adds_app (f := []) (gs := c.take i) (g := v)
      rw [← et] at ea
      have il : i < c.length := (List.getElem?_eq_some_iff.mp hv).1
      have la : (adds [] (c.take i)).length ≤ i := by
        have := cnt_len (c := c.take i)
        rw [List.length_take] at this
        have h9 : (adds [] (c.take i)).length ≤ min i c.length := this
        omega
      refine ⟨D, rfl, .inl ⟨_, .inl hD3⟩, kmp (fstP c i), kI v, hD3, rfl, by rw [fstP_len]; omega, fun u hu => ?_, fun hu => ?_⟩
      · rw [val_kmp] at hu
        have hm : v ∈ adds [] (c.take i) := Classical.byContradiction fun z => by
          rw [look_none.mpr (by rw [fstP_keys]; exact z)] at hu; cases hu
        have eb : fstP c (i + 1) = fstP c i := by unfold fstP; rw [ea, add1, if_pos hm]
        exact ⟨_, _, e13, by rw [eb]; exact hD3, rfl⟩
      · rw [val_kmp] at hu
        have hm : v ∉ adds [] (c.take i) := by rw [← fstP_keys]; exact look_none.mp hu
        have ix : c.idxOf v = i := idx_first c i hv fun z => hm (adds_nil_mem.mpr z)
        have eb : fstP c (i + 1) = fstP c i ++ [(v, V.int (i : Nat))] := by
          unfold fstP; rw [ea, add1, if_neg hm, List.map_append]
          show _ ++ [(v, V.int (c.idxOf v : Nat))] = _
          rw [ix]
        refine ⟨_, _, same_upd2 e13 nD, ?_, rfl⟩
        rw [put_kmp _ (by rw [fstP_keys]; exact hm), eb]; exact upd_same
    · obtain ⟨y6, y7, e2, hD2, rfl⟩ := h
      rw [show (iv c).length = c.length from List.length_map _] at hD2
      have lD : (kmp (fstP c c.length)).length = cnt c := by rw [fstP_len, List.take_length]; rfl
      have e12 := e1.trans e2
      have hCA2 := e2 _ _ hCA
      have dg : ∀ (H' : Hp) (v : Nat), H' D = some (.dK (kmp (fstP c c.length))) → v < cnt c → DGet H' D (.int v) (some (.int (c.idxOf v : Nat))) := fun H' v hd hv => by
        have := DGet.k (k := kI v) hd
        rw [val_kmp, fstP_all v (by
          obtain ⟨p, hp, e⟩ := num.all v hv
          exact e ▸ getD_in (by rw [lc]; exact hp))] at this
        exact this
      generalize kmp (fstP c c.length) = kvs at hD2 lD dg
      refine .inr ⟨kvs, hD2, ?_⟩
      refine ⟨CM, mc, .int 40, u, rfl, cr, cv, ?_⟩
      show Br (decide ((40 : Int) < (kvs.length : Nat))) _ _
      rw [decide_eq_false (by omega)]
      refine .no ?_
      dsimp only [tNext, tSeq, tAsg, gName]
      have fstlt : ∀ v, v < cnt c → c.idxOf v < R.length := fun v hv => (num.idx hv).1
      refine lc_rng (n := cnt c) (H1 := H2) (fun R' h => .inr ⟨kvs, hD2, by rw [lD]; exact h⟩) (by omega)
        (fun B i acc H4 => ∃ ls : List Addr, acc = ls.map V.ref ∧ ls.length = i ∧ i ≤ cnt c ∧ Same H2 H4 ∧ H4 B = some (.lst (ls.map V.ref)) ∧ ∀ j q, ls[j]? = some q → q ≠ B ∧ H4 q = some (.lst (iv (gls (qrows R c (cnt c)) j))))
        (fun B nB => ⟨[], rfl, rfl, Nat.zero_le _, same_upd nB, upd_same, fun j q z => nomatch z⟩) (fun B nB i acc H4 hi2 h => ?_) (fun B nB acc H4 h => ?_)
      · obtain ⟨ls, rfl, lls, _, e4, hB4, hls⟩ := h
        have pl := fstlt i hi2
        obtain ⟨qa, hqa⟩ : ∃ qa, rs[c.idxOf i]? = some qa := ⟨_, List.getElem?_eq_getElem (by omega)⟩
        have e14 := e12.trans e4
        have hrow := e14 _ _ (h4 _ qa hqa)
        have hCA4 := e4 _ _ hCA2
        have hD4 := e4 _ _ hD2
        have lrow := gls_len ok.rows pl
        refine ⟨rfl, ?_⟩
        refine lc_list (K := K) (a := qa) (xs := iv (gls R (c.idxOf i))) (H1 := H4) (fun R' hR' => ⟨D, _, rfl, dg H4 i hD4 hi2, rs.map V.ref, .ref qa, .inl (.inl (.inl (e14 _ _ h2))), atI_nat (by rw [List.getElem?_map, hqa]; rfl), hR'⟩) (.inl (.inl hrow))
          (fun B2 pre acc H5 => H4 B2 = none ∧ H5 = upd H4 B2 (.lst acc) ∧ ∃ gs rest, gls R (c.idxOf i) = gs ++ rest ∧ pre = iv gs ∧ acc = iv (gs.map fun g => c.getD g 0))
          (fun B2 pre acc H5 h => by obtain ⟨n, rfl, _⟩ := h; exact .inl (.inl (same_upd n _ _ hrow))) (fun B2 nB2 => ⟨nB2, rfl, [], _, rfl, rfl, rfl⟩) (fun B2 nB2 pre acc x suf H5 ex h => ?_) (fun B2 nB2 acc H5 h => ?_)
        · obtain ⟨_, rfl, gs, rest, eg, rfl, rfl⟩ := h
          have er : iv rest = x :: suf := by
            have e7 : iv gs ++ iv rest = iv gs ++ x :: suf := by rw [← ex, eg, iv_app]
            exact List.append_cancel_left e7
          obtain ⟨g, rest', rfl, rfl, rfl⟩ := List.map_eq_cons_iff.mp er
          have gl : g < R.length := gls_lt ok.rows (p := c.idxOf i) (by rw [eg]; simp)
          have lg : gs.length ≤ S.length := by
            have := congrArg List.length eg
            rw [List.length_append, lrow] at this
            omega
          refine ⟨rfl, iv c, .int (c.getD g 0 : Nat), .inl (.inl (.inl (same_upd nB2 _ _ hCA4))), atI_nat (by rw [List.getElem?_map, getD_some (show g < c.length by omega)]; rfl), ?_⟩
          exact ⟨_, upd_same, by rw [List.length_map, List.length_map]; omega, _, nB2, upd_upd, gs ++ [g], rest', by rw [eg]; simp, by rw [iv_app]; rfl, by rw [List.map_append, iv_app]; rfl⟩
        · obtain ⟨_, rfl, gs, rest, eg, ep, rfl⟩ := h
          obtain rfl := iv_inj ep
          have e5 : Same H4 (upd H4 B2 (.lst (iv ((gls R (c.idxOf i)).map fun g => c.getD g 0)))) := same_upd nB2
          have hB5 := e5 _ _ hB4
          have nBB2 : B ≠ B2 := ne_of_none hB4 nB2
          refine ⟨_, hB5, by rw [List.length_map]; omega, _, ls ++ [B2], by rw [List.map_append], by rw [List.length_append, lls]; rfl, hi2, same_upd2 (e4.trans e5) nB, by rw [upd_same, List.map_append]; rfl, fun j t ht => ?_⟩
          rcases Nat.lt_or_ge j ls.length with hl | hl
          · rw [List.getElem?_append_left hl] at ht
            obtain ⟨a1, a2⟩ := hls j t ht
            exact ⟨a1, by rw [upd_ne a1]; exact e5 _ _ a2⟩
          · rw [List.getElem?_append_right hl] at ht
            have e9 : j - ls.length = 0 := by
              have := (List.getElem?_eq_some_iff.mp ht).1
              simp at this; omega
            rw [e9] at ht
            have : B2 = t := by simpa using ht
            subst this
            have : j = i := by omega
            subst this
            rw [qrows_at hi2]
            exact ⟨nBB2.symm, by rw [upd_ne nBB2.symm]; exact upd_same⟩
      · obtain ⟨ls, rfl, lls, _, e4, hB4, hls⟩ := h
        have hD4 := e4 _ _ hD2
        have hk4 := (e12.trans e4) _ _ hk
        have hCA4 := e4 _ _ hCA2
        dsimp only [tRet, uCall, tCons]
        refine uvG rfl (uvG rfl ?_)
        refine lc_rng (n := cnt c) (H1 := H4) (fun R' h => .inr ⟨kvs, hD4, by rw [lD]; exact h⟩) (by omega)
          (fun B2 i acc H5 => H4 B2 = none ∧ i ≤ cnt c ∧ H5 = upd H4 B2 (.lst acc) ∧ acc = ((qkinds Kd c (cnt c)).take i).map V.bl)
          (fun B2 nB2 => ⟨nB2, Nat.zero_le _, rfl, rfl⟩) (fun B2 nB2 i acc H5 hi2 h => ?_) (fun B2 nB2 acc H5 h => ?_)
        · obtain ⟨_, _, rfl, rfl⟩ := h
          have e5 : Same H4 (upd H4 B2 (.lst (((qkinds Kd c (cnt c)).take i).map V.bl))) := same_upd nB2
          have pl := fstlt i hi2
          refine ⟨rfl, D, _, rfl, dg _ i (e5 _ _ hD4) hi2, Kd.map V.bl, .bl (kd Kd (c.idxOf i)), .inl (.inl (.inl (e5 _ _ hk4))), atI_nat (by rw [List.getElem?_map, kd_some ok.kinds pl]; rfl), ?_⟩
          refine ⟨_, upd_same, by rw [List.length_map, List.length_take]; omega, _, nB2, hi2, upd_upd, ?_⟩
          have hq : (qkinds Kd c (cnt c))[i]? = some (kd Kd (c.idxOf i)) := by rw [qkinds, List.getElem?_map, fsts_at hi2]; rfl
          rw [List.take_add_one, hq, List.map_append]; rfl
        · obtain ⟨_, _, rfl, rfl⟩ := h
          have lq : (qkinds Kd c (cnt c)).length = cnt c := by rw [qkinds, List.length_map, fsts_len]
          rw [List.take_of_length_le (by omega)]
          have e5 : Same H4 (upd H4 B2 (.lst ((qkinds Kd c (cnt c)).map V.bl))) := same_upd nB2
          have hB25 := upd_same (H := H4) (a := B2) (o := .lst ((qkinds Kd c (cnt c)).map V.bl))
          generalize upd H4 B2 (.lst ((qkinds Kd c (cnt c)).map V.bl)) = H5 at e5 hB25
          refine ⟨iv c, .int (c.getD s0 0 : Nat), .inl (.inl (.inl (e5 _ _ hCA4))), atI_nat (by rw [List.getElem?_map, getD_some (show s0 < c.length by omega)]; rfl), ?_⟩
          have qok := qrows_ok ok.rows num
          have c1 : 1 ≤ cnt c := cnt_pos (by omega)
          refine ⟨B, B2, c.getD s0 0, S, qrows R c (cnt c), qkinds Kd c (cnt c), rfl, ⟨ok.let_, qok, by rw [qrows_len]; exact c1, by rw [qrows_len]; omega, by rw [qrows_len]; exact lq⟩, by rw [qrows_len]; exact num.lt s0 hs,
            ⟨false, ls, .inl (.inl (e5 _ _ hB4)), by rw [qrows_len]; exact lls, fun i p hp => ⟨false, .inl (.inl (e5 _ _ (hls i p hp).2))⟩⟩, ⟨false, .inl (.inl hB25)⟩, fun H6 a e6 na mach => ?_⟩
          have e46 := (e12.trans e4).trans e5
          exact q H6 a _ _ (e46.trans e6) (Same.free e46 na) mach.m (least_of_cls ok.rows num cls hs)
theorem scLeast : FnScope ["self"] ["self"] (defScope sLeast) := ⟨rfl, rfl, rfl, by decide +kernel, rfl, by decide +kernel, by decide +kernel⟩
def spLeast (C : Addr) : Sp := fun vs H Q _ => ∃ (a : Addr) (S : List Nat) (R : Rows) (Kd : List Bool), vs = [.ref a] ∧ Mach C H a S R Kd ∧ ShOk S R Kd ∧ ∀ H' b A KA, Same H H' → H b = none → Mach C H' b S A KA → LeastOf S.length R Kd 0 A KA → Q (.ref b) H'
theorem ok_least {f : Addr} {fd : FuncData} {k : Nat} (F : Fun K "least" "Machine.least" sLeast f fd) (cM : ClsM K C) (HL : Has P w K mg base k "least_of" ["letters", "rows", "kinds", "start"] (spLeastOf C)) : FnG P w K mg base CX0 (k + 1) f fd ["self"] (spLeast C) := by
  refine okG F scLeast (fun vs H Q E h => ?_) (fun cdv A hA outer s H vs Q E hr h => ?_)
  · obtain ⟨a, S, R, Kd, rfl, _⟩ := h; rfl
  · obtain ⟨a, S, R, Kd, rfl, mm, ok, q⟩ := h
    refine ⟨_, pss_one (ps_ret (pe_callH HL hA hr (by rfl) (pa_cons (pe_fldU (uv 0)) (pa_cons (pe_fldU (uv 0)) (pa_cons (pe_fldU (uv 0)) (pa_cons pe_int pa_nil)))))), ?_⟩
    obtain ⟨dx, r, kk, rs, h1, h2, h3, h4, h5⟩ := id mm
    exact ⟨C, dx, _, .str (T S), h1, cM.cls, cM.nL, rfl, C, dx, _, .ref r, h1, cM.cls, cM.nR, rfl, C, dx, _, .ref kk, h1, cM.cls, cM.nK, rfl, r, kk, 0, S, R, Kd, rfl, ⟨rs, h2, h3, h4⟩, h5, ok, by have := ok.lo; omega, q⟩
end
end LK

/-! numbers as sets of places: bits -/
namespace LK
open PySem PySem.Spec PyProof.Rows L2 LamX ClX
open scoped List
theorem bitAnd_nat (a b : Nat) : Builtin.bitAnd (a : Int) (b : Int) = ((a &&& b : Nat) : Int) := by
  unfold Builtin.bitAnd
  rw [decide_eq_true (Int.natCast_nonneg a), decide_eq_true (Int.natCast_nonneg b)]
  rfl
theorem bitOr_nat (a b : Nat) : Builtin.bitOr (a : Int) (b : Int) = ((a ||| b : Nat) : Int) := by
  unfold Builtin.bitOr
  have n : ∀ x : Nat, Builtin.bitNot (x : Int) = -(x : Int) - 1 := fun x => by unfold Builtin.bitNot; omega
  have lt : ∀ x : Nat, ¬ (0 : Int) ≤ -(x : Int) - 1 := fun x => by omega
  have nn : ∀ x : Nat, Builtin.bitNot (-(x : Int) - 1) = (x : Int) := fun x => by unfold Builtin.bitNot; omega
  rw [n a, n b]
  unfold Builtin.bitAnd
  rw [decide_eq_false (lt a), decide_eq_false (lt b)]
  show Builtin.bitNot (Builtin.bitNot ((Builtin.bitNot (-(a : Int) - 1)).toNat ||| (Builtin.bitNot (-(b : Int) - 1)).toNat : Nat)) = _
  rw [nn a, nn b, Int.toNat_natCast, Int.toNat_natCast, n, nn]
section
variable {X : Cx}
def rBitsU (f : Nat → Nat → Nat) : R2 := fun x y H Q => ∃ a b : Nat, x = .int a ∧ y = .int b ∧ Q (.int (f a b : Nat)) H
theorem o_band : OpR X (binaryOp .BitAnd) (rBitsU (· &&& ·)) := by
  refine OpR.imp op_and fun x y H Q h => ?_
  obtain ⟨a, b, rfl, rfl, q⟩ := h
  exact ⟨_, _, rfl, rfl, by show Q (.int (Builtin.bitAnd _ _)) H; rw [bitAnd_nat]; exact q⟩
theorem o_bor : OpR X (binaryOp .BitOr) (rBitsU (· ||| ·)) := by
  refine OpR.imp op_or fun x y H Q h => ?_
  obtain ⟨a, b, rfl, rfl, q⟩ := h
  exact ⟨_, _, rfl, rfl, by show Q (.int (Builtin.bitOr _ _)) H; rw [bitOr_nat]; exact q⟩
def rShlU : R2 := fun x y H Q => ∃ b : Nat, x = .int 1 ∧ y = .int b ∧ b ≤ 100000 ∧ Q (.int (2 ^ b : Nat)) H
theorem o_shl1 : OpR X (binaryOp .LShift) rShlU := by
  refine OpR.imp op_oneShl fun x y H Q h => ?_
  obtain ⟨b, rfl, rfl, l, q⟩ := h
  exact ⟨b, rfl, rfl, by omega, by rw [Int.natCast_pow] at q; exact q⟩
def rShrU : R2 := fun x y H Q => ∃ a b : Nat, x = .int a ∧ y = .int b ∧ Q (.int (a / 2 ^ b : Nat)) H
theorem o_shr : OpR X (binaryOp .RShift) rShrU := by
  refine OpR.imp op_shrN fun x y H Q h => ?_
  obtain ⟨a, b, rfl, rfl, q⟩ := h
  refine ⟨_, b, rfl, rfl, ?_⟩
  have : ((a / 2 ^ b : Nat) : Int) = (a : Int) / 2 ^ b := by rw [Int.natCast_ediv, Int.natCast_pow]; rfl
  rw [← this]; exact q
end
/-! ### masks -/
def bits (n m : Nat) : List Nat := (List.range n).filter fun p => m.testBit p
def mask (l : List Nat) : Nat := l.foldl (fun m p => m ||| 2 ^ p) 0
theorem tb_or (a b p : Nat) : (a ||| b).testBit p = (a.testBit p || b.testBit p) := Nat.testBit_or a b p
theorem tb_pow (q p : Nat) : (2 ^ q).testBit p = decide (q = p) := by rw [Nat.testBit_two_pow]
theorem fold_tb : ∀ (l : List Nat) (m p : Nat), (l.foldl (fun m p => m ||| 2 ^ p) m).testBit p = (m.testBit p || decide (p ∈ l))
  | [], m, p => by simp
  | q :: l, m, p => by
    rw [List.foldl_cons, fold_tb l, tb_or, tb_pow]
    by_cases h : q = p
    · subst h; simp
    · simp [h, Ne.symm h, eq_comm]
theorem mask_tb {l : List Nat} {p : Nat} : (mask l).testBit p = decide (p ∈ l) := by rw [mask, fold_tb]; simp
theorem mask_ext {a b : Nat} (h : ∀ p, a.testBit p = b.testBit p) : a = b := Nat.eq_of_testBit_eq h
/-- all its bits are below n -/
def Low (n m : Nat) : Prop := m < 2 ^ n
theorem low_tb {n m p : Nat} (h : Low n m) (t : m.testBit p = true) : p < n := by
  refine Classical.byContradiction fun z => ?_
  have : m.testBit p = false := Nat.testBit_lt_two_pow (Nat.lt_of_lt_of_le h (Nat.pow_le_pow_right (by omega) (by omega)))
  rw [this] at t; cases t
theorem low_of {n m : Nat} (h : ∀ p, m.testBit p = true → p < n) : Low n m := by
  refine Nat.lt_pow_two_of_testBit m fun p hp => ?_
  cases e : m.testBit p
  · rfl
  · have := h p e; omega
theorem mem_bits {n m p : Nat} (h : Low n m) : p ∈ bits n m ↔ m.testBit p = true := by
  unfold bits
  rw [List.mem_filter, List.mem_range]
  exact ⟨fun z => z.2, fun z => ⟨low_tb h z, z⟩⟩
theorem mask_bits {n m : Nat} (h : Low n m) : mask (bits n m) = m := mask_ext fun p => by
  rw [mask_tb]
  cases e : m.testBit p
  · rw [decide_eq_false]; intro z; rw [(mem_bits h).mp z] at e; cases e
  · exact decide_eq_true ((mem_bits h).mpr e)
theorem bits_inj {n a b : Nat} (ha : Low n a) (hb : Low n b) (h : bits n a = bits n b) : a = b := by rw [← mask_bits ha, h, mask_bits hb]
theorem bits_asc (n m : Nat) : (bits n m).Pairwise (· < ·) := List.Pairwise.filter _ List.pairwise_lt_range
theorem bits_of_asc {n m : Nat} {l : List Nat} (h : Low n m) (asc : l.Pairwise (· < ·)) (e : ∀ p, p ∈ l ↔ m.testBit p = true) : l = bits n m := by
  have nd1 : l.Nodup := asc.imp fun h => by omega
  have nd2 : (bits n m).Nodup := (bits_asc n m).imp fun h => by omega
  have pm : l ~ bits n m := (List.perm_ext_iff_of_nodup nd1 nd2).mpr fun p => by rw [e, mem_bits h]
  exact List.Perm.eq_of_pairwise (fun a b _ _ h1 h2 => by omega) asc (bits_asc n m) pm
theorem low_or {n a b : Nat} (ha : Low n a) (hb : Low n b) : Low n (a ||| b) := Nat.or_lt_two_pow ha hb
theorem mask_app (l : List Nat) (q : Nat) : mask (l ++ [q]) = mask l ||| 2 ^ q := by unfold mask; rw [List.foldl_append]; rfl
/-- sums of unlike powers -/
theorem sum_pow : ∀ {l : List Nat}, l.Pairwise (· < ·) → (l.map fun p => ((2 ^ p : Nat) : Int)).sum = (mask l : Int) := by
  have key : ∀ (r l : List Nat), l = r.reverse → l.Pairwise (· < ·) → (l.map fun p => ((2 ^ p : Nat) : Int)).sum = (mask l : Int) := by
    intro r
    induction r with
    | nil => intro l e _; subst e; rfl
    | cons q r ih =>
      intro l e asc
      rw [List.reverse_cons] at e
      subst e
      obtain ⟨a1, _, a3⟩ := List.pairwise_append.mp asc
      rw [List.map_append, List.sum_append, ih _ rfl a1, mask_app]
      have lt : mask r.reverse < 2 ^ q := low_of fun p hp => by
        rw [mask_tb] at hp
        exact a3 p (of_decide_eq_true hp) q (by simp)
      have := Nat.two_pow_add_eq_or_of_lt lt 1
      rw [Nat.mul_one] at this
      rw [Nat.or_comm, ← this]
      simp
      omega
  intro l asc
  exact key l.reverse l (List.reverse_reverse l).symm asc
end LK

/-! comprehensions over known lists whose body changes nothing: all that was stays -/
namespace LK
open PySem PySem.Spec PyProof.Rows L2 LamX
open scoped List
section
variable {K : PySem.W.Frag} {g : TG} {te : TE} {σ : L2.St} {H H1 : Hp} {vs : List Nat} {Q : VK} {t : TE} {α : Type} {ls : List α} {enc out : α → V} {a : Addr}
/-- each item comes of one of the list -/
theorem lc_mapS (h : ∀ R : VK, R (.ref a) H1 → t σ H R) (hx : H1 a = some (.lst (ls.map enc))) (hn : ls.length < sizeLine)
    (hs : ∀ H' x, x ∈ ls → Same H1 H' → ∀ Qy : VK, (∀ H'', Same H' H'' → Qy (out x) H'') → g (enc x) (wipe σ vs) H' fun σ2 H2 => wipe σ2 vs = wipe σ vs ∧ te σ2 H2 Qy)
    (he : ∀ D H', H1 D = none → Same H1 H' → H' D = some (.lst (ls.map out)) → Q (.ref D) H') : tLc (iList K t) g tYes te vs σ H Q := by
  refine lc_list (K := K) (a := a) (xs := ls.map enc) (H1 := H1) h (.inl (.inl hx)) (fun D pre acc H' => ∃ p q : List α, ls = p ++ q ∧ pre = p.map enc ∧ acc = p.map out ∧ Same H1 H' ∧ H' D = some (.lst (p.map out)))
    (fun D pre acc H' r => ?_) (fun D nD => ⟨[], ls, rfl, rfl, rfl, same_upd nD, upd_same⟩) (fun D nD pre acc x suf H' ex r => ?_) (fun D nD acc H' r => ?_)
  · obtain ⟨_, _, _, _, _, e, _⟩ := r
    exact .inl (.inl (e _ _ hx))
  · obtain ⟨p, q, el, rfl, rfl, e, hD⟩ := r
    cases q with
    | nil =>
      rw [List.append_nil] at el
      have := congrArg List.length ex
      rw [el, List.length_append, List.length_cons] at this
      omega
    | cons y q =>
      have hy : x = enc y := by
        rw [el, List.map_append] at ex
        have := List.append_cancel_left ex
        exact (List.cons.inj this).1.symm
      subst hy
      refine hs H' y (by rw [el]; simp) e _ fun H'' e2 => ?_
      have lp : p.length < sizeLine := by
        have := congrArg List.length el
        rw [List.length_append, List.length_cons] at this
        omega
      refine ⟨p.map out, e2 _ _ hD, by rw [List.length_map]; exact lp, _, p ++ [y], q, by rw [el]; simp, by rw [List.map_append]; rfl, rfl, same_upd2 (e.trans e2) nD, by rw [upd_same, List.map_append]; rfl⟩
  · obtain ⟨p, q, el, ep, rfl, e, hD⟩ := r
    have : q = [] := by
      have h1 := congrArg List.length ep
      have h2 := congrArg List.length el
      rw [List.length_map, List.length_map] at h1
      rw [List.length_append] at h2
      exact List.eq_nil_of_length_eq_zero (by omega)
    subst this
    rw [List.append_nil] at el
    subst el
    exact he D H' nD e hD
/-- each item is a new object that comes of one of the list -/
theorem lc_refS {o : α → HO} (h : ∀ R : VK, R (.ref a) H1 → t σ H R) (hx : H1 a = some (.lst (ls.map enc))) (hn : ls.length < sizeLine)
    (hs : ∀ H' x, x ∈ ls → Same H1 H' → ∀ Qy : VK, (∀ H'' q, Same H' H'' → H' q = none → H'' q = some (o x) → Qy (.ref q) H'') → g (enc x) (wipe σ vs) H' fun σ2 H2 => wipe σ2 vs = wipe σ vs ∧ te σ2 H2 Qy)
    (he : ∀ (D : Addr) (H' : Hp) (qs : List Addr), H1 D = none → Same H1 H' → H' D = some (.lst (qs.map V.ref)) → qs.length = ls.length → (∀ (i : Nat) (q : Addr) (x : α), qs[i]? = some q → ls[i]? = some x → H1 q = none ∧ q ≠ D ∧ H' q = some (o x)) → qs.Nodup → Q (.ref D) H') : tLc (iList K t) g tYes te vs σ H Q := by
  refine lc_list (K := K) (a := a) (xs := ls.map enc) (H1 := H1) h (.inl (.inl hx)) (fun D pre acc H' => ∃ (p q : List α) (qs : List Addr), ls = p ++ q ∧ pre = p.map enc ∧ acc = qs.map V.ref ∧ qs.length = p.length ∧ Same H1 H' ∧ H' D = some (.lst (qs.map V.ref)) ∧
      (∀ (i : Nat) (q : Addr) (x : α), qs[i]? = some q → p[i]? = some x → H1 q = none ∧ q ≠ D ∧ H' q = some (o x)) ∧ qs.Nodup ∧ ∀ q ∈ qs, H' q ≠ none)
    (fun D pre acc H' r => ?_) (fun D nD => ⟨[], ls, [], rfl, rfl, rfl, rfl, same_upd nD, upd_same, (fun i q x z => (nil_none z).elim), List.Pairwise.nil, (fun q z => nomatch z)⟩) (fun D nD pre acc x suf H' ex r => ?_) (fun D nD acc H' r => ?_)
  · obtain ⟨_, _, _, _, _, _, _, e, _⟩ := r
    exact .inl (.inl (e _ _ hx))
  · obtain ⟨p, q, qs, el, rfl, rfl, lq, e, hD, hq, ndq, hne⟩ := r
    cases q with
    | nil =>
      rw [List.append_nil] at el
      have := congrArg List.length ex
      rw [el, List.length_append, List.length_cons] at this
      omega
    | cons y q =>
      have hy : x = enc y := by
        rw [el, List.map_append] at ex
        have := List.append_cancel_left ex
        exact (List.cons.inj this).1.symm
      subst hy
      refine hs H' y (by rw [el]; simp) e _ fun H'' qn e2 nq hqn => ?_
      have lp : p.length < sizeLine := by
        have := congrArg List.length el
        rw [List.length_append, List.length_cons] at this
        omega
      have nD2 : qn ≠ D := fun z => by rw [z, hD] at nq; cases nq
      refine ⟨qs.map V.ref, e2 _ _ hD, by rw [List.length_map]; omega, _, p ++ [y], q, qs ++ [qn], by rw [el]; simp, by rw [List.map_append]; rfl, rfl, by rw [List.length_append, List.length_append, lq]; rfl, same_upd2 (e.trans e2) nD, by rw [upd_same, List.map_append]; rfl, fun i q' x' hq' hx' => ?_, ?_, fun q' hq' => ?_⟩
      · rcases Nat.lt_or_ge i qs.length with hlt | hge
        · rw [List.getElem?_append_left hlt] at hq'
          rw [List.getElem?_append_left (by omega)] at hx'
          obtain ⟨a1, a2, a3⟩ := hq i q' x' hq' hx'
          exact ⟨a1, a2, by rw [upd_ne a2]; exact e2 _ _ a3⟩
        · rw [List.getElem?_append_right hge] at hq'
          rw [List.getElem?_append_right (by omega)] at hx'
          have e6 : i - qs.length = 0 := by
            have := (List.getElem?_eq_some_iff.mp hq').1
            simp at this; omega
          rw [e6] at hq'
          rw [show i - p.length = 0 by omega] at hx'
          have : qn = q' := by simpa using hq'
          subst this
          have : y = x' := by simpa using hx'
          subst this
          exact ⟨Same.free e nq, nD2, by rw [upd_ne nD2]; exact hqn⟩
      · refine List.nodup_append.mpr ⟨ndq, by simp, fun x hx y hy e => ?_⟩
        simp at hy; subst hy; subst e
        exact hne _ hx nq
      · by_cases e9 : q' = D
        · subst e9; rw [upd_same]; exact fun z => nomatch z
        · rw [upd_ne e9]
          rcases List.mem_append.mp hq' with h | h
          · intro z
            cases h2 : H' q' with
            | none => exact hne _ h h2
            | some u => rw [e2 _ _ h2] at z; cases z
          · simp at h; subst h; rw [hqn]; exact fun z => nomatch z
  · obtain ⟨p, q, qs, el, ep, rfl, lq, e, hD, hq, ndq, _⟩ := r
    have : q = [] := by
      have h1 := congrArg List.length ep
      have h2 := congrArg List.length el
      rw [List.length_map, List.length_map] at h1
      rw [List.length_append] at h2
      exact List.eq_nil_of_length_eq_zero (by omega)
    subst this
    rw [List.append_nil] at el
    subst el
    exact he D H' qs nD e hD lq hq ndq
end
end LK

/-! Marks: sets of places as numbers -/
namespace LK
open PySem PySem.Spec PyProof.Rows L2 LamX ClX
open scoped List
section
variable {K : PySem.W.Frag} {g : TG} {tt : TT} {te : TE} {σ : L2.St} {H H1 : Hp} {vs : List Nat} {Q : VK} {ta : TA} {tp : Bool}
/-- a comprehension over enumerate of a list or a tuple, with a condition -/
theorem lc_enF {a : Addr} {xs : List V} (h : ∀ R : List V → Hp → Prop, R [.ref a] H1 → ta σ H R) (hx : SqB K tp H1 a xs) (R : Addr → Nat → List V → Hp → Prop) (hP : ∀ D i acc H, R D i acc H → SqB K tp H a xs) (h0 : ∀ D, H1 D = none → R D 0 [] (upd H1 D (.lst [])))
    (hs : ∀ D, H1 D = none → ∀ (i : Nat) x p acc H, xs[i]? = some x → R D i acc H → H p = none → g (.ref p) (wipe σ vs) (upd H p (.tup [.int (i : Nat), x])) fun σ2 H2 => wipe σ2 vs = wipe σ vs ∧ tt σ2 H2 fun b H3 => if b = true then te σ2 H3 fun y H4 =>
      ∃ acc, H4 D = some (.lst acc) ∧ acc.length < sizeLine ∧ ∃ a, R D (i + 1) a (upd H4 D (.lst (acc ++ [y]))) else ∃ a, R D (i + 1) a H3)
    (he : ∀ D, H1 D = none → ∀ acc H, R D xs.length acc H → Q (.ref D) H) : tLc (iEnumB K ta) g tt te vs σ H Q := by
  refine h _ ⟨tp, xs, hx, fun D nD => ?_⟩
  refine ⟨fun i m H => m = xs.length - i ∧ i ≤ xs.length ∧ ∃ acc, R D i acc H, ⟨xs.length, rfl, Nat.zero_le _, [], h0 D nD⟩, ?_⟩
  rintro i m H ⟨rfl, hi, acc, iv⟩
  have q := hP D i acc H iv
  by_cases lt : i < xs.length
  · have hxi : xs[i]? = some xs[i] := List.getElem?_eq_getElem lt
    refine .inr ⟨?_, fun H' => ∃ acc, R D (i + 1) acc H', fun H' z => ⟨xs.length - (i + 1), by omega, rfl, lt, z⟩, ?_⟩
    · cases tp
      · exact ⟨xs, _, q, hxi⟩
      · exact ⟨xs, _, q, hxi⟩
    · intro v H' y
      have key : ∃ T x, v = .ref T ∧ H T = none ∧ H' = upd H T (.tup [.int (i : Nat), x]) ∧ xs[i]? = some x := by
        cases tp
        · obtain ⟨T, x, e1, e2, e3, e4⟩ := y; exact ⟨T, x, e1, e2, e3, e4 xs q⟩
        · obtain ⟨T, x, e1, e2, e3, e4⟩ := y; exact ⟨T, x, e1, e2, e3, e4 xs q⟩
      obtain ⟨T, x, rfl, hT, rfl, e⟩ := key
      exact hs D nD i x T acc H e iv hT
  · have e : i = xs.length := by omega
    subst e
    refine .inl ⟨?_, he D nD acc H iv⟩
    cases tp
    · exact ⟨xs, q, Nat.le_refl _⟩
    · exact ⟨xs, q, rfl⟩
theorem lc_enFM {t : TE} (h : t σ H fun v H1 => ∃ (a : Addr) (xs : List V) (tp : Bool), v = .ref a ∧ SqB K tp H1 a xs ∧ ∃ R : Addr → Nat → List V → Hp → Prop, (∀ D i acc H, R D i acc H → SqB K tp H a xs) ∧ (∀ D, H1 D = none → R D 0 [] (upd H1 D (.lst []))) ∧
    (∀ D, H1 D = none → ∀ (i : Nat) x p acc H, xs[i]? = some x → R D i acc H → H p = none → g (.ref p) (wipe σ vs) (upd H p (.tup [.int (i : Nat), x])) fun σ2 H2 => wipe σ2 vs = wipe σ vs ∧ tt σ2 H2 fun b H3 => if b = true then te σ2 H3 fun y H4 =>
      ∃ acc, H4 D = some (.lst acc) ∧ acc.length < sizeLine ∧ ∃ a, R D (i + 1) a (upd H4 D (.lst (acc ++ [y]))) else ∃ a, R D (i + 1) a H3) ∧
    (∀ D, H1 D = none → ∀ acc H, R D xs.length acc H → Q (.ref D) H)) : tLc (iEnumB K (tCons (cl t) tNil)) g tt te vs σ H Q := by
  refine ⟨_, h, fun v H1 z => ?_⟩
  obtain ⟨a, xs, tp, rfl, hx, R, hP, h0, hs, he⟩ := z
  exact lc_enF (K := K) (tp := tp) (ta := fun _ H R => R [.ref a] H) (a := a) (xs := xs) (H := H1) (H1 := H1) (fun R h => h) hx R hP h0 hs he
theorem lc_refM {α : Type} {t : TE} (h : t σ H fun v H1 => ∃ (a : Addr) (ls : List α) (enc : α → V) (o : α → HO), v = .ref a ∧ H1 a = some (.lst (ls.map enc)) ∧ ls.length < sizeLine ∧
    (∀ H' x, x ∈ ls → Same H1 H' → ∀ Qy : VK, (∀ H'' q, Same H' H'' → H' q = none → H'' q = some (o x) → Qy (.ref q) H'') → g (enc x) (wipe σ vs) H' fun σ2 H2 => wipe σ2 vs = wipe σ vs ∧ te σ2 H2 Qy) ∧
    (∀ (D : Addr) (H' : Hp) (qs : List Addr), H1 D = none → Same H1 H' → H' D = some (.lst (qs.map V.ref)) → qs.length = ls.length → (∀ (i : Nat) (q : Addr) (x : α), qs[i]? = some q → ls[i]? = some x → H1 q = none ∧ q ≠ D ∧ H' q = some (o x)) → qs.Nodup → Q (.ref D) H')) : tLc (iList K (cl t)) g tYes te vs σ H Q := by
  refine ⟨_, h, fun v H1 z => ?_⟩
  obtain ⟨a, ls, enc, o, rfl, hx, hn, hs, he⟩ := z
  exact lc_refS (K := K) (t := fun _ H R => R (.ref a) H) (a := a) (ls := ls) (enc := enc) (o := o) (H := H1) (H1 := H1) (fun R h => h) hx hn hs he
end
theorem tCons_d {ta : TE} {tr : TA} {σ : L2.St} {H : Hp} {Q : List V → Hp → Prop} : tCons ta tr σ H Q = ta σ H fun x H1 => tr σ H1 fun xs H2 => Q (x :: xs) H2 := rfl
/-- all stays but at what X names -/
def But1 (X : Addr → Prop) (H H' : Hp) : Prop := ∀ b o, ¬ X b → H b = some o → H' b = some o
section
variable {X : Addr → Prop} {H H1 H2 : Hp}
theorem But1.refl : But1 X H H := fun _ _ _ h => h
theorem But1.trans (a : But1 X H H1) (b : But1 X H1 H2) : But1 X H H2 := fun c o n h => b c o n (a c o n h)
theorem But1.of (e : Same H H1) : But1 X H H1 := fun b o _ h => e b o h
end
/-- where the set m of places leads by the column j -/
def ledM (R : Rows) (m j : Nat) : Nat := mask ((bits R.length m).map fun p => (gls R p).getD j 0)
theorem ledM_tb {R : Rows} {m j q : Nat} : (ledM R m j).testBit q = true ↔ ∃ p, p < R.length ∧ m.testBit p = true ∧ (gls R p).getD j 0 = q := by
  rw [ledM, mask_tb, decide_eq_true_iff, List.mem_map]
  constructor
  · rintro ⟨p, hp, e⟩
    have := List.mem_filter.mp hp
    exact ⟨p, List.mem_range.mp this.1, this.2, e⟩
  · rintro ⟨p, h1, h2, e⟩
    exact ⟨p, List.mem_filter.mpr ⟨List.mem_range.mpr h1, h2⟩, e⟩
theorem ledM_low {R : Rows} {m w j : Nat} (ok : RowsOk R w) (hj : j < w) : Low R.length (ledM R m j) := low_of fun q hq => by
  obtain ⟨p, h1, _, rfl⟩ := ledM_tb.mp hq
  exact gls_lt ok (p := p) (getD_mem (by rw [gls_len ok h1]; exact hj))
/-- .. by some columns -/
def ledS (R : Rows) (m : Nat) (js : List Nat) : Nat := js.foldl (fun a j => a ||| ledM R m j) 0
theorem ledS_fold {R : Rows} {m : Nat} : ∀ (js : List Nat) (a q : Nat), (js.foldl (fun a j => a ||| ledM R m j) a).testBit q = true ↔ a.testBit q = true ∨ ∃ j ∈ js, (ledM R m j).testBit q = true
  | [], a, q => by simp
  | j :: js, a, q => by
    rw [List.foldl_cons, ledS_fold js, tb_or, Bool.or_eq_true]
    constructor
    · rintro ((h | h) | ⟨i, hi, h⟩)
      · exact .inl h
      · exact .inr ⟨j, by simp, h⟩
      · exact .inr ⟨i, by simp [hi], h⟩
    · rintro (h | ⟨i, hi, h⟩)
      · exact .inl (.inl h)
      · rcases List.mem_cons.mp hi with rfl | hi
        · exact .inl (.inr h)
        · exact .inr ⟨i, hi, h⟩
theorem ledS_tb {R : Rows} {m q : Nat} {js : List Nat} : (ledS R m js).testBit q = true ↔ ∃ j ∈ js, (ledM R m j).testBit q = true := by
  rw [ledS, ledS_fold]; simp
theorem ledS_low {R : Rows} {m w : Nat} {js : List Nat} (ok : RowsOk R w) (hj : ∀ j ∈ js, j < w) : Low R.length (ledS R m js) := low_of fun q hq => by
  obtain ⟨j, h1, h2⟩ := ledS_tb.mp hq
  exact low_tb (ledM_low ok (hj j h1)) h2
/-- staying: as long as it grows -/
def stayN (R : Rows) (js : List Nat) : Nat → Nat → Nat
  | 0, m => m
  | n + 1, m => stayN R js n (m ||| ledS R m js)
def stayM (R : Rows) (m : Nat) (js : List Nat) : Nat := stayN R js (2 ^ R.length) m
theorem stayN_succ {R : Rows} {js : List Nat} : ∀ (n m : Nat), stayN R js (n + 1) m = stayN R js n m ||| ledS R (stayN R js n m) js
  | 0, m => rfl
  | n + 1, m => by rw [stayN, stayN_succ n]; rfl
theorem stayN_fix {R : Rows} {js : List Nat} {m : Nat} {t : Nat} (h : stayN R js (t + 1) m = stayN R js t m) : ∀ u, t ≤ u → stayN R js u m = stayN R js t m := by
  intro u hu
  induction u with
  | zero => obtain rfl : t = 0 := by omega
            rfl
  | succ u ih =>
    by_cases e : t = u + 1
    · rw [e]
    · have := ih (by omega)
      rw [stayN_succ, this, ← stayN_succ]
      exact h
theorem or_ge (a b : Nat) : a ≤ a ||| b := Nat.left_le_or
theorem stayN_low {R : Rows} {w : Nat} {js : List Nat} (ok : RowsOk R w) (hj : ∀ j ∈ js, j < w) : ∀ (t m : Nat), Low R.length m → Low R.length (stayN R js t m)
  | 0, m, h => h
  | t + 1, m, h => stayN_low ok hj t _ (low_or h (ledS_low ok hj))
theorem stayM_fix {R : Rows} {w m : Nat} {js : List Nat} (ok : RowsOk R w) (hj : ∀ j ∈ js, j < w) (hm : Low R.length m) : ∃ t, t < 2 ^ R.length ∧ stayN R js (t + 1) m = stayN R js t m := by
  refine Classical.byContradiction fun z => ?_
  have gr : ∀ t, t ≤ 2 ^ R.length → t ≤ stayN R js t m := by
    intro t
    induction t with
    | zero => intro _; exact Nat.zero_le _
    | succ t ih =>
      intro ht
      have h1 := ih (by omega)
      have h2 : stayN R js (t + 1) m ≠ stayN R js t m := fun e => z ⟨t, by omega, e⟩
      have h3 : stayN R js t m ≤ stayN R js (t + 1) m := by rw [stayN_succ]; exact or_ge _ _
      omega
  have h1 := gr (2 ^ R.length) (Nat.le_refl _)
  have h2 : stayN R js (2 ^ R.length) m < 2 ^ R.length := stayN_low ok hj _ m hm
  omega
theorem stayM_at {R : Rows} {w m t : Nat} {js : List Nat} (ok : RowsOk R w) (hj : ∀ j ∈ js, j < w) (hm : Low R.length m) (h : stayN R js (t + 1) m = stayN R js t m) : stayM R m js = stayN R js t m := by
  obtain ⟨u, hu, hf⟩ := stayM_fix ok hj hm
  have h1 := stayN_fix hf (2 ^ R.length) (by omega)
  unfold stayM
  rw [h1]
  rcases Nat.le_total u t with l | l
  · exact (stayN_fix hf t l).symm
  · exact stayN_fix h u l
theorem stayM_low {R : Rows} {w m : Nat} {js : List Nat} (ok : RowsOk R w) (hj : ∀ j ∈ js, j < w) (hm : Low R.length m) : Low R.length (stayM R m js) := stayN_low ok hj _ m hm
theorem stayM_step {R : Rows} {w m : Nat} {js : List Nat} (ok : RowsOk R w) (hj : ∀ j ∈ js, j < w) (hm : Low R.length m) : stayM R m js ||| ledS R (stayM R m js) js = stayM R m js := by
  obtain ⟨u, hu, hf⟩ := stayM_fix ok hj hm
  rw [stayM_at ok hj hm hf, ← stayN_succ, hf]
theorem bits_succ (i m : Nat) : bits (i + 1) m = bits i m ++ (if m.testBit i then [i] else []) := by
  unfold bits
  rw [List.range_succ, List.filter_append]
  congr 1
  cases h : m.testBit i <;> simp [h]
theorem tb_div (m i : Nat) : ((((m / 2 ^ i) &&& 1 : Nat) : Int) != 0) = m.testBit i := by
  have e : m.testBit i = (1 &&& (m >>> i) != 0) := rfl
  rw [e, Nat.shiftRight_eq_div_pow, Nat.and_comm 1]
  generalize (m / 2 ^ i) &&& 1 = z
  cases z with
  | zero => rfl
  | succ z =>
    rw [show (((z + 1 : Nat) : Int) != 0) = true by simp; omega]
    rfl
structure KnOk (n w : Nat) (ms : List (Nat × Nat)) : Prop where
  nd : ms.Nodup
  lt : ∀ e ∈ ms, e.1 < 2 ^ n ∧ e.2 < w
theorem KnOk.len {n w : Nat} {ms : List (Nat × Nat)} (h : KnOk n w ms) (h8 : n ≤ 8) (w3 : w ≤ 3) : ms.length ≤ 768 := by
  have := pairs_len h.nd h.lt
  have p : 2 ^ n ≤ 2 ^ 8 := Nat.pow_le_pow_right (by omega) h8
  have := Nat.mul_le_mul p w3
  omega
/-- the marks of a machine; k: what was told once -/
abbrev kmL (R : Rows) (ms : List (Nat × Nat)) : List (List Key × V) := ms.map fun e => (kP e, V.int (ledM R e.1 e.2 : Nat))
abbrev lastM (Kd : List Bool) : Nat := mask ((List.range Kd.length).filter fun p => kd Kd p)
abbrev mkf (Kd : List Bool) (b k : Addr) : List (Str × V) := [("_last", .int (lastM Kd : Nat)), ("_bits", .ref b), ("_known", .ref k)]
def MkAt (C : Addr) (H : Hp) (a k : Addr) (w : Nat) (R : Rows) (Kd : List Bool) : Prop := ∃ (dx b : Addr) (bs : List Addr) (ms : List (Nat × Nat)), H a = some (.ins C dx (mkf Kd b k)) ∧ H b = some (.lst (bs.map V.ref)) ∧ bs.length = R.length ∧
  (∀ i p, bs[i]? = some p → H p = some (.lst ((gls R i).map fun g => V.int (2 ^ g : Nat)))) ∧ H k = some (.dT (kmL R ms)) ∧ KnOk R.length w ms
theorem MkAt.ext {C : Addr} {H H' : Hp} {a k : Addr} {w : Nat} {R : Rows} {Kd : List Bool} (h : MkAt C H a k w R Kd) (e : Same H H') : MkAt C H' a k w R Kd := by
  obtain ⟨dx, b, bs, ms, h1, h2, h3, h4, h5, h6⟩ := h
  exact ⟨dx, b, bs, ms, e _ _ h1, e _ _ h2, h3, fun i p hp => e _ _ (h4 i p hp), e _ _ h5, h6⟩
theorem val_kmL {R : Rows} (g : Nat × Nat) : ∀ ms : List (Nat × Nat), valV (kmL R ms) (kP g) = if g ∈ ms then some (V.int (ledM R g.1 g.2 : Nat)) else none
  | [] => rfl
  | e :: ms => by
    rw [kmL, List.map_cons]
    by_cases h : e = g
    · subst h
      rw [valV_pos rfl]; simp
    · rw [valV_neg (by show ¬ kP e = kP g; rw [kP_iff]; exact h), val_kmL g ms]
      simp [Ne.symm h, eq_comm]
theorem put_kmL {R : Rows} {ms : List (Nat × Nat)} {g : Nat × Nat} (h : g ∉ ms) : putK (kmL R ms) (kP g) (V.int (ledM R g.1 g.2 : Nat)) = kmL R (ms ++ [g]) := by
  have : ¬ ((kmL R ms).any fun kv => decide (kv.1 = kP g)) = true := by
    rw [List.any_eq_true]
    rintro ⟨x, hx, e⟩
    obtain ⟨y, hy, rfl⟩ := List.mem_map.mp hx
    exact h ((kP_iff.mp (of_decide_eq_true e)) ▸ hy)
  rw [putK, if_neg this]
  show _ = (ms ++ [g]).map _
  rw [List.map_append]; rfl
/-- facts of the class -/
structure ClsK (K : PySem.W.Frag) (C : Addr) : Prop where
  cls : Cls K C
  nL : NoAttr K C "_last"
  nB : NoAttr K C "_bits"
  nN : NoAttr K C "_known"
abbrev nBits : List Str := ["places", "place"]
theorem scBits : FnScope nBits ["places"] (defScope sBits) := ⟨rfl, rfl, rfl, by decide +kernel, rfl, by decide +kernel, by decide +kernel⟩
abbrev nMkI : List Str := ["self", "machine", "row", "place", "kind", "goal"]
theorem scMkI : FnScope nMkI ["self", "machine"] (defScope sMkInit) := ⟨rfl, rfl, rfl, by decide +kernel, rfl, by decide +kernel, by decide +kernel⟩
abbrev nMkL : List Str := ["self", "places", "index", "found", "place", "goals"]
theorem scMkL : FnScope nMkL ["self", "places", "index"] (defScope sMkLed) := ⟨rfl, rfl, rfl, by decide +kernel, rfl, by decide +kernel, by decide +kernel⟩
abbrev nMkS : List Str := ["self", "places", "indices", "found", "index"]
theorem scMkS : FnScope nMkS ["self", "places", "indices"] (defScope sMkSome) := ⟨rfl, rfl, rfl, by decide +kernel, rfl, by decide +kernel, by decide +kernel⟩
abbrev nMkT : List Str := ["self", "places", "indices", "before"]
theorem scMkT : FnScope nMkT ["self", "places", "indices"] (defScope sMkStay) := ⟨rfl, rfl, rfl, by decide +kernel, rfl, by decide +kernel, by decide +kernel⟩
abbrev nMkK : List Str := ["self", "places"]
theorem scMkK : FnScope nMkK ["self", "places"] (defScope sMkTake) := ⟨rfl, rfl, rfl, by decide +kernel, rfl, by decide +kernel, by decide +kernel⟩
section
variable {P : Program} {w : World} {K : PySem.W.Frag} {mg : Str → Option Value} {base : Heap} {C CM : Addr}
def spBits : Sp := fun vs H Q _ => ∃ (l : Addr) (ps : List Nat), vs = [.ref l] ∧ H l = some (.lst (iv ps)) ∧ ps.Pairwise (· < ·) ∧ (∀ p ∈ ps, p < 1000) ∧ ∀ H', Same H H' → Q (.int (mask ps : Nat)) H'
theorem ok_bits {f : Addr} {fd : FuncData} {k : Nat} (F : Fun K "_bits" "_bits" sBits f fd) (M : Mx mg) : FnG P w K mg base CX0 (k + 1) f fd ["places"] spBits := by
  refine okG F scBits (fun vs H Q E h => ?_) (fun cdv A hA outer s H vs Q E hr h => ?_)
  · obtain ⟨l, ps, rfl, _⟩ := h; rfl
  · obtain ⟨l, ps, rfl, hl, asc, lt, q⟩ := h
    have nd := scBits.nd
    have sl := sizeLine_eq
    refine ⟨_, (pss_one (ps_ret (pe_callB (c_sum rfl) (by rfl) M.sum b_sum (pa_cons (pe_lc (own := [("place", 1)]) (g := gName 1) (tt := tYes) rfl nd (pi_listK (K := K) rfl (uv 0)) (blkOk_by (N := nBits) (sc := defScope sBits) (by decide +kernel))
          (fun _ _ _ _ _ => pg_name (i := 1) nd rfl (Or.inl rfl)) (fun _ _ _ _ _ => pts_nil)
          (fun _ _ _ _ _ => (pe_op o_shl1 pe_int (uv 1)))) pa_nil)))), ?_⟩
    have lps : ps.length ≤ 1000 := len_le_of_lt (asc.imp fun h => by omega) lt
    dsimp only [tRet, tCB, tCons]
    refine lc_mapS (K := K) (enc := fun g : Nat => V.int (g : Int)) (out := fun g => V.int ((2 ^ g : Nat) : Int)) (ls := ps) (a := l) (H1 := H) (fun R' h => h) hl (by omega) (fun H' x hx e Qy hq => ?_) (fun D H' nD e hD => ?_)
    · exact ⟨rfl, x, rfl, rfl, by have := lt x hx; omega, hq H' (Same.refl _)⟩
    · refine ⟨ps.map fun g => ((2 ^ g : Nat) : Int), .inl (.inl (by rw [hD, List.map_map]; rfl)), ?_⟩
      have := q H' e
      rw [← sum_pow asc] at this
      exact this
def spMkI (C CM : Addr) : Sp := fun vs H Q _ => ∃ (x dx a : Addr) (S : List Nat) (R : Rows) (Kd : List Bool), vs = [.ref x, .ref a] ∧ Mach C H a S R Kd ∧ ShOk S R Kd ∧ H x = some (.ins CM dx []) ∧ ∀ H' k, (∀ b o, b ≠ x → H b = some o → H' b = some o) → H k = none → MkAt CM H' x k S.length R Kd → Q .non H'
theorem ok_mkI {f : Addr} {fd : FuncData} {k : Nat} (F : Fun K "__init__" "Marks.__init__" sMkInit f fd) (M : Mx mg) (cM : ClsM K C) (kM : ClsK K CM) (HBi : Has P w K mg base k "_bits" ["places"] spBits) (HK : HasM P w K mg base k C "kinds" [] (spKinds C)) (HR : HasM P w K mg base k C "rows" [] (spRows C)) :
    FnG P w K mg base CX0 (k + 1) f fd ["self", "machine"] (spMkI C CM) := by
  refine okG F scMkI (fun vs H Q E h => ?_) (fun cdv A hA outer s H vs Q E hr h => ?_)
  · obtain ⟨x, dx, a, S, R, Kd, rfl, _⟩ := h; rfl
  · obtain ⟨x, dx, a, S, R, Kd, rfl, mm, ok, hx, q⟩ := h
    have nd := scMkI.nd
    have sl := sizeLine_eq
    refine ⟨_, (pss_cons (ps_fld (uv 0) (pe_callH HBi hA hr (by rfl) (pa_cons (pe_lc (own := [("place", 3), ("kind", 4)]) (g := gTup K 2 (gCons (gName 3) (gCons (gName 4) gNil))) rfl nd (pi_enumB (by rfl) M.enumerate (pa_cons (pe_cl (pe_mH0 HK cM.cls hA hr (uv 1))) pa_nil)) (blkOk_by (N := nMkI) (sc := defScope sMkInit) (by decide +kernel))
          (fun _ _ _ _ _ => (pg_tup rfl (pgs_cons (pg_name (i := 3) nd rfl (Or.inl rfl)) (pgs_cons (pg_name (i := 4) nd rfl (Or.inl rfl)) pgs_nil)))) (fun _ _ _ _ _ => pts_one (pt_u (uv 4)))
          (fun _ _ _ _ _ => (uv 3))) pa_nil)) (by rfl))
      (pss_cons (ps_fld (uv 0) (pe_lc (own := [("row", 2)]) (g := gName 2) (tt := tYes) rfl nd (pi_listK (K := K) rfl (pe_cl (pe_mH0 HR cM.cls hA hr (uv 1)))) (blkOk_by (N := nMkI) (sc := defScope sMkInit) (by decide +kernel))
          (fun _ _ _ _ _ => pg_name (i := 2) nd rfl (Or.inl rfl)) (fun _ _ _ _ _ => pts_nil)
          (fun _ _ _ _ _ => (pe_lc (own := [("goal", 5)]) (g := gName 5) (tt := tYes) rfl nd (pi_listK (K := K) rfl (uv 2)) (blkOk_in (N := nMkI) (sc := { kind := .function, names := [(".0", .local), ("row", .local)], isGenerator := false, isCoroutine := false }) (by decide +kernel))
          (fun _ _ _ _ _ => pg_name (i := 5) nd rfl (Or.inl rfl)) (fun _ _ _ _ _ => pts_nil)
          (fun _ _ _ _ _ => (pe_op o_shl1 pe_int (uv 5)))))) (by rfl))
      (pss_one (ps_fld (uv 0) pe_dnewT (by rfl))))), ?_⟩
    have lk := ok.kinds
    have hi := ok.hi
    dsimp only [tSeq, sFld, uCall]
    rw [tCons_d]
    refine lc_enFM ?_
    obtain ⟨dx1, r1, k1, rs1, g1, _⟩ := id mm
    refine ⟨dx1, _, g1, mf_none (by decide +kernel) (by decide +kernel) (by decide +kernel), a, S, R, Kd, rfl, mm, fun p np => ?_⟩
    have e1 : Same H (upd H p (.lst (Kd.map V.bl))) := same_upd np
    have hp : (upd H p (.lst (Kd.map V.bl))) p = some (.lst (Kd.map V.bl)) := upd_same
    generalize upd H p (.lst (Kd.map V.bl)) = H1 at e1 hp
    refine ⟨p, Kd.map V.bl, false, rfl, .inl (.inl hp), fun D i acc H2 => Same H1 H2 ∧ acc = iv ((List.range i).filter fun p => kd Kd p) ∧ H2 D = some (.lst acc) ∧ i ≤ Kd.length, (fun D i acc H2 h => .inl (.inl (h.1 _ _ hp))), (fun D nD => ⟨same_upd nD, rfl, upd_same, Nat.zero_le _⟩), (fun D nD i x T acc H2 hx h nT => ?_), fun D nD acc H2 h => ?_⟩
    · obtain ⟨e2, rfl, hD, _⟩ := h
      rw [List.getElem?_map] at hx
      obtain ⟨b, hb, rfl⟩ := Option.map_eq_some_iff.mp hx
      have li : i < Kd.length := (List.getElem?_eq_some_iff.mp hb).1
      have eb : kd Kd i = b := by rw [kd, List.getD_eq_getElem?_getD, hb]; rfl
      refine ⟨T, _, rfl, .inl (.inl upd_same), rfl, _, _, rfl, _, _, rfl, rfl, rfl, ?_⟩
      have e3 : Same H1 (upd H2 T (.tup [.int (i : Nat), .bl b])) := e2.trans (same_upd nT)
      have hD3 : (upd H2 T (.tup [.int (i : Nat), .bl b])) D = _ := same_upd nT _ _ hD
      generalize upd H2 T (.tup [.int (i : Nat), .bl b]) = H3 at e3 hD3
      have fl : (List.range (i + 1)).filter (fun p => kd Kd p) = (List.range i).filter (fun p => kd Kd p) ++ (if b = true then [i] else []) := by
        rw [List.range_succ, List.filter_append]
        congr 1
        rw [← eb]
        cases h : kd Kd i
        · rw [List.filter_cons_of_neg (by rw [h]; decide)]; rfl
        · rw [List.filter_cons_of_pos h]; rfl
      have lf := List.length_filter_le (fun p => kd Kd p) (List.range i)
      rw [List.length_range] at lf
      cases b
      · simp only [Bool.false_eq_true, if_false]
        exact ⟨_, e3, by rw [fl]; simp, hD3, li⟩
      · simp only [if_true]
        refine ⟨_, hD3, by rw [List.length_map]; omega, _, same_upd2 e3 nD, ?_, upd_same, li⟩
        rw [fl, iv_app]; rfl
    obtain ⟨e2, rfl, hD, _⟩ := h
    rw [List.length_map] at hD
    have asc : ((List.range Kd.length).filter fun p => kd Kd p).Pairwise (· < ·) := List.Pairwise.filter _ List.pairwise_lt_range
    refine ⟨D, _, rfl, hD, asc, fun p hp => ?_, fun H3 e3 => ?_⟩
    · have := List.mem_range.mp (List.mem_filter.mp hp).1
      omega
    have e13 := (e1.trans e2).trans e3
    refine ⟨x, CM, dx, [], rfl, e13 _ _ hx, kM.cls, kM.nL, by decide, ?_⟩
    have hx4 : (upd H3 x (.ins CM dx (putF "_last" (.int (lastM Kd : Nat)) []))) x = some (.ins CM dx [("_last", .int (lastM Kd : Nat))]) := upd_same
    have but4 : But1 (at1 x) H (upd H3 x (.ins CM dx (putF "_last" (.int (lastM Kd : Nat)) []))) := fun b o n hb => by rw [upd_ne n]; exact e13 _ _ hb
    have mm4 : Mach C (upd H3 x (.ins CM dx (putF "_last" (.int (lastM Kd : Nat)) []))) a S R Kd := by
      obtain ⟨da, r, k, rs, h1, h2, h3, h4, h5⟩ := mm.ext e13
      have hx3 := e13 _ _ hx
      have ne : ∀ {c : Addr} {o : HO}, H3 c = some o → o ≠ .ins CM dx [] → c ≠ x := fun {c o} hc n z => by
        rw [z, hx3] at hc
        exact n (Option.some.inj hc).symm
      exact ⟨da, r, k, rs, by rw [upd_ne (ne h1 (fun z => nomatch z))]; exact h1, by rw [upd_ne (ne h2 (fun z => nomatch z))]; exact h2, h3, fun i p hp => by rw [upd_ne (ne (h4 i p hp) (fun z => nomatch z))]; exact h4 i p hp, by rw [upd_ne (ne h5 (fun z => nomatch z))]; exact h5⟩
    have fr4 : ∀ b, (upd H3 x (.ins CM dx (putF "_last" (.int (lastM Kd : Nat)) []))) b = none → H b = none := fun b hb => Classical.byContradiction fun n => by
      by_cases e : b = x
      · subst e; rw [hx4] at hb; cases hb
      · cases h : H b with
        | none => exact n h
        | some o => rw [but4 b o e h] at hb; cases hb
    generalize upd H3 x (.ins CM dx (putF "_last" (.int (lastM Kd : Nat)) [])) = H4 at hx4 but4 mm4 fr4
    refine lc_refM (α := Addr × List Nat) ?_
    obtain ⟨da, r4, k4, rs4, i1, _⟩ := id mm4
    refine ⟨da, _, i1, mf_none (by decide +kernel) (by decide +kernel) (by decide +kernel), a, S, R, Kd, rfl, mm4, by omega, fun H5 rp ls e5 nrp hrp lls hls _ => ?_⟩
    refine ⟨rp, ls.zip R, (fun y => .ref y.1), (fun y => .lst (y.2.map fun g => V.int (2 ^ g : Nat))), rfl, ?_, ?_, fun H6 y hy e6 Qy hq => ?_, fun D2 H6 qs nD2 e6 hD2 lqs hqs _ => ?_⟩
    · rw [hrp]
      have : (ls.zip R).map (fun y => V.ref y.1) = ls.map V.ref := by
        rw [show (fun y : Addr × List Nat => V.ref y.1) = V.ref ∘ Prod.fst from rfl, ← List.map_map, List.map_fst_zip (by omega)]
      rw [this]
    · rw [List.length_zip]; omega
    · obtain ⟨i, hy⟩ := List.mem_iff_getElem?.mp hy
      rw [List.getElem?_zip_eq_some] at hy
      obtain ⟨hy1, hy2⟩ := hy
      have li : i < R.length := (List.getElem?_eq_some_iff.mp hy2).1
      have er : gls R i = y.2 := by rw [gls, List.getD_eq_getElem?_getD, hy2]; rfl
      have hrow := e6 _ _ (hls i y.1 hy1).2.2
      rw [er] at hrow
      have l3 := ok.let_.hi
      have ly : y.2.length ≤ 3 := by rw [← er, gls_len ok.rows li]; exact l3
      refine ⟨rfl, ?_⟩
      refine lc_mapS (K := K) (enc := fun g : Nat => V.int (g : Int)) (out := fun g => V.int ((2 ^ g : Nat) : Int)) (ls := y.2) (a := y.1) (H1 := H6) (by exact fun _ h => h) hrow (by omega) (fun H7 g hg e7 Qz hz => ?_) (fun D3 H7 nD3 e7 hD3 => ?_)
      · have gl : g < R.length := gls_lt ok.rows (p := i) (by rw [er]; exact hg)
        exact ⟨rfl, g, rfl, rfl, by omega, hz H7 (Same.refl _)⟩
      · exact hq H7 D3 e7 nD3 hD3
    · have e46 := e5.trans e6
      have hx6 := e46 _ _ hx4
      refine ⟨x, CM, dx, _, rfl, hx6, kM.cls, kM.nB, by show 1 < 1000; omega, ?_⟩
      have but6 : But1 (at1 x) H (upd H6 x (.ins CM dx (putF "_bits" (.ref D2) [("_last", .int (lastM Kd : Nat))]))) := fun b o n hb => by rw [upd_ne n]; exact e46 _ _ (but4 b o n hb)
      have hx7 : (upd H6 x (.ins CM dx (putF "_bits" (.ref D2) [("_last", .int (lastM Kd : Nat))]))) x = some (.ins CM dx [("_last", .int (lastM Kd : Nat)), ("_bits", .ref D2)]) := by rw [upd_same]; rfl
      have ne6 : ∀ {c : Addr} {o : HO}, H6 c = some o → (∀ fs, o ≠ .ins CM dx fs) → c ≠ x := fun {c o} hc n z => by
        rw [z, hx6] at hc
        exact n _ (Option.some.inj hc).symm
      have hD7 : (upd H6 x (.ins CM dx (putF "_bits" (.ref D2) [("_last", .int (lastM Kd : Nat))]))) D2 = some (.lst (qs.map V.ref)) := by rw [upd_ne (ne6 hD2 fun _ z => nomatch z)]; exact hD2
      have hq7 : ∀ i q, qs[i]? = some q → (upd H6 x (.ins CM dx (putF "_bits" (.ref D2) [("_last", .int (lastM Kd : Nat))]))) q = some (.lst ((gls R i).map fun g => V.int (2 ^ g : Nat))) := fun i q hqi => by
        have li : i < (ls.zip R).length := by rw [← lqs]; exact (List.getElem?_eq_some_iff.mp hqi).1
        obtain ⟨_, _, h3⟩ := hqs i q _ hqi (List.getElem?_eq_getElem li)
        rw [upd_ne (ne6 h3 fun _ z => nomatch z), h3]
        have lR : i < R.length := by rw [List.length_zip] at li; omega
        rw [List.getElem_zip, gls_at lR]
      have fr7 : ∀ b, (upd H6 x (.ins CM dx (putF "_bits" (.ref D2) [("_last", .int (lastM Kd : Nat))]))) b = none → H b = none := fun b hb => Classical.byContradiction fun n => by
        by_cases e : b = x
        · subst e; rw [hx7] at hb; cases hb
        · cases h : H b with
          | none => exact n h
          | some o => rw [but6 b o e h] at hb; cases hb
      generalize upd H6 x (.ins CM dx (putF "_bits" (.ref D2) [("_last", .int (lastM Kd : Nat))])) = H7 at but6 hx7 hD7 hq7 fr7
      intro kk nk
      have e8 : Same H7 (upd H7 kk (.dT [])) := same_upd nk
      refine ⟨x, CM, dx, _, rfl, e8 _ _ hx7, kM.cls, kM.nN, by show 2 < 1000; omega, ?_⟩
      have ne8 : ∀ {c : Addr} {o : HO}, (upd H7 kk (.dT [])) c = some o → (∀ fs, o ≠ .ins CM dx fs) → c ≠ x := fun {c o} hc n z => by
        rw [z, e8 _ _ hx7] at hc
        exact n _ (Option.some.inj hc).symm
      have lq : qs.length = R.length := by rw [lqs, List.length_zip]; omega
      refine q _ kk (fun b o n hb => by rw [upd_ne n]; exact e8 _ _ (but6 b o n hb)) (fr7 kk nk) ⟨dx, D2, qs, [], by rw [upd_same]; rfl, ?_, lq, fun i p hp => ?_, ?_, ⟨List.Pairwise.nil, fun _ z => nomatch z⟩⟩
      · have := e8 _ _ hD7
        rw [upd_ne (ne8 this fun _ z => nomatch z)]; exact this
      · have := e8 _ _ (hq7 i p hp)
        rw [upd_ne (ne8 this fun _ z => nomatch z)]; exact this
      · have : (upd H7 kk (.dT [])) kk = some (.dT []) := upd_same
        rw [upd_ne (ne8 this fun _ z => nomatch z)]; exact this
def spLedK (CM : Addr) : Sp := fun vs H Q _ => ∃ (a k : Addr) (m j w : Nat) (R : Rows) (Kd : List Bool), vs = [.ref a, .int m, .int j] ∧ MkAt CM H a k w R Kd ∧ RowsOk R w ∧ R.length ≤ 8 ∧ w ≤ 3 ∧ Low R.length m ∧ j < w ∧ ∀ H', But1 (at1 k) H H' → MkAt CM H' a k w R Kd → Q (.int (ledM R m j : Nat)) H'
theorem ok_ledK {f : Addr} {fd : FuncData} {k : Nat} (F : Fun K "led" "Marks.led" sMkLed f fd) (M : Mx mg) (kM : ClsK K CM) : FnG P w K mg base CX0 (k + 1) f fd ["self", "places", "index"] (spLedK CM) := by
  refine okG F scMkL (fun vs H Q E h => ?_) (fun cdv A hA outer s H vs Q E hr h => ?_)
  · obtain ⟨a, kk, m, j, wd, R, Kd, rfl, _⟩ := h; rfl
  · obtain ⟨a, kk, m, j, wd, R, Kd, rfl, mk, ok, h8, w3, low, hj, q⟩ := h
    have nd := scMkL.nd
    have sl := sizeLine_eq
    refine ⟨_, (pss_cons (ps_ifU (pt_cmp (pc_dnotin (Room.u1 hr) (pe_tup (pa_cons (uv 1) (pa_cons (uv 2) pa_nil))) (pe_fldU (uv 0)))) (pss_cons (ps_set (i := 3) nd rfl (.inl rfl) pe_int)
      (pss_cons (ps_for PassesOwn.never rfl (pi_enumB (by rfl) M.enumerate (pa_cons (pe_fldU (uv 0)) pa_nil)) (pg_tup rfl (pgs_cons (pg_name (i := 4) nd rfl (.inl rfl)) (pgs_cons (pg_name (i := 5) nd rfl (.inl rfl)) pgs_nil)))
        (pss_one (ps_ifU (pt_truth (pe_op o_band (pe_op o_shr (uv 1) (uv 4)) pe_int) (by intro _; rfl)) (pss_one (ps_set (i := 3) nd rfl (.inl rfl) (pe_op o_bor (uv 3) (pe_ixK (K := K) rfl (uv 5) (uv 2))))) pss_nil)))
      (pss_one (ps_dput (Room.u1 hr) (pe_fldU (uv 0)) (pe_tup (pa_cons (uv 1) (pa_cons (uv 2) pa_nil))) (uv 3) rfl)))) pss_nil)
      (pss_one (ps_ret (pe_dget (Room.u1 hr) (pe_fldU (uv 0)) (pe_tup (pa_cons (uv 1) (pa_cons (uv 2) pa_nil))) (fun _ _ => rfl))))), ?_⟩
    have fin : ∀ (G : Hp) (x3 x4 x5 : Option V) (dx b : Addr) (bs : List Addr) (ms : List (Nat × Nat)), G a = some (.ins CM dx (mkf Kd b kk)) → G b = some (.lst (bs.map V.ref)) → bs.length = R.length → (∀ i p, bs[i]? = some p → G p = some (.lst ((gls R i).map fun g => V.int (2 ^ g : Nat)))) → G kk = some (.dT (kmL R ms)) → KnOk R.length wd ms → (m, j) ∈ ms → But1 (at1 kk) H G →
        tRet (tDGet (uFld K "_known" (uVar 0)) (tTup (tCons (uVar 1) (tCons (uVar 2) tNil)))) { nx := fun _ H' => Q .non H', rt := Q } [some (.ref a), some (.int m), some (.int j), x3, x4, x5] G := fun G x3 x4 x5 dx b bs ms h1 h2 h3 h4 h5 h6 hin e => by
      refine ⟨CM, dx, _, .ref kk, h1, kM.cls, kM.nN, rfl, by show 2 ≤ sizeLine; omega, fun p np => ?_⟩
      have eP : Same G (upd G p (.tup [.int m, .int j])) := same_upd np
      have hv := DGet.t (k := kP (m, j)) (eP _ _ h5) (upd_same (H := G) (a := p) (o := .tup [V.int m, .int j]))
      rw [val_kmL, if_pos hin] at hv
      exact ⟨kk, _, rfl, hv, q _ (e.trans (.of eP)) (MkAt.ext ⟨dx, b, bs, ms, h1, h2, h3, h4, h5, h6⟩ eP)⟩
    obtain ⟨dx, b, bs, ms, h1, h2, h3, h4, h5, h6⟩ := id mk
    refine ⟨by show 2 ≤ sizeLine; omega, fun p np => ?_⟩
    have eP : Same H (upd H p (.tup [.int m, .int j])) := same_upd np
    have hv := DGet.t (k := kP (m, j)) (eP _ _ h5) (upd_same (H := H) (a := p) (o := .tup [V.int m, .int j]))
    rw [val_kmL] at hv
    have g1 := eP _ _ h1
    have g2 := eP _ _ h2
    have g4 := fun i p hp => eP _ _ (h4 i p hp)
    have g5 := eP _ _ h5
    generalize upd H p (.tup [.int m, .int j]) = G at eP hv g1 g2 g4 g5
    refine ⟨CM, dx, _, .ref kk, g1, kM.cls, kM.nN, rfl, kk, _, rfl, hv, _, rfl, ?_⟩
    by_cases hin : (m, j) ∈ ms
    · rw [if_pos hin]
      exact .no (fin G none none none dx b bs ms g1 g2 h3 g4 g5 h6 hin (.of eP))
    rw [if_neg hin]
    refine .yes ?_
    dsimp only [tSeq, tAsg, gName]
    refine for_enB (K := K) (tp := false) (a := b) (xs := bs.map V.ref) (H1 := G) (fun R' h => ⟨CM, dx, _, .ref b, g1, kM.cls, kM.nB, rfl, h⟩) (.inl (.inl g2)) (fun i σ H2 => ∃ y4 y5 : Option V, Same G H2 ∧ i ≤ R.length ∧
        σ = [some (.ref a), some (.int m), some (.int j), some (.int (mask ((bits i m).map fun p => (gls R p).getD j 0) : Nat)), y4, y5])
      (fun i σ H2 h => by obtain ⟨_, _, e, _⟩ := h; exact .inl (.inl (e _ _ g2))) ⟨none, none, Same.refl _, Nat.zero_le _, rfl⟩ (fun i x T σ H2 hx h nT => ?_) (fun σ H2 h => ?_)
    · obtain ⟨y4, y5, e2, _, rfl⟩ := h
      rw [List.getElem?_map] at hx
      obtain ⟨pr, hpr, rfl⟩ := Option.map_eq_some_iff.mp hx
      have li : i < R.length := by rw [← h3]; exact (List.getElem?_eq_some_iff.mp hpr).1
      refine ⟨T, _, rfl, .inl (.inl upd_same), rfl, _, _, rfl, _, _, rfl, rfl, ?_⟩
      have e3 : Same G (upd H2 T (.tup [.int (i : Nat), .ref pr])) := e2.trans (same_upd nT)
      have hrow := e3 _ _ (g4 i pr hpr)
      generalize upd H2 T (.tup [.int (i : Nat), .ref pr]) = H3 at e3 hrow
      refine ⟨m, i, rfl, rfl, m / 2 ^ i, 1, rfl, rfl, m.testBit i, (tb_div m i).symm, ?_⟩
      have hb := bits_succ i m
      cases ht : m.testBit i
      · rw [ht] at hb
        refine .no ⟨some (.int (i : Nat)), some (.ref pr), e3, li, ?_⟩
        rw [hb]; simp
      · rw [ht] at hb
        refine .yes ?_
        have lj : j < (gls R i).length := by rw [gls_len ok li]; exact hj
        refine ⟨_, V.int (2 ^ ((gls R i).getD j 0) : Nat), .inl (.inl (.inl hrow)), atI_nat (by rw [List.getElem?_map, getD_some lj]; rfl), _, _, rfl, rfl, some (.int (i : Nat)), some (.ref pr), e3, li, ?_⟩
        rw [hb]
        simp only [if_true, List.map_append, List.map_cons, List.map_nil]
        rw [mask_app]; rfl
    · obtain ⟨y4, y5, e2, _, rfl⟩ := h
      rw [List.length_map, h3]
      refine ⟨CM, dx, _, .ref kk, e2 _ _ g1, kM.cls, kM.nN, rfl, by show 2 ≤ sizeLine; omega, fun p2 np2 => ?_⟩
      have e3 : Same G (upd H2 p2 (.tup [.int m, .int j])) := e2.trans (same_upd np2)
      have hp2 : (upd H2 p2 (.tup [.int m, .int j])) p2 = some (.tup [.int m, .int j]) := upd_same
      generalize upd H2 p2 (.tup [.int m, .int j]) = H3 at e3 hp2
      have k5 := e3 _ _ g5
      have lms := h6.len h8 w3
      refine ⟨kk, _, rfl, DPut.t (k := kP (m, j)) k5 hp2 (by rw [List.length_map]; omega), ?_⟩
      have pk : putK (kmL R ms) (kP (m, j)) (V.int (ledM R m j : Nat)) = kmL R (ms ++ [(m, j)]) := put_kmL hin
      have ne : ∀ {c : Addr} {o : HO}, H3 c = some o → (∀ l, o ≠ .dT l) → c ≠ kk := fun {c o} hc n z => by
        rw [z, k5] at hc
        exact n _ (Option.some.inj hc).symm
      have kn : KnOk R.length wd (ms ++ [(m, j)]) := ⟨List.nodup_append.mpr ⟨h6.nd, by simp, fun x hx y hy z => hin (by simp at hy; subst hy; exact z ▸ hx)⟩, fun e he => (List.mem_append.mp he).elim (h6.lt e) fun z => by simp at z; subst z; exact ⟨low, hj⟩⟩
      have but : But1 (at1 kk) H (upd H3 kk (.dT (kmL R (ms ++ [(m, j)])))) := fun c o n hc => by
        rw [upd_ne n]; exact e3 _ _ (eP _ _ hc)
      have z := fin (upd H3 kk (.dT (kmL R (ms ++ [(m, j)])))) (some (.int (ledM R m j : Nat))) y4 y5 dx b bs (ms ++ [(m, j)]) ?_ ?_ h3 (fun i p hp => ?_) upd_same kn (by simp) but
      · rw [← pk] at z; exact z
      · have := e3 _ _ g1
        rw [upd_ne (ne this fun _ z => nomatch z)]; exact this
      · have := e3 _ _ g2
        rw [upd_ne (ne this fun _ z => nomatch z)]; exact this
      · have := e3 _ _ (g4 i p hp)
        rw [upd_ne (ne this fun _ z => nomatch z)]; exact this
def spSomeK (CM : Addr) : Sp := fun vs H Q _ => ∃ (a k l : Addr) (m w : Nat) (R : Rows) (Kd : List Bool) (js : List Nat), vs = [.ref a, .int m, .ref l] ∧ MkAt CM H a k w R Kd ∧ RowsOk R w ∧ R.length ≤ 8 ∧ w ≤ 3 ∧ Low R.length m ∧ (∀ j ∈ js, j < w) ∧ H l = some (.lst (iv js)) ∧ js.length ≤ 3 ∧ ∀ H', But1 (at1 k) H H' → MkAt CM H' a k w R Kd → Q (.int (ledS R m js : Nat)) H'
theorem ok_someK {f : Addr} {fd : FuncData} {k : Nat} (F : Fun K "led_by_some" "Marks.led_by_some" sMkSome f fd) (M : Mx mg) (kM : ClsK K CM) (HL : HasM P w K mg base k CM "led" ["places", "index"] (spLedK CM)) : FnG P w K mg base CX0 (k + 1) f fd ["self", "places", "indices"] (spSomeK CM) := by
  refine okG F scMkS (fun vs H Q E h => ?_) (fun cdv A hA outer s H vs Q E hr h => ?_)
  · obtain ⟨a, kk, l, m, wd, R, Kd, js, rfl, _⟩ := h; rfl
  · obtain ⟨a, kk, l, m, wd, R, Kd, js, rfl, mk, ok, h8, w3, low, hj, hl, lj, q⟩ := h
    have nd := scMkS.nd
    have sl := sizeLine_eq
    refine ⟨_, (pss_cons (ps_set (i := 3) nd rfl (.inl rfl) pe_int)
      (pss_cons (ps_for PassesOwn.never rfl (pi_listK (K := K) rfl (uv 2)) (pg_name (i := 4) nd rfl (.inl rfl))
        (pss_one (ps_set (i := 3) nd rfl (.inl rfl) (pe_op o_bor (uv 3) (pe_mH HL kM.cls hA hr (uv 0) (pa_cons (uv 1) (pa_cons (uv 4) pa_nil)))))))
      (pss_one (ps_ret (uv 3))))), ?_⟩
    dsimp only [tSeq, tAsg, gName]
    refine for_list (K := K) (a := l) (xs := iv js) (H1 := H) (by exact fun _ h => h) (.inl (.inl hl)) (fun pre σ H2 => ∃ (us : List Nat) (y4 : Option V), pre = iv us ∧ But1 (at1 kk) H H2 ∧ MkAt CM H2 a kk wd R Kd ∧ H2 l = some (.lst (iv js)) ∧
        σ = [some (.ref a), some (.int m), some (.ref l), some (.int (ledS R m us : Nat)), y4])
      (fun pre σ H2 h => by obtain ⟨_, _, _, _, _, h, _⟩ := h; exact .inl (.inl h)) ⟨[], none, rfl, .refl, mk, hl, rfl⟩ (fun pre x suf σ H2 ex h => ?_) (fun σ H2 h => ?_)
    · obtain ⟨us, y4, rfl, e2, mk2, hl2, rfl⟩ := h
      obtain ⟨p0, j, q0, ej, ep, rfl⟩ := split_iv ex
      obtain rfl := iv_inj ep
      have hjm : j ∈ js := by rw [ej]; simp
      obtain ⟨dx, b, bs, ms, h1, _⟩ := id mk2
      refine ⟨dx, _, h1, by show List.lookup _ [_, _, _] = none; rfl, a, kk, m, j, wd, R, Kd, rfl, mk2, ok, h8, w3, low, hj j hjm, fun H3 e3 mk3 => ?_⟩
      have lk : l ≠ kk := fun z => by
        obtain ⟨_, _, _, _, _, _, _, _, h5, _⟩ := mk2
        rw [z, h5] at hl2; cases hl2
      refine ⟨_, _, rfl, rfl, us ++ [j], some (.int (j : Nat)), by rw [iv_app]; rfl, e2.trans e3, mk3, e3 _ _ lk hl2, ?_⟩
      have : ledS R m (us ++ [j]) = ledS R m us ||| ledM R m j := by rw [ledS, List.foldl_append]; rfl
      rw [this]; rfl
    · obtain ⟨us, y4, ep, e2, mk2, hl2, rfl⟩ := h
      obtain rfl := iv_inj ep
      exact q H2 e2 mk2
def spStayK (CM : Addr) : Sp := fun vs H Q _ => ∃ (a k l : Addr) (m w : Nat) (R : Rows) (Kd : List Bool) (js : List Nat), vs = [.ref a, .int m, .ref l] ∧ MkAt CM H a k w R Kd ∧ RowsOk R w ∧ R.length ≤ 8 ∧ w ≤ 3 ∧ Low R.length m ∧ (∀ j ∈ js, j < w) ∧ H l = some (.lst (iv js)) ∧ js.length ≤ 3 ∧ ∀ H', But1 (at1 k) H H' → MkAt CM H' a k w R Kd → Q (.int (stayM R m js : Nat)) H'
theorem ok_stayK {f : Addr} {fd : FuncData} {k : Nat} (F : Fun K "stayed" "Marks.stayed" sMkStay f fd) (M : Mx mg) (kM : ClsK K CM) (HS : HasM P w K mg base k CM "led_by_some" ["places", "indices"] (spSomeK CM)) : FnG P w K mg base CX0 (k + 1) f fd ["self", "places", "indices"] (spStayK CM) := by
  refine okG F scMkT (fun vs H Q E h => ?_) (fun cdv A hA outer s H vs Q E hr h => ?_)
  · obtain ⟨a, kk, l, m, wd, R, Kd, js, rfl, _⟩ := h; rfl
  · obtain ⟨a, kk, l, m, wd, R, Kd, js, rfl, mk, ok, h8, w3, low, hj, hl, lj, q⟩ := h
    have nd := scMkT.nd
    have sl := sizeLine_eq
    refine ⟨_, (pss_cons (ps_set (i := 3) nd rfl (.inl rfl) pe_int)
      (pss_cons (ps_while PassesOwn.never (pt_cl (pt_cu (r := eqU K true) (o_ne hr.units) (uv 3) (uv 1)))
        (pss_cons (ps_set (i := 3) nd rfl (.inl rfl) (uv 1))
      (pss_one (ps_set (i := 1) nd rfl (.inl rfl) (pe_op o_bor (uv 1) (pe_mH HS kM.cls hA hr (uv 0) (pa_cons (uv 1) (pa_cons (uv 2) pa_nil))))))))
      (pss_one (ps_ret (uv 1))))), ?_⟩
    refine wh (fun t σ H2 => ∃ (u : Nat) (bf : Nat), t + u = 2 ^ R.length + 1 ∧ But1 (at1 kk) H H2 ∧ MkAt CM H2 a kk wd R Kd ∧ H2 l = some (.lst (iv js)) ∧ σ = [some (.ref a), some (.int (stayN R js u m : Nat)), some (.ref l), some (.int bf)] ∧ (u = 0 ∧ bf = 0 ∨ ∃ v, u = v + 1 ∧ bf = stayN R js v m ∧ ∀ y, y < v → stayN R js (y + 1) m ≠ stayN R js y m))
      (m0 := 2 ^ R.length + 1) ⟨0, 0, by omega, .refl, mk, hl, rfl, .inl ⟨rfl, rfl⟩⟩ (fun t σ H2 h => ?_) (fun σ H Q Q' mono h => by obtain ⟨Q0, h0, m0⟩ := h; exact ⟨Q0, h0, fun v H' z => mono _ _ (m0 _ _ z)⟩)
    obtain ⟨u, bf, et, e2, mk2, hl2, rfl, alt⟩ := h
    refine ⟨fun b' H' => b' = !decide ((bf : Int) = (stayN R js u m : Nat)) ∧ H' = H2, ⟨rfl, rfl⟩, ?_⟩
    rintro b' H' ⟨rfl, rfl⟩
    by_cases hb : bf = stayN R js u m
    · rw [decide_eq_true (by rw [hb])]
      rw [show (!true) = false from rfl, if_neg Bool.false_ne_true]
      have e : stayM R m js = stayN R js u m := by
        rcases alt with ⟨rfl, rfl⟩ | ⟨v, rfl, rfl, _⟩
        · have m0 : m = 0 := hb.symm
          subst m0
          refine stayM_at ok hj low ?_
          rw [stayN_succ]
          show 0 ||| ledS R 0 js = 0
          refine mask_ext fun p => ?_
          rw [Nat.zero_or, Nat.zero_testBit]
          refine Bool.eq_false_iff.mpr fun z => ?_
          obtain ⟨j, _, h⟩ := ledS_tb.mp z
          obtain ⟨p, _, h, _⟩ := ledM_tb.mp h
          rw [Nat.zero_testBit] at h; cases h
        · rw [stayM_at ok hj low hb.symm, hb]
      have := q H' e2 mk2
      rw [e] at this
      exact this
    · rw [decide_eq_false (by omega)]
      rw [show (!false) = true from rfl, if_pos rfl]
      have lu : u < 2 ^ R.length + 1 := by
        refine Classical.byContradiction fun z => ?_
        obtain ⟨t0, ht0, hf⟩ := stayM_fix ok hj low
        rcases alt with ⟨rfl, _⟩ | ⟨v, rfl, rfl, hv⟩
        · omega
        · exact hb (stayN_fix hf v (by omega) |>.trans (stayN_fix hf (v + 1) (by omega)).symm)
      obtain ⟨dx, b, bs, ms, h1, _⟩ := id mk2
      refine ⟨dx, _, h1, by show List.lookup _ [_, _, _] = none; rfl, a, kk, l, stayN R js u m, wd, R, Kd, js, rfl, mk2, ok, h8, w3, stayN_low ok hj u m low, hj, hl2, lj, fun H3 e3 mk3 => ?_⟩
      have lk : l ≠ kk := fun z => by
        obtain ⟨_, _, _, _, _, _, _, _, h5, _⟩ := mk2
        rw [z, h5] at hl2; cases hl2
      refine ⟨_, _, rfl, rfl, t - 1, by omega, u + 1, stayN R js u m, by omega, e2.trans e3, mk3, e3 _ _ lk hl2, ?_, .inr ⟨u, rfl, rfl, fun y hy e => ?_⟩⟩
      · rw [stayN_succ]; rfl
      · rcases alt with ⟨rfl, _⟩ | ⟨v, rfl, rfl, hv⟩
        · omega
        · exact hb ((stayN_fix e v (by omega)).trans (stayN_fix e (v + 1) (by omega)).symm)
def spTakeK (CM : Addr) : Sp := fun vs H Q _ => ∃ (a k : Addr) (m w : Nat) (R : Rows) (Kd : List Bool), vs = [.ref a, .int m] ∧ MkAt CM H a k w R Kd ∧ Q (.bl (decide (m &&& lastM Kd ≠ 0))) H
theorem ok_takeK {f : Addr} {fd : FuncData} {k : Nat} (F : Fun K "some_take" "Marks.some_take" sMkTake f fd) (M : Mx mg) (kM : ClsK K CM) : FnG P w K mg base CX0 (k + 1) f fd ["self", "places"] (spTakeK CM) := by
  refine okG F scMkK (fun vs H Q E h => ?_) (fun cdv A hA outer s H vs Q E hr h => ?_)
  · obtain ⟨a, kk, m, wd, R, Kd, rfl, _⟩ := h; rfl
  · obtain ⟨a, kk, m, wd, R, Kd, rfl, mk, q⟩ := h
    have nd := scMkK.nd
    have sl := sizeLine_eq
    refine ⟨_, (pss_one (ps_ret (pe_cu (r := eqU K true) (o_ne hr.units) (pe_op o_band (uv 1) (pe_fldU (uv 0))) pe_int))), ?_⟩
    obtain ⟨dx, b, bs, ms, h1, _⟩ := id mk
    refine ⟨CM, dx, _, .int (lastM Kd : Nat), h1, kM.cls, kM.nL, rfl, m, lastM Kd, rfl, rfl, ?_⟩
    show Q (.bl (!decide (((m &&& lastM Kd : Nat) : Int) = 0))) H
    have : (!decide (((m &&& lastM Kd : Nat) : Int) = 0)) = decide (m &&& lastM Kd ≠ 0) := by
      by_cases h : m &&& lastM Kd = 0
      · rw [h]; rfl
      · rw [decide_eq_true h, decide_eq_false (by omega)]; rfl
    rw [this]; exact q
end
end LK

/-! a nested def that is handed to a def of the module and called there, under guards -/
namespace LK
open PySem PySem.Spec PyProof.Rows L2 LamX ClX NdefX
open scoped List
/-- the promise of the function F at f where no repr is under way -/
structure NOkG (P : Program) (w : World) (K : PySem.W.Frag) (mg : Str → Option Value) (base : Heap) (CX : CXT) (k : Nat) (f : Addr) (F : NF) (ps fr : List Str) (sp : List (Option V) → Sp) : Prop where
  len : ∀ held vals H Q E, sp held vals H Q E → vals.length = ps.length
  run : ∀ (A : Around), A.guards = some [] → ∀ (outer : List Env) (now : Shared) (H : Hp) (args : List Value) (vals : List V) (held : List (Option V)) (Q : VK) (E : XK), Room k A → Env0 P w K mg base A outer now H → H f = some (FnO f F) → H F.c = some (CodeO F.c F.qual) →
    CellsAt F.cl fr held now.heap H → Vals vals args → sp held vals H Q E → codeAny (model P w) A (.call (.ref f) ⟨args, []⟩) (CR CX outer P w H now Q E) now
section
variable {X : Cx} {pins : List (Addr × Obj)} {σ : L2.St} {H : Hp} {s : Shared} {cl : List (Str × Addr)} {fr : List Str} {ws : List (Option V)}
/-- cells stay what they were at the entry, the callers' frames among them or not -/
theorem cells_later (C : CellsAt cl fr ws X.s_0.heap X.H_0) (hx : ∀ y c, cl.lookup y = some c → c ∉ X.ex) (I : Inv X pins σ H s) : CellsAt cl fr ws s.heap H := by
  have kp : ∀ y c, cl.lookup y = some c → ∀ v, X.s_0.heap.IsCell c v → s.heap.IsCell c v := fun y c e v ⟨o, ho, hd⟩ => by
    by_cases nf : c ∈ X.fs
    · obtain ⟨sl, z⟩ := I.base.slot c o ho (C.all y c e).1 nf (hx y c e)
      exact ⟨_, z, hd⟩
    · exact ⟨o, I.base.keep c o ho (C.all y c e).1 nf (hx y c e), hd⟩
  exact
    { len := C.len
      inj := C.inj
      all := fun y c e => by
        obtain ⟨fresh, v, z⟩ := C.all y c e
        obtain ⟨o, ho, _⟩ := id z
        exact ⟨I.base.free c o ho fresh (hx y c e), v, kp y c e v z⟩
      has := fun i y e => by
        obtain ⟨c, look, told⟩ := C.has i y e
        exact ⟨c, look, fun v ev => (told v ev).elim fun u z => ⟨u, z.1, kp y c look _ z.2⟩⟩ }
end
section
variable {X : Cx} {mk : Addr → NF} {cl : List (Str × Addr)} {pp fr : List Str} {js : List Nat} {x y : Str} {g : Addr} {i j k kf : Nat} {pg : Arguments} {bg : List Stmt} {sg : Scope} {dV kV doc pm cdv ct oc : Value} {an od : Option Addr} {osl : Array (Option Value)} {Ng ps : List Str}
  {sp : Addr → Addr → List (Option V) → Sp} {t : TA} {e : Expr} {es : List Expr} {p pos : Pos} {TT : (Hp → Prop) → (List V → Hp → VK → Prop) → Addr → List V → Hp → VK → Prop}
/-- the def that got the function as its parameter y (the i-th name): hc is its call of it -/
def GivesF (X : Cx) (k : Nat) (Ng : List Str) (x : Str) (sg : Scope) (g : Addr) (cdg : Value) (bg : List Stmt) (y : Str) (i : Nat) (TT : (Hp → Prop) → (List V → Hp → VK → Prop) → Addr → List V → Hp → VK → Prop) : Prop :=
  ∀ (fa : Addr) (pf : Hp → Prop) (spf : List V → Hp → VK → Prop) (s : Shared) (H : Hp) (vs : List V) (Q : VK), Room k (X.A.deeper (envOfC x sg s.heap.objs.size g cdg)) →
    (∀ (z : Str) (p0 q1 q2 : Pos) (te : TE), PE (cxOf C8.CX0 X.prog X.w X.K X.mg X.base Ng x sg g cdg X.A X.stack s H C8.E0).nox (.Name z p0) te →
      PE (cxOf C8.CX0 X.prog X.w X.K X.mg X.base Ng x sg g cdg X.A X.stack s H C8.E0).nox (.Call (.Name y q1) [.Name z p0] [] q2) (fun σ H1 R => σ[i]? = some (some (.ref fa)) ∧ pf H1 ∧ te σ H1 fun v H2 => pf H2 ∧ spf [v] H2 R)) →
    TT pf spf fa vs H Q → ∃ t, PSs (cxOf C8.CX0 X.prog X.w X.K X.mg X.base Ng x sg g cdg X.A X.stack s H C8.E0).nox bg t ∧ t { nx := fun _ J => Q .non J, rt := Q } (L2.start Ng vs) H
theorem pe_callF (hA : X.A.guards = some []) (hg : Gl X x) (hm : X.mg x = some (.ref g)) (hk : PySem.W.keepIn X.K (.ref g) = true) (lk : X.K.lookup g = some ⟨oc, od, .func (PySem.W.fnOf x x pg bg sg dV kV doc pm an cdv ct), osl⟩) (hcg : PySem.W.codeIn X.K cdv x = true)
    (hb : L2.Binds X.K (PySem.W.fnOf x x pg bg sg dV kV doc pm an cdv ct) ps []) (Sg : FnScope Ng ps sg) (hNg : Ng[i]? = some y) (hvy : Vis sg y) (hG : GivesF X k Ng x sg g cdv bg y i TT) (hr : Room (k + 1) X.A) (hkf : kf ≤ k)
    (Fn : ∀ f c', NOkG X.prog X.w X.K X.mg X.base C8.CX0 kf f (mk c') pp fr (sp f c')) (hcl : ∀ c', (mk c').cl = cl) (cp : X.Ok → Caps X cl fr js) (ha : PA X (e :: es) t)
    (hd : (y == ("__debug__" : Str)) = false := by decide) (hcd : (y == ("__classdict__" : Str)) = false := by decide) (hdb : (x == ("__debug__" : Str)) = false := by decide)
    (he : starEach (e :: es) X.env = (false, eval e X.env) :: starEach es X.env := by rfl) (hpl : (backTo pos (starEach es X.env)).any (·.1) = false := by rfl) :
    PE X (.Call (.Name x p) (e :: es) [] pos) (fun σ H Q => t σ H fun vs H1 => vs.length = ps.length ∧ ∃ f c', TT (fun H2 => H2 f = some (FnO f (mk c')) ∧ H2 (mk c').c = some (CodeO (mk c').c (mk c').qual)) (fun us H2 R => sp f c' (js.map (slotAt σ)) us H2 R C8.E0) f vs H1 Q) := by
  refine ⟨fun pins s σ H Q I h => ?_⟩
  refine wpAny_Call_Name_kw (ld_glob I hg hm (PySem.W.callWith_K (h₀ := X.base) I.ok.mod.kin hk (thn (ha.run pos pins s σ H _ I h) ?_) he hpl) hdb)
  rintro us s1 ⟨vs, H1, I1, r1, lv, f, c', hT⟩
  have C := cells_of I1 (cp I1.ok)
  refine ⟨I1.kIn, wpAny_call (codeAny_mono (run_ofS (CX := C8.CX0) (E := C8.E0) (Q := Q) (N := Ng) (ps := ps) (us := us) (vs := vs) (args := ⟨us, []⟩) lk hcg Sg hr I1.env0 ?_ r1 lv fun hr' => ?_) fun r s2 z => ?_)⟩
  · have b := hb s1 us I1.kIn (by rw [List.append_nil, ← r1.length]; exact lv)
    rw [List.append_nil] at b
    exact b
  · obtain ⟨t9, d9, q9⟩ := hG f (fun H2 => H2 f = some (FnO f (mk c')) ∧ H2 (mk c').c = some (CodeO (mk c').c (mk c').qual)) (fun us H2 R => sp f c' (js.map (slotAt σ)) us H2 R C8.E0) s1 H1 vs Q hr' (by
      intro z p0 q1 q2 te hte
      refine ⟨fun pinsZ sZ σZ HZ QZ IZ h9 => ?_⟩
      obtain ⟨hs, ⟨hf, hco⟩, ht⟩ := h9
      refine wpAny_Call_Name_kw (thn ((pe_var (pos := q1) hNg hvy hd hcd).run pinsZ sZ σZ HZ (fun v H9 => v = .ref f ∧ H9 = HZ) IZ ⟨.ref f, hs, rfl, rfl⟩) fun u s9 ⟨v, H9, I9, rv, e1, e2⟩ => ?_)
      subst e1
      rw [e2] at I9
      obtain rfl : u = Value.ref f := rv
      refine PySem.W.callWith_F (first := []) (fnAt_of I9 hf) (thn ((pa_cons hte pa_nil).run q2 pinsZ s9 σZ HZ (fun vs H2 => (H2 f = some (FnO f (mk c')) ∧ H2 (mk c').c = some (CodeO (mk c').c (mk c').qual)) ∧ sp f c' (js.map (slotAt σ)) vs H2 QZ C8.E0) I9 ht) fun ws s8 ⟨zs, H8, I8, r8, ⟨h1, h2⟩, q8⟩ => ⟨fnAt_of I8 h1, ?_⟩) rfl rfl
      show wpAny _ _ (call (.ref f) ws) _ _ _
      have C8' : CellsAt cl fr (js.map (slotAt σ)) s8.heap H8 := cells_later (X := (cxOf C8.CX0 X.prog X.w X.K X.mg X.base Ng x sg g cdv X.A X.stack s1 H1 C8.E0).nox) C (fun y c hy hb => nomatch hb) I8
      refine wpAny_call (codeAny_mono ((Fn f c').run (X.A.deeper (envOfC x sg s1.heap.objs.size g cdv)) hA _ s8 H8 ws zs _ _ C8.E0 (hr'.mono hkf) I8.env0 h1 h2 (by rw [hcl c']; exact C8') r8 q8) fun r9 s7 h7 => ?_)
      cases r9 with
      | error er => exact h7.elim
      | ok fl =>
        cases fl with
        | ret u => exact I8.after h7
        | next => exact False.elim h7
        | brk => exact False.elim h7
        | cont => exact False.elim h7) hT
    exact ⟨t9, d9.nox, q9⟩
  · match r, z with
    | .error _, z => exact z.elim
    | .ok (.ret u), z => exact I1.after z
    | .ok .next, z => exact z.elim
    | .ok .brk, z => exact z.elim
    | .ok .cont, z => exact z.elim
end
end LK

/-! met_from -/
namespace LK
open PySem PySem.Spec PyProof.Rows L2 LamX ClX NdefX
open scoped List
/-- what met_from asks of the function that it gets (kk: the one thing that its calls change) and what it tells -/
def TTmet (pf : Hp → Prop) (spf : List V → Hp → VK → Prop) (fa : Addr) (vs : List V) (H : Hp) (Q : VK) : Prop := ∃ (s0 m : Nat) (kk : Addr) (RR : Rows) (I : Hp → Prop), vs = [.int s0, .ref fa, .non] ∧ RowsOk RR m ∧ s0 < RR.length ∧ RR.length ≤ 1000 ∧ m ≤ 3 ∧ I H ∧ (∀ H', I H' → H' kk ≠ none) ∧
  (∀ H', I H' → pf H') ∧ (∀ H' H'', I H' → (∀ b o, H b ≠ none → H' b = some o → H'' b = some o) → I H'') ∧
  (∀ (x : Nat) H' R, x < RR.length → I H' → (∀ H'' p, But1 (at1 kk) H' H'' → I H'' → H' p = none → H'' p = some (.lst (iv (gls RR x))) → R (.ref p) H'') → spf [.int x] H' R) ∧
  ∀ H' t A B, But1 (at1 kk) H H' → I H' → H t = none → H' t = some (.tup [.ref A, .ref B]) → H A = none → H' A = some (.lst (iv (met RR s0))) → H B = none → RowsL H' B (rn RR (met RR s0)) → Q (.ref t) H'
abbrev nMG : List Str := ["start", "goals_of", "most", "numbers", "rows", "waiting", "longer", "state", "goals", "goal"]
theorem scMG : FnScope nMG ["start", "goals_of", "most"] (defScope sMetG) := ⟨rfl, rfl, rfl, by decide +kernel, rfl, by decide +kernel, by decide +kernel⟩
theorem idx_pre {l l' : List Nat} {g : Nat} (h : l <+: l') (hg : g ∈ l) : l'.idxOf g = l.idxOf g := by
  obtain ⟨t, rfl⟩ := h
  rw [List.idxOf_append, if_pos hg]
/-- the row of the t-th state -/
abbrev rowN (RR : Rows) (s0 t : Nat) : List Nat := (gls RR ((met RR s0).getD t 0)).map fun g => (met RR s0).idxOf g
theorem gives_met {X : Cx} {g : Addr} {cdv : Value} {k : Nat} (M : Mx X.mg) : GivesF X k nMG "met_from" (defScope sMetG) g cdv (defBody sMetG) "goals_of" 1 TTmet := by
  intro fa pf spf s H vs Q hr hc hT
  obtain ⟨s0, m, kk, RR, I, rfl, ok, hs, hn, hm3, hI, hk, hpf, hst, hcall, q⟩ := hT
  have nd := scMG.nd
  have sl := sizeLine_eq
  refine ⟨_, (pss_cons (ps_set (i := 3) nd rfl (.inr rfl) (pe_disp (pps_cons (uv 0) pe_int pps_nil) (by rfl) (by rfl) (fun z => by cases z) (by decide)))
      (pss_cons (ps_set (i := 4) nd rfl (.inl rfl) (pe_lst pa_nil))
      (pss_cons (ps_set (i := 5) nd rfl (.inl rfl) (pe_lst (pa_cons (uv 0) pa_nil)))
      (pss_cons (ps_while PassesOwn.never (pt_truth (uv 5) (by intro _; rfl))
        (pss_cons (ps_set (i := 6) nd rfl (.inl rfl) (pe_lst pa_nil))
      (pss_cons (ps_for PassesOwn.never rfl (pi_listK (K := X.K) rfl (uv 5)) (pg_name (i := 7) nd rfl (.inl rfl))
        (pss_cons (ps_set (i := 8) nd rfl (.inl rfl) (hc _ _ _ _ _ (uv 7)))
      (pss_cons (ps_for PassesOwn.never rfl (pi_listK (K := X.K) rfl (uv 8)) (pg_name (i := 9) nd rfl (.inl rfl))
        (pss_one (ps_ifU (pt_cmp (pc_dnotin (Room.u1 hr) (uv 9) (uv 3))) (pss_cons (ps_dput (Room.u1 hr) (uv 3) (uv 9) (pe_callB c_len (by rfl) M.len b_len (pa_cons (uv 3) pa_nil)) rfl)
      (pss_one (ps_expr (pe_bm PySem.F.plainAttrs_list PySem.F.slot_list_append PySem.F.type_list_append mt_append (uv 6) (pa_cons (uv 9) pa_nil))))) pss_nil)))
      (pss_one (ps_expr (pe_bm PySem.F.plainAttrs_list PySem.F.slot_list_append PySem.F.type_list_append mt_append (uv 4) (pa_cons (pe_lc (own := [("goal", 9)]) (g := gName 9) (tt := tYes) rfl nd (pi_listK (K := X.K) rfl (uv 8)) (blkOk_by (N := nMG) (sc := defScope sMetG) (by decide +kernel))
          (fun _ _ _ _ _ => pg_name (i := 9) nd rfl (Or.inl rfl)) (fun _ _ _ _ _ => pts_nil)
          (fun _ _ _ _ _ => (pe_dget (Room.u1 hr) (uv 3) (uv 9) (fun _ _ => rfl)))) pa_nil)))))))
      (pss_cons (ps_ifU (pt_cl (PW.pt (pw_andU (pt_cu o_isnot (uv 2) pe_non) (pw_and1 (pt_cu o_gt (pe_callB c_len (by rfl) M.len b_len (pa_cons (uv 3) pa_nil)) (uv 2)))))) (pss_one ps_never) pss_nil)
      (pss_one (ps_set (i := 5) nd rfl (.inl rfl) (uv 6)))))))
      (pss_one (ps_ret (pe_tup (pa_cons (pe_callTy (r := listU X.K) (c_list rfl) (by rfl) M.list b_list (pa_cons (uv 3) pa_nil)) (pa_cons (uv 4) pa_nil))))))))), ?_⟩
  have hkk := hk H hI
  have nek : ∀ {Z : Addr}, H Z = none → Z ≠ kk := fun h z => hkk (z ▸ h)
  have kp : ∀ {H5 : Hp} {Z : Addr} {o : HO}, H Z = none → But1 (at1 kk) H H5 ∧ I H5 → But1 (at1 kk) H (upd H5 Z o) ∧ I (upd H5 Z o) := fun {H5 Z o} hZ h => by
    have ne : ∀ b, H b ≠ none → b ≠ Z := fun b hb z => hb (z ▸ hZ)
    refine ⟨fun b u n hb => ?_, hst _ _ h.2 fun b u hb e => by rw [upd_ne (ne b hb)]; exact e⟩
    rw [upd_ne (ne b (by rw [hb]; exact fun z => nomatch z))]
    exact h.1 b u n hb
  have ks : ∀ {H5 H6 : Hp}, Same H5 H6 → But1 (at1 kk) H H5 ∧ I H5 → But1 (at1 kk) H H6 ∧ I H6 := fun {H5 H6} e h => ⟨h.1.trans (.of e), hst _ _ h.2 fun b u _ hb => e _ _ hb⟩
  have fr : ∀ {H5 : Hp} {Z : Addr}, But1 (at1 kk) H H5 ∧ I H5 → H5 Z = none → H Z = none := fun {H5 Z} h hZ => by
    cases e : H Z with
    | none => rfl
    | some u =>
      have n : Z ≠ kk := fun z => hk _ h.2 (z ▸ hZ)
      rw [h.1 Z u n e] at hZ; cases hZ
  intro D nD
  refine ⟨upd_same, [(kI s0, .int 0)], rfl, by show 1 ≤ 15; omega, ?_⟩
  have eD : upd (upd H D (.dK [])) D (.dK (mergeK [] [(kI s0, V.int 0)])) = upd H D (.dK (kmp (nums (fnd RR s0 0)))) := by rw [upd_upd]; rfl
  rw [eD]
  have k1 := kp (o := .dK (kmp (nums (fnd RR s0 0)))) nD ⟨But1.refl, hI⟩
  have hD1 : (upd H D (.dK (kmp (nums (fnd RR s0 0))))) D = some (.dK (kmp (nums (fnd RR s0 0)))) := upd_same
  generalize upd H D (.dK (kmp (nums (fnd RR s0 0)))) = H1 at k1 hD1
  refine ⟨by show 0 ≤ sizeLine; omega, fun WR nW => ?_⟩
  have nWH := fr k1 nW
  have k2 := kp (o := .lst []) nWH k1
  have eW : Same H1 (upd H1 WR (.lst [])) := same_upd nW
  have hD2 := eW _ _ hD1
  have hW2 : (upd H1 WR (.lst [])) WR = some (.lst []) := upd_same
  generalize upd H1 WR (.lst []) = H2 at k2 eW hD2 hW2
  refine ⟨by show 1 ≤ sizeLine; omega, fun L nL => ?_⟩
  have nLH := fr k2 nL
  have k3 := kp (o := .lst [.int s0]) nLH k2
  have eL : Same H2 (upd H2 L (.lst [.int s0])) := same_upd nL
  have hD3 := eL _ _ hD2
  have hW3 := eL _ _ hW2
  have hL3 : (upd H2 L (.lst [.int s0])) L = some (.lst [.int s0]) := upd_same
  have nLW : L ≠ WR := (ne_of_none hW2 nL).symm
  dsimp only [tSeq, tAsg, gName, tNil]
  generalize upd H2 L (.lst [.int s0]) = H3 at k3 eL hD3 hW3 hL3
  clear k1 hD1 k2 eW hD2 hW2 nL eL nW eD
  show tWhile _ _ _ _ _
  refine wh (m0 := RR.length) (fun mm σ H4 => ∃ (i : Nat) (L : Addr) (rws : List Addr) (y6 y7 y8 y9 : Option V), mm = RR.length - i ∧ i ≤ (fnd RR s0 i).length ∧ (But1 (at1 kk) H H4 ∧ I H4) ∧ H4 D = some (.dK (kmp (nums (fnd RR s0 i)))) ∧ H4 L = some (.lst (iv ((fnd RR s0 i).drop i))) ∧ H4 WR = some (.lst (rws.map V.ref)) ∧ rws.length = i ∧
      (∀ t q, rws[t]? = some q → q ≠ WR ∧ H q = none ∧ H4 q = some (.lst (iv (rowN RR s0 t)))) ∧ H L = none ∧ L ≠ WR ∧ σ = [some (.int s0), some (.ref fa), some .non, some (.ref D), some (.ref WR), some (.ref L), y6, y7, y8, y9])
    ⟨0, L, [], none, none, none, none, rfl, Nat.zero_le _, k3, hD3, hL3, hW3, rfl, (fun t q z => (nil_none z).elim), nLH, nLW, rfl⟩ (fun mm σ H4 iv4 => ?_) (fun σ H Q Q' hm h => ?_)
  case refine_2 =>
    simp only [uVar] at h ⊢
    split at h
    · obtain ⟨kk, a, b⟩ := h; exact ⟨kk, a, hm _ _ b⟩
    · exact h.elim
  clear k3 hD3 hL3 hW3 nLH nLW L H3
  obtain ⟨i, L, rws, y6, y7, y8, y9, rfl, hi, k4, hD, hL, hW, lrw, hrw, nLH, nLW, rfl⟩ := iv4
  have hf := fnd_len ok hs i
  generalize hfe : fnd RR s0 i = fi at hi hD hL hf
  by_cases hlt : fi.length ≤ i
  · have e3 : fi.drop i = [] := List.drop_eq_nil_iff.mpr hlt
    refine ⟨false, .inl ⟨_, .inl (.inl hL), by rw [e3]; rfl⟩, ?_⟩
    have em : fi = met RR s0 := by rw [← hfe]; exact fnd_met ok hs (by rw [hfe]; exact hlt)
    rw [em] at hD
    show (if false = true then _ else _)
    rw [if_neg Bool.false_ne_true]
    refine .inr ⟨_, hD, fun A nA => ⟨by show 2 ≤ sizeLine; omega, fun t nt => ?_⟩⟩
    rw [keys_nums] at nt ⊢
    have eA : Same H4 (upd H4 A (.lst (iv (met RR s0)))) := same_upd nA
    have eT : Same (upd H4 A (.lst (iv (met RR s0)))) (upd (upd H4 A (.lst (iv (met RR s0)))) t (.tup [.ref A, .ref WR])) := same_upd nt
    have e2 := eA.trans eT
    have k5 := ks e2 k4
    refine q _ t A WR k5.1 k5.2 (fr (ks eA k4) nt) upd_same (fr k4 nA) (eT _ _ upd_same) nWH ⟨rws, e2 _ _ hW, by rw [rn_len, ← em]; omega, fun t' q' hq' => ?_⟩
    have li : t' < (met RR s0).length := by rw [← em]; have := (List.getElem?_eq_some_iff.mp hq').1; omega
    rw [rn_gls (List.getElem?_eq_getElem li), e2 _ _ (hrw t' q' hq').2.2]
    have : (met RR s0).getD t' 0 = (met RR s0)[t'] := by rw [List.getD_eq_getElem?_getD, List.getElem?_eq_getElem li]; rfl
    rw [rowN, this]
  have e3 : (!(iv (fi.drop i)).isEmpty) = true := by
    have : fi.drop i ≠ [] := fun z => hlt (List.drop_eq_nil_iff.mp z)
    cases h : fi.drop i with
    | nil => exact absurd h this
    | cons _ _ => rfl
  refine ⟨true, .inl ⟨_, .inl (.inl hL), e3.symm⟩, ?_⟩
  show (if true = true then _ else _)
  rw [if_pos rfl]
  refine ⟨by show 0 ≤ sizeLine; omega, fun B nB => ?_⟩
  have hBD : B ≠ D := fun e => by rw [e, hD] at nB; cases nB
  have hBL : B ≠ L := fun e => by rw [e, hL] at nB; cases nB
  have hBW : B ≠ WR := fun e => by rw [e, hW] at nB; cases nB
  have nBH : H B = none := fr k4 nB
  have k5 := kp (o := .lst []) nBH k4
  have hrw5 : ∀ t q, rws[t]? = some q → q ≠ WR ∧ q ≠ B ∧ H q = none ∧ (upd H4 B (.lst [])) q = some (.lst (iv (rowN RR s0 t))) := fun t q hq => by
    obtain ⟨a1, a2, a3⟩ := hrw t q hq
    have n : q ≠ B := fun e => by rw [e, nB] at a3; cases a3
    exact ⟨a1, n, a2, by rw [upd_ne n]; exact a3⟩
  dsimp only [tNext, tSeq]
  refine for_list (K := X.K) (a := L) (xs := iv (fi.drop i)) (H1 := upd H4 B (.lst [])) (by exact fun _ h => h) (.inl (.inl (by rw [upd_ne hBL.symm]; exact hL))) (fun pre σ H6 => ∃ (j : Nat) (rws : List Addr) (y7 y8 y9 : Option V), pre = iv ((fi.drop i).take j) ∧ j ≤ (fi.drop i).length ∧ (But1 (at1 kk) H H6 ∧ I H6) ∧
      H6 D = some (.dK (kmp (nums (fnd RR s0 (i + j))))) ∧ H6 L = some (.lst (iv (fi.drop i))) ∧ H6 B = some (.lst (iv ((fnd RR s0 (i + j)).drop fi.length))) ∧ H6 WR = some (.lst (rws.map V.ref)) ∧ rws.length = i + j ∧
      (∀ t q, rws[t]? = some q → q ≠ WR ∧ q ≠ B ∧ H q = none ∧ H6 q = some (.lst (iv (rowN RR s0 t)))) ∧ σ = [some (.int s0), some (.ref fa), some .non, some (.ref D), some (.ref WR), some (.ref L), some (.ref B), y7, y8, y9])
    (fun pre σ H6 h => ?_) ⟨0, rws, y7, y8, y9, rfl, Nat.zero_le _, k5, ?_, ?_, ?_, ?_, lrw, hrw5, rfl⟩ (fun pre x suf σ H6 ex h => ?_) (fun σ H6 h => ?_)
  · obtain ⟨_, _, _, _, _, _, _, _, _, h, _⟩ := h; exact .inl (.inl h)
  · rw [upd_ne hBD.symm]; show _ = some (HO.dK (kmp (nums (fnd RR s0 (i + 0))))); rw [Nat.add_zero, hfe]; exact hD
  · rw [upd_ne hBL.symm]; exact hL
  · rw [upd_same, Nat.add_zero, hfe, List.drop_length]; rfl
  · rw [upd_ne hBW.symm]; exact hW
  · clear hrw5 hrw hD hL hW k5
    obtain ⟨j, rws, y7, y8, y9, rfl, hj, k6, hD6, hL6, hB6, hW6, lrw, hrw, rfl⟩ := h
    have lj : (iv ((fi.drop i).take j)).length = j := by rw [List.length_map, List.length_take]; omega
    have hj2 : j < (fi.drop i).length := by
      have := congrArg List.length ex
      rw [List.length_append, lj, List.length_map, List.length_cons] at this
      omega
    have hx : (iv (fi.drop i))[j]? = some x := by
      rw [ex, List.getElem?_append_right (by omega), lj, Nat.sub_self]; rfl
    rw [List.getElem?_map, List.getElem?_eq_getElem hj2] at hx
    have hx := (Option.some.inj hx).symm
    subst hx
    have hp0 : fi[i + j]? = some (fi.drop i)[j] := by rw [← List.getElem?_drop]; exact List.getElem?_eq_getElem hj2
    generalize (fi.drop i)[j] = p at hp0 ex ⊢
    have hp : (fnd RR s0 (i + j))[i + j]? = some p := by
      obtain ⟨t, et⟩ := fnd_pre (R := RR) (s := s0) (i := i) (j := i + j) (by omega)
      rw [← et, hfe, List.getElem?_append_left (List.getElem?_eq_some_iff.mp hp0).1]; exact hp0
    have plt : p < RR.length := fnd_lt ok hs (i + j) p (List.mem_of_getElem? hp)
    have fl : fi.length ≤ (fnd RR s0 (i + j)).length := by
      have := (fnd_pre (R := RR) (s := s0) (i := i) (j := i + j) (by omega)).length_le
      rw [hfe] at this; exact this
    refine ⟨rfl, hpf _ k6.2, hpf _ k6.2, hcall p H6 _ plt k6.2 fun H7 GA b7 i7 nGA hGA => ?_⟩
    have k7 : But1 (at1 kk) H H7 ∧ I H7 := ⟨k6.1.trans b7, i7⟩
    have hD7 := b7 _ _ (nek nD) hD6
    have hL7 := b7 _ _ (nek nLH) hL6
    have hB7 := b7 _ _ (nek nBH) hB6
    have hW7 := b7 _ _ (nek nWH) hW6
    have nGD : GA ≠ D := fun e => by rw [e, hD6] at nGA; cases nGA
    have nGB : GA ≠ B := fun e => by rw [e, hB6] at nGA; cases nGA
    have nGW : GA ≠ WR := fun e => by rw [e, hW6] at nGA; cases nGA
    have hrw7 : ∀ t q, rws[t]? = some q → q ≠ WR ∧ q ≠ B ∧ H q = none ∧ H7 q = some (.lst (iv (rowN RR s0 t))) := fun t q hq => by
      obtain ⟨a1, a2, a3, a4⟩ := hrw t q hq
      exact ⟨a1, a2, a3, b7 _ _ (nek a3) a4⟩
    clear hrw hD6 hL6 hB6 hW6 k6 b7 i7 nGA
    dsimp only [gName, tSeq]
    refine for_list (K := X.K) (a := GA) (xs := iv (gls RR p)) (H1 := H7) (by exact fun _ h => h) (.inl (.inl hGA))
      (fun pre2 σ H8 => ∃ (gs rest : List Nat) (y9 : Option V), gls RR p = gs ++ rest ∧ pre2 = iv gs ∧ (But1 (at1 kk) H H8 ∧ I H8) ∧ H8 D = some (.dK (kmp (nums (adds (fnd RR s0 (i + j)) gs)))) ∧ H8 L = some (.lst (iv (fi.drop i))) ∧ H8 B = some (.lst (iv ((adds (fnd RR s0 (i + j)) gs).drop fi.length))) ∧ H8 WR = some (.lst (rws.map V.ref)) ∧ H8 GA = some (.lst (iv (gls RR p))) ∧
        (∀ t q, rws[t]? = some q → q ≠ WR ∧ q ≠ B ∧ H q = none ∧ H8 q = some (.lst (iv (rowN RR s0 t)))) ∧ σ = [some (.int s0), some (.ref fa), some .non, some (.ref D), some (.ref WR), some (.ref L), some (.ref B), some (.int p), some (.ref GA), y9])
      (fun pre2 σ H8 h => by obtain ⟨_, _, _, _, _, _, _, _, _, _, h, _⟩ := h; exact .inl (.inl h)) ⟨[], gls RR p, y9, rfl, rfl, k7, hD7, hL7, hB7, hW7, hGA, hrw7, rfl⟩ (fun pre2 x2 suf2 σ H8 ex2 h => ?_) (fun σ H8 h => ?_)
    · clear hrw7 hD7 hL7 hB7 hW7 hGA k7
      obtain ⟨gs, rest, y9, eg, rfl, k8, hD8, hL8, hB8, hW8, hG8, hrw8, rfl⟩ := h
      have er : iv rest = x2 :: suf2 := by
        have e7 : iv gs ++ iv rest = iv gs ++ x2 :: suf2 := by rw [← ex2, eg, iv_app]
        exact List.append_cancel_left e7
      obtain ⟨g, rest', rfl, rfl, rfl⟩ := List.map_eq_cons_iff.mp er
      have cl := adds_len (i := i + j) ok hs eg
      have cl2 : fi.length ≤ (adds (fnd RR s0 (i + j)) gs).length := Nat.le_trans fl adds_pre.length_le
      have eg2 : gls RR p = (gs ++ [g]) ++ rest' := by rw [eg]; simp
      have ea := adds_app (f := fnd RR s0 (i + j)) (gs := gs) (g := g)
      generalize adds (fnd RR s0 (i + j)) gs = cur at hD8 hB8 cl cl2 ea
      refine ⟨D, _, rfl, DGet.k (k := kI g) hD8, _, rfl, ?_⟩
      rw [val_kmp, look_isSome, nums_keys]
      refine .nd (fun hg => ?_) (fun hg => ?_)
      · have ec : add1 cur g = cur ++ [g] := if_neg hg
        have lk : (kmp (nums cur)).length = cur.length := by rw [List.length_map, nums_len]
        have ep : putK (kmp (nums cur)) (kI g) (.int ((kmp (nums cur)).length : Nat)) = kmp (nums (cur ++ [g])) := by
          rw [put_kmp _ (by rw [nums_keys]; exact hg), nums_app, lk]
        refine .inr ⟨_, hD8, D, _, rfl, DPut.k (k := kI g) hD8 (by rw [lk]; omega), ?_⟩
        rw [ep]
        have neD : ∀ {c : Addr} {xs : List V}, H8 c = some (.lst xs) → c ≠ D := fun hc z => by rw [z, hD8] at hc; cases hc
        have hB9 : (upd H8 D (.dK (kmp (nums (cur ++ [g]))))) B = some (.lst (iv (cur.drop fi.length))) := by rw [upd_ne hBD]; exact hB8
        refine ⟨.inl ⟨rfl, _, .inl (.inl hB9)⟩, B, _, _, rfl, rfl, hB9, by rw [List.length_map, List.length_drop]; omega, ?_⟩
        refine ⟨gs ++ [g], rest', _, eg2, by rw [iv_app]; rfl, kp nBH (kp nD k8), ?_, ?_, ?_, ?_, ?_, fun t q hq => ?_, rfl⟩
        · rw [upd_ne hBD.symm, upd_same, ea, ec]
        · rw [upd_ne hBL.symm, upd_ne (neD hL8)]; exact hL8
        · rw [upd_same, ea, ec, List.drop_append_of_le_length cl2, iv_app]; rfl
        · rw [upd_ne hBW.symm, upd_ne (neD hW8)]; exact hW8
        · rw [upd_ne nGB, upd_ne nGD]; exact hG8
        · obtain ⟨a1, a2, a3, a4⟩ := hrw8 t q hq
          exact ⟨a1, a2, a3, by rw [upd_ne a2, upd_ne (neD a4)]; exact a4⟩
      · have ec : add1 cur g = cur := if_pos hg
        exact ⟨gs ++ [g], rest', _, eg2, by rw [iv_app]; rfl, k8, by rw [ea, ec]; exact hD8, hL8, by rw [ea, ec]; exact hB8, hW8, hG8, hrw8, rfl⟩
    · clear hrw7 hD7 hL7 hB7 hW7 hGA k7
      obtain ⟨gs, rest, y9', eg, e6, k8, hD8, hL8, hB8, hW8, hG8, hrw8, rfl⟩ := h
      obtain rfl := iv_inj e6
      have es := fnd_step hp
      rw [← es] at hD8 hB8
      have lij : i + j < (fnd RR s0 (i + j)).length := (List.getElem?_eq_some_iff.mp hp).1
      have lij2 := fnd_len ok hs (i + j)
      have pre1 : fnd RR s0 (i + j + 1) <+: met RR s0 := fnd_pre (by omega)
      have pre0 : fnd RR s0 (i + j) <+: met RR s0 := fnd_pre (by omega)
      have hpm : (met RR s0).getD (i + j) 0 = p := by
        obtain ⟨t, et⟩ := pre0
        rw [List.getD_eq_getElem?_getD, ← et, List.getElem?_append_left lij, hp]; rfl
      have ndc : (fnd RR s0 (i + j + 1)).Nodup := met_nd.sublist pre1.sublist
      have lrow : (gls RR p).length ≤ 3 := by rw [gls_len ok plt]; exact hm3
      refine ⟨.inl ⟨rfl, _, .inl (.inl hW8)⟩, ?_⟩
      dsimp only [tCons]
      refine lc_mapS (K := X.K) (enc := fun g : Nat => V.int (g : Int)) (out := fun g => V.int ((met RR s0).idxOf g : Nat)) (ls := gls RR p) (a := GA) (H1 := H8) (by exact fun _ h => h) hG8 (by omega) (fun H9 g hg e9 Qy hq => ?_) (fun D2 H9 nD2 e9 hD2 => ?_)
      · have gm : g ∈ fnd RR s0 (i + j + 1) := by rw [es]; exact mem_adds.mpr (.inr hg)
        have hv := DGet.k (k := kI g) (e9 _ _ hD8)
        rw [val_kmp, nums_look ndc gm, ← idx_pre pre1 gm] at hv
        exact ⟨rfl, D, _, rfl, hv, hq H9 (Same.refl _)⟩
      · have hW9 := e9 _ _ hW8
        have k9 := ks e9 k8
        have nDW : D2 ≠ WR := fun z => by rw [z, hW8] at nD2; cases nD2
        have nDB : D2 ≠ B := fun z => by rw [z, hB8] at nD2; cases nD2
        have k10 := kp (o := .lst (rws.map V.ref ++ [.ref D2])) nWH k9
        have neW : ∀ {c : Addr} {kv : List (Key × V)}, H9 c = some (.dK kv) → c ≠ WR := fun hc z => by rw [z, hW9] at hc; cases hc
        refine ⟨WR, _, _, rfl, rfl, hW9, by rw [List.length_map]; omega, ?_⟩
        refine ⟨j + 1, rws ++ [D2], some (.int p), some (.ref GA), y9', ?_, hj2, k10, ?_, ?_, ?_, ?_, by rw [List.length_append, lrw]; rfl, fun t q hq => ?_, rfl⟩
        · have : (fi.drop i).take (j + 1) = (fi.drop i).take j ++ [p] := by
            rw [List.take_add_one, show (fi.drop i)[j]? = some p by rw [List.getElem?_drop]; exact hp0]; rfl
          rw [this, iv_app]; rfl
        · have := e9 _ _ hD8
          rw [upd_ne (neW this)]; exact this
        · rw [upd_ne nLW]; exact e9 _ _ hL8
        · rw [upd_ne hBW]; exact e9 _ _ hB8
        · rw [upd_same, List.map_append]; rfl
        · by_cases hl : t < rws.length
          · rw [List.getElem?_append_left hl] at hq
            obtain ⟨a1, a2, a3, a4⟩ := hrw8 t q hq
            exact ⟨a1, a2, a3, by rw [upd_ne a1]; exact e9 _ _ a4⟩
          · rw [List.getElem?_append_right (by omega)] at hq
            have e6 : t - rws.length = 0 := by
              have := (List.getElem?_eq_some_iff.mp hq).1
              simp at this; omega
            rw [e6] at hq
            obtain rfl : D2 = q := by simpa using hq
            have : t = i + j := by omega
            subst this
            refine ⟨nDW, nDB, fr k8 nD2, ?_⟩
            rw [upd_ne nDW, hD2, rowN, hpm, iv, List.map_map]; rfl
  · clear hrw5 hrw hD hL hW k5
    obtain ⟨j, rws, y7, y8, y9, ej, hj, k6, hD6, hL6, hB6, hW6, lrw, hrw, rfl⟩ := h
    have ej := iv_inj ej
    have lj : j = (fi.drop i).length := by
      have := congrArg List.length ej
      rw [List.length_take] at this
      omega
    have ij : i + j = fi.length := by rw [lj, List.length_drop]; omega
    rw [ij] at hD6 hB6 lrw
    have fl : fi.length ≤ (fnd RR s0 fi.length).length := by
      have := (fnd_pre (R := RR) (s := s0) (i := i) (j := fi.length) (by omega)).length_le
      rw [hfe] at this; exact this
    refine ⟨fun b H' => b = false ∧ H' = H6, ?_, fun b H' z => ?_⟩
    · dsimp only [uAnd, uT, tOp]
      refine uvG (v := V.non) rfl ?_
      show Br (!decide (V.non = V.non)) _ _
      rw [decide_eq_true rfl]
      exact .no ⟨rfl, rfl⟩
    obtain ⟨rfl, rfl⟩ := z
    refine .no ?_
    exact ⟨RR.length - fi.length, by omega, fi.length, B, rws, _, _, _, _, rfl, fl, k6, hD6, hB6, hW6, lrw, (fun t q hq => ⟨(hrw t q hq).1, (hrw t q hq).2.2.1, (hrw t q hq).2.2.2⟩), nBH, hBW, rfl⟩
end LK

/-! least_of, of more places than a machine may have -/
namespace LK
open PySem PySem.Spec PyProof.Rows L2 LamX ClX
open scoped List
section
variable {P : Program} {w : World} {K : PySem.W.Frag} {mg : Str → Option Value} {base : Heap} {C : Addr}
end
end LK

/-! for i, c in enumerate(text) -/
namespace LK
open PySem PySem.Spec PyProof.Rows L2
open AutoSeq1 (wpAny_loadPart')
/-- a text's letters, each beside its number in a new pair -/
def ItES (x : Str) : It where
  go := fun i _ => i < x.cps.size
  yld := fun i H v H' => ∃ T c, v = .ref T ∧ H T = none ∧ H' = upd H T (.tup [.int (i : Nat), .str ⟨#[c]⟩]) ∧ x.cps[i]? = some c
  stop := fun i _ => i = x.cps.size
theorem turn_enumS {P : Program} {w : World} {K : PySem.W.Frag} {elts : List Expr} {kk : Nat} {tpos : Pos} {e it : Addr} {x : Str} {t : Tok} (ne : e ≠ it) :
    Turn P w K (.Tuple elts kk tpos) (ItES x) [e, it] e (fun i h => (∃ old, IsEnum h e it ((i : Nat) : Int) old) ∧ h.IsStrIter it (strIterType x) x t i) where
  mem := by simp
  obj := fun i h st c hc => by
    obtain ⟨⟨old, he⟩, o, ho, _, hd⟩ := st
    simp only [List.mem_cons, List.not_mem_nil, or_false] at hc
    rcases hc with rfl | rfl
    · exact ⟨_, he, fun v q => nomatch q⟩
    · exact ⟨o, ho, fun v q => by rw [hd] at q; cases q⟩
  keep := fun i h h' st k => by
    obtain ⟨⟨old, he⟩, o, ho, r⟩ := st
    exact ⟨⟨old, k e (by simp) _ he⟩, o, k it (by simp) o ho, r⟩
  item := by
    intro X hP hw hK hc i pins s σ H E I hf st hii
    subst hP hw hK
    obtain ⟨⟨old, he⟩, hit⟩ := st
    have hh : X.A.in1.handled = none := I.ok.hd hc
    have el := Heap.lt_size he
    have il : it < s.heap.objs.size := by obtain ⟨_, q, _⟩ := hit; exact Heap.lt_size q
    refine wpAny_pyNext_enum_itemD (Draws.text hh it x t) he hit hii ne (by simp [ne]) fun y h' tk hy ho hst hT hsz hk => ?_
    obtain ⟨c, u, hcx, rfl⟩ := hy
    refine ⟨_, rfl, wpAny_letOwnedTupleGo_enum (s := { s with heap := h', toks := tk + 1 }) ho fun h'' he' sb => ?_⟩
    have hT2 : h''.get? s.heap.objs.size = some { cls := .type "tuple", data := .seq #[.int i tk, .str ⟨#[c]⟩ u] } := (sb.2 _ (Nat.ne_of_gt el)).trans hT
    have new : ObjOk X.prog X.w (upd H s.heap.objs.size (.tup [.int (i : Nat), .str ⟨#[c]⟩])) h'' s.heap.objs.size (.tup [.int (i : Nat), .str ⟨#[c]⟩]) :=
      ⟨by show 2 ≤ sizeLine; decide, [.int i tk, .str ⟨#[c]⟩ u], .cons ⟨_, rfl⟩ (.cons ⟨_, rfl⟩ .nil), ⟨_, hT2, rfl, _, rfl⟩⟩
    have far : ∀ d o, d ∉ [e, it] → s.heap.get? d = some o → h''.get? d = some o := fun d o nd q => by
      simp only [List.mem_cons, List.not_mem_nil, or_false, not_or] at nd
      exact (sb.2 d nd.1).trans (hk d o nd.1 nd.2 q)
    refine ⟨.ref s.heap.objs.size, _, I.turnedNew (t' := tk + 1) (ch := [e, it]) far hf (Nat.le_refl _) new, rfl, ⟨_, c, rfl, I.hok.fresh (Nat.le_refl _), rfl, hcx⟩, ⟨⟨.str ⟨#[c]⟩ u, ?_⟩, ?_⟩, fun d hd => ?_⟩
    · rw [show ((i + 1 : Nat) : Int) = (i : Int) + 1 by omega]; exact he'
    · obtain ⟨o, q, r⟩ := hst
      exact ⟨o, (sb.2 it ne.symm).trans q, r⟩
    · have lt : d < s.heap.objs.size := by
        simp only [List.mem_cons, List.not_mem_nil, or_false] at hd
        rcases hd with rfl | rfl
        · exact el
        · exact il
      rw [upd_ne (Nat.ne_of_lt lt)]; exact (hf d hd).1
  done := by
    intro X hP hw hK hc i pins s σ H E I hf st hl
    subst hP hw hK
    obtain ⟨⟨old, he⟩, hit⟩ := st
    obtain ⟨f0, f1, f2, f3, f4, f5⟩ := hf it (by simp)
    have hh : X.A.in1.handled = none := I.ok.hd hc
    have hl : i = x.cps.size := hl
    subst hl
    exact wpAny_pyNext_enum_endD (Draws.text hh it x t) he hit fun h' eb => ⟨rfl, I.turned (t' := s.toks) (fun b o hb q => eb b o hb q) f0 f1 f3 f4 f5⟩
  self := fun A i s Q E st h => by obtain ⟨⟨_, he⟩, _⟩ := st; exact wpAny_pyIter_enum he h
theorem pyIter_text {prog : Program} {w : World} {A : Around} {E : Value → Shared → Prop} {s : Shared} {x : Str} {t : Tok} {Q : Value → Shared → Prop}
    (h : Q (.ref s.heap.objs.size) { s with heap := s.heap.push { cls := .type (strIterType x), data := .fields #[.str x t, .int 0 0] } }) : wpAny (model prog w) A (pyIter (.str x t)) Q E s :=
  (begins_text x t).iter prog w A E s Q trivial h
theorem new_enumS (x : Str) (t : Tok) :
    Meets (Builtin.«enumerate.__new__» ⟨[.type "enumerate", .str x t], []⟩) (fun _ R s => 
      R (.ok (.ret (.ref (s.heap.push { cls := .type (strIterType x), data := .fields #[.str x t, .int 0 0] }).objs.size)))
        { s with heap := (s.heap.push { cls := .type (strIterType x), data := .fields #[.str x t, .int 0 0] }).push { cls := .type "enumerate", data := .fields #[.none, .bool false, .ref s.heap.objs.size, rawInt 0, .none, .none] } }) :=
  .of_wp fun prog w A R s h => by
    obtain ⟨hp, g, d, tk, os⟩ := s
    have hsub := sub_enumerate
    wp_walk
    refine wpAny_stack_any fun st => wpAny_pure ?_
    split
    · rename_i c _ _ _ _ _
      cases (c == Value.type "enumerate") <;> (wp_walk using pyIter_text; exact ⟨_, rfl, h⟩)
    · wp_walk using pyIter_text
      exact ⟨_, rfl, h⟩
theorem call_enumS {A : Around} {E : Value → Shared → Prop} {prog : Program} {w : World} {s : Shared} {x : Str} {t : Tok} {Q : Value → Shared → Prop}
    (h : ∀ h', IsEnum h' (s.heap.objs.size + 1) s.heap.objs.size 0 .none → h'.IsStrIter s.heap.objs.size (strIterType x) x t 0 → (∀ b o, s.heap.get? b = some o → h'.get? b = some o) → Q (.ref (s.heap.objs.size + 1)) { s with heap := h' }) :
    wpAny (model prog w) A (call (.type "enumerate") [.str x t]) Q E s := by
  refine callType_new F.called_enumerate (by decide) (F.typeCall_enumerate_1 _) (F.newCall_enumerate_1 _) (fun obj => F.args_object_init_2 obj _) F.entry_enumerate_new (new_enumS x t) ?_
  have hz : (s.heap.push { cls := .type (strIterType x), data := .fields #[.str x t, .int 0 0] }).objs.size = s.heap.objs.size + 1 := Heap.size_push ..
  have he : IsEnum ((s.heap.push { cls := .type (strIterType x), data := .fields #[.str x t, .int 0 0] }).push { cls := .type "enumerate", data := .fields #[.none, .bool false, .ref s.heap.objs.size, rawInt 0, .none, .none] }) (s.heap.objs.size + 1) s.heap.objs.size 0 .none :=
    hz ▸ Heap.get?_push_size _ rfl
  show _ ∧ _
  rw [hz]
  exact ⟨⟨_, he, rfl⟩, h _ he ⟨_, Heap.get?_push_of_some _ (Heap.get?_push_size _ rfl), rfl, rfl⟩ fun b o x => Heap.get?_push_of_some _ (Heap.get?_push_of_some _ x)⟩
def iEnumS (ta : TA) : TI := fun σ H R => ta σ H fun vs H1 => match vs with
  | [.str x] => R (ItES x) H1
  | _ => False
theorem pi_enumS {X : Cx} {e : Expr} {ta : TA} {p pos tpos : Pos} {elts : List Expr} {kk : Nat} (hg : Gl X "enumerate") (hm : X.mg "enumerate" = none) (ha : PA X [e] ta) (hs : starEach [e] X.env = [(false, eval e X.env)] := by rfl) :
    PI X (.Tuple elts kk tpos) (.Call (.Name "enumerate" p) [e] [] pos) (iEnumS ta) := by
  refine ⟨fun pins s σ H R I h => Call_ (ld_blt I hg hm boot_enumerate (PyProof.Rows.callWith_type1 (thn (ha.run pos pins s σ H _ I h) fun us s1 z => ?_) hs rfl))⟩
  obtain ⟨vs, H1, I1, r1, q1⟩ := z
  have key : ∃ x, vs = [.str x] ∧ R (ItES x) H1 := by
    split at q1
    · exact ⟨_, rfl, q1⟩
    · exact q1.elim
  obtain ⟨x, rfl, q⟩ := key
  obtain ⟨u, rfl, ru⟩ := vals1 r1
  obtain ⟨t, rfl⟩ := ru
  have fp : ∀ b ∈ [s1.heap.objs.size + 1, s1.heap.objs.size], FpOk X pins H1 b := fun b hb => by
    have hle : s1.heap.objs.size ≤ b := by
      simp only [List.mem_cons, List.not_mem_nil, or_false] at hb
      rcases hb with z | z <;> rw [z]
      · exact Nat.le_add_right _ _
      · exact Nat.le_refl _
    exact I1.fpOk hle (I1.hok.fresh hle)
  refine call_enumS fun h' he hit hk => wpAny_pyIter_enum he ?_
  exact ⟨s1.heap.objs.size + 1, _, _, _, H1, rfl, I1.kept (t' := s1.toks) hk, turn_enumS (e := s1.heap.objs.size + 1) (it := s1.heap.objs.size) (Nat.succ_ne_self _), ⟨⟨.none, he⟩, hit⟩, fp, q⟩
section
variable {g : TG} {tb : TS} {σ : L2.St} {H H1 : Hp} {ta : TA} {D : Ends}
end
end LK

/-! what a letter may be heard as -/
namespace LK
open PySem PySem.Spec PyProof.Rows L2 LamX
open scoped List
theorem b_dict : bootBuiltins "dict" = some (.type "dict") := by decide +kernel
theorem Room.u65 {k : Nat} {A : Around} (r : Room k A) : A.units + 65 < cLine := by have := r.un; omega
section
variable {X : Cx}
/-- x in a list or tuple of texts -/
def inTx (K : PySem.W.Frag) : R2 := rIn K false
theorem o_inTx (_ : X.A.units + 65 < cLine) : OpR X (compareOp .In) (inTx X.K) := op_in_seq
/-- x[i:j] of a list or a tuple -/
def slB (K : PySem.W.Frag) : V → Option Int → Option Int → Hp → VK → Prop := fun x lo hi H Q => rSlL K x lo hi H Q ∨ rSlA K x lo hi H Q
theorem sl_b : SlR X (slB X.K) := sl_list.or sl_tupA
theorem pe_din {i o : Expr} {pos : Pos} {ty td : TE} (hu : X.A.units + 1 < cLine) (hi : PE X i ty) (ho : PE X o td) (h1 : behindInMarks .In o = false := by first | exact nobehind _ (by decide) (by decide) | rfl) : PE X (.Compare i [.In] [o] pos) (tDIn ty td) := pe_cmp (pc_din hu hi ho) h1
end
theorem in_LT (x : List Nat) (ls : List (List Nat)) : inV (LT x) (ls.map LT) = decide (x ∈ ls) := by
  induction ls with
  | nil => rfl
  | cons l ls ih =>
    show (eqV (LT l) (LT x) || inV (LT x) (ls.map LT)) = _
    rw [ih]
    have e : eqV (LT l) (LT x) = decide (x = l) := by
      show (T l == T x) = _
      by_cases h : x = l
      · subst h; simp
      · have : ¬ T l = T x := fun z => h (T_inj z).symm
        simp [this, h]
    rw [e]
    simp
theorem flat_LT (ls : List (List Nat)) : (ls.map LT).all flatV = true := by
  rw [List.all_eq_true]
  intro x hx
  obtain ⟨l, _, rfl⟩ := List.mem_map.mp hx
  rfl
theorem inTx_of {K : PySem.W.Frag} {H : Hp} {a : Addr} {tp : Bool} {x : List Nat} {ls : List (List Nat)} {Q : VK} (h : SqB K tp H a (ls.map LT)) (q : Q (.bl (decide (x ∈ ls))) H) : inTx K (LT x) (.ref a) H Q := by
  refine ⟨a, ls.map LT, rfl, h.or, rfl, flat_LT ls, ?_⟩
  show Q (.bl (inV (LT x) (ls.map LT))) H
  rw [in_LT]; exact q
theorem slB_of {K : PySem.W.Frag} {H : Hp} {a : Addr} {tp : Bool} {n : Nat} {xs : List V} {Q : VK} (h : SqB K tp H a xs) (q : ∀ H' p, Same H H' → SqB K tp H' p (xs.take n) → Q (.ref p) H') : slB K (.ref a) none (some (n : Int)) H Q := by
  have s1 : HT.sIx xs.length 0 none = 0 := rfl
  have s2 : HT.sIx xs.length xs.length (some (n : Int)) = min n xs.length := HT.sIx_nat _ _ _
  have ec : cutV xs none (some (n : Int)) = xs.take n := by
    unfold cutV
    rw [s1, s2, List.drop_zero, Nat.sub_zero]
    by_cases h : n ≤ xs.length
    · rw [Nat.min_eq_left h]
    · rw [Nat.min_eq_right (by omega), List.take_of_length_le (by omega), List.take_of_length_le (by omega)]
  cases tp with
  | false =>
    refine .inl ⟨a, xs, rfl, h, fun p hp => ?_⟩
    rw [ec]
    exact q _ p (same_upd hp) (.inl (.inl upd_same))
  | true =>
    refine .inr ⟨a, xs, rfl, h, fun hw => ?_, fun _ p hp => ?_⟩
    · refine q H a (Same.refl _) ?_
      rw [s2] at hw
      rw [List.take_of_length_le (by omega)]
      exact h
    · rw [ec]
      exact q _ p (same_upd hp) (.inl (.inl upd_same))
/-- a list or tuple of texts -/
def HearAt (K : PySem.W.Frag) (H : Hp) (v : V) (hs : List (List Nat)) : Prop := ∃ a tp, v = .ref a ∧ SqB K tp H a (hs.map LT)
theorem HearAt.ext {K : PySem.W.Frag} {H H' : Hp} {v : V} {hs : List (List Nat)} (h : HearAt K H v hs) (e : Same H H') : HearAt K H' v hs := by
  obtain ⟨a, tp, ev, h⟩ := h; exact ⟨a, tp, ev, h.ext e⟩
structure HearOk (S : List Nat) (hs : List (List Nat)) : Prop where
  ne : hs ≠ []
  nd : hs.Nodup
  one : ∀ h ∈ hs, h.length ≤ 1 ∧ ∀ c ∈ h, c ∈ S
  hi : hs.length ≤ 100
section
variable {P : Program} {w : World} {K : PySem.W.Frag} {mg : Str → Option Value} {base : Heap}
abbrev nAH : List Str := ["letters", "value", "position", "hearing"]
theorem scAreHear : FnScope nAH ["letters", "value"] (defScope sAreHear) := ⟨rfl, rfl, rfl, by decide +kernel, rfl, by decide +kernel, by decide +kernel⟩
def spAreHear (K : PySem.W.Frag) : Sp := fun vs H Q _ => ∃ (S : List Nat) (v : V) (hs : List (List Nat)), vs = [.str (T S), v] ∧ HearAt K H v hs ∧ HearOk S hs ∧ S.length ≤ 1000 ∧ ∀ H', Same H H' → Q (.bl true) H'
theorem ok_areHear {f : Addr} {fd : FuncData} {k : Nat} (F : Fun K "_are_hearings" "_are_hearings" sAreHear f fd) (M : Mx mg) (HOv : Has P w K mg base k "is_over" ["value", "letters"] (spIsOver K)) :
    FnG P w K mg base CX0 (k + 1) f fd ["letters", "value"] (spAreHear K) := by
  refine okG F scAreHear (fun vs H Q E h => ?_) (fun cdv A hA outer s H vs Q E hr h => ?_)
  · obtain ⟨S, v, hs, rfl, _⟩ := h; rfl
  · obtain ⟨S, v, hs, rfl, ⟨a, tp, rfl, hq⟩, ok, hS, q⟩ := h
    have nd := scAreHear.nd
    refine ⟨_, (pss_cons (ps_ifU (pt_cl (PW.pt (pw_orU (pt_not (pt_u (pe_callB call_isiT (by rfl) M.isi b_isi (pa_cons (uv 1) (pa_cons (pe_tup (pa_cons (pe_bltn (by rfl) M.list b_list (v := .ty "list") (by rfl)) (pa_cons (pe_bltn (by rfl) M.tuple b_tuple (v := .ty "tuple") (by rfl)) pa_nil))) pa_nil))))) (pw_or1 (pt_cu (r := eqU K false) (o_eq hr.units) (pe_callB c_len (by rfl) M.len b_len (pa_cons (uv 1) pa_nil)) pe_int))))) (pss_one (ps_ret pe_bl)) pss_nil)
      (pss_cons (ps_for PassesOwn.never rfl (pi_enumB (by rfl) M.enumerate (pa_cons (uv 1) pa_nil)) (pg_tup rfl (pgs_cons (pg_name (i := 2) nd rfl (.inl rfl)) (pgs_cons (pg_name (i := 3) nd rfl (.inl rfl)) pgs_nil)))
        (pss_one (ps_ifU (pt_cl (PW.pt (pw_orU (pt_not (pt_u (pe_callH HOv hA hr (by rfl) (pa_cons (uv 3) (pa_cons (uv 0) pa_nil))))) (pw_orU (pt_cu o_gt (pe_callB c_len (by rfl) M.len b_len (pa_cons (uv 3) pa_nil)) pe_int) (pw_or1 (pt_cu (r := inTx K) (o_inTx (Room.u65 hr)) (uv 3) (pe_slice (r := slB K) sl_b (uv 1) po_none (po_u (uv 2))))))))) (pss_one (ps_ret pe_bl)) pss_nil)))
      (pss_one (ps_ret pe_bl)))), ?_⟩
    have sl := sizeLine_eq
    refine ⟨fun b H' => b = false ∧ Same H H', ⟨by show 2 ≤ sizeLine; decide, fun p np => ?_⟩, fun b H1 z => ?_⟩
    · have hq1 := hq.ext (same_upd (o := .tup [.ty "list", .ty "tuple"]) np)
      refine ⟨_, p, _, _, [.type "list", .type "tuple"], true, rfl, upd_same, .cons (.ty _) (.cons (.ty _) .nil), ty_sq hq1, by cases tp <;> rfl, .no ?_⟩
      refine .inl ⟨hs.map LT, hq1.or, ?_, same_upd np⟩
      exact decide_eq_false (by have := ok.ne; rw [List.length_map]; have : hs.length ≠ 0 := fun z => ok.ne (List.length_eq_zero_iff.mp z); omega)
    obtain ⟨rfl, e1⟩ := z
    refine .no ?_
    dsimp only [tNext, tSeq]
    have hq1 := hq.ext e1
    refine for_enB (K := K) (tp := tp) (a := a) (xs := hs.map LT) (H1 := H1) (by exact fun _ h => h) hq1 (fun i σ H2 => Same H1 H2 ∧ ∃ y3 y4, σ = [some (.str (T S)), some (.ref a), y3, y4]) (fun i σ H2 iv => hq1.ext iv.1) ⟨Same.refl _, none, none, rfl⟩ (fun i x p2 σ H2 hx iv np2 => ?_) (fun σ H2 iv => ?_)
    · obtain ⟨e3, y3, y4, rfl⟩ := iv
      rw [List.getElem?_map] at hx
      obtain ⟨h, hh, rfl⟩ := Option.map_eq_some_iff.mp hx
      have hm : h ∈ hs := List.mem_of_getElem? hh
      have e4 := e3.trans (same_upd (o := .tup [.int (i : Nat), LT h]) np2)
      refine ⟨p2, _, rfl, .inl (.inl upd_same), rfl, _, _, rfl, _, _, rfl, rfl, ?_⟩
      refine ⟨fun b H' => b = false ∧ Same H1 H', ?_, fun b H' z => ?_⟩
      · obtain ⟨o1, o2⟩ := ok.one h hm
        refine ⟨S, LT h, rfl, .inl ⟨h, rfl, by omega, fun H3 e5 => ?_⟩⟩
        rw [decide_eq_true o2]
        refine .no ?_
        refine ⟨by show (cs (T h)).length ≤ sizeLine; rw [cs_T]; omega, ?_⟩
        have : decide ((1 : Int) < ((cs (T h)).length : Int)) = false := decide_eq_false (by rw [cs_T]; omega)
        show Br (decide ((1 : Int) < ((cs (T h)).length : Int))) _ _
        rw [this]
        refine .no ?_
        refine slB_of (hq1.ext (e4.trans e5)) fun H4 p4 e6 h4 => ?_
        rw [← List.map_take] at h4
        refine inTx_of h4 ⟨decide_eq_false fun z => ?_, e4.trans (e5.trans e6)⟩
        obtain ⟨j, hj, ej⟩ := List.mem_iff_getElem.mp z
        rw [List.length_take] at hj
        rw [List.getElem_take] at ej
        obtain ⟨hi, ei⟩ := List.getElem?_eq_some_iff.mp hh
        exact List.pairwise_iff_getElem.mp ok.nd j i (by omega) hi (by omega) (ej.trans ei.symm)
      · obtain ⟨rfl, e5⟩ := z
        exact .no ⟨e5, _, _, rfl⟩
    · obtain ⟨e3, y3, y4, rfl⟩ := iv
      exact q H2 (e1.trans e3)
end
end LK

/-! lines: is_line_over, _need_line, _heard_as, need_places -/
namespace LK
open PySem PySem.Spec PyProof.Rows L2 LamX
open scoped List
section
variable {K : PySem.W.Frag} {g : TG} {tt : TT} {te : TE} {σ : L2.St} {H H1 : Hp} {vs : List Nat} {Q : VK} {ta : TA}
/-- a comprehension over enumerate of a text, with a condition -/
theorem lc_enSF {l : List Nat} (h : ∀ R : List V → Hp → Prop, R [.str (T l)] H1 → ta σ H R) (R : Addr → Nat → List V → Hp → Prop) (h0 : ∀ D, H1 D = none → R D 0 [] (upd H1 D (.lst [])))
    (hs : ∀ D, H1 D = none → ∀ (i : Nat) c p acc H, l[i]? = some c → R D i acc H → H p = none → g (.ref p) (wipe σ vs) (upd H p (.tup [.int (i : Nat), .str (T [c])])) fun σ2 H2 => wipe σ2 vs = wipe σ vs ∧ tt σ2 H2 fun b H3 => if b = true then te σ2 H3 fun y H4 =>
      ∃ acc, H4 D = some (.lst acc) ∧ acc.length < sizeLine ∧ ∃ a, R D (i + 1) a (upd H4 D (.lst (acc ++ [y]))) else ∃ a, R D (i + 1) a H3)
    (he : ∀ D, H1 D = none → ∀ acc H, R D l.length acc H → Q (.ref D) H) : tLc (iEnumS ta) g tt te vs σ H Q := by
  refine h _ ?_
  refine fun D nD => ?_
  have sz : (T l).cps.size = l.length := by simp [T]
  refine ⟨fun i m H => m = l.length - i ∧ i ≤ l.length ∧ ∃ acc, R D i acc H, ⟨l.length, rfl, Nat.zero_le _, [], h0 D nD⟩, ?_⟩
  rintro i m H ⟨rfl, hi, acc, iv⟩
  by_cases lt : i < l.length
  · refine .inr ⟨by show i < (T l).cps.size; omega, fun H' => ∃ acc, R D (i + 1) acc H', fun H' z => ⟨l.length - (i + 1), by omega, rfl, lt, z⟩, ?_⟩
    intro v H' y
    obtain ⟨T', c, rfl, hT, rfl, e⟩ := y
    have e' : l[i]? = some c := by
      rw [← e]
      show l[i]? = (l.toArray)[i]?
      exact List.getElem?_toArray.symm
    exact hs D nD i c T' acc H e' iv hT
  · have e : i = l.length := by omega
    subst e
    exact .inl ⟨by show l.length = (T l).cps.size; omega, he D nD acc H iv⟩
end
/-- the dict at d tells for each letter what it may be heard as -/
def LineAt (K : PySem.W.Frag) (H : Hp) (d : Addr) (S : List Nat) (hr : Nat → List (List Nat)) : Prop :=
  ∃ kvs : List (Key × V), H d = some (.dK kvs) ∧ kvs.length = S.length ∧ ∀ c ∈ S, ∃ v, valV kvs (.inr (T [c])) = some v ∧ HearAt K H v (hr c)
theorem LineAt.ext {K : PySem.W.Frag} {H H' : Hp} {d : Addr} {S : List Nat} {hr : Nat → List (List Nat)} (h : LineAt K H d S hr) (e : Same H H') : LineAt K H' d S hr := by
  obtain ⟨kvs, h1, h2, h3⟩ := h
  exact ⟨kvs, e _ _ h1, h2, fun c hc => by
    obtain ⟨v, hv, ha⟩ := h3 c hc
    exact ⟨v, hv, ha.ext e⟩⟩
def LineOk (S : List Nat) (hr : Nat → List (List Nat)) : Prop := ∀ c ∈ S, HearOk S (hr c)
/-- the numbers of the letters that may be heard as h -/
def heardAs (S : List Nat) (hr : Nat → List (List Nat)) (h : List Nat) : List Nat := (List.range S.length).filter fun i => decide (h ∈ hr (S.getD i 0))
theorem heardAs_lt {S : List Nat} {hr : Nat → List (List Nat)} {h : List Nat} {i : Nat} (m : i ∈ heardAs S hr h) : i < S.length := by
  have := (List.mem_filter.mp m).1
  exact List.mem_range.mp this
section
variable {P : Program} {w : World} {K : PySem.W.Frag} {mg : Str → Option Value} {base : Heap} {C : Addr}
abbrev nIL : List Str := ["letters", "value", "letter"]
theorem scIsLine : FnScope nIL ["letters", "value"] (defScope sIsLine) := ⟨rfl, rfl, rfl, by decide +kernel, rfl, by decide +kernel, by decide +kernel⟩
def spIsLine (K : PySem.W.Frag) : Sp := fun vs H Q _ => ∃ (S : List Nat) (d : Addr) (hr : Nat → List (List Nat)), vs = [.str (T S), .ref d] ∧ LineAt K H d S hr ∧ LineOk S hr ∧ S.length ≤ 1000 ∧ ∀ H', Same H H' → Q (.bl true) H'
theorem ok_isLine {f : Addr} {fd : FuncData} {k : Nat} (F : Fun K "is_line_over" "is_line_over" sIsLine f fd) (M : Mx mg) (gDict : mg "dict" = none) (HAr : Has P w K mg base k "_are_hearings" ["letters", "value"] (spAreHear K)) :
    FnG P w K mg base CX0 (k + 1) f fd ["letters", "value"] (spIsLine K) := by
  refine okG F scIsLine (fun vs H Q E h => ?_) (fun cdv A hA outer s H vs Q E hr h => ?_)
  · obtain ⟨S, d, hr, rfl, _⟩ := h; rfl
  · obtain ⟨S, d, hg, rfl, hd, ok, hS, q⟩ := h
    have nd := scIsLine.nd
    refine ⟨_, (pss_cons (ps_ifU (pt_cl (PW.pt (pw_orU (pt_not (pt_u (pe_callB call_isi (by rfl) M.isi b_isi (pa_cons (uv 1) (pa_cons (pe_bltn (by rfl) gDict b_dict (v := .ty "dict") (by rfl)) pa_nil))))) (pw_or1 (pt_cu (r := eqU K true) (o_ne hr.units) (pe_callB c_len (by rfl) M.len b_len (pa_cons (uv 1) pa_nil)) (pe_callB c_len (by rfl) M.len b_len (pa_cons (uv 0) pa_nil))))))) (pss_one (ps_ret pe_bl)) pss_nil)
      (pss_one (ps_ret (pe_callB (c_all rfl) (by rfl) M.all b_all (pa_cons (pe_lc (own := [("letter", 2)]) (g := gName 2) (tt := tYes) rfl nd (pi_str (uv 0)) (blkOk_by (N := nIL) (sc := defScope sIsLine) (by decide +kernel))
          (fun _ _ _ _ _ => pg_name (i := 2) nd rfl (Or.inl rfl)) (fun _ _ _ _ _ => pts_nil)
          (fun _ _ _ _ _ => (pe_andU (pe_din (Room.u1 hr) (uv 2) (uv 1)) (pe_one (pe_callH HAr hA hr (by rfl) (pa_cons (uv 0) (pa_cons (pe_dget (Room.u1 hr) (uv 1) (uv 2) (fun _ _ => rfl)) pa_nil))))))) pa_nil))))), ?_⟩
    have sl := sizeLine_eq
    obtain ⟨kvs, d1, d2, d3⟩ := hd
    refine ⟨fun b H' => b = false ∧ H' = H, ?_, fun b H1 z => ?_⟩
    · refine ⟨_, _, _, _, true, rfl, .ty _, .base (.dK d1), rfl, .no ?_⟩
      refine .inr ⟨kvs, d1, ?_⟩
      refine ⟨by show (cs (T S)).length ≤ sizeLine; rw [cs_T]; omega, ?_⟩
      refine ⟨?_, rfl⟩
      show (!decide ((kvs.length : Int) = ((cs (T S)).length : Int))) = false
      rw [cs_T, decide_eq_true (by omega)]; rfl
    obtain ⟨rfl, rfl⟩ := z
    refine .no ?_
    dsimp only [tNext, tRet, tCB, tCons]
    refine lc_str (l := S) (H1 := H1) (by exact fun _ h => h) (fun D pre acc H2 => H1 D = none ∧ Same H1 H2 ∧ H2 D = some (.lst acc) ∧ acc = (pre.map fun _ => true).map V.bl) (fun D nD => ⟨nD, same_upd nD, upd_same, rfl⟩) (fun D nD pre acc c suf H2 e r => ?_) (fun D nD acc H2 r => ?_)
    · obtain ⟨_, e1, hD, rfl⟩ := r
      obtain ⟨v, hv, ha⟩ := d3 c (by rw [e]; simp)
      have g : ∀ H3, Same H1 H3 → DGet H3 d (.str (T [c])) (some v) := fun H3 e3 => by
        have := DGet.k (k := .inr (T [c])) (e3 _ _ d1)
        rw [hv] at this
        exact this
      refine ⟨rfl, d, _, rfl, g H2 e1, .yes ?_⟩
      refine ⟨d, v, rfl, g H2 e1, ?_⟩
      refine ⟨S, v, hg c, rfl, ha.ext e1, ok c (by rw [e]; simp), hS, fun H3 e3 => ?_⟩
      refine ⟨_, e3 _ _ hD, ?_, _, nD, ?_, upd_same, ?_⟩
      · have : pre.length < S.length := by rw [e]; simp
        simp [lets]; omega
      · exact fun b o hb => by
          have : b ≠ D := fun z => by rw [z, nD] at hb; cases hb
          rw [upd_ne this]; exact (e1.trans e3) _ _ hb
      · simp [lets]
    · obtain ⟨_, e1, hD, rfl⟩ := r
      refine ⟨_, .inl (.inl hD), ?_⟩
      have e2 : (((lets S).map fun _ => true).all id) = true := by simp
      show Q (.bl (((lets S).map fun _ => true).all id)) _
      rw [e2]
      exact q _ e1
abbrev nNL : List Str := ["machine", "value"]
theorem scNeedLine : FnScope nNL ["machine", "value"] (defScope sNeedLine) := ⟨rfl, rfl, rfl, by decide +kernel, rfl, by decide +kernel, by decide +kernel⟩
def spNeedLine (K : PySem.W.Frag) (C : Addr) : Sp := fun vs H Q _ => ∃ (a d : Addr) (S : List Nat) (R : Rows) (Kd : List Bool) (hr : Nat → List (List Nat)), vs = [.ref a, .ref d] ∧ Mach C H a S R Kd ∧ LineAt K H d S hr ∧ LineOk S hr ∧ S.length ≤ 1000 ∧ ∀ H', Same H H' → Q .non H'
theorem ok_needLine {f : Addr} {fd : FuncData} {k : Nat} (F : Fun K "_need_line" "_need_line" sNeedLine f fd) (M : Mx mg) (cM : ClsM K C) (HL : HasP P w K mg base k C "letters" (getSp C "_letters")) (HIL : Has P w K mg base (k + 1) "is_line_over" ["letters", "value"] (spIsLine K)) :
    FnG P w K mg base CX0 (k + 2) f fd ["machine", "value"] (spNeedLine K C) := by
  refine okG F scNeedLine (fun vs H Q E h => ?_) (fun cdv A hA outer s H vs Q E hr h => ?_)
  · obtain ⟨a, d, S, R, Kd, hr, rfl, _⟩ := h; rfl
  · obtain ⟨a, d, S, R, Kd, hg, rfl, hm, hd, ok, hS, q⟩ := h
    refine ⟨_, (pss_one (ps_ifU (pt_not (pt_u (pe_callH HIL hA hr (by rfl) (pa_cons (pe_propH HL cM.cls hr (uv 0)) (pa_cons (uv 1) pa_nil))))) (pss_one ps_never) pss_nil)), ?_⟩
    obtain ⟨dx, r, kk, rs, h1, h2, h3, h4, h5⟩ := id hm
    refine ⟨a, dx, _, rfl, h1, ⟨a, dx, _, .str (T S), rfl, h1, rfl, ?_⟩⟩
    refine ⟨S, d, hg, rfl, hd, ok, hS, fun H1 e1 => ?_⟩
    exact .no (q H1 e1)
abbrev nHA : List Str := ["letters", "line", "hearing", "index", "letter"]
theorem scHeardAs : FnScope nHA ["letters", "line", "hearing"] (defScope sHeardAs) := ⟨rfl, rfl, rfl, by decide +kernel, rfl, by decide +kernel, by decide +kernel⟩
def spHeardAs (K : PySem.W.Frag) : Sp := fun vs H Q _ => ∃ (S : List Nat) (d : Addr) (h : List Nat) (hr : Nat → List (List Nat)), vs = [.str (T S), .ref d, .str (T h)] ∧ LineAt K H d S hr ∧ S.length ≤ 1000 ∧ ∀ H' l, Same H H' → H l = none → H' l = some (.lst (iv (heardAs S hr h))) → Q (.ref l) H'
theorem ok_heardAs {f : Addr} {fd : FuncData} {k : Nat} (F : Fun K "_heard_as" "_heard_as" sHeardAs f fd) (M : Mx mg) :
    FnG P w K mg base CX0 (k + 1) f fd ["letters", "line", "hearing"] (spHeardAs K) := by
  refine okG F scHeardAs (fun vs H Q E h => ?_) (fun cdv A hA outer s H vs Q E hr h => ?_)
  · obtain ⟨S, d, h, hr, rfl, _⟩ := h; rfl
  · obtain ⟨S, d, h, hg, rfl, hd, hS, q⟩ := h
    have nd := scHeardAs.nd
    refine ⟨_, (pss_one (ps_ret (pe_lc (own := [("index", 3), ("letter", 4)]) (g := gTup K 2 (gCons (gName 3) (gCons (gName 4) gNil))) rfl nd (pi_enumS (by rfl) M.enumerate (pa_cons (uv 0) pa_nil)) (blkOk_by (N := nHA) (sc := defScope sHeardAs) (by decide +kernel))
          (fun _ _ _ _ _ => (pg_tup rfl (pgs_cons (pg_name (i := 3) nd rfl (Or.inl rfl)) (pgs_cons (pg_name (i := 4) nd rfl (Or.inl rfl)) pgs_nil)))) (fun _ _ _ _ _ => pts_one (pt_cu (r := inTx K) (o_inTx (Room.u65 hr)) (uv 2) (pe_dget (Room.u1 hr) (uv 1) (uv 4) (fun _ _ => rfl))))
          (fun _ _ _ _ _ => (uv 3))))), ?_⟩
    have sl := sizeLine_eq
    obtain ⟨kvs, d1, d2, d3⟩ := hd
    dsimp only [tRet]
    refine lc_enSF (l := S) (H1 := H) (by exact fun _ h => h) (fun D i acc H2 => Same H H2 ∧ H2 D = some (.lst acc) ∧ acc = iv ((List.range i).filter fun j => decide (h ∈ hg (S.getD j 0)))) (fun D nD => ⟨same_upd nD, upd_same, rfl⟩) (fun D nD i c p acc H2 hc r np => ?_) (fun D nD acc H2 r => ?_)
    · obtain ⟨e1, hD, rfl⟩ := r
      have hcm : c ∈ S := List.mem_of_getElem? hc
      have hgd : S.getD i 0 = c := by rw [List.getD_eq_getElem?_getD, hc]; rfl
      have hil : i < S.length := (List.getElem?_eq_some_iff.mp hc).1
      obtain ⟨v, hv, ha⟩ := d3 c hcm
      have np' : p ≠ D := fun z => by rw [z, hD] at np; cases np
      have e2 := e1.trans (same_upd (o := .tup [.int (i : Nat), .str (T [c])]) np)
      refine ⟨p, _, rfl, .inl (.inl upd_same), rfl, _, _, rfl, _, _, rfl, rfl, ?_⟩
      refine ⟨rfl, ?_⟩
      have g : DGet (upd H2 p (.tup [.int (i : Nat), .str (T [c])])) d (.str (T [c])) (some v) := by
        have := DGet.k (k := .inr (T [c])) (e2 _ _ d1)
        rw [hv] at this
        exact this
      refine ⟨d, v, rfl, g, ?_⟩
      obtain ⟨av, tp, rfl, hq⟩ := ha.ext e2
      refine inTx_of hq ?_
      have rs : (List.range (i + 1)).filter (fun j => decide (h ∈ hg (S.getD j 0))) = (List.range i).filter (fun j => decide (h ∈ hg (S.getD j 0))) ++ if h ∈ hg c then [i] else [] := by
        rw [List.range_succ, List.filter_append]
        congr 1
        by_cases hh : h ∈ hg c
        · rw [if_pos hh, List.filter_cons_of_pos (by rw [hgd]; exact decide_eq_true hh)]; rfl
        · rw [if_neg hh, List.filter_cons_of_neg (by rw [hgd]; simpa using hh)]; rfl
      by_cases hh : h ∈ hg c
      · rw [decide_eq_true hh]
        dsimp only [asB]
        rw [if_pos rfl]
        have hD2 : upd H2 p (.tup [.int (i : Nat), .str (T [c])]) D = some (.lst (iv ((List.range i).filter fun j => decide (h ∈ hg (S.getD j 0))))) := by rw [upd_ne np'.symm]; exact hD
        refine ⟨_, hD2, ?_, _, ?_, upd_same, ?_⟩
        · rw [List.length_map]
          have := List.length_filter_le (fun j => decide (h ∈ hg (S.getD j 0))) (List.range i)
          rw [List.length_range] at this
          omega
        · exact fun b o hb => by
            have : b ≠ D := fun z => by rw [z, nD] at hb; cases hb
            rw [upd_ne this]; exact e2 _ _ hb
        · rw [rs, if_pos hh]; exact (iv_app _ [i]).symm
      · rw [decide_eq_false hh]
        dsimp only [asB]
        rw [if_neg (by decide)]
        refine ⟨_, e2, by rw [upd_ne np'.symm]; exact hD, ?_⟩
        rw [rs, if_neg hh, List.append_nil]
    · obtain ⟨e1, hD, rfl⟩ := r
      exact q _ D e1 nD hD
abbrev nNP : List Str := ["machine", "most"]
theorem scNeedPl : FnScope nNP ["machine", "most"] (defScope sNeedPl) := ⟨rfl, rfl, rfl, by decide +kernel, rfl, by decide +kernel, by decide +kernel⟩
def spNeedPl (C : Addr) : Sp := fun vs H Q _ => ∃ (a : Addr) (S : List Nat) (R : Rows) (Kd : List Bool) (n : Nat), vs = [.ref a, .int n] ∧ Mach C H a S R Kd ∧ R.length ≤ n ∧ R.length ≤ 1000 ∧ Q .non H
theorem ok_needPl {f : Addr} {fd : FuncData} {k : Nat} (F : Fun K "need_places" "need_places" sNeedPl f fd) (M : Mx mg) (cM : ClsM K C) (HLen : HasM P w K mg base k C "__len__" [] (spLen C)) :
    FnG P w K mg base CX0 (k + 2) f fd ["machine", "most"] (spNeedPl C) := by
  refine okG F scNeedPl (fun vs H Q E h => ?_) (fun cdv A hA outer s H vs Q E hr h => ?_)
  · obtain ⟨a, S, R, Kd, n, rfl, _⟩ := h; rfl
  · obtain ⟨a, S, R, Kd, n, rfl, hm, hn, hn2, q⟩ := h
    refine ⟨_, (pss_one (ps_ifU (pt_cu o_gt (pe_callB (c_lenI HLen hA hr) (by rfl) M.len b_len (pa_cons (uv 0) pa_nil)) (uv 1)) (pss_one ps_never) pss_nil)), ?_⟩
    obtain ⟨dx, r, kk, rs, h1, h2, h3, h4, h5⟩ := id hm
    refine ⟨dx, _, h1, a, S, R, Kd, rfl, hm, R.length, rfl, by omega, ?_⟩
    have e : decide ((n : Int) < (R.length : Int)) = false := decide_eq_false (by omega)
    show Br (decide ((n : Int) < (R.length : Int))) _ _
    rw [e]
    exact .no q
end
end LK

/-! a nested def whose own names are cells too (a comprehension of it reads them) -/
namespace LK
open PySem PySem.Spec PyProof.Rows L2 LamX ClX NdefX
open scoped List
theorem cellsFrom_app : ∀ (names : List (Str × NameKind)) (n : Nat) (acc : List (Str × Addr)), cellsFrom n names acc = cellsFrom n names [] ++ acc
  | [], n, acc => rfl
  | (name, kind) :: r, n, acc => by
    unfold cellsFrom
    split
    · rw [cellsFrom_app r (n + 1) ((name, n) :: acc), cellsFrom_app r (n + 1) [(name, n)]]; simp
    · exact cellsFrom_app r n acc
theorem cellsFrom_kind : ∀ (names : List (Str × NameKind)) (n : Nat) (x : Str) (c : Addr), (x, c) ∈ cellsFrom n names [] → (x, NameKind.cell) ∈ names
  | [], n, x, c, h => by cases h
  | (name, kind) :: r, n, x, c, h => by
    unfold cellsFrom at h
    split at h
    · rename_i hk
      rw [cellsFrom_app] at h
      rcases List.mem_append.mp h with h | h
      · exact List.mem_cons_of_mem _ (cellsFrom_kind r _ x c h)
      · obtain rfl : kind = NameKind.cell := by simpa using hk
        rw [List.mem_singleton.mp h |> Prod.mk.inj |>.1]
        exact List.mem_cons_self
    · exact List.mem_cons_of_mem _ (cellsFrom_kind r _ x c h)
theorem look_app {l acc : List (Str × Addr)} {n : Str} {c : Addr} (h : (l ++ acc).lookup n = some c) : l.lookup n = some c ∨ (l.lookup n = none ∧ acc.lookup n = some c) := by
  rw [List.lookup_append] at h
  cases e : l.lookup n with
  | none => rw [e] at h; exact .inr ⟨rfl, h⟩
  | some d => rw [e] at h; exact .inl h
theorem look_app1 {l acc : List (Str × Addr)} {n : Str} {c : Addr} (h : l.lookup n = some c) : (l ++ acc).lookup n = some c := by rw [List.lookup_append, h]; rfl
theorem look_app2 {l acc : List (Str × Addr)} {n : Str} (h : l.lookup n = none) : (l ++ acc).lookup n = acc.lookup n := by rw [List.lookup_append, h]; rfl
/-- a frame at L that is being filled: what its namespace holds, and what the cells hold that it reads (some of them older than the frame) -/
structure FillC (before : Shared) (L : Addr) (names : Str → Option Value) (cs : List (Str × Addr)) (held : Str → Option Value) (now : Shared) : Prop where
  frame : InCall before L names now
  holds : ∀ x a, cs.lookup x = some a → now.heap.IsCell a (held x)
  unlike : ∀ x y a, cs.lookup x = some a → cs.lookup y = some a → x = y
  off : ∀ x a, cs.lookup x = some a → a ≠ L
section
variable {M : Model} {A : Around} {E : Value → Shared → Prop} {before now : Shared} {names held : Str → Option Value} {env : Env}
theorem FillC.local_ {x : Str} {v : Value} {Q : Unit → Shared → Prop} (f : FillC before env.locals names env.cells held now) (fn : env.scope.kind = .function) (hx : env.kindOf x = some .local)
    (q : ∀ next, FillC before env.locals (fun y => if y = x then some v else names y) env.cells held next → Q () next) : wpAny M A (storeName env x v) Q E now :=
  wpAny_storeName_local hx f.frame.ns (fun h2 n2 only => q _
    { frame := ⟨by obtain ⟨h0, t0, rfl⟩ := f.frame.same; exact ⟨h2, _, rfl⟩, n2, fun b o old => only.extBut b o (fun z => Nat.lt_irrefl _ (Nat.lt_of_lt_of_le (z ▸ Heap.lt_size old) f.frame.fresh)) (f.frame.keep b o old), f.frame.fresh⟩
      holds := fun y a hy => (f.holds y a hy).sameBut only (f.off y a hy)
      unlike := f.unlike
      off := f.off }) (by rw [fn]; rfl)
theorem FillC.cell_ {x : Str} {a : Addr} {v : Value} {Q : Unit → Shared → Prop} (f : FillC before env.locals names env.cells held now) (fn : env.scope.kind = .function) (hx : env.kindOf x = some .cell)
    (ha : env.cells.lookup x = some a) (behind : env.locals < a) (q : ∀ next, FillC before env.locals names env.cells (fun y => if y = x then some v else held y) next → Q () next) : wpAny M A (storeName env x v) Q E now :=
  wpAny_storeName_cell fn hx ha (f.holds x a ha) fun h2 c2 only => q _
    { frame := ⟨by obtain ⟨h0, t0, rfl⟩ := f.frame.same; exact ⟨h2, _, rfl⟩, f.frame.ns.sameBut only (fun z => Nat.lt_irrefl _ (z ▸ behind)),
        fun b o old => only.extBut b o (fun z => Nat.lt_irrefl _ (Nat.lt_trans (Nat.lt_of_lt_of_le (z ▸ Heap.lt_size old) f.frame.fresh) behind)) (f.frame.keep b o old), f.frame.fresh⟩
      holds := fun y b hy => by
        by_cases same : y = x
        · subst same
          cases ha.symm.trans hy
          simpa using c2
        · rw [if_neg same]
          exact (f.holds y b hy).sameBut only fun z => same (f.unlike y x a (z ▸ hy) ha)
      unlike := f.unlike
      off := f.off }
/-- the arguments are laid, one by one -/
theorem FillC.args (step : Str × Value → PUnit → Sem (ForInStep PUnit)) (hstep : ∀ x v u, step (x, v) u = (do storeName env x v; pure (.yield ⟨⟩))) (fn : env.scope.kind = .function) {Q : PUnit → Shared → Prop} (todo : List (Str × Value)) :
    ∀ (names held : Str → Option Value) (now : Shared), FillC before env.locals names env.cells held now →
      (∀ e ∈ todo, env.kindOf e.1 = some .local ∨ (env.kindOf e.1 = some .cell ∧ ∃ a, env.cells.lookup e.1 = some a ∧ env.locals < a)) →
      (∀ next, FillC before env.locals (bindL env.kindOf todo names) env.cells (bindC env.kindOf todo held) next → Q ⟨⟩ next) → wpAny M A (forIn todo ⟨⟩ step) Q E now := by
  induction todo with
  | nil =>
    intro names held now f _ q
    rw [List.forIn_nil]
    exact wpAny_pure (q now f)
  | cons e todo ih =>
    intro names held now f kinds q
    obtain ⟨x, v⟩ := e
    have later := fun e he => kinds e (List.mem_cons_of_mem (x, v) he)
    rw [List.forIn_cons, hstep]
    rcases kinds (x, v) List.mem_cons_self with loc | ⟨cel, a, ha, behind⟩
    · refine wpAny_bind (wpAny_bind (f.local_ fn loc fun next f2 => wpAny_pure (ih _ _ next f2 later fun last f3 => q last ?_)))
      have eL : bindL env.kindOf ((x, v) :: todo) names = bindL env.kindOf todo (fun y => if y = x then some v else names y) := by rw [bindL, if_pos loc]
      have eC : bindC env.kindOf ((x, v) :: todo) held = bindC env.kindOf todo held := by rw [bindC, if_pos loc]
      rw [eL, eC]
      exact f3
    · have noloc : env.kindOf x ≠ some .local := fun z => by rw [show env.kindOf x = some .cell from cel] at z; cases z
      refine wpAny_bind (wpAny_bind (f.cell_ fn cel ha behind fun next f2 => wpAny_pure (ih _ _ next f2 later fun last f3 => q last ?_)))
      have eL : bindL env.kindOf ((x, v) :: todo) names = bindL env.kindOf todo names := by rw [bindL, if_neg noloc]
      have eC : bindC env.kindOf ((x, v) :: todo) held = bindC env.kindOf todo (fun y => if y = x then some v else held y) := by rw [bindC, if_neg noloc]
      rw [eL, eC]
      exact f3
end
section
variable {M : Model} {A : Around} {E : Value → Shared → Prop} {now : Shared}
/-- what lies in a cell -/
def inCell (h : Heap) (a : Addr) : Option Value := ((h.get? a).map (·.data)).elim none fun d => match d with
  | .cell v => v
  | _ => none
theorem inCell_of {h : Heap} {a : Addr} {v : Option Value} (c : h.IsCell a v) : inCell h a = v := by
  obtain ⟨ob, get, dat⟩ := c
  simp only [inCell, get, Option.map_some, Option.elim_some, dat]
/-- the entry of a function that has captured cells and cells of its own -/
theorem enter_both {scope : Scope} {globals : Addr} {old : List (Str × Addr)} {binds : List (Str × Value)} {qual : Str} {func : Option Addr} {code : Value} {builtins : Addr} {Q : Env → Shared → Prop}
    (fn : scope.kind = .function) (cells : ∀ x a, old.lookup x = some a → ∃ v, now.heap.IsCell a v) (unlike : ∀ x y a, old.lookup x = some a → old.lookup y = some a → x = y)
    (kinds : ∀ e ∈ binds, scope.names.lookup e.1 = some .local ∨ scope.names.lookup e.1 = some .cell)
    (q : ∀ env, env = newEnv scope now.heap.objs.size globals (cellsFrom (now.heap.objs.size + 1) scope.names old) qual func code none builtins →
      ∀ held next, FillC now env.locals (bindL env.kindOf binds fun _ => none) env.cells (bindC env.kindOf binds held) next → Q env next) :
    wpAny M A (newFunctionEnv scope globals old binds qual func code none builtins) Q E now := by
  let frame : Heap := now.heap.push { cls := .type "frame", data := .dict #[] }
  have size1 : frame.objs.size = now.heap.objs.size + 1 := Heap.size_push ..
  have own : CellsOk (pushCells frame scope.names) (now.heap.objs.size + 1) (cellsFrom (now.heap.objs.size + 1) scope.names []) := by
    have z := cellsFrom_ok scope.names frame (now.heap.objs.size + 1) [] ⟨fun _ _ m => (nomatch m), .nil⟩ (Nat.le_of_eq size1.symm)
    rwa [size1] at z
  have both : cellsFrom (now.heap.objs.size + 1) scope.names old = cellsFrom (now.heap.objs.size + 1) scope.names [] ++ old := cellsFrom_app _ _ _
  have kept : ∀ b o, now.heap.get? b = some o → (pushCells frame scope.names).get? b = some o := fun b o g => pushCells_keeps scope.names frame b o (Heap.get?_push_of_some _ g)
  have older : ∀ x a, old.lookup x = some a → a < now.heap.objs.size := fun x a h => (cells x a h).elim fun _ c => c.lt
  have newer : ∀ x a, (cellsFrom (now.heap.objs.size + 1) scope.names []).lookup x = some a → now.heap.objs.size < a := fun x a h => (own.empty x a (PySem.mem_of_lookup h)).2
  have split : ∀ x a, (cellsFrom (now.heap.objs.size + 1) scope.names old).lookup x = some a → (cellsFrom (now.heap.objs.size + 1) scope.names []).lookup x = some a ∨ ((cellsFrom (now.heap.objs.size + 1) scope.names []).lookup x = none ∧ old.lookup x = some a) := fun x a h => look_app (both ▸ h)
  unfold newFunctionEnv
  simp only [Option.isSome_none, Bool.false_eq_true, if_false]
  refine wpAny_bind (wpAny_alloc (wpAny_bind (wpAny_layCells _ (fun x k cs => by cases e : k == NameKind.cell <;> simp [e]) scope.names old _ _ ?_)))
  show wpAny M A _ _ E { now with heap := pushCells frame scope.names }
  have sz : ({ now with heap := frame } : Shared).heap.objs.size = now.heap.objs.size + 1 := size1
  rw [show (({ now with heap := now.heap.push { cls := .type "frame", data := .dict #[] } } : Shared)).heap.objs.size = now.heap.objs.size + 1 from sz]
  refine wpAny_bind (FillC.args (before := now) (env := newEnv scope now.heap.objs.size globals (cellsFrom (now.heap.objs.size + 1) scope.names old) qual func code none builtins) _ (fun _ _ _ => rfl) fn binds (fun _ => none)
    (fun x => ((cellsFrom (now.heap.objs.size + 1) scope.names []).lookup x).elim ((old.lookup x).elim none (inCell now.heap)) fun _ => none) _
    { frame := ⟨⟨_, _, rfl⟩, (Heap.Ns.new now.heap (.type "frame")).keeps (pushCells_keeps _ _), kept, Nat.le_refl _⟩
      holds := fun x a h => ?_
      unlike := fun x y a hx hy => ?_
      off := fun x a h => ?_ } (fun e he => ?_) fun next f => wpAny_pure (q _ rfl _ next f))
  · rcases split x a h with mine | ⟨none_, his⟩
    · rw [mine]; exact (own.empty x a (PySem.mem_of_lookup mine)).1
    · rw [none_, his]
      obtain ⟨v, c⟩ := cells x a his
      show Heap.IsCell _ a (inCell now.heap a)
      rw [inCell_of c]; exact c.keeps kept
  · rcases split x a hx with m1 | ⟨_, o1⟩ <;> rcases split y a hy with m2 | ⟨_, o2⟩
    · exact name_of_addr own.apart (PySem.mem_of_lookup m1) (PySem.mem_of_lookup m2)
    · exact (Nat.lt_irrefl _ (Nat.lt_trans (newer x a m1) (older y a o2))).elim
    · exact (Nat.lt_irrefl _ (Nat.lt_trans (newer y a m2) (older x a o1))).elim
    · exact unlike x y a o1 o2
  · rcases split x a h with mine | ⟨_, his⟩
    · exact fun z => Nat.lt_irrefl _ (z ▸ newer x a mine)
    · exact fun z => Nat.lt_irrefl _ (z ▸ older x a his)
  · rcases kinds e he with loc | cel
    · exact .inl loc
    · obtain ⟨a, mine⟩ := cell_has (n := now.heap.objs.size + 1) cel
      refine .inr ⟨cel, a, ?_, newer e.1 a mine⟩
      show (cellsFrom (now.heap.objs.size + 1) scope.names old).lookup e.1 = some a
      rw [both]; exact look_app1 mine
end
/-- a nested def's names, in their sequence: parameters, captured names, the rest; its own may be cells -/
structure NScopeC (N ps fr : List Str) (sc : Scope) : Prop where
  fn : sc.kind = .function
  noco : sc.isCoroutine = false
  nogen : sc.isGenerator = false
  uniq : N.Nodup
  head : N.take (ps.length + fr.length) = ps ++ fr
  pars : ∀ x ∈ ps, sc.names.lookup x = some .local ∨ sc.names.lookup x = some .cell
  apart : ∀ e ∈ sc.names, e.2 = .cell → e.1 ∉ fr
  frs : ∀ e ∈ sc.names, e.2 = .free → e.1 ∈ fr
  isFr : ∀ x ∈ fr, sc.names.lookup x = some .free
abbrev envFC (F : NF) (f L : Addr) : Env := PySem.W.envX F.qual F.scope L f (.ref F.c) (cellsFrom (L + 1) F.scope.names F.cl)
/-- the context of its body: ncx's, with the cells of its own before the captured ones -/
def ncxC (CX : CXT) (P : Program) (w : World) (K : PySem.W.Frag) (mg : Str → Option Value) (base : Heap) (N : List Str) (F : NF) (f : Addr) (A : Around) (outer : List Env) (s : Shared) (H : Hp) (E : XK) : Cx :=
  { ncx CX P w K mg base N F f A outer s H E with
    A := A.deeper (envFC F f s.heap.objs.size)
    env := envFC F f s.heap.objs.size
    stack := envFC F f s.heap.objs.size :: outer
    xe := fun e t => wpAny (model P w) (A.deeper (envFC F f s.heap.objs.size)) (leaving (envFC F f s.heap.objs.size) e) (fun _ t2 => CX outer H s E e t2) (fun e2 t2 => CX outer H s E e2 t2) t }
/-- a slot that holds something at the entry is a parameter's or a captured name's -/
theorem slot_at {N ps fr : List Str} {vs : List V} {ws : List (Option V)} {i : Nat} {v : V} (hv : vs.length = ps.length) (hw : ws.length = fr.length) (h : (startF N vs ws)[i]? = some (some v)) :
    (i < ps.length ∧ vs[i]? = some v) ∨ ∃ j, i = ps.length + j ∧ j < fr.length ∧ ws[j]? = some (some v) := by
  have e : startF N vs ws = (vs.map some ++ ws) ++ List.replicate (N.length - vs.length - ws.length) none := (List.append_assoc ..).symm
  rw [e] at h
  have l1 : (vs.map some ++ ws).length = ps.length + fr.length := by rw [List.length_append, List.length_map, hv, hw]
  rcases Nat.lt_or_ge i (ps.length + fr.length) with a | a
  · rw [List.getElem?_append_left (l1 ▸ a)] at h
    rcases Nat.lt_or_ge i ps.length with b | b
    · rw [List.getElem?_append_left (by rw [List.length_map, hv]; exact b), List.getElem?_map] at h
      obtain ⟨x, hx, ex⟩ := Option.map_eq_some_iff.mp h
      cases ex
      exact .inl ⟨b, hx⟩
    · rw [List.getElem?_append_right (by rw [List.length_map, hv]; exact b), List.length_map, hv] at h
      exact .inr ⟨i - ps.length, by omega, by omega, h⟩
  · rw [List.getElem?_append_right (l1 ▸ a), List.getElem?_replicate] at h
    split at h
    · cases h
    · cases h
section
variable {CX : CXT} {P : Program} {w : World} {K : PySem.W.Frag} {mg : Str → Option Value} {base : Heap} {N ps fr : List Str} {F : NF} {f : Addr} {A : Around} {outer : List Env} {s now : Shared} {H : Hp} {E : XK} {us : List Value} {vs : List V} {ws : List (Option V)} {k : Nat} {sp : List (Option V) → Sp}
theorem inv_startC {held : Str → Option Value} (S : NScopeC N ps fr F.scope) (quiet : A.handled = none) (e0 : Env0 P w K mg base A outer s H) (lv : vs.length = ps.length) (r : Vals vs us) (C : CellsAt F.cl fr ws s.heap H)
    (x : FillC s s.heap.objs.size (bindL (envFC F f s.heap.objs.size).kindOf (ps.zip us) fun _ => none) (cellsFrom (s.heap.objs.size + 1) F.scope.names F.cl) (bindC (envFC F f s.heap.objs.size).kindOf (ps.zip us) held) now) :
    Inv (ncxC CX P w K mg base N F f A outer s H E) [] (startF N vs ws) H now := by
  obtain ⟨h1, t1, rfl, old⟩ := x.frame.done
  have both : cellsFrom (s.heap.objs.size + 1) F.scope.names F.cl = cellsFrom (s.heap.objs.size + 1) F.scope.names [] ++ F.cl := cellsFrom_app _ _ _
  have inFr : ∀ {j : Nat} {y : Str}, fr[j]? = some y → ∃ a, (cellsFrom (s.heap.objs.size + 1) F.scope.names F.cl).lookup y = some a ∧ ∀ v, ws[j]? = some (some v) → ∃ u, L2.RelV v u ∧ h1.IsCell a (some u) := fun {j y} hj => by
    obtain ⟨a, ha, told⟩ := C.has j y hj
    have own : (cellsFrom (s.heap.objs.size + 1) F.scope.names []).lookup y = none := by
      cases e : (cellsFrom (s.heap.objs.size + 1) F.scope.names []).lookup y with
      | none => rfl
      | some b => exact (S.apart _ (cellsFrom_kind _ _ y b (PySem.mem_of_lookup e)) rfl (List.mem_of_getElem? hj)).elim
    refine ⟨a, by rw [both, look_app2 own]; exact ha, fun v hv => ?_⟩
    obtain ⟨u, ru, c⟩ := told v hv
    exact ⟨u, ru, c.keeps old⟩
  have none_ex : ∀ b : Addr, b ∉ (ncxC CX P w K mg base N F f A outer s H E).ex := fun b z => nomatch (show b ∈ ([] : List Addr) from z)
  have named : ∀ i, i < ps.length + fr.length → N[i]? = (ps ++ fr)[i]? := fun i hi => by rw [← S.head, List.getElem?_take_of_lt hi]
  have room : ps.length + fr.length ≤ N.length := by
    have z : (N.take (ps.length + fr.length)).length = (ps ++ fr).length := by rw [S.head]
    rw [List.length_take, List.length_append] at z
    omega
  have unlikePs : ps.Nodup := (List.nodup_append.mp (S.head ▸ (List.take_sublist _ N).nodup S.uniq : (ps ++ fr).Nodup)).1
  exact
    { ok :=
        { mod := e0.mod
          kind := S.fn
          glob := rfl
          blt := rfl
          above := Nat.le_refl _
          inj := x.unlike
          has := fun y hy => by
            rcases (show F.scope.names.lookup y = some .cell ∨ F.scope.names.lookup y = some .free from hy) with c | c
            · obtain ⟨a, ha⟩ := cell_has (n := s.heap.objs.size + 1) c
              exact ⟨a, by show (cellsFrom (s.heap.objs.size + 1) F.scope.names F.cl).lookup y = some a; rw [both]; exact look_app1 ha⟩
            · obtain ⟨j, hj⟩ := List.mem_iff_getElem?.mp (S.frs _ (PySem.mem_of_lookup c) rfl)
              obtain ⟨a, ha, _⟩ := inFr hj
              exact ⟨a, ha⟩
          cab := fun y a z _ => nomatch (show false = true from z)
          hd := fun _ => quiet
          frames := Around.frames_deeper e0.frames
          stk := .inr ⟨rfl, rfl⟩
          exf := fun b z => (none_ex b z).elim
          bs := e0.bs
          bsz := e0.bsz
          noex := fun b _ _ => none_ex b
          exfs := fun b z => (none_ex b z).elim
          funs := e0.funs
          frf := e0.frf }
      os := rfl
      bare := e0.bare
      base := Un.kept old
      loc := ⟨_, x.frame.ns, fun i y v hy hi _ => by
        have hy : N[i]? = some y := hy
        rcases slot_at lv C.len hi with ⟨li, hvi⟩ | ⟨j, rfl, lj, hw⟩
        · have hp : ps[i]? = some y := by rw [← hy, named i (by omega), List.getElem?_append_left li]
          obtain ⟨u, hu, ru⟩ := r.get hvi
          rcases S.pars y (List.mem_of_getElem? hp) with loc | cel
          · exact ⟨u, ru, .inl ⟨loc, bindL_get unlikePs hp hu loc⟩⟩
          · obtain ⟨a, ha⟩ := cell_has (n := s.heap.objs.size + 1) cel
            have here : (cellsFrom (s.heap.objs.size + 1) F.scope.names F.cl).lookup y = some a := by rw [both]; exact look_app1 ha
            have c := x.holds y a here
            rw [bindC_get unlikePs hp hu (fun z => by rw [show (envFC F f s.heap.objs.size).kindOf y = some .cell from cel] at z; cases z)] at c
            exact ⟨u, ru, .inr ⟨.inl cel, a, here, c⟩⟩
        · have hf : fr[j]? = some y := by rw [← hy, named _ (by omega), List.getElem?_append_right (Nat.le_add_right _ _), Nat.add_sub_cancel_left]
          obtain ⟨a, ha, told⟩ := inFr hf
          obtain ⟨u, ru, c⟩ := told v hw
          exact ⟨u, ru, .inr ⟨.inr (S.isFr y (List.mem_of_getElem? hf)), a, ha, c⟩⟩⟩
      cell := fun y a ha => ⟨_, x.holds y a ha⟩
      free := e0.hok.fresh (Nat.le_refl _)
      freeC := fun y a ha => by
        rcases look_app (both ▸ (show (cellsFrom (s.heap.objs.size + 1) F.scope.names F.cl).lookup y = some a from ha)) with mine | ⟨_, his⟩
        · have z := cellsFrom_ok F.scope.names (s.heap.push { cls := .type "frame", data := .dict #[] }) (s.heap.objs.size + 1) [] ⟨fun _ _ m => (nomatch m), .nil⟩ (Nat.le_of_eq (Heap.size_push ..).symm)
          rw [Heap.size_push] at z
          exact e0.hok.fresh (Nat.le_of_lt (z.empty y a (PySem.mem_of_lookup mine)).2)
        · exact (C.all y a his).1
      pin := fun p z => nomatch (show p ∈ ([] : List (Addr × Obj)) from z)
      hok := e0.hok.kept old
      len := by
        show (startF N vs ws).length = N.length
        simp only [startF, List.length_append, List.length_map, List.length_replicate]
        have := C.len
        omega }
/-- the promise of a nested def whose own names may be cells, by its body -/
theorem nokG_ofC (S : NScopeC N ps fr F.scope) (hb : ∀ (doc pm ctv : Value) (us : List Value), us.length = ps.length → bindArgs (F.fd doc pm ctv) ⟨us, []⟩ = pure (ps.zip us)) (many : ∀ ws vs H Q E, sp ws vs H Q E → vs.length = ps.length)
    (body : ∀ (A : Around), A.guards = some [] → ∀ (outer : List Env) (s : Shared) (H : Hp) (vs : List V) (ws : List (Option V)) (Q : VK) (E : XK), Room k (A.deeper (envFC F f s.heap.objs.size)) → H f = some (FnO f F) → H F.c = some (CodeO F.c F.qual) → ws.length = fr.length → sp ws vs H Q E →
      ∃ t, PSs (ncxC CX P w K mg base N F f A outer s H E) F.body t ∧ t { nx := fun _ H2 => Q .non H2, rt := Q } (startF N vs ws) H) :
    NOkG P w K mg base CX (k + 1) f F ps fr sp where
  len := many
  run := fun A guards outer s H us vs ws Q E room e0 hf hc C r told => by
    obtain ⟨_, _, doc, pm, ctv, fnAt⟩ := fnO_at e0.hok hf
    have unlimited : s.heap.NoLimit := e0.mod.nolimit.keeps fun b o g => (e0.bs b o g).1
    refine codeAny_call_function room.depth fnAt rfl S.noco S.nogen rfl (codeO_at e0.hok hc) ?_
    have lus : us.length = ps.length := r.length ▸ many _ _ _ _ _ told
    rw [hb doc pm ctv us lus]
    refine wpAny_pure (enter_both S.fn (fun y a ha => (C.all y a ha).2) C.inj (fun e he => S.pars e.1 (List.of_mem_zip (show (e.1, e.2) ∈ ps.zip us from he)).1) fun env ee held next x => ?_)
    subst ee
    refine ⟨unlimited.keeps x.frame.keep, ?_⟩
    show codeAny _ _ (.func F.body (envFC F f s.heap.objs.size)) _ _
    obtain ⟨t, run, ends⟩ := body A guards outer s H vs ws Q E (room.deeper _) hf hc C.len told
    have start := inv_startC (CX := CX) (E := E) S room.hd e0 (many _ _ _ _ _ told) r C x
    refine codeAny_func (wpAny_mono (run.run [] _ _ H _ start ends) (fun fl t2 z => ?_) fun e t2 z => z)
    have out : ∀ {σ2 : L2.St} {H2 : Hp} {v : V} {u : Value}, L2.RelV v u → Q v H2 → Inv (ncxC CX P w K mg base N F f A outer s H E) [] σ2 H2 t2 → CE outer P w H s Q u t2 :=
      fun {σ2 H2 v u} rv q I => ⟨v, H2, I.os, I.bare, I.base, I.hok, rv, q⟩
    match fl, z with
    | .ret u, ⟨v, _, H2, I, rv, q⟩ => exact out rv q I
    | .next, ⟨_, H2, I, q⟩ => exact out (v := .non) (u := .none) rfl q I
    | .brk, ⟨_, _, _, q⟩ => exact False.elim q
    | .cont, ⟨_, _, _, q⟩ => exact False.elim q
end
end LK

/-! defs with a lambda or a def within -/
namespace LK
open PySem PySem.Spec PyProof.Rows L2 LamX
open scoped List
/-- a def whose code object is known -/
structure FunC (K : PySem.W.Frag) (x qual : Str) (st : Stmt) (f : Addr) (fd : FuncData) (c : Addr) : Prop where
  ex : ∃ (oc : Value) (od : Option Addr) (kV doc pm : Value) (an : Option Addr) (ct : Value) (osl : Array (Option Value)),
    fd = PySem.W.fnOf x qual (defArgs st) (defBody st) (defScope st) .none kV doc pm an (.ref c) ct ∧ K.lookup f = some ⟨oc, od, .func fd, osl⟩ ∧ PySem.W.codeIn K (.ref c) qual = true
  kp : PySem.W.keepIn K (.ref f) = true
theorem FunC.fn {K : PySem.W.Frag} {x qual : Str} {st : Stmt} {f : Addr} {fd : FuncData} {c : Addr} (F : FunC K x qual st f fd c) : Fun K x qual st f fd := by
  obtain ⟨oc, od, kV, dc, pm, an, ct, sl, e1, e2, e3⟩ := F.ex
  exact ⟨⟨oc, od, kV, dc, pm, an, .ref c, ct, sl, e1, e2, e3⟩, F.kp⟩
section
variable {P : Program} {w : World} {K : PySem.W.Frag} {mg : Str → Option Value} {base : Heap}
theorem okGC {x q : Str} {st : Stmt} {f : Addr} {fd : FuncData} {c : Addr} {N ps : List Str} {k : Nat} {sp : Sp} (F : FunC K x q st f fd c)
    (S : FnScope N ps (defScope st)) (len : ∀ vs H Q E, sp vs H Q E → vs.length = ps.length)
    (hb : ∀ (A : Around), A.guards = some [] → ∀ (outer : List Env) (s : Shared) (H : Hp) (vs : List V) (Q : VK) (E : XK),
      Room k (A.deeper (envOfC q (defScope st) s.heap.objs.size f (.ref c))) → sp vs H Q E →
      ∃ t, PSs (cxOf CX0 P w K mg base N q (defScope st) f (.ref c) A outer s H E).nox (defBody st) t ∧
        t { nx := fun _ H' => Q .non H', rt := Q } (L2.start N vs) H) : FnG P w K mg base CX0 (k + 1) f fd ps sp := by
  obtain ⟨oc, od, kV, dc, pm, an, ct, sl, rfl, lk, hc⟩ := F.ex
  refine fnG_of lk hc S len ?_
  intro A hA outer s H vs Q E hr hs
  obtain ⟨t, h, z⟩ := hb A hA outer s H vs Q E hr hs
  exact ⟨t, h.nox, z⟩
end
end LK

/-! heard_machine's own def -/
namespace LK
open PySem PySem.Spec PyProof.Rows L2 LamX ClX NdefX
open scoped List
abbrev sGoals : Stmt := (defBody sHeardM).getD 4 (.Pass ⟨0, 0, 0, 0⟩)
abbrev nGO : List Str := ["places", "marks", "missed", "told", "indices"]
theorem scGoals : NScopeC nGO ["places"] ["marks", "missed", "told"] (C8.fnScope sGoals) := ⟨rfl, rfl, rfl, by decide +kernel, rfl, by decide +kernel, by decide +kernel, by decide +kernel, by decide +kernel⟩
section
variable {P : Program} {w : World} {K : PySem.W.Frag} {mg : Str → Option Value} {base : Heap} {C CM : Addr}
/-- one row: where the set leads, by what is heard -/
def goRow (R : Rows) (js : List Nat) (tl : Rows) (m : Nat) : List Nat := tl.map fun l => stayM R (ledS R m l) js
def spGoals (CM : Addr) : List (Option V) → Sp := fun ws vs H Q _ => ∃ (mk kk mi to : Addr) (m wd : Nat) (R : Rows) (Kd : List Bool) (js : List Nat) (tl : Rows), ws = [some (.ref mk), some (.ref mi), some (.ref to)] ∧ vs = [.int m] ∧
  MkAt CM H mk kk wd R Kd ∧ RowsOk R wd ∧ R.length ≤ 8 ∧ wd ≤ 3 ∧ Low R.length m ∧ H mi = some (.lst (iv js)) ∧ (∀ j ∈ js, j < wd) ∧ js.length ≤ 3 ∧ RowsL H to tl ∧ (∀ l ∈ tl, (∀ j ∈ l, j < wd) ∧ l.length ≤ 3) ∧ tl.length ≤ 100 ∧
  ∀ H' p, But1 (at1 kk) H H' → MkAt CM H' mk kk wd R Kd → H p = none → H' p = some (.lst (iv (goRow R js tl m))) → Q (.ref p) H'
theorem MkAt.kk {H : Hp} {a k : Addr} {wd : Nat} {R : Rows} {Kd : List Bool} (h : MkAt C H a k wd R Kd) : ∃ t, H k = some (.dT t) := by
  obtain ⟨dx, b, bs, ms, h1, h2, h3, h4, h5, h6⟩ := h
  exact ⟨_, h5⟩
theorem MkAt.put {H H4 : Hp} {a k D : Addr} {o : HO} {wd : Nat} {R : Rows} {Kd : List Bool} (h : MkAt C H a k wd R Kd) (e : But1 (at1 k) H H4) (g : MkAt C H4 a k wd R Kd) (nD : H D = none) : MkAt C (upd H4 D o) a k wd R Kd := by
  obtain ⟨dx, b, bs, ms, h1, h2, h3, h4, h5, h6⟩ := h
  obtain ⟨_, _, _, ms', _, _, _, _, g5, g6⟩ := g
  have kp : ∀ {x : Addr} {u : HO}, H x = some u → (∀ t, u ≠ .dT t) → (upd H4 D o) x = some u := fun {x u} hx hu => by
    have n1 : x ≠ D := fun z => by rw [z, nD] at hx; cases hx
    have n2 : x ≠ k := fun z => by rw [z, h5] at hx; cases hx; exact hu _ rfl
    rw [upd_ne n1]; exact e x u n2 hx
  have n3 : k ≠ D := fun z => by rw [z, nD] at h5; cases h5
  exact ⟨dx, b, bs, ms', kp h1 (fun t z => nomatch z), kp h2 (fun t z => nomatch z), h3, fun i p hp => kp (h4 i p hp) (fun t z => nomatch z), by rw [upd_ne n3]; exact g5, g6⟩
theorem goRow_app {R : Rows} {js : List Nat} {a b : Rows} {m : Nat} : goRow R js (a ++ b) m = goRow R js a m ++ goRow R js b m := List.map_append
theorem goals_ok {f c' : Addr} {q : Str} {cl : List (Str × Addr)} {k : Nat} (M : Mx mg) (kM : ClsK K CM) (HS : HasM P w K mg base k CM "led_by_some" ["places", "indices"] (spSomeK CM)) (HST : HasM P w K mg base k CM "stayed" ["places", "indices"] (spStayK CM)) :
    NOkG P w K mg base CX0 (k + 1) f (NF.of sGoals "goals_of" q cl c') ["places"] ["marks", "missed", "told"] (spGoals CM) := by
  refine nokG_ofC (N := nGO) scGoals (fun doc pm ctv us h => ?_) (fun ws vs H Q E h => ?_) (fun A hA outer s H vs ws Q E hr hf hc hw h => ?_)
  · match us, h with
    | [u], _ => rfl
  · obtain ⟨_, _, _, _, _, _, _, _, _, _, _, rfl, _⟩ := h; rfl
  · obtain ⟨mk, kk, mi, to, m, wd, R, Kd, js, tl, rfl, rfl, hm, ok, hR, hwd, hlow, hmi, hjs, hjl, ht, htl, htn, q⟩ := h
    have nd := scGoals.uniq
    have sl := sizeLine_eq
    refine ⟨_, (pss_one (ps_ret (pe_lc (own := [("indices", 4)]) (g := gName 4) (tt := tYes) rfl nd (pi_sq (uv 3)) (blkOk_by (N := nGO) (sc := C8.fnScope sGoals) (by decide +kernel))
          (fun _ _ _ _ _ => pg_name (i := 4) nd rfl (Or.inl rfl)) (fun _ _ _ _ _ => pts_nil)
          (fun _ _ _ _ _ => (pe_mH HST kM.cls hA hr (uv 1) (pa_cons (pe_mH HS kM.cls hA hr (uv 1) (pa_cons (uv 0) (pa_cons (uv 4) pa_nil))) (pa_cons (uv 2) pa_nil))))))), ?_⟩
    obtain ⟨ts, t1, t2, t3⟩ := ht
    obtain ⟨kt, hkk⟩ := hm.kk
    have nkk : ∀ {b : Addr} {o : HO}, H b = some o → (∀ t, o ≠ .dT t) → b ≠ kk := fun hb hn z => by rw [z, hkk] at hb; cases hb; exact hn _ rfl
    have nkl : ∀ {b : Addr} {xs : List V}, H b = some (.lst xs) → b ≠ kk := fun hb => nkk hb (fun t z => nomatch z)
    have e3 : ∀ {b : Addr} {xs : List V} {H' : Hp}, But1 (at1 kk) H H' → H b = some (.lst xs) → H' b = some (.lst xs) := fun e hb => e _ _ (nkl hb) hb
    dsimp only [tRet]
    refine lc_sq (K := K) (t := uVar 3) (a := to) (xs := ts.map V.ref) (tp := false) (H1 := H) (by exact fun _ h => h) (.inl (.inl t1))
      (fun D pre acc H2 => H D = none ∧ But1 (at1 kk) H H2 ∧ MkAt CM H2 mk kk wd R Kd ∧ H2 D = some (.lst acc) ∧ acc = iv (goRow R js (tl.take pre.length) m))
      (fun D pre acc H2 r => .inl (.inl (e3 r.2.1 t1))) (fun D nD => ⟨nD, .of (same_upd nD), hm.ext (same_upd nD), upd_same, rfl⟩) (fun D nD pre acc x suf H2 e r => ?_) (fun D nD acc H2 r => ?_)
    · obtain ⟨_, e1, hm2, hD, rfl⟩ := r
      have hD1 : D ≠ kk := fun z => by rw [z, hkk] at nD; cases nD
      have hx : (ts.map V.ref)[pre.length]? = some x := by rw [e]; simp
      rw [List.getElem?_map] at hx
      obtain ⟨p, hp, rfl⟩ := Option.map_eq_some_iff.mp hx
      have li : pre.length < tl.length := by have := (List.getElem?_eq_some_iff.mp hp).1; omega
      have hrow := t3 _ p hp
      have hg : gls tl pre.length = tl[pre.length] := by unfold gls; rw [List.getD_eq_getElem?_getD, List.getElem?_eq_getElem li]; rfl
      obtain ⟨w1, w2⟩ := htl _ (List.getElem_mem li)
      rw [← hg] at w1 w2
      obtain ⟨dx, _, _, _, hmk, _⟩ := id hm2
      refine ⟨rfl, ?_⟩
      refine ⟨dx, _, hmk, by show List.lookup _ [_, _, _] = none; rfl, ?_⟩
      refine ⟨dx, _, hmk, by show List.lookup _ [_, _, _] = none; rfl, mk, kk, p, m, wd, R, Kd, gls tl pre.length, rfl, hm2, ok, hR, hwd, hlow, w1, e3 e1 hrow, w2, fun H3 e4 hm3 => ?_⟩
      refine ⟨mk, kk, mi, ledS R m (gls tl pre.length), wd, R, Kd, js, rfl, hm3, ok, hR, hwd, ledS_low ok w1, hjs, e3 (e1.trans e4) hmi, hjl, fun H4 e5 hm4 => ?_⟩
      have e45 := e4.trans e5
      have nD4 : ∀ {o : HO}, H4 D = some o → True := fun _ => True.intro
      refine ⟨_, e45 D _ hD1 hD, ?_, _, nD, ?_, ?_, upd_same, ?_⟩
      · rw [List.length_map]
        have : (goRow R js (tl.take pre.length) m).length ≤ 100 := by rw [goRow, List.length_map, List.length_take]; omega
        omega
      · exact fun b o hb ho => by
          have : b ≠ D := fun z => by rw [z, nD] at ho; cases ho
          rw [upd_ne this]; exact (e1.trans e45) b o hb ho
      · exact hm.put (e1.trans e45) hm4 nD
      · rw [List.length_append, List.length_singleton, List.take_succ_eq_append_getElem li, goRow_app, iv_app, ← hg]; rfl
    · obtain ⟨_, e1, hm2, hD, rfl⟩ := r
      refine q H2 D e1 hm2 nD ?_
      rw [hD, List.length_map, t2, List.take_length]
end
end LK

/-! heard_machine -/
namespace LK
open PySem PySem.Spec PyProof.Rows L2 LamX ClX NdefX
open scoped List
/-- the sets of places that may follow one another, each beside where it leads -/
def hRR (S : List Nat) (R : Rows) (hg : Nat → List (List Nat)) : Rows := (List.range (2 ^ R.length)).map (goRow R (heardAs S hg []) (S.map fun c => heardAs S hg [c]))
def hS0 (S : List Nat) (R : Rows) (hg : Nat → List (List Nat)) : Nat := stayM R 1 (heardAs S hg [])
def hMet (S : List Nat) (R : Rows) (hg : Nat → List (List Nat)) : List Nat := met (hRR S R hg) (hS0 S R hg)
def hRows (S : List Nat) (R : Rows) (hg : Nat → List (List Nat)) : Rows := rn (hRR S R hg) (hMet S R hg)
def hKd (S : List Nat) (R : Rows) (Kd : List Bool) (hg : Nat → List (List Nat)) : List Bool := (hMet S R hg).map fun m => decide (m &&& lastM Kd ≠ 0)
theorem gls_rng {n j : Nat} {f : Nat → List Nat} (h : j < n) : gls ((List.range n).map f) j = f j := by
  unfold gls
  rw [List.getD_eq_getElem?_getD, List.getElem?_map, List.getElem?_range h]; rfl
theorem hRR_len {S : List Nat} {R : Rows} {hg : Nat → List (List Nat)} : (hRR S R hg).length = 2 ^ R.length := by rw [hRR, List.length_map, List.length_range]
theorem hRR_gls {S : List Nat} {R : Rows} {hg : Nat → List (List Nat)} {m : Nat} (h : m < 2 ^ R.length) : gls (hRR S R hg) m = goRow R (heardAs S hg []) (S.map fun c => heardAs S hg [c]) m := gls_rng h
theorem hRR_ok {S : List Nat} {R : Rows} {hg : Nat → List (List Nat)} (ok : RowsOk R S.length) : RowsOk (hRR S R hg) S.length := by
  refine ⟨fun row hr => ?_, fun row hr g hgm => ?_⟩
  · obtain ⟨m, _, rfl⟩ := List.mem_map.mp hr
    rw [goRow, List.length_map, List.length_map]
  · obtain ⟨m, _, rfl⟩ := List.mem_map.mp hr
    rw [goRow, List.map_map] at hgm
    obtain ⟨c, _, rfl⟩ := List.mem_map.mp hgm
    rw [hRR_len]
    exact stayM_low ok (fun j hj => heardAs_lt hj) (ledS_low ok fun j hj => heardAs_lt hj)
theorem hS0_lt {S : List Nat} {R : Rows} {hg : Nat → List (List Nat)} (ok : RowsOk R S.length) (lo : 1 ≤ R.length) : hS0 S R hg < 2 ^ R.length :=
  stayM_low ok (fun j hj => heardAs_lt hj) (by show 1 < 2 ^ R.length; exact Nat.lt_of_lt_of_le (by decide : 1 < 2 ^ 1) (Nat.pow_le_pow_right (by omega) lo))
theorem hMet_lt {S : List Nat} {R : Rows} {hg : Nat → List (List Nat)} (ok : RowsOk R S.length) (lo : 1 ≤ R.length) {m : Nat} (h : m ∈ hMet S R hg) : m < 2 ^ R.length := by
  have := (met_clo (hRR_ok (hg := hg) ok) (by rw [hRR_len]; exact hS0_lt ok lo)).lt m h
  rwa [hRR_len] at this
theorem hMet_len {S : List Nat} {R : Rows} {hg : Nat → List (List Nat)} (ok : RowsOk R S.length) (lo : 1 ≤ R.length) : (hMet S R hg).length ≤ 2 ^ R.length := len_le_of_lt met_nd fun m h => hMet_lt ok lo h
theorem hSh {S : List Nat} {R : Rows} {Kd : List Bool} {hg : Nat → List (List Nat)} (ok : ShOk S R Kd) (h5 : R.length ≤ 5) : ShOk S (hRows S R hg) (hKd S R Kd hg) := by
  have h0 : hS0 S R hg < (hRR S R hg).length := by rw [hRR_len]; exact hS0_lt ok.rows ok.lo
  have hp : 2 ^ R.length ≤ 2 ^ 5 := Nat.pow_le_pow_right (by omega) h5
  have hl := hMet_len (hg := hg) ok.rows ok.lo
  refine ⟨ok.let_, rn_ok' (hRR_ok ok.rows) (met_clo (hRR_ok ok.rows) h0), ?_, ?_, ?_⟩
  · rw [hRows, rn_len]
    have : (hMet S R hg)[0]? = some (hS0 S R hg) := met_zero
    have := (List.getElem?_eq_some_iff.mp this).1
    omega
  · rw [hRows, rn_len]; omega
  · rw [hKd, List.length_map, hRows, rn_len]
theorem uvq {i : Nat} {σ : L2.St} {H : Hp} {Q : VK} {v : V} (e : σ[i]? = some (some v)) (q : Q v H) : uVar i σ H Q := by
  unfold uVar
  rw [e]
  exact q
theorem TabS.but1 {H H' : Hp} {kk P : Addr} {q : Str} {t : List (List Key × V)} (h : TabS H P q) (e : But1 (at1 kk) H H') (hk : H kk = some (.dT t)) : TabS H' P q := by
  obtain ⟨ps, h1, h2, h3⟩ := h
  refine ⟨ps, e P _ (fun z => by have z : P = kk := z; rw [z, hk] at h1; cases h1) h1, h2, fun pos cv hc => ?_⟩
  obtain ⟨c, e1, e2⟩ := h3 pos cv hc
  exact ⟨c, e1, e c _ (fun z => by have z : c = kk := z; rw [z, hk] at e2; cases e2) e2⟩

def gofQ : Str := (envOfC "heard_machine" (defScope sHeardM) 0 0 .none).qual ++ "goals_of"
abbrev T1G (Pt : Addr) : List (Addr × Str) := [(Pt, gofQ)]
theorem hnB : ndefB (defScope sHeardM) (C8.fnScope sGoals) ["marks", "missed", "told"] = true := by decide +kernel
section
variable {P : Program} {w : World} {K : PySem.W.Frag} {mg : Str → Option Value} {base : Heap} {C CM gMF : Addr} {fdMF : FuncData}
abbrev nHM : List Str := ["machine", "line", "letters", "marks", "missed", "told", "goals_of", "sets", "rows", "hearing", "places"]
theorem scHeardM : FnScope nHM ["machine", "line"] (defScope sHeardM) := ⟨rfl, rfl, rfl, by decide +kernel, rfl, by decide +kernel, by decide +kernel⟩
def spHeardM (K : PySem.W.Frag) (C Pt : Addr) : Sp := fun vs H Q _ => ∃ (a d : Addr) (S : List Nat) (R : Rows) (Kd : List Bool) (hg : Nat → List (List Nat)), vs = [.ref a, .ref d] ∧ Mach C H a S R Kd ∧ ShOk S R Kd ∧ R.length ≤ 5 ∧ LineAt K H d S hg ∧ Tabs (T1G Pt) H ∧
  ∀ H' b A KA, ExtN H H' → Tabs (T1G Pt) H' → H b = none → Mach C H' b S A KA → LeastOf S.length (hRows S R hg) (hKd S R Kd hg) 0 A KA → Q (.ref b) H'
theorem ok_heardM {f : Addr} {fd : FuncData} {k : Nat} {c Pt : Addr} (F : FunC K "heard_machine" "heard_machine" sHeardM f fd c) (M : Mx mg) (TB : TabB base mg c Pt) (cM : ClsM K C) (kM : ClsK K CM) (HL : HasP P w K mg base k C "letters" (getSp C "_letters")) (HMI : HasI P w K mg base k "Marks" CM ["machine"] (spMkI C CM))
    (FMF : Fun K "met_from" "met_from" sMetG gMF fdMF) (gMF : mg "met_from" = some (.ref gMF)) (bMF : Binds K fdMF ["start", "goals_of", "most"] [])
    (HHA : Has P w K mg base k "_heard_as" ["letters", "line", "hearing"] (spHeardAs K)) (HS : HasM P w K mg base k CM "led_by_some" ["places", "indices"] (spSomeK CM)) (HST : HasM P w K mg base k CM "stayed" ["places", "indices"] (spStayK CM)) (HTK : HasM P w K mg base k CM "some_take" ["places"] (spTakeK CM))
    (HLO : Has P w K mg base k "least_of" ["letters", "rows", "kinds", "start"] (spLeastOf C)) : FnG P w K mg base CX0 (k + 3) f fd ["machine", "line"] (spHeardM K C Pt) := by
  obtain ⟨ocMF, odMF, kVMF, dcMF, pmMF, anMF, cdMF, ctMF, slMF, rfl, lkMF, hcdMF⟩ := FMF.ex
  have kMF := FMF.kp
  refine okGC F scHeardM (fun vs H Q E h => ?_) (fun A hA outer s H vs Q E hr h => ?_)
  · obtain ⟨a, d, S, R, Kd, hg, rfl, _⟩ := h; rfl
  · obtain ⟨a, d, S, R, Kd, hg, rfl, hm, ok, h5, hd, tb, q⟩ := h
    have nd := scHeardM.nd
    have sl := sizeLine_eq
    have l3 := ok.let_.hi
    have hr0 := hr.mono (show k ≤ k + 2 by omega)
    refine ⟨_, (pss_cons (ps_set (i := 2) nd rfl (.inr rfl) (pe_propH (HL.up (show k ≤ k + 1 by omega)) cM.cls hr (uv 0)))
      (pss_cons (ps_set (i := 3) nd rfl (.inr rfl) (pe_mkI (HMI.up (show k ≤ k + 1 by omega)) hA hr (by rfl) (pa_cons (uv 0) pa_nil)))
      (pss_cons (ps_set (i := 4) nd rfl (.inr rfl) (pe_callH HHA hA hr0 (by rfl) (pa_cons (uv 2) (pa_cons (uv 1) (pa_cons (ustr []) pa_nil)))))
      (pss_cons (ps_set (i := 5) nd rfl (.inr rfl) (pe_lc (own := [("hearing", 9)]) (g := gName 9) (tt := tYes) rfl nd (pi_str (uv 2)) (blkOk_by (N := nHM) (sc := defScope sHeardM) (by decide +kernel))
          (fun _ _ _ _ _ => pg_name (i := 9) nd rfl (Or.inl rfl)) (fun _ _ _ _ _ => pts_nil)
          (fun _ _ _ _ _ => (pe_callH HHA hA hr0 (by rfl) (pa_cons (uv 2) (pa_cons (uv 1) (pa_cons (uv 9) pa_nil)))))))
      (pss_cons (ps_ndefMS (T := [(Pt, fun _ _ => gofQ)]) (nm := fun _ _ => gofQ) (c := c) (P := Pt) (name := "goals_of") (i := 6) (by rfl) TB rfl (List.mem_singleton.mpr rfl) rfl (by intro p hp _; rw [List.mem_singleton.mp hp]) (ndef_free hnB) rfl rfl rfl nd rfl (.inl rfl) (.inl rfl))
      (pss_cons (ps_asg (pe_callF (k := k + 1) (kf := k + 1) (Ng := nMG) (y := "goals_of") (i := 1) (TT := TTmet) (fr := ["marks", "missed", "told"]) (js := [3, 4, 5]) (sp := fun _ _ => spGoals CM) (mk := NF.of sGoals "goals_of" ((envOfC "heard_machine" (defScope sHeardM) s.heap.objs.size f (.ref c)).qual ++ "goals_of") (cloFrom (envOfC "heard_machine" (defScope sHeardM) s.heap.objs.size f (.ref c)).cells (C8.fnScope sGoals).names [])) hA (by rfl) gMF kMF lkMF hcdMF bMF scMG rfl (.inl rfl)
        (gives_met M) hr (Nat.le_refl _) (fun f9 c9 => goals_ok M kM HS HST) (fun _ => rfl) (fun ok => Caps.made ok (ndef_free hnB) (ndef_fr hnB) rfl) (pa_cons (pe_mH HST kM.cls hA hr0 (uv 3) (pa_cons pe_int (pa_cons (uv 4) pa_nil))) (pa_cons (uv 6) (pa_cons pe_non pa_nil))))
        (pg_tup rfl (pgs_cons (pg_name (i := 7) nd rfl (.inl rfl)) (pgs_cons (pg_name (i := 8) nd rfl (.inl rfl)) pgs_nil))) rfl)
      (pss_one (ps_ret (pe_callH HLO hA hr0 (by rfl) (pa_cons (uv 2) (pa_cons (uv 8) (pa_cons (pe_lc (own := [("places", 10)]) (g := gName 10) (tt := tYes) rfl nd (pi_listK (K := K) rfl (uv 7)) (blkOk_by (N := nHM) (sc := defScope sHeardM) (by decide +kernel))
          (fun _ _ _ _ _ => pg_name (i := 10) nd rfl (Or.inl rfl)) (fun _ _ _ _ _ => pts_nil)
          (fun _ _ _ _ _ => (pe_mH HTK kM.cls hA hr0 (uv 3) (pa_cons (uv 10) pa_nil)))) (pa_cons pe_int pa_nil))))))))))))), ?_⟩
    obtain ⟨dx, r, kk0, rs, h1, h2, h3, h4, h5'⟩ := id hm
    refine ⟨a, dx, _, rfl, h1, ⟨a, dx, _, .str (T S), rfl, h1, rfl, ?_⟩⟩
    refine ⟨rfl, fun x dd nx ndd ne => ?_⟩
    have e0 : Same H (upd (upd H dd (.own x)) x (.ins CM dd [])) := same_upd2 (same_upd ndd) nx
    refine ⟨x, dd, a, S, R, Kd, rfl, hm.ext e0, ok, upd_same, fun H1 kk keep nk mk1 => ⟨rfl, ?_⟩⟩
    have e1 : Same H H1 := fun b o hb => keep b o (fun z => by rw [z, nx] at hb; cases hb) (e0 b o hb)
    have nkk := Same.free e0 nk
    clear keep nk e0
    refine ⟨S, d, [], hg, rfl, hd.ext e1, by omega, fun H2 mi e2 nmi hmi => ?_⟩
    have e02 := e1.trans e2
    dsimp only [tSeq, tAsg, gName]
    refine lc_str (l := S) (H1 := H2) (by exact fun _ h => h) (fun D pre acc H3 => H2 D = none ∧ Same H2 H3 ∧ H3 D = some (.lst acc) ∧ ∃ ps : List Addr, acc = ps.map V.ref ∧ ps.length = pre.length ∧ ∀ i p, ps[i]? = some p → p ≠ D ∧ H3 p = some (.lst (iv (heardAs S hg [S.getD i 0]))))
      (fun D nD => ⟨nD, same_upd nD, upd_same, [], rfl, rfl, fun i p hp => by cases hp⟩) (fun D nD pre acc c0 suf H3 e r => ?_) (fun D nD acc H3 r => ?_)
    · obtain ⟨_, e3, hD, ps, rfl, lps, hps⟩ := r
      refine ⟨rfl, S, d, [c0], hg, rfl, hd.ext (e02.trans e3), by omega, fun H4 l e4 nl hl => ?_⟩
      have lne : l ≠ D := fun z => by rw [z, hD] at nl; cases nl
      have lpl : (lets pre).length = pre.length := by simp [lets]
      refine ⟨_, e4 _ _ hD, ?_, _, nD, ?_, upd_same, ps ++ [l], by rw [List.map_append]; rfl, by simp [lets, lps], fun i p hp => ?_⟩
      · have : pre.length < S.length := by rw [e]; simp
        rw [List.length_map]; omega
      · exact fun b o hb => by
          have : b ≠ D := fun z => by rw [z, nD] at hb; cases hb
          rw [upd_ne this]; exact (e3.trans e4) _ _ hb
      · rcases Nat.lt_or_ge i ps.length with lt | ge
        · rw [List.getElem?_append_left lt] at hp
          obtain ⟨w1, w2⟩ := hps i p hp
          exact ⟨w1, by rw [upd_ne w1]; exact e4 _ _ w2⟩
        · rw [List.getElem?_append_right ge] at hp
          have i0 : i = ps.length := by
            have := (List.getElem?_eq_some_iff.mp hp).1
            rw [List.length_singleton] at this
            omega
          subst i0
          rw [Nat.sub_self] at hp
          obtain rfl : l = p := by cases hp; rfl
          refine ⟨lne, ?_⟩
          rw [upd_ne lne, hl]
          have : S.getD ps.length 0 = c0 := by
            rw [lps, lpl, e, List.getD_eq_getElem?_getD, List.getElem?_append_right (Nat.le_refl _), Nat.sub_self]; rfl
          rw [this]
    obtain ⟨_, e3, hD, ts, rfl, lts, hts⟩ := r
    have lts : ts.length = S.length := by rw [lts]; simp [lets]
    have e03 := e02.trans e3
    refine ⟨?_, ?_⟩
    · intro p hp
      rw [List.mem_singleton.mp hp]
      exact TabN.of ((tb _ (List.mem_singleton.mpr rfl)).ext e03)
    intro f9 c9 H4 eN gone tN nf9 hf9 hc9
    obtain ⟨dm, b, bs, ms, m1, m2, m3, m4, m5, m6⟩ := mk1.ext (e2.trans e3)
    have hmi4 : H4 mi = some (.lst (iv (heardAs S hg []))) := eN _ _ (e3 _ _ hmi) (fun _ z => nomatch z)
    have g1 := eN _ _ m1 (fun _ z => nomatch z)
    have g2 := eN _ _ m2 (fun _ z => nomatch z)
    have g4 : ∀ i p, bs[i]? = some p → H4 p = some (.lst ((gls R i).map fun g => V.int (2 ^ g : Nat))) := fun i p hp => eN _ _ (m4 i p hp) (fun _ z => nomatch z)
    have mk4 : MkAt CM H4 x kk S.length R Kd := ⟨dm, b, bs, ms, g1, g2, m3, g4, eN _ _ m5 (fun _ z => nomatch z), m6⟩
    have hD4 : H4 D = some (.lst (ts.map V.ref)) := eN _ _ hD (fun _ z => nomatch z)
    have hts4 : ∀ i p, ts[i]? = some p → H4 p = some (.lst (iv (heardAs S hg [S.getD i 0]))) := fun i p hp => eN _ _ (hts i p hp).2 (fun _ z => nomatch z)
    have lh : ∀ h, (heardAs S hg h).length ≤ 3 := fun h => by
      have := List.length_filter_le (fun i => decide (h ∈ hg (S.getD i 0))) (List.range S.length)
      rw [List.length_range] at this
      have : (heardAs S hg h).length ≤ S.length := this
      omega
    have lo1 : Low R.length 1 := Nat.lt_of_lt_of_le (by decide : 1 < 2 ^ 1) (Nat.pow_le_pow_right (by omega) ok.lo)
    have e04 : ExtN H H4 := (ExtN.of e03).trans eN
    have gone4 : ∀ b, H4 b = none → H b = none := fun b h => Same.free e03 (gone b h)
    have t4 : Tabs (T1G Pt) H4 := fun p hp => by rw [List.mem_singleton.mp hp]; exact TabN.to (tN _ (List.mem_singleton.mpr rfl))
    have k4 := eN _ _ m5 (fun _ z => nomatch z)
    clear tN gone eN m1 m2 m4 m5 hts hD hmi mk1 e3 e02 e2 e1
    refine ⟨dm, _, g1, by show List.lookup _ [_, _, _] = none; rfl, x, kk, mi, 1, S.length, R, Kd, heardAs S hg [], rfl, mk4, ok.rows, by omega, by omega, lo1, fun j hj => heardAs_lt hj, hmi4, lh [], fun H5 e5 mk5 => ?_⟩
    refine ⟨rfl, f9, c9, ?_⟩
    have nk : ∀ {y : Addr} {o : HO}, H4 y = some o → (∀ t, o ≠ .dT t) → y ≠ kk := fun hy hn z => by rw [z, k4] at hy; cases hy; exact hn _ rfl
    have u5 : ∀ {y : Addr} {o : HO}, H4 y = some o → (∀ t, o ≠ .dT t) → H5 y = some o := fun hy hn => e5 _ _ (nk hy hn) hy
    obtain ⟨Fo, eFo⟩ : ∃ Fo : HO, Fo = FnO f9 (NF.of sGoals "goals_of" ((envOfC "heard_machine" (defScope sHeardM) s.heap.objs.size f (.ref c)).qual ++ "goals_of") (cloFrom (envOfC "heard_machine" (defScope sHeardM) s.heap.objs.size f (.ref c)).cells (C8.fnScope sGoals).names []) c9) := ⟨_, rfl⟩
    refine ⟨hS0 S R hg, S.length, kk, hRR S R hg, fun H' => H' x = some (.ins CM dm (mkf Kd b kk)) ∧ H' b = some (.lst (bs.map V.ref)) ∧ (∀ i p, bs[i]? = some p → H' p = some (.lst ((gls R i).map fun g => V.int (2 ^ g : Nat)))) ∧ (∃ ms, H' kk = some (.dT (kmL R ms)) ∧ KnOk R.length S.length ms) ∧
      H' mi = some (.lst (iv (heardAs S hg []))) ∧ H' D = some (.lst (ts.map V.ref)) ∧ (∀ i p, ts[i]? = some p → H' p = some (.lst (iv (heardAs S hg [S.getD i 0])))) ∧ H' f9 = some Fo ∧ H' c9 = some (CodeO c9 gofQ),
      rfl, hRR_ok ok.rows, by rw [hRR_len]; exact hS0_lt ok.rows ok.lo, by rw [hRR_len]; exact Nat.le_trans (Nat.pow_le_pow_right (by omega) h5) (by decide : 2 ^ 5 ≤ 1000), by omega, ?_, ?_, ?_, ?_, ?_, ?_⟩
    · obtain ⟨_, _, _, ms5, _, _, _, _, q5, q6⟩ := mk5
      exact ⟨u5 g1 (fun t z => nomatch z), u5 g2 (fun t z => nomatch z), fun i p hp => u5 (g4 i p hp) (fun t z => nomatch z), ⟨ms5, q5, q6⟩, u5 hmi4 (fun t z => nomatch z), u5 hD4 (fun t z => nomatch z), fun i p hp => u5 (hts4 i p hp) (fun t z => nomatch z),
        by rw [eFo]; exact u5 hf9 (fun t z => by unfold FnO at z; cases z), u5 hc9 (fun t z => by unfold CodeO at z; cases z)⟩
    · rintro H' ⟨_, _, _, ⟨_, h, _⟩, _⟩ z
      rw [h] at z; cases z
    · rintro H' ⟨_, _, _, _, _, _, _, h, hc⟩
      exact ⟨by rw [h, eFo], hc⟩
    · rintro H' H'' ⟨i1, i2, i3, ⟨ms', i4, i5⟩, i6, i7, i8, i9, i10⟩ st
      have nn : ∀ {y : Addr} {o : HO}, H4 y = some o → (∀ t, o ≠ .dT t) → H5 y ≠ none := fun hy hn z => by rw [u5 hy hn] at z; cases z
      have nkk5 : H5 kk ≠ none := by
        obtain ⟨_, _, _, ms5, _, _, _, _, q5, q6⟩ := mk5
        rw [q5]; exact fun z => nomatch z
      exact ⟨st _ _ (nn g1 (fun t z => nomatch z)) i1, st _ _ (nn g2 (fun t z => nomatch z)) i2, fun i p hp => st _ _ (nn (g4 i p hp) (fun t z => nomatch z)) (i3 i p hp), ⟨ms', st _ _ nkk5 i4, i5⟩, st _ _ (nn hmi4 (fun t z => nomatch z)) i6, st _ _ (nn hD4 (fun t z => nomatch z)) i7,
        fun i p hp => st _ _ (nn (hts4 i p hp) (fun t z => nomatch z)) (i8 i p hp), st _ _ (nn hf9 (fun t z => by unfold FnO at z; cases z)) i9, st _ _ (nn hc9 (fun t z => by unfold CodeO at z; cases z)) i10⟩
    · rintro y H' R' hy ⟨i1, i2, i3, ⟨ms', i4, i5⟩, i6, i7, i8, i9, i10⟩ hR'
      have mk' : MkAt CM H' x kk S.length R Kd := ⟨dm, b, bs, ms', i1, i2, m3, i3, i4, i5⟩
      rw [hRR_len] at hy
      have lm : (S.map fun c => heardAs S hg [c]).length = S.length := List.length_map _
      refine ⟨x, kk, mi, D, y, S.length, R, Kd, heardAs S hg [], S.map fun c => heardAs S hg [c], rfl, rfl, mk', ok.rows, by omega, by omega, hy, i6, fun j hj => heardAs_lt hj, lh [], ⟨ts, i7, by rw [lm]; exact lts, fun i p hp => ?_⟩, fun l hl => ?_, by omega, fun H'' p b1 mk'' np hp => ?_⟩
      · have li : i < S.length := by have := (List.getElem?_eq_some_iff.mp hp).1; omega
        rw [i8 i p hp]
        unfold gls
        rw [List.getD_eq_getElem?_getD, List.getD_eq_getElem?_getD, List.getElem?_map, List.getElem?_eq_getElem li]; rfl
      · obtain ⟨c0, _, rfl⟩ := List.mem_map.mp hl
        exact ⟨fun j hj => heardAs_lt hj, lh _⟩
      · have nk' : ∀ {y : Addr} {o : HO}, H' y = some o → (∀ t, o ≠ .dT t) → y ≠ kk := fun hy hn z => by rw [z, i4] at hy; cases hy; exact hn _ rfl
        have u' : ∀ {y : Addr} {o : HO}, H' y = some o → (∀ t, o ≠ .dT t) → H'' y = some o := fun hy hn => b1 _ _ (nk' hy hn) hy
        obtain ⟨_, _, _, ms5, _, _, _, _, q5, q6⟩ := mk''
        refine hR' H'' p b1 ⟨u' i1 (fun t z => nomatch z), u' i2 (fun t z => nomatch z), fun i p hp => u' (i3 i p hp) (fun t z => nomatch z), ⟨ms5, q5, q6⟩, u' i6 (fun t z => nomatch z), u' i7 (fun t z => nomatch z), fun i p hp => u' (i8 i p hp) (fun t z => nomatch z),
          u' i9 (fun t z => by rw [eFo] at z; unfold FnO at z; cases z), u' i10 (fun t z => by unfold CodeO at z; cases z)⟩ np ?_
        rw [hp, hRR_gls hy]
    · rintro H6 t A B b1 ⟨i1, i2, i3, ⟨ms', i4, i5⟩, i6, i7, i8, i9, i10⟩ nt ht nA hA6 nB hB6
      refine ⟨t, _, rfl, .inl (.inl ht), rfl, _, _, rfl, _, _, rfl, rfl, ?_⟩
      have mk6 : MkAt CM H6 x kk S.length R Kd := ⟨dm, b, bs, ms', i1, i2, m3, i3, i4, i5⟩
      obtain ⟨dm', _, _, _, j1, _⟩ := id mk6
      dsimp only [tRet, uCall, tCons]
      refine uvq (v := .str (T S)) rfl (uvq (v := .ref B) rfl ?_)
      refine lc_list (K := K) (t := uVar 7) (a := A) (xs := iv (hMet S R hg)) (H1 := H6) (by exact fun _ h => h) (.inl (.inl hA6))
        (fun D pre acc H7 => H6 D = none ∧ Same H6 H7 ∧ H7 D = some (.lst acc) ∧ acc = ((hMet S R hg).take pre.length).map fun m => V.bl (decide (m &&& lastM Kd ≠ 0))) (fun D pre acc H7 r => .inl (.inl (r.2.1 _ _ hA6)))
        (fun D nD => ⟨nD, same_upd nD, upd_same, rfl⟩) (fun D nD pre acc y suf H7 e r => ?_) (fun D nD acc H7 r => ?_)
      · obtain ⟨_, e7, hD7, rfl⟩ := r
        have hx : (iv (hMet S R hg))[pre.length]? = some y := by rw [e]; simp
        rw [List.getElem?_map] at hx
        obtain ⟨m, hm0, rfl⟩ := Option.map_eq_some_iff.mp hx
        have li := (List.getElem?_eq_some_iff.mp hm0).1
        refine ⟨rfl, dm, _, e7 _ _ i1, by show List.lookup _ [_, _, _] = none; rfl, x, kk, m, S.length, R, Kd, rfl, mk6.ext e7, ?_⟩
        refine ⟨_, hD7, ?_, _, nD, ?_, upd_same, ?_⟩
        · rw [List.length_map, List.length_take]
          have := hMet_len (hg := hg) ok.rows ok.lo
          have : 2 ^ R.length ≤ 2 ^ 5 := Nat.pow_le_pow_right (by omega) h5
          omega
        · exact fun b o hb => by
            have : b ≠ D := fun z => by rw [z, nD] at hb; cases hb
            rw [upd_ne this]; exact e7 _ _ hb
        · rw [List.length_append, List.length_singleton, List.take_succ_eq_append_getElem li, List.map_append]
          have : (hMet S R hg)[pre.length] = m := (List.getElem?_eq_some_iff.mp hm0).2
          rw [this]; rfl
      · obtain ⟨_, e7, hD7, rfl⟩ := r
        have hk7 : H7 D = some (.lst ((hKd S R Kd hg).map V.bl)) := by
          rw [hD7, iv_len, List.take_length, hKd, List.map_map]; rfl
        refine ⟨B, D, 0, S, hRows S R hg, hKd S R Kd hg, rfl, hB6.ext e7, hk7, hSh ok h5, (hSh (Kd := Kd) (hg := hg) ok h5).lo, fun H8 bb A' KA e8 nb mb lo => ?_⟩
        have e78 := e7.trans e8
        have b46 : But1 (at1 kk) H4 H6 := e5.trans b1
        refine q H8 bb A' KA ?_ ?_ ?_ mb lo
        · intro y o hy hn
          have h9 := e04 y o hy hn
          have n9 : y ≠ kk := fun z => by rw [z, nkk] at hy; cases hy
          exact e78 _ _ (b46 y o n9 h9)
        · intro p hp
          exact LamX.TabS.ext (LK.TabS.but1 (t4 p hp) b46 k4) e78
        · refine gone4 bb ?_
          cases h9 : H4 bb with
          | none => rfl
          | some o =>
            have n6 := Same.free e7 nb
            by_cases z : bb = kk
            · rw [z, i4] at n6; cases n6
            · rw [b46 bb o z h9] at n6; cases n6

end
end LK

/-! heard -/
namespace LK
open PySem PySem.Spec PyProof.Rows L2 LamX ClX
open scoped List
section
variable {P : Program} {w : World} {K : PySem.W.Frag} {mg : Str → Option Value} {base : Heap} {C : Addr}
abbrev nHd : List Str := ["machine", "line"]
theorem scHd : FnScope nHd ["machine", "line"] (defScope sHeardP) := ⟨rfl, rfl, rfl, by decide +kernel, rfl, by decide +kernel, by decide +kernel⟩
theorem TabS.same {H H' : Hp} {P : Addr} {q : Str} (t : TabS H P q) (e : Same H H') : TabS H' P q := LamX.TabS.ext t e
def spHeardP (K : PySem.W.Frag) (C Pt : Addr) : Sp := fun vs H Q _ => ∃ (a d : Addr) (S : List Nat) (R : Rows) (Kd : List Bool) (hg : Nat → List (List Nat)), vs = [.ref a, .ref d] ∧ Mach C H a S R Kd ∧ ShOk S R Kd ∧ R.length ≤ 5 ∧ LineAt K H d S hg ∧ LineOk S hg ∧ Tabs (T1G Pt) H ∧
  ∀ H' b A KA, ExtN H H' → Tabs (T1G Pt) H' → H b = none → Mach C H' b S A KA → LeastOf S.length (hRows S R hg) (hKd S R Kd hg) 0 A KA → Q (.ref b) H'
theorem ok_heardP {f : Addr} {fd : FuncData} {k : Nat} {Pt : Addr} {tML : Tok} (F : Fun K "heard" "heard" sHeardP f fd) (M : Mx mg) (gML : mg "MOST_IN_LINE" = some (.int 5 tML)) (HNL : Has P w K mg base k "_need_line" ["machine", "value"] (spNeedLine K C))
    (HNP : Has P w K mg base k "need_places" ["machine", "most"] (spNeedPl C)) (HHM : Has P w K mg base k "heard_machine" ["machine", "line"] (spHeardM K C Pt)) : FnG P w K mg base CX0 (k + 1) f fd ["machine", "line"] (spHeardP K C Pt) := by
  refine okG F scHd (fun vs H Q E h => ?_) (fun cdv A hA outer s H vs Q E hr h => ?_)
  · obtain ⟨a, d, S, R, Kd, hg, rfl, _⟩ := h; rfl
  · obtain ⟨a, d, S, R, Kd, hg, rfl, hm, ok, h5, hd, hl, tb, q⟩ := h
    have nd := scHd.nd
    have l3 := ok.let_.hi
    refine ⟨_, (pss_cons (ps_expr (pe_callH HNL hA hr (by rfl) (pa_cons (uv 0) (pa_cons (uv 1) pa_nil))))
      (pss_cons (ps_expr (pe_callH HNP hA hr (by rfl) (pa_cons (uv 0) (pa_cons (pe_glob (v := .int 5) (by rfl) gML ⟨tML, rfl⟩) pa_nil))))
      (pss_one (ps_ret (pe_callH HHM hA hr (by rfl) (pa_cons (uv 0) (pa_cons (uv 1) pa_nil))))))), ?_⟩
    refine ⟨a, d, S, R, Kd, hg, rfl, hm, hd, hl, by omega, fun H1 e1 => ?_⟩
    refine ⟨a, S, R, Kd, 5, rfl, hm.ext e1, h5, by omega, ?_⟩
    refine ⟨a, d, S, R, Kd, hg, rfl, hm.ext e1, ok, h5, hd.ext e1, fun p hp => TabS.same (tb p hp) e1, fun H2 b A' KA e2 t2 nb mb lo => ?_⟩
    exact q H2 b A' KA ((ExtN.of e1).trans e2) t2 (Same.free e1 nb) mb lo
end
end LK

namespace LK
open PySem PySem.Spec PyProof.Rows L2 LamX
/-! _law_pot, _law_draw -/
open scoped List
section
variable {P : Program} {w : World} {K : PySem.W.Frag} {mg : Str → Option Value} {base : Heap} (TT : List (Addr × Str))
/-! ### _law_pot -/
theorem scPot : FnScope ["_law_script", "_law_k", "_law_cell"] ["_law_script", "_law_k"] (defScope sPot) := ⟨rfl, rfl, rfl, by decide +kernel, rfl, by decide +kernel, by decide +kernel⟩
def spPot (K : PySem.W.Frag) : Sp := fun vs H Q _ => ∃ (a : Addr) (ns : List Int) (k : Nat), vs = [.ref a, .int k] ∧ SqL K H a (ns.map V.int) ∧ k ≤ 10 ∧ ∀ H' p, Same H H' → H p = none → Pot H' p → Q (.ref p) H'
theorem ok_pot {f : Addr} {fd : FuncData} {k : Nat} (F : Fun K "_law_pot" "_law_pot" sPot f fd) (M : Mx mg) : FnG P w K mg base CX0 (k + 1) f fd ["_law_script", "_law_k"] (spPot K) := by
  refine okG F scPot (fun vs H Q E h => ?_) (fun cdv A hA outer s H vs Q E hr h => ?_)
  · obtain ⟨a, ns, k, rfl, _⟩ := h; rfl
  · obtain ⟨a, ns, k, rfl, hs, hk, q⟩ := h
    have nd := scPot.nd
    refine ⟨_, pss_cons (ps_set (i := 2) nd rfl (.inl rfl) (pe_op o_add (pe_op o_mul pe_int (uv 1)) pe_int))
      (pss_cons (ps_ifU (pt_cu o_lt (uv 1) (pe_callB c_len (by rfl) M.len b_len (pa_cons (uv 0) pa_nil)))
        (pss_one (ps_set (i := 2) nd rfl (.inl rfl) (pe_callB c_abs (by rfl) M.abs b_abs (pa_cons (pe_ixU (uv 0) (uv 1)) pa_nil)))) pss_nil)
      (pss_one (ps_ret (pe_lst (pa_cons (pe_callB (c_max2 rfl) (by rfl) M.max b_max (pa_cons pe_int (pa_cons (pe_op o_sub (uv 2) (pe_op o_pow pe_int pe_int)) pa_nil)))
        (pa_cons (pe_op o_add (pe_op o_mod (pe_callTy c_int (by rfl) M.int b_int (pa_cons (pe_op o_add (pe_op o_mul (pe_op o_mod (pe_callTy c_int (by rfl) M.int b_int (pa_cons (uv 2) pa_nil)) pe_int) (pe_op o_add (pe_op o_mul pe_int (uv 1)) pe_int)) pe_int) pa_nil)) pe_int) pe_int) pa_nil)))))), ?_⟩
    refine ⟨.inl ⟨by decide, by decide⟩, ?_⟩
    have fin : ∀ cell : Int, 0 ≤ cell → (tRet (tLst (tCons (tCB (mm2U max) (tCons (tC (.int 0)) (tCons (tOp rSubU (uVar 2) (tOp rPowU (tC (.int 10)) (tC (.int 18)))) tNil)))
        (tCons (tOp rAddU (tOp rModU (tCB intU (tCons (tOp rAddU (tOp rMulU (tOp rModU (tCB intU (tCons (uVar 2) tNil)) (tC (.int 2147483563))) (tOp rAddU (tOp rMulU (tC (.int 2)) (uVar 1)) (tC (.int 5)))) (tC (.int 281))) tNil)) (tC (.int 2147483549))) (tC (.int 1))) tNil))))
        { nx := fun x H' => Q V.non H', rt := Q } [some (.ref a), some (.int k), some (.int cell)] H := by
      intro cell hc
      refine ⟨⟨by decide, by decide, by decide⟩, ?_⟩
      have c0 := Int.emod_nonneg cell (b := 2147483563) (by decide)
      have c1 := Int.emod_lt_of_pos cell (b := 2147483563) (by decide)
      refine ⟨by decide, .inl ⟨by decide, by decide⟩, .inl ⟨by omega, by omega⟩, by decide, ?_⟩
      refine ⟨by show 2 ≤ sizeLine; decide, fun p np => ?_⟩
      refine q _ p (same_upd np) np ⟨_, _, ?_, ?_, ?_, upd_same⟩
      · exact Int.le_max_left _ _
      · have := Int.emod_nonneg (cell % 2147483563 * (2 * (k : Int) + 5) + 281) (b := 2147483549) (by decide)
        omega
      · have := Int.emod_lt_of_pos (cell % 2147483563 * (2 * (k : Int) + 5) + 281) (b := 2147483549) (by decide)
        omega
    refine .inl ⟨_, .inl hs, ?_⟩
    refine .d (fun hlt => ?_) (fun _ => ?_)
    · rw [List.length_map] at hlt
      have hk : k < ns.length := by omega
      have hx : (ns.map V.int)[k]? = some (.int ns[k]) := by rw [List.getElem?_map, List.getElem?_eq_getElem hk]; rfl
      exact ⟨_, _, .inl hs, atI_nat hx, fin _ (by omega)⟩
    · exact fin _ (by omega)
/-! ### _law_draw -/
theorem scDraw : FnScope ["_law_pot_here", "_law_size", "_law_digit"] ["_law_pot_here", "_law_size"] (defScope sDraw) := ⟨rfl, rfl, rfl, by decide +kernel, rfl, by decide +kernel, by decide +kernel⟩
def spDraw : Sp := fun vs H Q _ => ∃ (p : Addr) (n : Nat), vs = [.ref p, .int n] ∧ 0 < n ∧ n ≤ 1000 ∧ Pot H p ∧ ∀ H' (d : Nat), Ex TT (at1 p) H H' → Pot H' p → d < n → Q (.int d) H'
theorem ok_draw {f : Addr} {fd : FuncData} {k : Nat} (F : Fun K "_law_draw" "_law_draw" sDraw f fd) (M : Mx mg) : FnG P w K mg base CX0 (k + 1) f fd ["_law_pot_here", "_law_size"] (spDraw TT) := by
  refine okG F scDraw (fun vs H Q E h => ?_) (fun cdv A hA outer s H vs Q E hr h => ?_)
  · obtain ⟨p, n, rfl, _⟩ := h; rfl
  · obtain ⟨p, n, rfl, h0, h1, hp, q⟩ := h
    have nd := scDraw.nd
    refine ⟨_, pss_cons (ps_ifU (pt_cu o_gt (pe_ixU (uv 0) pe_int) pe_int)
        (pss_cons (ps_asg (pe_callB c_divmod (by rfl) M.divmod b_divmod (pa_cons (pe_ixU (uv 0) pe_int) (pa_cons (uv 1) pa_nil))) (pg_tup rfl (pgs_cons (pg_sub (uv 0) pe_int set_list) (pgs_cons (pg_name (i := 2) nd rfl (.inl rfl)) pgs_nil))) rfl)
          (pss_one (ps_ret (uv 2)))) pss_nil)
      (pss_cons (ps_asg (pe_op o_mod (pe_callTy c_int (by rfl) M.int b_int (pa_cons (pe_op o_add (pe_op o_mul (pe_ixU (uv 0) pe_int) pe_int) pe_int) pa_nil)) pe_int) (pg_sub (uv 0) pe_int set_list) rfl)
      (pss_one (ps_ret (pe_op o_mod (pe_callTy c_int (by rfl) M.int b_int (pa_cons (pe_op o_fdiv (pe_op o_mod (pe_callTy c_int (by rfl) M.int b_int (pa_cons (pe_op o_mul (pe_ixU (uv 0) pe_int) (pe_ixU (uv 0) pe_int)) pa_nil)) pe_int) pe_int) pa_nil)) (uv 1))))), ?_⟩
    obtain ⟨i, j, hi, hj, hj2, hp⟩ := hp
    have hsq : SqL K H p [V.int i, V.int j] := .inl (.inl hp)
    have cd : CDiv i (n : Int) := ⟨by omega, by omega⟩
    refine ⟨_, V.int i, .inl hsq, rfl, ?_⟩
    refine .d (fun hlt => ?_) (fun _ => ?_)
    · refine ⟨_, V.int i, .inl hsq, rfl, cd, fun p' np => ?_⟩
      have ne : p ≠ p' := ne_of_none hp np
      have hp2 : (upd H p' (.tup [V.int (i / n), V.int (i % n)])) p = some (.lst [.int i, .int j]) := by rw [upd_ne ne]; exact hp
      refine ⟨p', _, rfl, .inl (.inl upd_same), rfl, _, _, rfl, p, _, 0, 0, rfl, rfl, hp2, rfl, ?_⟩
      refine ⟨_, _, rfl, rfl, ?_⟩
      have m0 := Int.emod_nonneg i (b := (n : Int)) (by omega)
      have m1 := Int.emod_lt_of_pos i (b := (n : Int)) (by omega)
      have e : i % (n : Int) = ((i % (n : Int)).toNat : Int) := by omega
      have r := q (upd (upd H p' (.tup [V.int (i / n), V.int (i % n)])) p (.lst ([V.int i, V.int j].set 0 (V.int (i / n))))) (i % (n : Int)).toNat
        ((Ex.new np).trans (Ex.write rfl hp2 (fun _ z => nomatch z) (fun _ _ z => nomatch z))) ⟨i / n, j, Int.ediv_nonneg hi (by omega), hj, hj2, upd_same⟩ (by omega)
      rw [← e] at r
      exact r
    · refine ⟨_, V.int j, .inl hsq, rfl, .inr ⟨by decide, by decide⟩, by decide, ?_⟩
      have m0 := Int.emod_nonneg (j * 48271 + 15121) (b := 2147483587) (by decide)
      have m1 := Int.emod_lt_of_pos (j * 48271 + 15121) (b := 2147483587) (by decide)
      refine ⟨p, _, 1, 1, rfl, rfl, hp, rfl, ?_⟩
      generalize (j * 48271 + 15121) % 2147483587 = g at m0 m1
      have hp2 : (upd H p (.lst ([V.int i, V.int j].set 1 (V.int g)))) p = some (.lst [.int i, .int g]) := upd_same
      refine ⟨_, V.int g, .inl (.inl (.inl hp2)), rfl, _, V.int g, .inl (.inl (.inl hp2)), rfl, .inl ⟨by omega, by omega⟩, by decide, ⟨by decide, by decide⟩, by omega, ?_⟩
      generalize g * g % 2147483543 / 19 = y
      have m2 := Int.emod_nonneg y (b := (n : Int)) (by omega)
      have m3 := Int.emod_lt_of_pos y (b := (n : Int)) (by omega)
      have e : y % (n : Int) = ((y % (n : Int)).toNat : Int) := by omega
      have r := q _ (y % (n : Int)).toNat (Ex.write rfl hp (fun _ z => nomatch z) (fun _ _ z => nomatch z)) ⟨i, g, hi, m0, by omega, hp2⟩ (by omega)
      rw [← e] at r
      exact r
end
end LK

/-! _law_pick, _law_mixed: of any values -/
namespace LK
open PySem PySem.Spec PyProof.Rows L2 LamX
open scoped List
theorem seqIx {d n : Nat} (h : d < n) : seqIndex? (d : Int) n = some d := by
  unfold seqIndex?
  simp only
  split <;> (try split) <;> first | omega | (simp; omega) | simp_all
theorem erase_permV {α : Type} : ∀ (l : List α) (d : Nat) (g : α), l[d]? = some g → (g :: l.eraseIdx d) ~ l
  | [], _, _, h => by simp at h
  | x :: l, 0, g, h => by
    obtain rfl : x = g := by simpa using h
    exact List.Perm.refl _
  | x :: l, d + 1, g, h => by
    have h : l[d]? = some g := by simpa using h
    exact (List.Perm.swap _ _ _).trans ((erase_permV l d g h).cons x)
section
variable {P : Program} {w : World} {K : PySem.W.Frag} {mg : Str → Option Value} {base : Heap} (TT : List (Addr × Str))
theorem scPick : FnScope ["_law_pot_here", "_law_some"] ["_law_pot_here", "_law_some"] (defScope sPick) := ⟨rfl, rfl, rfl, by decide +kernel, rfl, by decide +kernel, by decide +kernel⟩
/-- one of a list; one of a text's letters -/
def spPick : Sp := fun vs H Q _ => ∃ (p : Addr) (v : V), vs = [.ref p, v] ∧ Pot H p ∧
  ((∃ (a : Addr) (xs : List V), v = .ref a ∧ a ≠ p ∧ H a = some (.lst xs) ∧ 0 < xs.length ∧ xs.length ≤ 1000 ∧ ∀ H' x, Ex TT (at1 p) H H' → Pot H' p → x ∈ xs → Q x H') ∨
   (∃ S : List Nat, v = .str (T S) ∧ 0 < S.length ∧ S.length ≤ 1000 ∧ ∀ H' c, Ex TT (at1 p) H H' → Pot H' p → c ∈ S → Q (.str (T [c])) H'))
theorem ok_pick {f : Addr} {fd : FuncData} {k : Nat} (F : Fun K "_law_pick" "_law_pick" sPick f fd) (M : Mx mg) (HD : Has P w K mg base k "_law_draw" ["_law_pot_here", "_law_size"] (spDraw TT)) : FnG P w K mg base CX0 (k + 1) f fd ["_law_pot_here", "_law_some"] (spPick TT) := by
  refine okG F scPick (fun vs H Q E h => ?_) (fun cdv A hA outer s H vs Q E hr h => ?_)
  · obtain ⟨p, v, rfl, _⟩ := h; rfl
  · obtain ⟨p, v, rfl, hp, q⟩ := h
    have sl := sizeLine_eq
    refine ⟨_, pss_one (ps_ret (pe_ixU (uv 1) (pe_callH HD hA hr (by rfl) (pa_cons (uv 0) (pa_cons (pe_callB c_len (by rfl) M.len b_len (pa_cons (uv 1) pa_nil)) pa_nil))))), ?_⟩
    rcases q with ⟨a, xs, rfl, ne, ha, h0, h1, q⟩ | ⟨S, rfl, h0, h1, q⟩
    · refine .inl ⟨xs, .inl (.inl (.inl ha)), p, xs.length, rfl, h0, h1, hp, fun H' d e hp' hd => ?_⟩
      exact ⟨xs, xs[d], .inl (.inl (.inl (e.keep _ _ ne ha fun _ z => nomatch z))), atI_nat (List.getElem?_eq_getElem hd), q H' _ e hp' (List.getElem_mem hd)⟩
    · refine ⟨by show (cs (T S)).length ≤ sizeLine; rw [cs_T]; omega, ?_⟩
      refine ⟨p, (cs (T S)).length, rfl, by rw [cs_T]; exact h0, by rw [cs_T]; exact h1, hp, fun H' d e hp' hd => ?_⟩
      rw [cs_T] at hd
      exact ⟨by rw [cs_T]; omega, S[d], by rw [cs_T]; exact atI_nat (List.getElem?_eq_getElem hd), q H' _ e hp' (List.getElem_mem hd)⟩
abbrev nMix : List Str := ["_law_pot_here", "_law_some", "_law_left", "_law_found", "_law_turn"]
theorem scMixed : FnScope nMix ["_law_pot_here", "_law_some"] (defScope sMixed) := ⟨rfl, rfl, rfl, by decide +kernel, rfl, by decide +kernel, by decide +kernel⟩
/-- a new list of the same values, in some sequence -/
def spMixed (K : PySem.W.Frag) : Sp := fun vs H Q _ => ∃ (p a : Addr) (tp : Bool) (xs : List V), vs = [.ref p, .ref a] ∧ Pot H p ∧ SqB K tp H a xs ∧ xs.length ≤ 1000 ∧
  ∀ H' q ys, Ex TT (at1 p) H H' → Pot H' p → New H q → q ≠ p → H' q = some (.lst ys) → ys ~ xs → Q (.ref q) H'
theorem ok_mixed {f : Addr} {fd : FuncData} {k : Nat} (F : Fun K "_law_mixed" "_law_mixed" sMixed f fd) (M : Mx mg) (HD : Has P w K mg base k "_law_draw" ["_law_pot_here", "_law_size"] (spDraw TT)) :
    FnG P w K mg base CX0 (k + 1) f fd ["_law_pot_here", "_law_some"] (spMixed TT K) := by
  refine okG F scMixed (fun vs H Q E h => ?_) (fun cdv A hA outer s H vs Q E hr h => ?_)
  · obtain ⟨p, a, tp, xs, rfl, _⟩ := h; rfl
  · obtain ⟨p, a, tp, xs, rfl, hp, ha, hn, q⟩ := h
    have nd := scMixed.nd
    have sl := sizeLine_eq
    refine ⟨_, pss_cons (ps_par (i := 2) (j := 3) (by rfl) nd rfl rfl (by decide) rfl rfl (pa_cons (pe_callTy (r := listU K) (c_list rfl) (by rfl) M.list b_list (pa_cons (uv 1) pa_nil)) (pa_cons (pe_lst pa_nil) pa_nil)) (by rfl))
      (pss_cons (ps_for PassesOwn.never rfl (pi_range1 (by rfl) M.range (pa_cons (pe_callB c_len (by rfl) M.len b_len (pa_cons (uv 2) pa_nil)) pa_nil)) (pg_name (i := 4) nd rfl (.inl rfl))
        (pss_one (ps_expr (pe_bm PySem.F.plainAttrs_list PySem.F.slot_list_append PySem.F.type_list_append mt_append (uv 3)
          (pa_cons (pe_bm PySem.F.plainAttrs_list PySem.F.slot_list_pop PySem.F.type_list_pop mt_popAt (uv 2) (pa_cons (pe_callH HD hA hr (by rfl) (pa_cons (uv 0) (pa_cons (pe_callB c_len (by rfl) M.len b_len (pa_cons (uv 2) pa_nil)) pa_nil))) pa_nil)) pa_nil)))))
      (pss_one (ps_ret (uv 3)))), ?_⟩
    refine .inl ⟨xs, ha.or, fun L nL => ⟨by show 0 ≤ sizeLine; omega, fun B nB => ⟨_, _, rfl, ?_⟩⟩⟩
    have nLB : L ≠ B := ne_of_none upd_same nB
    have npL : p ≠ L := hp.ne nL
    have nBH : H B = none := Same.free (same_upd nL) nB
    have npB : p ≠ B := hp.ne nBH
    have newL : New H L := fun b o hb _ e => by rw [e, nL] at hb; cases hb
    have newB : New H B := fun b o hb _ e => by rw [e, nBH] at hb; cases hb
    have e0 : Same H (upd (upd H L (.lst xs)) B (.lst [])) := same_upd2 (same_upd nL) nBH
    have hL0 : (upd (upd H L (.lst xs)) B (.lst [])) L = some (.lst xs) := by rw [upd_ne nLB]; exact upd_same
    have hB0 : (upd (upd H L (.lst xs)) B (.lst [])) B = some (.lst []) := upd_same
    have hp0 : Pot (upd (upd H L (.lst xs)) B (.lst [])) p := (hp.put npL).put npB
    generalize upd (upd H L (.lst xs)) B (.lst []) = H0 at e0 hL0 hB0 hp0
    dsimp only [tSeq]
    refine for_rng (n := xs.length) (H1 := H0) (fun R' h => .inl ⟨xs, .inl (.inl (.inl hL0)), h⟩) (by omega) (fun i σ H2 => ∃ (lf fd : List V) (y4 : Option V), σ = [some (.ref p), some (.ref a), some (.ref L), some (.ref B), y4] ∧ Ex TT (at1 p) H H2 ∧ Pot H2 p ∧ H2 L = some (.lst lf) ∧ H2 B = some (.lst fd) ∧ (fd ++ lf) ~ xs ∧ fd.length = i)
      ⟨xs, [], none, rfl, .same e0, hp0, hL0, hB0, by simp, rfl⟩ (fun i σ H2 hi2 h => ?_) (fun σ H2 h => ?_)
    · obtain ⟨lf, fd, y4, rfl, e2, hp2, hL2, hB2, pm, rfl⟩ := h
      have lens := pm.length_eq
      rw [List.length_append] at lens
      refine ⟨.inl ⟨rfl, _, .inl (.inl hB2)⟩, .inl ⟨rfl, _, .inl (.inl hL2)⟩, .inl ⟨lf, .inl (.inl (.inl hL2)), p, lf.length, rfl, by omega, by omega, hp2, fun H3 d e3 hp3 hd => ?_⟩⟩
      have hL3 : H3 L = some (.lst lf) := e3.keep _ _ npL.symm hL2 fun _ z => nomatch z
      have hB3 : H3 B = some (.lst fd) := e3.keep _ _ npB.symm hB2 fun _ z => nomatch z
      obtain ⟨g, hg⟩ : ∃ g, lf[d]? = some g := ⟨_, List.getElem?_eq_getElem hd⟩
      refine ⟨L, lf, d, d, g, rfl, rfl, hL3, by omega, by omega, seqIx hd, hg, ?_⟩
      have hB4 : (upd H3 L (.lst (lf.eraseIdx d))) B = some (.lst fd) := by rw [upd_ne nLB.symm]; exact hB3
      refine ⟨B, fd, g, rfl, rfl, hB4, by omega, ?_⟩
      have e4 : Ex TT (at1 p) H (upd (upd H3 L (.lst (lf.eraseIdx d))) B (.lst (fd ++ [g]))) :=
        ((e2.trans e3).putN newL hL3 (fun _ z => nomatch z) (fun _ _ z => nomatch z)).putN newB hB4 (fun _ z => nomatch z) (fun _ _ z => nomatch z)
      refine ⟨lf.eraseIdx d, fd ++ [g], _, rfl, e4, (hp3.put npL).put npB, ?_, upd_same, ?_, by simp⟩
      · rw [upd_ne nLB, upd_same]
      · refine List.Perm.trans ?_ pm
        rw [List.append_assoc]
        exact List.Perm.append_left fd (erase_permV lf d g hg)
    · obtain ⟨lf, fd, y4, rfl, e2, hp2, hL2, hB2, pm, hl⟩ := h
      have lens := pm.length_eq
      rw [List.length_append] at lens
      have : lf = [] := List.length_eq_zero_iff.mp (by omega)
      subst this
      rw [List.append_nil] at pm
      exact q H2 B fd e2 hp2 newB npB.symm hB2 pm
end
end LK

/-! rows that come to all places: a tree, then any goals beside it, then other numbers -/
namespace LK
open PySem PySem.Spec PyProof.Rows L2
open scoped List
def setRC (R : Rows) (a b v : Nat) : Rows := R.set a ((gls R a).set b v)
section
variable {R : Rows} {a b v i j n m far d : Nat} {ps : List (Nat × Nat)}
theorem setRC_len : (setRC R a b v).length = R.length := List.length_set
theorem setRC_self (ha : a < R.length) : gls (setRC R a b v) a = (gls R a).set b v := by
  unfold gls setRC
  rw [List.getD_eq_getElem?_getD, List.getElem?_set_self ha]; rfl
theorem setRC_ne (h : i ≠ a) : gls (setRC R a b v) i = gls R i := by
  unfold gls setRC
  rw [List.getD_eq_getElem?_getD, List.getElem?_set_ne (Ne.symm h), ← List.getD_eq_getElem?_getD]
theorem rows_of (h1 : ∀ p, p < R.length → (gls R p).length = m) (h2 : ∀ p, p < R.length → ∀ g ∈ gls R p, g < R.length) : RowsOk R m := by
  have key : ∀ row ∈ R, ∃ p, p < R.length ∧ gls R p = row := fun row hr => by
    obtain ⟨p, hp, e⟩ := List.mem_iff_getElem.mp hr
    exact ⟨p, hp, by unfold gls; rw [List.getD_eq_getElem?_getD, List.getElem?_eq_getElem hp]; exact e⟩
  refine ⟨fun row hr => ?_, fun row hr g hg => ?_⟩
  · obtain ⟨p, hp, rfl⟩ := key row hr; exact h1 p hp
  · obtain ⟨p, hp, rfl⟩ := key row hr; exact h2 p hp g hg
theorem setRC_ok (ok : RowsOk R m) (ha : a < R.length) (hv : v < R.length) : RowsOk (setRC R a b v) m := by
  refine rows_of (fun p hp => ?_) (fun p hp g hg => ?_)
  · rw [setRC_len] at hp
    by_cases e : p = a
    · subst e; rw [setRC_self hp, List.length_set, gls_len ok hp]
    · rw [setRC_ne e, gls_len ok hp]
  · rw [setRC_len] at hp ⊢
    by_cases e : p = a
    · subst e
      rw [setRC_self hp] at hg
      rcases List.mem_or_eq_of_mem_set hg with hg | rfl
      · exact gls_lt ok hg
      · exact hv
    · rw [setRC_ne e] at hg; exact gls_lt ok hg
theorem setRC_at (ok : RowsOk R m) (ha : a < R.length) (hb : b < m) : (gls (setRC R a b v) a).getD b 0 = v := by
  rw [setRC_self ha, List.getD_eq_getElem?_getD, List.getElem?_set_self (by rw [gls_len ok ha]; exact hb)]; rfl
theorem setRC_other (ha : a < R.length) (h : (i, j) ≠ (a, b)) : (gls (setRC R a b v) i).getD j 0 = (gls R i).getD j 0 := by
  by_cases e : i = a
  · subst e
    have hj : b ≠ j := fun z => h (by rw [z])
    rw [setRC_self ha, List.getD_eq_getElem?_getD, List.getElem?_set_ne hj, ← List.getD_eq_getElem?_getD]
  · rw [setRC_ne e]
/-- each place before far but 0 is led to from an earlier one, by a cell that ps does not name -/
def Edges (m far : Nat) (R : Rows) (ps : List (Nat × Nat)) : Prop := ∀ q, 1 ≤ q → q < far → ∃ a b, a < q ∧ b < m ∧ (a, b) ∉ ps ∧ (gls R a).getD b 0 = q
structure Tree (n m far : Nat) (R : Rows) (ps : List (Nat × Nat)) : Prop where
  len : R.length = n
  ok : RowsOk R m
  nd : ps.Nodup
  lt : ∀ x ∈ ps, x.1 < far ∧ x.2 < m
  ne : 1 ≤ ps.length
  ed : Edges m far R ps
theorem nd_pairs (far m : Nat) : ((List.range m).map fun b => (far, b)).Nodup := List.Pairwise.map _ (fun a b h z => h (Prod.mk.inj z).2) List.nodup_range
theorem tree_start (hn : 1 ≤ n) (hm : 1 ≤ m) : Tree n m 1 (List.replicate n (List.replicate m 0)) ((List.range m).map fun b => (0, b)) := by
  refine ⟨List.length_replicate, ⟨fun row hr => ?_, fun row hr g hg => ?_⟩, nd_pairs 0 m, fun x hx => ?_, by rw [List.length_map, List.length_range]; exact hm, fun q h1 h2 => by omega⟩
  · rw [(List.mem_replicate.mp hr).2, List.length_replicate]
  · rw [(List.mem_replicate.mp hr).2] at hg
    rw [(List.mem_replicate.mp hg).2, List.length_replicate]; omega
  · obtain ⟨b, hb, rfl⟩ := List.mem_map.mp hx
    exact ⟨Nat.zero_lt_one, List.mem_range.mp hb⟩
theorem tree_step (t : Tree n m far R ps) (hf : 1 ≤ far) (hn : far < n) (hm : 1 ≤ m) (hd : ps[d]? = some (a, b)) : Tree n m (far + 1) (setRC R a b far) (ps.eraseIdx d ++ (List.range m).map fun b => (far, b)) := by
  have hmem : (a, b) ∈ ps := List.mem_of_getElem? hd
  obtain ⟨ha, hb⟩ := t.lt _ hmem
  have hl := t.len
  have haR : a < R.length := by have : a < far := ha; omega
  have hpm := erase_permV ps d (a, b) hd
  have ndc : ((a, b) :: ps.eraseIdx d).Nodup := hpm.nodup_iff.mpr t.nd
  obtain ⟨n1, n2⟩ := List.nodup_cons.mp ndc
  have sub : ∀ x ∈ ps.eraseIdx d, x ∈ ps := fun x hx => hpm.mem_iff.mp (List.mem_cons_of_mem _ hx)
  refine ⟨by rw [setRC_len]; exact hl, setRC_ok t.ok haR (by omega), ?_, fun x hx => ?_, ?_, fun q h1 h2 => ?_⟩
  · refine List.nodup_append.mpr ⟨n2, nd_pairs far m, fun x hx y hy z => ?_⟩
    obtain ⟨b', _, rfl⟩ := List.mem_map.mp hy
    have := (t.lt _ (sub x hx)).1
    rw [z] at this
    exact Nat.lt_irrefl _ this
  · rcases List.mem_append.mp hx with hx | hx
    · have := t.lt x (sub x hx); exact ⟨by omega, this.2⟩
    · obtain ⟨b', hb', rfl⟩ := List.mem_map.mp hx
      exact ⟨Nat.lt_succ_self _, List.mem_range.mp hb'⟩
  · rw [List.length_append, List.length_map, List.length_range]; omega
  · by_cases e : q = far
    · subst e
      refine ⟨a, b, ha, hb, fun z => ?_, setRC_at t.ok haR hb⟩
      rcases List.mem_append.mp z with z | z
      · exact n1 z
      · obtain ⟨b', _, eb⟩ := List.mem_map.mp z
        have := (Prod.mk.inj eb).1
        omega
    · obtain ⟨a', b', q1, q2, q3, q4⟩ := t.ed q h1 (by omega)
      refine ⟨a', b', q1, q2, fun z => ?_, ?_⟩
      · rcases List.mem_append.mp z with z | z
        · exact q3 (sub _ z)
        · obtain ⟨b9, _, eb⟩ := List.mem_map.mp z
          have := (Prod.mk.inj eb).1
          omega
      · rw [setRC_other haR (fun z => q3 (z ▸ hmem))]; exact q4
theorem edges_set (e : Edges m far R ps) (ha : a < R.length) (hmem : (a, b) ∈ ps) : Edges m far (setRC R a b v) ps := fun q h1 h2 => by
  obtain ⟨a', b', q1, q2, q3, q4⟩ := e q h1 h2
  exact ⟨a', b', q1, q2, q3, by rw [setRC_other ha (fun z => q3 (z ▸ hmem))]; exact q4⟩
/-- the rows with the numbers N -/
def renR (R : Rows) (N : List Nat) : Rows := (List.range R.length).map fun p => (gls R (N.idxOf p)).map fun g => N.getD g 0
theorem renR_len {N : List Nat} : (renR R N).length = R.length := by rw [renR, List.length_map, List.length_range]
theorem renR_gls {N : List Nat} {p : Nat} (h : p < R.length) : gls (renR R N) p = (gls R (N.idxOf p)).map fun g => N.getD g 0 := gls_rng h
theorem ren_ok {N : List Nat} (ok : RowsOk R m) (pm : N ~ List.range R.length) : RowsOk (renR R N) m := by
  have hl : N.length = R.length := by rw [pm.length_eq, List.length_range]
  have ix : ∀ p, p < R.length → N.idxOf p < R.length := fun p hp => by
    rw [← hl]; exact List.idxOf_lt_length_of_mem (pm.mem_iff.mpr (List.mem_range.mpr hp))
  refine rows_of (fun p hp => ?_) (fun p hp g hg => ?_)
  · rw [renR_len] at hp
    rw [renR_gls hp, List.length_map, gls_len ok (ix p hp)]
  · rw [renR_len] at hp ⊢
    rw [renR_gls hp] at hg
    obtain ⟨g0, hg0, rfl⟩ := List.mem_map.mp hg
    have l0 : g0 < N.length := by rw [hl]; exact gls_lt ok hg0
    have : N.getD g0 0 ∈ N := by rw [List.getD_eq_getElem?_getD, List.getElem?_eq_getElem l0]; exact List.getElem_mem l0
    exact List.mem_range.mp (pm.mem_iff.mp this)
theorem ren_whole {N : List Nat} (ok : RowsOk R m) (hn : 1 ≤ R.length) (ed : Edges m R.length R ps) (pm : N ~ List.range R.length) (h0 : N[0]? = some 0) : Whole (renR R N) := by
  have hl : N.length = R.length := by rw [pm.length_eq, List.length_range]
  have nd : N.Nodup := pm.nodup_iff.mpr List.nodup_range
  have ok' := ren_ok ok pm
  have h0' : 0 < (renR R N).length := by rw [renR_len]; exact hn
  have key : ∀ s, s < R.length → N.getD s 0 ∈ met (renR R N) 0 := by
    intro s
    induction s using Nat.strongRecOn with
    | _ s ih =>
      intro hs
      by_cases z : s = 0
      · subst z
        rw [List.getD_eq_getElem?_getD, h0]
        exact List.mem_of_getElem? met_zero
      · obtain ⟨a, b, ha, hb, _, e⟩ := ed s (by omega) hs
        have la : a < R.length := by omega
        have lN : a < N.length := by omega
        have eN : N.getD a 0 = N[a] := by rw [List.getD_eq_getElem?_getD, List.getElem?_eq_getElem lN]; rfl
        have ix : N.idxOf (N.getD a 0) = a := by rw [eN]; exact nd.idxOf_getElem a lN
        have lt : N.getD a 0 < R.length := by
          rw [eN]; exact List.mem_range.mp (pm.mem_iff.mp (List.getElem_mem lN))
        refine met_closed ok' h0' (ih a ha la) ?_
        rw [renR_gls lt, ix]
        refine List.mem_map.mpr ⟨s, ?_, rfl⟩
        have lb : b < (gls R a).length := by rw [gls_len ok la]; exact hb
        rw [← e, List.getD_eq_getElem?_getD, List.getElem?_eq_getElem lb]
        exact List.getElem_mem lb
  intro x hx
  rw [renR_len] at hx
  have hm := pm.mem_iff.mpr (List.mem_range.mpr hx)
  have li := List.idxOf_lt_length_of_mem hm
  have := key (N.idxOf x) (by omega)
  rw [List.getD_eq_getElem?_getD, List.getElem?_eq_getElem li] at this
  have e : N[N.idxOf x] = x := List.getElem_idxOf li
  rw [show (some N[N.idxOf x]).getD 0 = N[N.idxOf x] from rfl, e] at this
  exact this
end
end LK

/-! for .. in range(a, b); _law_kinds -/
namespace LK
open PySem PySem.Spec PyProof.Rows L2 LamX
open scoped List
section
variable {g : TG} {tb : TS} {σ : L2.St} {H H1 : Hp} {D : Ends}
theorem for_rng2 {t : TA} {lo n : Nat} (h : ∀ R : List V → Hp → Prop, R [.int lo, .int n] H1 → t σ H R) (hl : lo ≤ n) (hn : n < 1000000) (Iv : Nat → L2.St → Hp → Prop) (h0 : Iv lo σ H1)
    (hs : ∀ i σ H, lo ≤ i → i < n → Iv i σ H → g (.int (i : Nat)) σ H fun σ2 H2 => tb { D with nx := Iv (i + 1), ct := Iv (i + 1), bk := D.nx } σ2 H2)
    (he : ∀ σ H, Iv n σ H → D.nx σ H) : tFor (iRng2 t) g tb D σ H := by
  refine h _ ⟨lo, n, rfl, ⟨by omega, by omega, by omega, by omega⟩, ?_⟩
  have e : ((n : Int) - (lo : Int)).toNat = n - lo := by omega
  rw [e]
  refine for_n (f := fun i => V.int ((lo : Int) + (i : Nat))) (wk_rng lo (n - lo)) (fun i => Iv (lo + i)) h0 (fun i σ H hi iv => ?_) (fun σ H iv => he σ H ?_)
  · have := hs (lo + i) σ H (by omega) (by omega) iv
    rw [Int.natCast_add] at this
    exact this
  · rw [show lo + (n - lo) = n by omega] at iv
    exact iv
end
section
variable {P : Program} {w : World} {K : PySem.W.Frag} {mg : Str → Option Value} {base : Heap} (TT : List (Addr × Str))
abbrev nLKi : List Str := ["_law_pot_here", "_law_many", "_law_way", "_law_one", "_law_spot"]
theorem scLKi : FnScope nLKi ["_law_pot_here", "_law_many"] (defScope sLKinds) := ⟨rfl, rfl, rfl, by decide +kernel, rfl, by decide +kernel, by decide +kernel⟩
/-- some kinds -/
def spLKi : Sp := fun vs H Q _ => ∃ (p : Addr) (n : Nat), vs = [.ref p, .int n] ∧ 0 < n ∧ n ≤ 1000 ∧ Pot H p ∧ ∀ H' q (Kd : List Bool), Ex TT (at1 p) H H' → Pot H' p → New H q → q ≠ p → H' q = some (.lst (Kd.map V.bl)) → Kd.length = n → Q (.ref q) H'
theorem ok_lki {f : Addr} {fd : FuncData} {k : Nat} (F : Fun K "_law_kinds" "_law_kinds" sLKinds f fd) (M : Mx mg) (HD : Has P w K mg base k "_law_draw" ["_law_pot_here", "_law_size"] (spDraw TT)) :
    FnG P w K mg base CX0 (k + 1) f fd ["_law_pot_here", "_law_many"] (spLKi TT) := by
  refine okG F scLKi (fun vs H Q E h => ?_) (fun cdv A hA outer s H vs Q E hr h => ?_)
  · obtain ⟨p, n, rfl, _⟩ := h; rfl
  · obtain ⟨p, n, rfl, h0, h1, hp, q⟩ := h
    have nd := scLKi.nd
    have sl := sizeLine_eq
    refine ⟨_, (pss_cons (ps_asg (pe_tup (pa_cons (pe_callH HD hA hr (by rfl) (pa_cons (uv 0) (pa_cons pe_int pa_nil))) (pa_cons (pe_callH HD hA hr (by rfl) (pa_cons (uv 0) (pa_cons (uv 1) pa_nil))) pa_nil))) (pg_tup rfl (pgs_cons (pg_name (i := 2) nd rfl (.inr rfl)) (pgs_cons (pg_name (i := 3) nd rfl (.inr rfl)) pgs_nil))) rfl)
      (pss_cons (ps_ifU (pt_cu o_lt (uv 2) pe_int) (pss_one (ps_ret (pe_lc (own := [("_law_spot", 4)]) (g := gName 4) (tt := tYes) rfl nd (pi_range1 (by rfl) M.range (pa_cons (uv 1) pa_nil)) (blkOk_by (N := nLKi) (sc := defScope sLKinds) (by decide +kernel))
          (fun _ _ _ _ _ => pg_name (i := 4) nd rfl (Or.inl rfl)) (fun _ _ _ _ _ => pts_nil)
          (fun _ _ _ _ _ => (pe_cu (r := eqU K false) (o_eq hr.units) (pe_callH HD hA hr (by rfl) (pa_cons (uv 0) (pa_cons pe_int pa_nil))) pe_int))))) pss_nil)
      (pss_one (ps_ret (pe_lc (own := [("_law_spot", 4)]) (g := gName 4) (tt := tYes) rfl nd (pi_range1 (by rfl) M.range (pa_cons (uv 1) pa_nil)) (blkOk_by (N := nLKi) (sc := defScope sLKinds) (by decide +kernel))
          (fun _ _ _ _ _ => pg_name (i := 4) nd rfl (Or.inl rfl)) (fun _ _ _ _ _ => pts_nil)
          (fun _ _ _ _ _ => (pe_cu (r := eqU K false) (o_eq hr.units) (pe_cu (r := eqU K false) (o_eq hr.units) (uv 4) (uv 3)) (pe_cu (r := eqU K false) (o_eq hr.units) (uv 2) pe_int)))))))), ?_⟩
    refine ⟨p, 4, rfl, by omega, by omega, hp, fun H1 way e1 hp1 hw => ?_⟩
    refine ⟨p, n, rfl, h0, h1, hp1, fun H2 one e2 hp2 ho => ?_⟩
    have e12 := e1.trans e2
    refine ⟨by show 2 ≤ sizeLine; omega, fun t nt => ?_⟩
    refine ⟨t, _, rfl, .inl (.inl upd_same), rfl, _, _, rfl, _, _, rfl, rfl, ?_⟩
    have npt : p ≠ t := hp2.ne nt
    have hp3 : Pot (upd H2 t (.tup [.int (way : Nat), .int (one : Nat)])) p := hp2.put npt
    have e13 : Ex TT (at1 p) H (upd H2 t (.tup [.int (way : Nat), .int (one : Nat)])) := e12.trans (.new nt)
    generalize upd H2 t (.tup [.int (way : Nat), .int (one : Nat)]) = H3 at hp3 e13
    refine .d (fun hlt => ?_) (fun _ => ?_)
    · dsimp only [tSeq, tRet]
      refine lc_rng (n := n) (H1 := H3) (fun R' h => h) (by omega) (fun D i acc H4 => H3 D = none ∧ ∃ Kd : List Bool, acc = Kd.map V.bl ∧ Kd.length = i ∧ Ex TT (at1 p) H3 H4 ∧ Pot H4 p ∧ H4 D = some (.lst acc))
        (fun D nD => ⟨nD, [], rfl, rfl, .new nD, hp3.put (hp3.ne nD), upd_same⟩) (fun D nD i acc H4 hi r => ?_) (fun D nD acc H4 r => ?_)
      · obtain ⟨_, Kd, rfl, lK, e4, hp4, hD⟩ := r
        have nDp := hp3.ne nD
        refine ⟨rfl, p, 2, rfl, by omega, by omega, hp4, fun H5 d e5 hp5 hd => ?_⟩
        have hD5 : H5 D = some (.lst (Kd.map V.bl)) := e5.keep _ _ nDp.symm hD fun _ z => nomatch z
        have newD : New H3 D := fun b o hb _ e => by rw [e, nD] at hb; cases hb
        refine ⟨_, hD5, by rw [List.length_map]; omega, _, nD, Kd ++ [decide ((d : Int) = 0)], by rw [List.map_append]; rfl, by rw [List.length_append, lK]; rfl, (e4.trans e5).putN newD hD5 (fun _ z => nomatch z) (fun _ _ z => nomatch z), hp5.put nDp, upd_same⟩
      · obtain ⟨_, Kd, rfl, lK, e4, hp4, hD⟩ := r
        refine q H4 D Kd (e13.trans e4) hp4 (Ex.newN e13 hp3 nD) (hp3.ne nD).symm hD lK
    · dsimp only [tSeq, tNext, tRet]
      refine lc_rng (n := n) (H1 := H3) (fun R' h => h) (by omega) (fun D i acc H4 => H3 D = none ∧ ∃ Kd : List Bool, acc = Kd.map V.bl ∧ Kd.length = i ∧ H4 = upd H3 D (.lst acc))
        (fun D nD => ⟨nD, [], rfl, rfl, rfl⟩) (fun D nD i acc H4 hi r => ?_) (fun D nD acc H4 r => ?_)
      · obtain ⟨_, Kd, rfl, lK, rfl⟩ := r
        refine ⟨rfl, _, upd_same, by rw [List.length_map]; omega, _, nD, Kd ++ [decide (decide ((i : Int) = (one : Int)) = decide ((way : Int) = 2))], by rw [List.map_append]; rfl, by rw [List.length_append, lK]; rfl, upd_upd⟩
      · obtain ⟨_, Kd, rfl, lK, rfl⟩ := r
        exact q _ D Kd (e13.trans (.new nD)) (hp3.put (hp3.ne nD)) (Ex.newN e13 hp3 nD) (hp3.ne nD).symm upd_same lK
end
end LK

/-! _law_rows -/
namespace LK
open PySem PySem.Spec PyProof.Rows L2 LamX
open scoped List
/-- rows whose lists are all unlike -/
def RowsN (H : Hp) (r : Addr) (R : Rows) (rs : List Addr) : Prop := H r = some (.lst (rs.map V.ref)) ∧ rs.length = R.length ∧ rs.Nodup ∧ r ∉ rs ∧ ∀ i p, rs[i]? = some p → H p = some (.lst (iv (gls R i)))
/-- a list of pairs of numbers -/
def PrsAt (H : Hp) (a : Addr) (fs : List Addr) (ps : List (Nat × Nat)) : Prop := H a = some (.lst (fs.map V.ref)) ∧ fs.length = ps.length ∧ ∀ (i : Nat) q x, fs[i]? = some q → ps[i]? = some x → H q = some (.tup [.int (x.1 : Nat), .int (x.2 : Nat)])
theorem flat_rep (m : Nat) : (List.replicate ((m : Int)).toNat [V.int 0]).flatten = iv (List.replicate m 0) := by
  rw [Int.toNat_natCast]
  induction m with
  | zero => rfl
  | succ m ih => rw [List.replicate_succ, List.flatten_cons, ih, List.replicate_succ]; rfl
theorem PrsAt.ext {H H' : Hp} {a : Addr} {fs : List Addr} {ps : List (Nat × Nat)} (h : PrsAt H a fs ps) (e : Same H H') : PrsAt H' a fs ps := ⟨e _ _ h.1, h.2.1, fun i q x hq hx => e _ _ (h.2.2 i q x hq hx)⟩
theorem RowsN.ext {H H' : Hp} {r : Addr} {R : Rows} {rs : List Addr} (h : RowsN H r R rs) (e : Same H H') : RowsN H' r R rs := ⟨e _ _ h.1, h.2.1, h.2.2.1, h.2.2.2.1, fun i p hp => e _ _ (h.2.2.2.2 i p hp)⟩
theorem Pot.lst {H : Hp} {p : Addr} (h : Pot H p) : ∃ i j : Int, H p = some (.lst [.int i, .int j]) := by
  obtain ⟨i, j, _, _, _, d⟩ := h; exact ⟨i, j, d⟩
theorem New.nep {H : Hp} {p q : Addr} (h : Pot H p) (n : New H q) : q ≠ p := fun z => by
  obtain ⟨i, j, d⟩ := Pot.lst h
  exact n p _ d (fun _ z => nomatch z) z.symm
theorem PrsAt.keep {TT : List (Addr × Str)} {H H' : Hp} {p a : Addr} {fs : List Addr} {ps : List (Nat × Nat)} (h : PrsAt H a fs ps) (e : Ex TT (at1 p) H H') (n : a ≠ p) (hp : Pot H p) : PrsAt H' a fs ps := by
  obtain ⟨u, v, d⟩ := Pot.lst hp
  refine ⟨e.keep _ _ n h.1 (fun _ z => nomatch z), h.2.1, fun i q x hq hx => ?_⟩
  have hq3 := h.2.2 i q x hq hx
  exact e.keep _ _ (fun z => by have z : q = p := z; rw [z, d] at hq3; cases hq3) hq3 (fun _ z => nomatch z)
theorem RowsN.keep {TT : List (Addr × Str)} {H H' : Hp} {p r : Addr} {R : Rows} {rs : List Addr} (h : RowsN H r R rs) (e : Ex TT (at1 p) H H') (n : r ≠ p) (nr : ∀ q ∈ rs, q ≠ p) : RowsN H' r R rs :=
  ⟨e.keep _ _ n h.1 (fun _ z => nomatch z), h.2.1, h.2.2.1, h.2.2.2.1, fun i q hq => e.keep _ _ (nr q (List.mem_of_getElem? hq)) (h.2.2.2.2 i q hq) (fun _ z => nomatch z)⟩
theorem RowsN.setRC {H : Hp} {r q : Addr} {R : Rows} {rs : List Addr} {a b v : Nat} (h : RowsN H r R rs) (hq : rs[a]? = some q) : RowsN (upd H q (.lst ((iv (gls R a)).set b (.int (v : Nat))))) r (setRC R a b v) rs := by
  obtain ⟨h1, h2, h3, h4, h5⟩ := h
  have la := (List.getElem?_eq_some_iff.mp hq).1
  have nq : r ≠ q := fun z => h4 (z ▸ List.mem_of_getElem? hq)
  refine ⟨by rw [upd_ne nq]; exact h1, by rw [setRC_len]; exact h2, h3, h4, fun i x hx => ?_⟩
  by_cases e : i = a
  · subst e
    rw [hq] at hx; cases hx
    rw [upd_same, setRC_self (by omega)]
    exact congrArg (fun l => some (HO.lst l)) List.map_set.symm
  · have nx : x ≠ q := fun z => by
      obtain ⟨l1, e1⟩ := List.getElem?_eq_some_iff.mp hx
      obtain ⟨l2, e2⟩ := List.getElem?_eq_some_iff.mp hq
      have ee : rs[i] = rs[a] := by rw [e1, e2, z]
      rcases Nat.lt_or_gt_of_ne e with lt | gt
      · exact List.pairwise_iff_getElem.mp h3 i a l1 l2 lt ee
      · exact List.pairwise_iff_getElem.mp h3 a i l2 l1 gt ee.symm
    rw [upd_ne nx, setRC_ne e]
    exact h5 i x hx
theorem ixNat {n j : Nat} (hj : j < n) : ixN n (j : Int) = some j := by
  unfold ixN
  rw [if_pos (by omega), if_pos (by omega), Int.toNat_natCast]
theorem erase_map {α β : Type} (f : α → β) : ∀ (l : List α) (d : Nat), (l.map f).eraseIdx d = (l.eraseIdx d).map f
  | [], _ => rfl
  | _ :: _, 0 => rfl
  | c :: l, d + 1 => by
    show f c :: (l.map f).eraseIdx d = f c :: (l.eraseIdx d).map f
    rw [erase_map f l d]
theorem erase_at {α : Type} {l : List α} {d i : Nat} {x : α} (h : (l.eraseIdx d)[i]? = some x) : l[if i < d then i else i + 1]? = some x := by
  rw [List.getElem?_eraseIdx] at h
  split at h
  · rename_i lt; rw [if_pos lt]; exact h
  · rename_i lt; rw [if_neg lt]; exact h
theorem PrsAt.put {H : Hp} {a y : Addr} {xs ys : List V} {fs : List Addr} {ps : List (Nat × Nat)} (h : PrsAt H a fs ps) (hy : H y = some (.lst xs)) (n : a ≠ y) : PrsAt (upd H y (.lst ys)) a fs ps :=
  ⟨by rw [upd_ne n]; exact h.1, h.2.1, fun i q x hq hx => by
    have := h.2.2 i q x hq hx
    have nq : q ≠ y := fun z => by rw [z, hy] at this; cases this
    rw [upd_ne nq]; exact this⟩
theorem PrsAt.to {H : Hp} {a : Addr} {fs : List Addr} {ps : List (Nat × Nat)} {fs' : List Addr} {ps' : List (Nat × Nat)} {xs : List V} (ha : H a = some (.lst xs)) (hl : fs'.length = ps'.length) (h : ∀ (i : Nat) q x, fs'[i]? = some q → ps'[i]? = some x → H q = some (.tup [.int (x.1 : Nat), .int (x.2 : Nat)])) : PrsAt (upd H a (.lst (fs'.map V.ref))) a fs' ps' :=
  ⟨upd_same, hl, fun i q x hq hx => by
    have := h i q x hq hx
    have nq : q ≠ a := fun z => by rw [z, ha] at this; cases this
    rw [upd_ne nq]; exact this⟩
theorem perm_mapI {α β : Type} {f : α → β} {ys zs : List β} (h : ys ~ zs) : ∀ l : List α, zs = l.map f → ∃ ns : List α, ys = ns.map f ∧ ns ~ l := by
  induction h with
  | nil => exact fun l e => ⟨[], rfl, by rw [List.map_eq_nil_iff.mp e.symm]⟩
  | cons x _ ih =>
    intro l e
    obtain ⟨a, l', rfl, rfl, e2⟩ := List.map_eq_cons_iff.mp e.symm
    obtain ⟨ns, rfl, pm⟩ := ih l' e2.symm
    exact ⟨a :: ns, rfl, pm.cons a⟩
  | swap x y l0 =>
    intro l e
    obtain ⟨a, l', rfl, rfl, e2⟩ := List.map_eq_cons_iff.mp e.symm
    obtain ⟨b, l'', rfl, rfl, rfl⟩ := List.map_eq_cons_iff.mp e2
    exact ⟨b :: a :: l'', rfl, .swap _ _ _⟩
  | trans _ _ ih1 ih2 =>
    intro l e
    obtain ⟨ns, rfl, pm⟩ := ih2 l e
    obtain ⟨ns', rfl, pm'⟩ := ih1 ns rfl
    exact ⟨ns', rfl, pm'.trans pm⟩
theorem rgV1 (n : Nat) (h : 0 < n) : rgV 1 n = iv ((List.range (n - 1)).map (· + 1)) := by
  unfold rgV
  rw [show ((n : Int) - 1).toNat = n - 1 by omega, show iv ((List.range (n - 1)).map (· + 1)) = (List.range (n - 1)).map (fun i => V.int (((i + 1 : Nat)) : Int)) from List.map_map]
  refine List.map_congr_left fun i _ => ?_
  show V.int (1 + (i : Int)) = V.int (((i + 1 : Nat)) : Int)
  rw [show (1 : Int) + (i : Int) = ((i + 1 : Nat) : Int) by omega]
theorem names_perm {n : Nat} (h : 0 < n) {ys : List V} (pm : ys ~ rgV 1 n) : ∃ N : List Nat, ([V.int 0] ++ ys) = iv N ∧ N ~ List.range n ∧ N[0]? = some 0 := by
  rw [rgV1 n h] at pm
  obtain ⟨ns, rfl, p2⟩ := perm_mapI pm _ rfl
  refine ⟨0 :: ns, rfl, ?_, rfl⟩
  obtain ⟨n', rfl⟩ : ∃ n', n = n' + 1 := ⟨n - 1, by omega⟩
  rw [List.range_succ_eq_map]
  exact p2.cons 0
abbrev ixNat_ok (N : List Nat) : Prop := ∀ {v : Nat} (g : Nat), N[g]? = some v → (iv N)[g]? = some (V.int (v : Nat))

section
variable {P : Program} {w : World} {K : PySem.W.Frag} {mg : Str → Option Value} {base : Heap} (TT : List (Addr × Str))
abbrev nRw : List Str := ["_law_pot_here", "_law_many", "_law_size", "_law_rows_here", "_law_free", "_law_way", "_law_far", "_law_near", "_law_at", "_law_goals", "_law_names", "_law_found", "_law_spot", "_law_k", "_law_goal"]
theorem scRw : FnScope nRw ["_law_pot_here", "_law_many", "_law_size"] (defScope sLRows) := ⟨rfl, rfl, rfl, by decide +kernel, rfl, by decide +kernel, by decide +kernel⟩
def spRw (K : PySem.W.Frag) : Sp := fun vs H Q _ => ∃ (p : Addr) (n m : Nat), vs = [.ref p, .int n, .int m] ∧ 0 < n ∧ n ≤ 10 ∧ 0 < m ∧ m ≤ 10 ∧ Pot H p ∧
  ∀ H' q R, Ex TT (at1 p) H H' → Pot H' p → New H q → q ≠ p → RowsL H' q R → (∀ rs : List Addr, H' q = some (.lst (rs.map V.ref)) → ∀ x ∈ rs, x ≠ p) → RowsOk R m → R.length = n → Whole R → Q (.ref q) H'
theorem ok_rw {f : Addr} {fd : FuncData} {k : Nat} (F : Fun K "_law_rows" "_law_rows" sLRows f fd) (M : Mx mg) (HD : Has P w K mg base k "_law_draw" ["_law_pot_here", "_law_size"] (spDraw TT)) (HMx : Has P w K mg base k "_law_mixed" ["_law_pot_here", "_law_some"] (spMixed TT K)) :
    FnG P w K mg base CX0 (k + 1) f fd ["_law_pot_here", "_law_many", "_law_size"] (spRw TT K) := by
  refine okG F scRw (fun vs H Q E h => ?_) (fun cdv A hA outer s H vs Q E hr h => ?_)
  · obtain ⟨p, n, m, rfl, _⟩ := h; rfl
  · obtain ⟨p, n, m, rfl, n0, n1, m0, m1, hp, q⟩ := h
    have nd := scRw.nd
    have sl := sizeLine_eq
    refine ⟨_, (pss_cons (ps_par3 (i := 3) (j := 4) (l := 5) rfl nd rfl rfl rfl (by decide) (by decide) (by decide) rfl rfl rfl (pa_cons (pe_lc (own := [("_law_k", 13)]) (g := gName 13) (tt := tYes) rfl nd (pi_range1 (by rfl) M.range (pa_cons (uv 1) pa_nil)) (blkOk_by (N := nRw) (sc := defScope sLRows) (by decide +kernel))
          (fun _ _ _ _ _ => pg_name (i := 13) nd rfl (Or.inl rfl)) (fun _ _ _ _ _ => pts_nil)
          (fun _ _ _ _ _ => (pe_op o_mul (pe_lst (pa_cons pe_int pa_nil)) (uv 2)))) (pa_cons (pe_lc (own := [("_law_at", 8)]) (g := gName 8) (tt := tYes) rfl nd (pi_range1 (by rfl) M.range (pa_cons (uv 2) pa_nil)) (blkOk_by (N := nRw) (sc := defScope sLRows) (by decide +kernel))
          (fun _ _ _ _ _ => pg_name (i := 8) nd rfl (Or.inl rfl)) (fun _ _ _ _ _ => pts_nil)
          (fun _ _ _ _ _ => (pe_tup (pa_cons pe_int (pa_cons (uv 8) pa_nil))))) (pa_cons (pe_callH HD hA hr (by rfl) (pa_cons (uv 0) (pa_cons pe_int pa_nil))) pa_nil))) rfl)
      (pss_cons (ps_for PassesOwn.never rfl (pi_range2 (by rfl) M.range (pa_cons pe_int (pa_cons (uv 1) pa_nil))) (pg_name (i := 6) nd rfl (.inr rfl))
        (pss_cons (ps_asg (pe_bm PySem.F.plainAttrs_list PySem.F.slot_list_pop PySem.F.type_list_pop mt_popAt (uv 4) (pa_cons (pe_callH HD hA hr (by rfl) (pa_cons (uv 0) (pa_cons (pe_callB c_len (by rfl) M.len b_len (pa_cons (uv 4) pa_nil)) pa_nil))) pa_nil)) (pg_tup rfl (pgs_cons (pg_name (i := 7) nd rfl (.inl rfl)) (pgs_cons (pg_name (i := 8) nd rfl (.inl rfl)) pgs_nil))) rfl)
      (pss_cons (ps_asg (uv 6) (pg_sub (pe_ixU (uv 3) (uv 7)) (uv 8) set_list) rfl)
      (pss_one (ps_expr (pe_bm PySem.F.plainAttrs_list PySem.F.slot_list_extend PySem.F.type_list_extend mt_extend (uv 4) (pa_cons (pe_cl (pe_lc (own := [("_law_spot", 12)]) (g := gName 12) (tt := tYes) rfl nd (pi_range1 (by rfl) M.range (pa_cons (uv 2) pa_nil)) (blkOk_by (N := nRw) (sc := defScope sLRows) (by decide +kernel))
          (fun _ _ _ _ _ => pg_name (i := 12) nd rfl (Or.inl rfl)) (fun _ _ _ _ _ => pts_nil)
          (fun _ _ _ _ _ => (pe_tup (pa_cons (uv 6) (pa_cons (uv 12) pa_nil)))))) pa_nil)))))))
      (pss_cons (ps_for PassesOwn.never rfl (pi_listK (K := K) rfl (uv 4)) (pg_tup rfl (pgs_cons (pg_name (i := 7) nd rfl (.inl rfl)) (pgs_cons (pg_name (i := 8) nd rfl (.inl rfl)) pgs_nil)))
        (pss_cons (ps_set (i := 9) nd rfl (.inl rfl) (pe_lst (pa_cons (pe_callH HD hA hr (by rfl) (pa_cons (uv 0) (pa_cons (uv 1) pa_nil))) (pa_cons (pe_op o_add (uv 7) (pe_callH HD hA hr (by rfl) (pa_cons (uv 0) (pa_cons (pe_op o_sub (uv 1) (uv 7)) pa_nil)))) pa_nil))))
      (pss_one (ps_asg (pe_cl (pe_ifU (pt_cl (PW.pt (pw_orU (pt_cu o_lt (uv 5) pe_int) (pw_or1 (pt_cu (r := eqU K false) (o_eq hr.units) (pe_callH HD hA hr (by rfl) (pa_cons (uv 0) (pa_cons pe_int pa_nil))) pe_int))))) (pe_ixK (K := K) rfl (uv 9) (pe_callTy (r := intU) c_int (by rfl) M.int b_int (pa_cons (pe_cu o_gt (uv 5) pe_int) pa_nil))) (uv 7))) (pg_sub (pe_ixK (K := K) rfl (uv 3) (uv 7)) (uv 8) set_list) rfl))))
      (pss_cons (ps_set (i := 10) nd rfl (.inr rfl) (pe_op o_add (pe_lst (pa_cons pe_int pa_nil)) (pe_callH HMx hA hr (by rfl) (pa_cons (uv 0) (pa_cons (pe_listRg rfl (by rfl) M.list (prg_2 (by rfl) M.range pe_int (uv 1))) pa_nil)))))
      (pss_cons (ps_setLc (i := 11) (own := [("_law_spot", 12)]) (g := gName 12) (by rfl) nd rfl rfl (sw_true rfl rfl rfl (by decide +kernel)) (pi_listK (K := K) rfl (uv 3))
          (blkOk_by (N := nRw) (sc := defScope sLRows) (by decide +kernel))
          (fun _ _ _ _ _ => pg_name (i := 12) nd rfl (Or.inl rfl)) (fun _ _ _ _ _ => pts_nil)
          (fun _ _ _ _ _ => (pe_lst pa_nil)))
      (pss_cons (ps_for PassesOwn.never rfl (pi_enumB (by rfl) M.enumerate (pa_cons (uv 3) pa_nil)) (pg_tup rfl (pgs_cons (pg_name (i := 12) nd rfl (.inl rfl)) (pgs_cons (pg_name (i := 9) nd rfl (.inl rfl)) pgs_nil)))
        (pss_one (ps_asg (pe_lc (own := [("_law_goal", 14)]) (g := gName 14) (tt := tYes) rfl nd (pi_listK (K := K) rfl (uv 9)) (blkOk_by (N := nRw) (sc := defScope sLRows) (by decide +kernel))
          (fun _ _ _ _ _ => pg_name (i := 14) nd rfl (Or.inl rfl)) (fun _ _ _ _ _ => pts_nil)
          (fun _ _ _ _ _ => (pe_ixK (K := K) rfl (uv 10) (uv 14)))) (pg_sub (uv 11) (pe_ixK (K := K) rfl (uv 10) (uv 12)) set_list) rfl)))
      (pss_one (ps_ret (uv 11))))))))), ?_⟩
    dsimp only [tSeq, tPar3, tCons]
    refine lc_rng (n := n) (H1 := H) (fun R' h => h) (by omega) (fun D i acc H2 => H D = none ∧ Same H H2 ∧ H2 D = some (.lst acc) ∧ ∃ rs : List Addr, acc = rs.map V.ref ∧ rs.length = i ∧ rs.Nodup ∧ ∀ q ∈ rs, q ≠ D ∧ H q = none ∧ H2 q = some (.lst (iv (List.replicate m 0))))
      (fun D nD => ⟨nD, same_upd nD, upd_same, [], rfl, rfl, .nil, fun q z => by cases z⟩) (fun D nD i acc H2 hi r => ?_) (fun D nD acc H2 r => ?_)
    · obtain ⟨_, e2, hD, rs, rfl, lr, ndr, hrs⟩ := r
      refine ⟨rfl, by show 1 ≤ sizeLine; omega, fun z nz => ?_⟩
      refine ⟨_, upd_same, by omega, by omega, by show 1 * _ ≤ _; omega, fun l nl => ?_⟩
      have nl2 : H2 l = none := Same.free (same_upd nz) nl
      have e4 : Same H2 (upd (upd H2 z (.lst [.int 0])) l (.lst (List.replicate ((m : Int)).toNat [V.int 0]).flatten)) := same_upd2 (same_upd nz) nl2
      have hl4 : (upd (upd H2 z (.lst [.int 0])) l (.lst (List.replicate ((m : Int)).toNat [V.int 0]).flatten)) l = some (.lst (iv (List.replicate m 0))) := by rw [upd_same, flat_rep]
      refine ⟨_, e4 _ _ hD, by rw [List.length_map]; omega, _, nD, ?_, upd_same, rs ++ [l], by rw [List.map_append]; rfl, by rw [List.length_append, lr]; rfl, ?_, fun q hq => ?_⟩
      · exact fun b o hb => by
          have : b ≠ D := fun z => by rw [z, nD] at hb; cases hb
          rw [upd_ne this]; exact (e2.trans e4) _ _ hb
      · refine List.nodup_append.mpr ⟨ndr, by simp, fun x hx y hy z => ?_⟩
        rw [List.mem_singleton] at hy
        subst hy; subst z
        have := (hrs x hx).2.2
        rw [nl2] at this; cases this
      · rcases List.mem_append.mp hq with hq | hq
        · obtain ⟨w1, w2, w3⟩ := hrs q hq
          exact ⟨w1, w2, by rw [upd_ne w1]; exact e4 _ _ w3⟩
        · rw [List.mem_singleton] at hq
          subst hq
          have lne : q ≠ D := fun z => by rw [z, hD] at nl2; cases nl2
          exact ⟨lne, Same.free e2 nl2, by rw [upd_ne lne]; exact hl4⟩
    obtain ⟨_, eA, hD, rs, rfl, lr, ndr, hrs⟩ := r
    have hRN : RowsN H2 D (List.replicate n (List.replicate m 0)) rs := ⟨hD, by rw [lr, List.length_replicate], ndr, fun z => (hrs D z).1 rfl, fun i q hq => by
      have li := (List.getElem?_eq_some_iff.mp hq).1
      rw [(hrs q (List.mem_of_getElem? hq)).2.2]
      unfold gls
      rw [List.getD_eq_getElem?_getD, List.getElem?_replicate, if_pos (by omega)]; rfl⟩
    have newr : ∀ q ∈ rs, New H q := fun q hq b o hb _ z => by rw [z, (hrs q hq).2.1] at hb; cases hb
    have newD : New H D := fun b o hb _ z => by rw [z, nD] at hb; cases hb
    have hp2 : Pot H2 p := by obtain ⟨i, j, a, b, c, d⟩ := hp; exact ⟨i, j, a, b, c, eA _ _ d⟩
    clear hD hrs
    refine lc_rng (n := m) (H1 := H2) (fun R' h => h) (by omega) (fun F i acc H3 => H2 F = none ∧ Same H2 H3 ∧ H3 F = some (.lst acc) ∧ ∃ fs : List Addr, acc = fs.map V.ref ∧ fs.length = i ∧ ∀ (j : Nat) q, fs[j]? = some q → q ≠ F ∧ H3 q = some (.tup [.int 0, .int (j : Nat)]))
      (fun F nF => ⟨nF, same_upd nF, upd_same, [], rfl, rfl, fun j q z => by cases z⟩) (fun F nF i acc H3 hi r => ?_) (fun F nF acc H3 r => ?_)
    · obtain ⟨_, e3, hF, fs, rfl, lf, hfs⟩ := r
      refine ⟨rfl, by show 2 ≤ sizeLine; omega, fun t nt => ?_⟩
      have tF : t ≠ F := fun z => by rw [z, hF] at nt; cases nt
      refine ⟨_, same_upd nt _ _ hF, by rw [List.length_map]; omega, _, nF, ?_, upd_same, fs ++ [t], by rw [List.map_append]; rfl, by rw [List.length_append, lf]; rfl, fun j q hq => ?_⟩
      · exact fun b o hb => by
          have : b ≠ F := fun z => by rw [z, nF] at hb; cases hb
          rw [upd_ne this]; exact (e3.trans (same_upd nt)) _ _ hb
      · rcases Nat.lt_or_ge j fs.length with lt | ge
        · rw [List.getElem?_append_left lt] at hq
          obtain ⟨w1, w2⟩ := hfs j q hq
          exact ⟨w1, by rw [upd_ne w1]; exact same_upd nt _ _ w2⟩
        · rw [List.getElem?_append_right ge] at hq
          have j0 : j = fs.length := by
            have := (List.getElem?_eq_some_iff.mp hq).1
            rw [List.length_singleton] at this
            omega
          subst j0
          rw [Nat.sub_self] at hq
          obtain rfl : t = q := by cases hq; rfl
          refine ⟨tF, ?_⟩
          rw [upd_ne tF, upd_same, lf]
    obtain ⟨_, e3, hF, fs, rfl, lf, hfs⟩ := r
    have hPR : PrsAt H3 F fs ((List.range m).map fun b => (0, b)) := ⟨hF, by rw [lf, List.length_map, List.length_range], fun i q x hq hx => by
      rw [List.getElem?_map] at hx
      obtain ⟨b, hb, rfl⟩ := Option.map_eq_some_iff.mp hx
      have li := (List.getElem?_eq_some_iff.mp hb).1
      rw [List.length_range] at li
      rw [List.getElem?_range li] at hb
      cases hb
      exact (hfs i q hq).2⟩
    have newF : New H F := fun b o hb _ z => by
      have := Same.free eA nF
      rw [z, this] at hb; cases hb
    have hRN3 := hRN.ext e3
    have eB := eA.trans e3
    have hp3 : Pot H3 p := by obtain ⟨i, j, a, b, c, d⟩ := hp2; exact ⟨i, j, a, b, c, e3 _ _ d⟩
    have nFD : F ≠ D := fun z => by rw [z, hRN.1] at nF; cases nF
    have nFr : ∀ q ∈ rs, F ≠ q := fun q hq z => by
      obtain ⟨i, hi⟩ := List.mem_iff_getElem?.mp hq
      have := hRN.2.2.2.2 i q hi
      rw [← z, nF] at this; cases this
    clear hRN hp2 hF hfs eA e3
    refine ⟨p, 4, rfl, by omega, by omega, hp3, fun H4 way e4 hp4 hw => ?_⟩
    refine ⟨_, _, _, rfl, ?_⟩
    have npD := New.nep hp newD
    have npF := New.nep hp newF
    have npr : ∀ q ∈ rs, q ≠ p := fun q hq => New.nep hp (newr q hq)
    have hRN4 := hRN3.keep e4 npD npr
    have hPR4 := hPR.keep e4 npF hp3
    have eC : Ex TT (at1 p) H H4 := (Ex.same eB).trans e4
    clear hRN3 hPR eB e4 hp3
    refine for_rng2 (lo := 1) (n := n) (H1 := H4) (fun R' h => h) (by omega) (by omega) (fun far σ H5 => ∃ (R : Rows) (ps : List (Nat × Nat)) (fs : List Addr) (y6 y7 y8 : Option V), σ = [some (.ref p), some (.int n), some (.int m), some (.ref D), some (.ref F), some (.int way), y6, y7, y8, none, none, none, none, none, none] ∧
        Ex TT (at1 p) H H5 ∧ Pot H5 p ∧ RowsN H5 D R rs ∧ PrsAt H5 F fs ps ∧ Tree n m far R ps)
      ⟨_, _, fs, none, none, none, rfl, eC, hp4, hRN4, hPR4, tree_start (by omega) (by omega)⟩ (fun far σ H5 f1 fn iv => ?_) (fun σ H5 iv => ?_)
    · obtain ⟨R, ps, fs, y6, y7, y8, rfl, e5, hp5, hR5, hF5, tr⟩ := iv
      have lps : ps.length ≤ 100 := by
        have := pairs_len (n := far) (m := m) tr.nd tr.lt
        have : far * m ≤ 10 * 10 := Nat.mul_le_mul (by omega) m1
        omega
      have lfs := hF5.2.1
      have lps1 := tr.ne
      have hFl := hF5.1
      have lm : (fs.map V.ref).length = fs.length := List.length_map _
      refine ⟨.inl ⟨rfl, _, .inl (.inl hFl)⟩, .inl ⟨fs.map V.ref, .inl (.inl (.inl hFl)), p, (fs.map V.ref).length, rfl, by omega, by omega, hp5, fun H6 d e6 hp6 hd => ?_⟩⟩
      have hF6 := hF5.keep e6 npF hp5
      have hR6 := hR5.keep e6 npD npr
      rw [lm] at hd
      obtain ⟨q, hq⟩ : ∃ q, fs[d]? = some q := ⟨_, List.getElem?_eq_getElem hd⟩
      obtain ⟨⟨a, b⟩, hab⟩ : ∃ x, ps[d]? = some x := ⟨_, List.getElem?_eq_getElem (by omega)⟩
      have hmem : (a, b) ∈ ps := List.mem_of_getElem? hab
      obtain ⟨la, lb⟩ := tr.lt _ hmem
      have la : a < far := la
      have lb : b < m := lb
      refine ⟨F, fs.map V.ref, d, d, .ref q, rfl, rfl, hF6.1, by omega, by omega, seqIx (by rw [lm]; exact hd), by rw [List.getElem?_map, hq]; rfl, ?_⟩
      have hq6 := hF6.2.2 d q (a, b) hq hab
      have qF : q ≠ F := fun z => by rw [z, hF6.1] at hq6; cases hq6
      have hq7 : (upd H6 F (.lst ((fs.map V.ref).eraseIdx d))) q = some (.tup [.int (a : Nat), .int (b : Nat)]) := by rw [upd_ne qF]; exact hq6
      refine ⟨q, _, rfl, .inl (.inl hq7), rfl, _, _, rfl, _, _, rfl, rfl, ?_⟩
      have hF7 : PrsAt (upd H6 F (.lst ((fs.map V.ref).eraseIdx d))) F (fs.eraseIdx d) (ps.eraseIdx d) := by
        rw [erase_map]
        exact PrsAt.to (ps := ps) (fs := fs) hF6.1 (by rw [List.length_eraseIdx, List.length_eraseIdx, lfs]) fun i q x hq hx => hF6.2.2 _ q x (erase_at hq) (erase_at hx)
      have hR7 : RowsN (upd H6 F (.lst ((fs.map V.ref).eraseIdx d))) D R rs := ⟨by rw [upd_ne (Ne.symm nFD)]; exact hR6.1, hR6.2.1, hR6.2.2.1, hR6.2.2.2.1, fun i q hq => by rw [upd_ne (Ne.symm (nFr q (List.mem_of_getElem? hq)))]; exact hR6.2.2.2.2 i q hq⟩
      have hp7 : Pot (upd H6 F (.lst ((fs.map V.ref).eraseIdx d))) p := hp6.put (Ne.symm npF)
      have e7 : Ex TT (at1 p) H (upd H6 F (.lst ((fs.map V.ref).eraseIdx d))) := (e5.trans e6).putN newF hF6.1 (fun _ z => nomatch z) (fun _ _ z => nomatch z)
      generalize upd H6 F (.lst ((fs.map V.ref).eraseIdx d)) = H7 at hq7 hF7 hR7 hp7 e7
      clear hq6 hF6 hR6 hp6 e6 hF5 hR5 hp5 e5 hFl
      have hl := tr.len
      have lrs := hR7.2.1
      obtain ⟨rq, hrq⟩ : ∃ rq, rs[a]? = some rq := ⟨_, List.getElem?_eq_getElem (by omega)⟩
      have hrq7 := hR7.2.2.2.2 a rq hrq
      have lrow : (gls R a).length = m := gls_len tr.ok (by omega)
      refine ⟨rs.map V.ref, .ref rq, .inl (.inl (.inl hR7.1)), atI_nat (by rw [List.getElem?_map, hrq]; rfl), ?_⟩
      refine ⟨rq, _, b, b, rfl, rfl, hrq7, ixNat (by rw [iv_len, lrow]; exact lb), ?_⟩
      have mrq := List.mem_of_getElem? hrq
      have hR8 := hR7.setRC (b := b) (v := far) hrq
      have hF8 : PrsAt (upd H7 rq (.lst ((iv (gls R a)).set b (.int (far : Nat))))) F (fs.eraseIdx d) (ps.eraseIdx d) := hF7.put hrq7 (nFr rq mrq)
      have hp8 : Pot (upd H7 rq (.lst ((iv (gls R a)).set b (.int (far : Nat))))) p := hp7.put (Ne.symm (npr rq mrq))
      have e8 : Ex TT (at1 p) H (upd H7 rq (.lst ((iv (gls R a)).set b (.int (far : Nat))))) := e7.putN (newr rq mrq) hrq7 (fun _ z => nomatch z) (fun _ _ z => nomatch z)
      generalize upd H7 rq (.lst ((iv (gls R a)).set b (.int (far : Nat)))) = H8 at hF8 hR8 hp8 e8
      clear hF7 hR7 hp7 e7 hq7 hrq7
      refine ⟨.inl ⟨rfl, _, .inl (.inl hF8.1)⟩, fun v H' => ∃ (B : Addr) (gs : List Addr), v = .ref B ∧ Same H8 H' ∧ H' B = some (.lst (gs.map V.ref)) ∧ gs.length = m ∧ ∀ (j : Nat) q, gs[j]? = some q → H' q = some (.tup [.int (far : Nat), .int (j : Nat)]), ?_, fun v H' z => ?_⟩
      · refine lc_rng (n := m) (H1 := H8) (fun R' h => h) (by omega) (fun B i acc H9 => H8 B = none ∧ Same H8 H9 ∧ H9 B = some (.lst acc) ∧ ∃ gs : List Addr, acc = gs.map V.ref ∧ gs.length = i ∧ ∀ (j : Nat) q, gs[j]? = some q → q ≠ B ∧ H9 q = some (.tup [.int (far : Nat), .int (j : Nat)]))
          (fun B nB => ⟨nB, same_upd nB, upd_same, [], rfl, rfl, fun j q z => by cases z⟩) (fun B nB i acc H9 hi r => ?_) (fun B nB acc H9 r => ?_)
        · obtain ⟨_, e9, hB, gs, rfl, lg, hgs⟩ := r
          refine ⟨rfl, by show 2 ≤ sizeLine; omega, fun t nt => ?_⟩
          have tB : t ≠ B := fun z => by rw [z, hB] at nt; cases nt
          refine ⟨_, same_upd nt _ _ hB, by rw [List.length_map]; omega, _, nB, ?_, upd_same, gs ++ [t], by rw [List.map_append]; rfl, by rw [List.length_append, lg]; rfl, fun j q hq => ?_⟩
          · exact fun b o hb => by
              have : b ≠ B := fun z => by rw [z, nB] at hb; cases hb
              rw [upd_ne this]; exact (e9.trans (same_upd nt)) _ _ hb
          · rcases Nat.lt_or_ge j gs.length with lt | ge
            · rw [List.getElem?_append_left lt] at hq
              obtain ⟨w1, w2⟩ := hgs j q hq
              exact ⟨w1, by rw [upd_ne w1]; exact same_upd nt _ _ w2⟩
            · rw [List.getElem?_append_right ge] at hq
              have j0 : j = gs.length := by
                have := (List.getElem?_eq_some_iff.mp hq).1
                rw [List.length_singleton] at this
                omega
              subst j0
              rw [Nat.sub_self] at hq
              obtain rfl : t = q := by cases hq; rfl
              refine ⟨tB, ?_⟩
              rw [upd_ne tB, upd_same, lg]
        · obtain ⟨_, e9, hB, gs, rfl, lg, hgs⟩ := r
          exact ⟨B, gs, rfl, e9, hB, lg, fun j q hq => (hgs j q hq).2⟩
      · obtain ⟨B, gs, rfl, e9, hB9, lgs, hgs⟩ := z
        have hF9 := hF8.ext e9
        have hR9 := hR8.ext e9
        have lfe : (fs.eraseIdx d).length ≤ fs.length := List.length_eraseIdx_le ..
        refine ⟨F, B, _, _, rfl, rfl, hF9.1, hB9, by rw [List.length_map, List.length_map]; omega, ?_⟩
        have e10 : Ex TT (at1 p) H (upd H' F (.lst ((fs.eraseIdx d).map V.ref ++ gs.map V.ref))) := (e8.trans (.same e9)).putN newF hF9.1 (fun _ z => nomatch z) (fun _ _ z => nomatch z)
        have hp9 : Pot H' p := by obtain ⟨i, j, a, b, c, dd⟩ := hp8; exact ⟨i, j, a, b, c, e9 _ _ dd⟩
        refine ⟨setRC R a b far, ps.eraseIdx d ++ (List.range m).map fun b => (far, b), fs.eraseIdx d ++ gs, _, _, _, rfl, e10, hp9.put (Ne.symm npF), ?_, ?_, tree_step tr f1 fn m0 hab⟩
        · exact ⟨by rw [upd_ne (Ne.symm nFD)]; exact hR9.1, hR9.2.1, hR9.2.2.1, hR9.2.2.2.1, fun i q hq => by rw [upd_ne (Ne.symm (nFr q (List.mem_of_getElem? hq)))]; exact hR9.2.2.2.2 i q hq⟩
        · rw [← List.map_append]
          refine PrsAt.to (ps := ps) (fs := fs) hF9.1 (by rw [List.length_append, List.length_append, hF9.2.1, lgs, List.length_map, List.length_range]) fun i q x hq hx => ?_
          rcases Nat.lt_or_ge i (fs.eraseIdx d).length with lt | ge
          · rw [List.getElem?_append_left lt] at hq
            rw [List.getElem?_append_left (by rw [← hF9.2.1]; exact lt)] at hx
            exact hF9.2.2 i q x hq hx
          · rw [List.getElem?_append_right ge] at hq
            rw [List.getElem?_append_right (by rw [← hF9.2.1]; exact ge), ← hF9.2.1] at hx
            rw [List.getElem?_map] at hx
            obtain ⟨b', hb', rfl⟩ := Option.map_eq_some_iff.mp hx
            have li := (List.getElem?_eq_some_iff.mp hb').1
            rw [List.length_range] at li
            rw [List.getElem?_range li] at hb'
            cases hb'
            exact hgs _ q hq
    · obtain ⟨R, ps, fs, y6, y7, y8, rfl, e5, hp5, hR5, hF5, tr⟩ := iv
      clear hRN4 hPR4 eC hp4
      have lfs := hF5.2.1
      dsimp only [tSeq, tNext]
      refine for_list (K := K) (t := uVar 4) (a := F) (xs := fs.map V.ref) (H1 := H5) (by exact fun _ h => h) (.inl (.inl hF5.1)) (fun pre σ H6 => ∃ (R : Rows) (y7 y8 y9 : Option V), σ = [some (.ref p), some (.int n), some (.int m), some (.ref D), some (.ref F), some (.int way), y6, y7, y8, y9, none, none, none, none, none] ∧
          Ex TT (at1 p) H H6 ∧ Pot H6 p ∧ RowsN H6 D R rs ∧ PrsAt H6 F fs ps ∧ RowsOk R m ∧ R.length = n ∧ Edges m n R ps)
        (fun pre σ H6 h => by obtain ⟨_, _, _, _, _, _, _, _, h, _⟩ := h; exact .inl (.inl h.1)) ⟨R, y7, y8, none, rfl, e5, hp5, hR5, hF5, tr.ok, tr.len, tr.ed⟩ (fun pre x suf σ H6 ex h => ?_) (fun σ H6 h => ?_)
      · obtain ⟨R, y7, y8, y9, rfl, e6, hp6, hR6, hF6, okR, lR, ed⟩ := h
        have hx : (fs.map V.ref)[pre.length]? = some x := by rw [ex]; simp
        rw [List.getElem?_map] at hx
        obtain ⟨t, ht, rfl⟩ := Option.map_eq_some_iff.mp hx
        have li := (List.getElem?_eq_some_iff.mp ht).1
        obtain ⟨⟨a, b⟩, hab⟩ : ∃ x, ps[pre.length]? = some x := ⟨_, List.getElem?_eq_getElem (by omega)⟩
        have hmem : (a, b) ∈ ps := List.mem_of_getElem? hab
        obtain ⟨la, lb⟩ := tr.lt _ hmem
        have la : a < n := la
        have lb : b < m := lb
        refine ⟨t, _, rfl, .inl (.inl (hF6.2.2 _ t _ ht hab)), rfl, _, _, rfl, _, _, rfl, rfl, ?_⟩
        refine ⟨p, n, rfl, by omega, by omega, hp6, fun H7 d1 e7 hp7 hd1 => ?_⟩
        have en : ((n : Int) - (a : Int)) = ((n - a : Nat) : Int) := by omega
        refine ⟨p, n - a, by show [V.ref p, V.int ((n : Int) - (a : Int))] = _; rw [en], by omega, by omega, hp7, fun H8 d2 e8 hp8 hd2 => ?_⟩
        refine ⟨by show 2 ≤ sizeLine; omega, fun G nG => ?_⟩
        have e68 := e7.trans e8
        have hR8 := hR6.keep e68 npD npr
        have hF8 := hF6.keep e68 npF hp6
        have npG : p ≠ G := hp8.ne nG
        have hG : (upd H8 G (.lst [.int (d1 : Nat), .int ((a : Int) + (d2 : Int))])) G = some (.lst [.int (d1 : Nat), .int ((a : Int) + (d2 : Int))]) := upd_same
        have hR9 := hR8.ext (same_upd (o := .lst [.int (d1 : Nat), .int ((a : Int) + (d2 : Int))]) nG)
        have hF9 := hF8.ext (same_upd (o := .lst [.int (d1 : Nat), .int ((a : Int) + (d2 : Int))]) nG)
        have hp9 : Pot (upd H8 G (.lst [.int (d1 : Nat), .int ((a : Int) + (d2 : Int))])) p := hp8.put npG
        have e9 : Ex TT (at1 p) H (upd H8 G (.lst [.int (d1 : Nat), .int ((a : Int) + (d2 : Int))])) := (e6.trans e68).trans (.new nG)
        generalize upd H8 G (.lst [.int (d1 : Nat), .int ((a : Int) + (d2 : Int))]) = H9 at hG hR9 hF9 hp9 e9
        clear hR8 hF8 hp8 hR6 hF6 hp6 hp7 e7 e8 e68 e6
        refine ⟨fun v H' => ∃ g : Nat, g < n ∧ v = .int (g : Nat) ∧ Ex TT (at1 p) H9 H' ∧ Pot H' p, ?_, fun v H' z => ?_⟩
        · refine ⟨fun _ H' => Ex TT (at1 p) H9 H' ∧ Pot H' p, ?_, fun v H' z => ?_⟩
          · refine .d (fun _ => ⟨.same (Same.refl _), hp9⟩) (fun _ => ?_)
            exact ⟨p, 2, rfl, by omega, by omega, hp9, fun H' d' e' hp' _ => ⟨e', hp'⟩⟩
          · obtain ⟨z1, z2⟩ := z
            have hG' := z1.keep _ _ npG.symm hG fun _ z => nomatch z
            cases v with
            | true =>
              refine .yes ?_
              show uVar 9 _ _ _
              refine uvq (v := .ref G) rfl ?_
              dsimp only [tCB, tCons, tOp]
              refine uvq (v := .int (way : Nat)) rfl ?_
              dsimp only [tC, cmpU, tNil, intU]
              cases hdw : decide ((1 : Int) < (way : Int)) with
              | true => exact ⟨_, .int ((a : Int) + (d2 : Int)), .inl (.inl (.inl hG')), rfl, a + d2, by omega, rfl, z1, z2⟩
              | false => exact ⟨_, .int (d1 : Nat), .inl (.inl (.inl hG')), rfl, d1, hd1, rfl, z1, z2⟩
            | false => exact .no ⟨a, la, rfl, z1, z2⟩
        · obtain ⟨g, hg, rfl, e', hp'⟩ := z
          have hR' := hR9.keep e' npD npr
          have hF' := hF9.keep e' npF hp9
          obtain ⟨rq, hrq⟩ : ∃ rq, rs[a]? = some rq := ⟨_, List.getElem?_eq_getElem (by have := hR'.2.1; omega)⟩
          have hrq7 := hR'.2.2.2.2 a rq hrq
          have lrow : (gls R a).length = m := gls_len okR (by omega)
          have mrq := List.mem_of_getElem? hrq
          refine ⟨rs.map V.ref, .ref rq, .inl (.inl (.inl hR'.1)), atI_nat (by rw [List.getElem?_map, hrq]; rfl), ?_⟩
          refine ⟨rq, _, b, b, rfl, rfl, hrq7, ixNat (by rw [iv_len, lrow]; exact lb), ?_⟩
          exact ⟨setRC R a b g, _, _, _, rfl, (e9.trans e').putN (newr rq mrq) hrq7 (fun _ z => nomatch z) (fun _ _ z => nomatch z), hp'.put (Ne.symm (npr rq mrq)), hR'.setRC hrq, hF'.put hrq7 (nFr rq mrq), setRC_ok okR (by omega) (by omega), by rw [setRC_len]; exact lR, edges_set ed (by omega) hmem⟩
      · obtain ⟨R, y7, y8, y9, rfl, e6, hp6, hR6, hF6, okR, lR, ed⟩ := h
        clear hF6 hF5 hR5 hp5 e5
        dsimp only [tSeq, tNext, tAsg, gName]
        refine ⟨by show 1 ≤ sizeLine; omega, fun Z nZ => ?_⟩
        refine ⟨1, n, rfl, rfl, .of_le (by omega) (by omega) (by omega) (by omega), fun L nL => ?_⟩
        have nLZ : Z ≠ L := fun z => by rw [← z, upd_same] at nL; cases nL
        have hZ : (upd (upd H6 Z (.lst [.int 0])) L (.lst (rgV 1 n))) Z = some (.lst [.int 0]) := by rw [upd_ne nLZ]; exact upd_same
        have hL : (upd (upd H6 Z (.lst [.int 0])) L (.lst (rgV 1 n))) L = some (.lst (rgV 1 n)) := upd_same
        have e7 : Same H6 (upd (upd H6 Z (.lst [.int 0])) L (.lst (rgV 1 n))) := (same_upd nZ).trans (same_upd nL)
        generalize upd (upd H6 Z (.lst [.int 0])) L (.lst (rgV 1 n)) = H7 at hZ hL e7
        have hp7 : Pot H7 p := by obtain ⟨i, j, a, b, c, dd⟩ := hp6; exact ⟨i, j, a, b, c, e7 _ _ dd⟩
        have hR7 := hR6.ext e7
        have e07 : Ex TT (at1 p) H H7 := e6.trans (.same e7)
        have nZp : Z ≠ p := (hp6.ne nZ).symm
        refine ⟨p, L, false, rgV 1 n, rfl, hp7, .inl (.inl hL), by rw [rgV_length]; omega, fun H8 Y ys e8 hp8 newY nYp hY pm => ?_⟩
        have hR8 := hR7.keep e8 npD npr
        have hZ8 := e8.keep _ _ nZp hZ fun _ z => nomatch z
        obtain ⟨N, eN, pmN, N0⟩ := names_perm (n := n) (by omega) pm
        have lN : N.length = n := by rw [pmN.length_eq, List.length_range]
        have lys : ys.length = n - 1 := by have := congrArg List.length eN; rw [List.length_append, List.length_singleton, iv_len, lN] at this; omega
        refine ⟨[.int 0], ys, hZ8, hY, by rw [lys]; show 1 + _ ≤ _; omega, fun W nW => ?_⟩
        rw [eN]
        have hW : (upd H8 W (.lst (iv N))) W = some (.lst (iv N)) := upd_same
        have npW : p ≠ W := hp8.ne nW
        have hp9 : Pot (upd H8 W (.lst (iv N))) p := hp8.put npW
        have e09 : Ex TT (at1 p) H (upd H8 W (.lst (iv N))) := (e07.trans e8).trans (.new nW)
        have hR9 := hR8.ext (same_upd (o := .lst (iv N)) nW)
        generalize upd H8 W (.lst (iv N)) = H9 at hW hp9 e09 hR9
        clear hZ8 hY hR8 hp8 e8 hR7 hp7 hZ hL e07 hR6 hp6 e6 e7
        have hnd : N.Nodup := pmN.nodup_iff.mpr List.nodup_range
        dsimp only [tSeq, tAsg, gName]
        refine lc_list (K := K) (t := uVar 3) (a := D) (xs := rs.map V.ref) (H1 := H9) (by exact fun _ h => h) (.inl (.inl hR9.1))
          (fun B pre acc Hb => H9 B = none ∧ Same H9 Hb ∧ Hb B = some (.lst acc) ∧ ∃ es : List Addr, acc = es.map V.ref ∧ es.length = pre.length) (fun B pre acc Hb r => .inl (.inl (r.2.1 _ _ hR9.1)))
          (fun B nB => ⟨nB, same_upd nB, upd_same, [], rfl, rfl⟩) (fun B nB pre acc x suf Hb e r => ?_) (fun B nB acc Hb r => ?_)
        · obtain ⟨_, e1, hB, es, rfl, le⟩ := r
          refine ⟨rfl, by show 0 ≤ sizeLine; omega, fun l nl => ?_⟩
          have lb : pre.length < n := by
            have := congrArg List.length e
            rw [List.length_map, List.length_append, List.length_cons, hR9.2.1, lR] at this
            omega
          refine ⟨_, same_upd nl _ _ hB, by rw [List.length_map]; omega, _, nB, ?_, upd_same, es ++ [l], by rw [List.map_append]; rfl, by rw [List.length_append, List.length_append, le]; rfl⟩
          exact fun b o hb => by
            have : b ≠ B := fun z => by rw [z, nB] at hb; cases hb
            rw [upd_ne this]; exact (e1.trans (same_upd nl)) _ _ hb
        · obtain ⟨_, e1, hB, es, rfl, le⟩ := r
          rw [List.length_map, hR9.2.1, lR] at le
          have hRb := hR9.ext e1
          have hWb := e1 _ _ hW
          have newB : New H B := Ex.newN e09 hp9 nB
          have npB : p ≠ B := hp9.ne nB
          have nBW : B ≠ W := fun z => by rw [z, hW] at nB; cases nB
          have nBD : B ≠ D := fun z => by rw [z, hR9.1] at nB; cases nB
          have nBr : ∀ q ∈ rs, B ≠ q := fun q hq z => by
            obtain ⟨i, hi⟩ := List.mem_iff_getElem?.mp hq
            have := hR9.2.2.2.2 i q hi
            rw [← z, nB] at this; cases this
          have e0b : Ex TT (at1 p) H Hb := e09.trans (.same e1)
          have hpb : Pot Hb p := by obtain ⟨i, j, a, b, c, dd⟩ := hp9; exact ⟨i, j, a, b, c, e1 _ _ dd⟩
          clear e09 hp9 hR9 hW e1
          refine for_enB (K := K) (tp := false) (a := D) (xs := rs.map V.ref) (H1 := Hb) (by exact fun _ h => h) (.inl (.inl hRb.1)) (fun i σ Hx => ∃ (es : List Addr) (y9 y12 : Option V), σ = [some (.ref p), some (.int n), some (.int m), some (.ref D), some (.ref F), some (.int way), y6, y7, y8, y9, some (.ref W), some (.ref B), y12, none, none] ∧
              Ex TT (at1 p) H Hx ∧ Pot Hx p ∧ RowsN Hx D R rs ∧ Hx W = some (.lst (iv N)) ∧ Hx B = some (.lst (es.map V.ref)) ∧ es.length = n ∧ ∀ j, j < i → ∃ q, es[N.getD j 0]? = some q ∧ q ≠ B ∧ q ≠ p ∧ Hx q = some (.lst (iv ((gls R j).map fun g => N.getD g 0))))
            (fun i σ Hx iv => .inl (.inl (by obtain ⟨_, _, _, _, _, _, h, _⟩ := iv; exact h.1))) ⟨es, y9, none, rfl, e0b, hpb, hRb, hWb, hB, le, fun j hj => by omega⟩ (fun i x p2 σ Hx hx iv np2 => ?_) (fun σ Hx iv => ?_)
          · obtain ⟨es, y9, y12, rfl, ex, hpx, hRx, hWx, hBx, les, hes⟩ := iv
            rw [List.getElem?_map] at hx
            obtain ⟨rq, hrq, rfl⟩ := Option.map_eq_some_iff.mp hx
            have li : i < n := by have := (List.getElem?_eq_some_iff.mp hrq).1; have := hRx.2.1; omega
            refine ⟨p2, _, rfl, .inl (.inl upd_same), rfl, _, _, rfl, _, _, rfl, rfl, ?_⟩
            have e2 : Same Hx (upd Hx p2 (.tup [.int (i : Nat), .ref rq])) := same_upd np2
            have hrx := hRx.2.2.2.2 i rq hrq
            have getN : ∀ {g : Nat}, g < n → N[g]? = some (N.getD g 0) := fun {g} hg => by rw [List.getD_eq_getElem?_getD, List.getElem?_eq_getElem (by omega)]; rfl
            have ltN : ∀ {g : Nat}, g < n → N.getD g 0 < n := fun {g} hg => List.mem_range.mp (pmN.mem_iff.mp (List.mem_of_getElem? (getN hg)))
            have exN : ixNat_ok N := fun g hg => by rw [List.getElem?_map, hg]; rfl
            refine lc_list (K := K) (t := uVar 9) (a := rq) (xs := iv (gls R i)) (H1 := upd Hx p2 (.tup [.int (i : Nat), .ref rq])) (by exact fun _ h => h) (.inl (.inl (e2 _ _ hrx)))
              (fun D2 pre acc Hz => (upd Hx p2 (.tup [.int (i : Nat), .ref rq])) D2 = none ∧ ∃ l : List Nat, pre = iv l ∧ Hz = upd (upd Hx p2 (.tup [.int (i : Nat), .ref rq])) D2 (.lst acc) ∧ acc = iv (l.map fun g => N.getD g 0))
              (fun D2 pre acc Hz r => by obtain ⟨h1, l, _, rfl, _⟩ := r; exact .inl (.inl (same_upd h1 _ _ (e2 _ _ hrx)))) (fun D2 nD2 => ⟨nD2, [], rfl, rfl, rfl⟩) (fun D2 nD2 pre acc y suf Hz e r => ?_) (fun D2 nD2 acc Hz r => ?_)
            · obtain ⟨_, l, rfl, rfl, rfl⟩ := r
              obtain ⟨l2, l3, e5, e6, e7⟩ := List.map_eq_append_iff.mp e
              obtain ⟨g, l4, rfl, rfl, _⟩ := List.map_eq_cons_iff.mp e7
              obtain rfl := iv_inj e6
              have hg : g < n := by
                have : g ∈ gls R i := by rw [e5]; simp
                have := gls_lt okR this
                omega
              have hl : l2.length < m := by
                have := congrArg List.length e5
                rw [gls_len okR (by omega), List.length_append, List.length_cons] at this
                omega
              refine ⟨rfl, iv N, .int (N.getD g 0 : Nat), .inl (.inl (.inl (same_upd nD2 _ _ (e2 _ _ hWx)))), atI_nat (exN g (getN hg)), ?_⟩
              refine ⟨_, upd_same, by rw [iv_len, List.length_map]; omega, _, nD2, l2 ++ [g], by rw [iv_app]; rfl, upd_upd, ?_⟩
              rw [List.map_append, iv_app]; rfl
            · obtain ⟨_, l, el, rfl, rfl⟩ := r
              obtain rfl := iv_inj el
              have e3 : Same Hx (upd (upd Hx p2 (.tup [.int (i : Nat), .ref rq])) D2 (.lst (iv ((gls R i).map fun g => N.getD g 0)))) := e2.trans (same_upd nD2)
              have hD2 : (upd (upd Hx p2 (.tup [.int (i : Nat), .ref rq])) D2 (.lst (iv ((gls R i).map fun g => N.getD g 0)))) D2 = some (.lst (iv ((gls R i).map fun g => N.getD g 0))) := upd_same
              generalize upd (upd Hx p2 (.tup [.int (i : Nat), .ref rq])) D2 (.lst (iv ((gls R i).map fun g => N.getD g 0))) = Hy at e3 hD2
              have n2 := Same.free e2 nD2
              have nD2B : D2 ≠ B := fun z => by rw [z, hBx] at n2; cases n2
              refine ⟨iv N, .int (N.getD i 0 : Nat), .inl (.inl (.inl (e3 _ _ hWx))), atI_nat (exN i (getN li)), ?_⟩
              refine ⟨B, _, _, N.getD i 0, rfl, rfl, e3 _ _ hBx, ixNat (by rw [List.length_map, les]; exact ltN li), ?_⟩
              have hpy : Pot Hy p := by obtain ⟨i, j, a, b, c, dd⟩ := hpx; exact ⟨i, j, a, b, c, e3 _ _ dd⟩
              have hRy := hRx.ext e3
              refine ⟨es.set (N.getD i 0) D2, _, _, rfl, (ex.trans (.same e3)).putN newB (e3 _ _ hBx) (fun _ z => nomatch z) (fun _ _ z => nomatch z), hpy.put npB, ?_, by rw [upd_ne nBW.symm]; exact e3 _ _ hWx, ?_, by rw [List.length_set]; exact les, fun j hj => ?_⟩
              · exact ⟨by rw [upd_ne nBD.symm]; exact hRy.1, hRy.2.1, hRy.2.2.1, hRy.2.2.2.1, fun i q hq => by rw [upd_ne (nBr q (List.mem_of_getElem? hq)).symm]; exact hRy.2.2.2.2 i q hq⟩
              · rw [upd_same, List.map_set]
              · by_cases z : j = i
                · subst z
                  exact ⟨D2, List.getElem?_set_self (by rw [les]; exact ltN li), nD2B, (hpx.ne n2).symm, by rw [upd_ne nD2B]; exact hD2⟩
                · obtain ⟨q, h1, h2, hqp, h3⟩ := hes j (by omega)
                  have nn : N.getD i 0 ≠ N.getD j 0 := fun z2 => by
                    have a1 := getN li
                    have a2 := getN (show j < n by omega)
                    rw [← z2] at a2
                    obtain ⟨l1, b1⟩ := List.getElem?_eq_some_iff.mp a1
                    obtain ⟨l2, b2⟩ := List.getElem?_eq_some_iff.mp a2
                    exact List.pairwise_iff_getElem.mp hnd j i l2 l1 (by omega) (b2.trans b1.symm)
                  exact ⟨q, by rw [List.getElem?_set_ne nn]; exact h1, h2, hqp, by rw [upd_ne h2]; exact e3 _ _ h3⟩
          · obtain ⟨es, y9, y12, rfl, ex, hpx, hRx, hWx, hBx, les, hes⟩ := iv
            have lrs : (rs.map V.ref).length = n := by rw [List.length_map, hRx.2.1, lR]
            have all : ∀ x a, es[x]? = some a → a ≠ p ∧ Hx a = some (.lst (iv (gls (renR R N) x))) := fun x a hx => by
              have lx : x < n := by have := (List.getElem?_eq_some_iff.mp hx).1; omega
              have hm := pmN.mem_iff.mpr (List.mem_range.mpr lx)
              have lj := List.idxOf_lt_length_of_mem hm
              have ej : N.getD (N.idxOf x) 0 = x := by
                rw [List.getD_eq_getElem?_getD, List.getElem?_eq_getElem lj]
                exact List.getElem_idxOf lj
              obtain ⟨q', h1, h2, hqp, h3⟩ := hes (N.idxOf x) (by rw [lrs, ← lN]; exact lj)
              rw [ej, hx] at h1
              cases h1
              exact ⟨hqp, by rw [h3, renR_gls (by rw [lR]; exact lx)]⟩
            refine q Hx B (renR R N) ex hpx newB npB.symm ⟨es, hBx, by rw [renR_len, les, lR], fun x a hx => (all x a hx).2⟩ (fun rs' hrs' a ha => ?_) (ren_ok okR (by rw [lR]; exact pmN)) (by rw [renR_len]; exact lR) (ren_whole okR (by omega) (by rw [lR]; exact ed) (by rw [lR]; exact pmN) N0)
            rw [hBx] at hrs'
            have e9 : es.map V.ref = rs'.map V.ref := by injection hrs' with h; injection h
            obtain rfl := (List.map_inj_right fun x y z => V.ref.inj z).mp e9
            obtain ⟨x, hx⟩ := List.mem_iff_getElem?.mp ha
            exact (all x a hx).1

end
end LK

/-! _law_model -/
namespace LK
open PySem PySem.Spec PyProof.Rows L2 LamX
open scoped List
/-- rows and kinds, side by side in a tuple -/
def ModAt (H : Hp) (t : Addr) (R : Rows) (Kd : List Bool) : Prop := ∃ r k : Addr, H t = some (.tup [.ref r, .ref k]) ∧ RowsL H r R ∧ H k = some (.lst (Kd.map V.bl))
theorem RowsL.keepP {TT : List (Addr × Str)} {H H' : Hp} {p r : Addr} {R : Rows} {m : Nat} (h : RowsL H r R) (e : Ex TT (at1 p) H H') (n : r ≠ p) (nr : ∀ rs : List Addr, H r = some (.lst (rs.map V.ref)) → ∀ q ∈ rs, q ≠ p) : RowsL H' r R := by
  obtain ⟨rs, h1, h2, h3⟩ := h
  exact ⟨rs, e.keep _ _ n h1 (fun _ z => nomatch z), h2, fun i q hq => e.keep _ _ (nr rs h1 q (List.mem_of_getElem? hq)) (h3 i q hq) (fun _ z => nomatch z)⟩
/-- .. and none of it is the pot -/
def ModN (p : Addr) (H : Hp) (t : Addr) (R : Rows) (Kd : List Bool) : Prop := ∃ (r k : Addr) (rs : List Addr), H t = some (.tup [.ref r, .ref k]) ∧ H r = some (.lst (rs.map V.ref)) ∧ rs.length = R.length ∧ (∀ (i : Nat) q, rs[i]? = some q → q ≠ p ∧ H q = some (.lst (iv (gls R i)))) ∧ r ≠ p ∧ k ≠ p ∧ H k = some (.lst (Kd.map V.bl))
theorem ModN.at {p : Addr} {H : Hp} {t : Addr} {R : Rows} {Kd : List Bool} (h : ModN p H t R Kd) : ModAt H t R Kd := by
  obtain ⟨r, k, rs, h1, h2, h3, h4, _, _, h5⟩ := h
  exact ⟨r, k, h1, ⟨rs, h2, h3, fun i q hq => (h4 i q hq).2⟩, h5⟩
/-- .. and all of it is new -/
def ModFr (H0 H : Hp) (t : Addr) (R : Rows) (Kd : List Bool) : Prop := ∃ (r k : Addr) (rs : List Addr), H t = some (.tup [.ref r, .ref k]) ∧ H r = some (.lst (rs.map V.ref)) ∧ rs.length = R.length ∧ (∀ (i : Nat) q, rs[i]? = some q → H0 q = none ∧ H q = some (.lst (iv (gls R i)))) ∧ H0 r = none ∧ H0 k = none ∧ H k = some (.lst (Kd.map V.bl))
theorem ModFr.n {p : Addr} {H0 H : Hp} {t : Addr} {R : Rows} {Kd : List Bool} (h : ModFr H0 H t R Kd) (hp : Pot H0 p) : ModN p H t R Kd := by
  have ne : ∀ {b : Addr}, H0 b = none → b ≠ p := fun hb z => by
    obtain ⟨i, j, _, _, _, d⟩ := hp
    rw [z, d] at hb; cases hb
  obtain ⟨r, k, rs, h1, h2, h3, h4, h5, h6, h7⟩ := h
  exact ⟨r, k, rs, h1, h2, h3, fun i q hq => ⟨ne (h4 i q hq).1, (h4 i q hq).2⟩, ne h5, ne h6, h7⟩
theorem ModFr.of {H0 H1 H : Hp} {t : Addr} {R : Rows} {Kd : List Bool} (h : ModFr H1 H t R Kd) (e : Same H0 H1) : ModFr H0 H t R Kd := by
  obtain ⟨r, k, rs, h1, h2, h3, h4, h5, h6, h7⟩ := h
  exact ⟨r, k, rs, h1, h2, h3, fun i q hq => ⟨Same.free e (h4 i q hq).1, (h4 i q hq).2⟩, Same.free e h5, Same.free e h6, h7⟩
section
variable {P : Program} {w : World} {K : PySem.W.Frag} {mg : Str → Option Value} {base : Heap} (TT : List (Addr × Str))
abbrev nMod : List Str := ["_law_pot_here", "_law_signs", "_law_most", "_law_many", "_law_rows_here"]
theorem scMod : FnScope nMod ["_law_pot_here", "_law_signs", "_law_most"] (defScope sModel) := ⟨rfl, rfl, rfl, by decide +kernel, rfl, by decide +kernel, by decide +kernel⟩
def spMod (K : PySem.W.Frag) : Sp := fun vs H Q _ => ∃ (p : Addr) (S : List Nat) (most : Nat), vs = [.ref p, .str (T S), .int most] ∧ Pot H p ∧ LetOk S ∧ 0 < most ∧ most ≤ 10 ∧
  ∀ H' t R Kd, Ex TT (at1 p) H H' → Pot H' p → New H t → t ≠ p → ModN p H' t R Kd → ShOk S R Kd → Whole R → R.length ≤ most → Q (.ref t) H'
theorem ok_mod {f : Addr} {fd : FuncData} {k : Nat} (F : Fun K "_law_model" "_law_model" sModel f fd) (M : Mx mg) (HD : Has P w K mg base k "_law_draw" ["_law_pot_here", "_law_size"] (spDraw TT)) (HRw : Has P w K mg base k "_law_rows" ["_law_pot_here", "_law_many", "_law_size"] (spRw TT K))
    (HKd : Has P w K mg base k "_law_kinds" ["_law_pot_here", "_law_many"] (spLKi TT)) : FnG P w K mg base CX0 (k + 1) f fd ["_law_pot_here", "_law_signs", "_law_most"] (spMod TT K) := by
  refine okG F scMod (fun vs H Q E h => ?_) (fun cdv A hA outer s H vs Q E hr h => ?_)
  · obtain ⟨p, S, most, rfl, _⟩ := h; rfl
  · obtain ⟨p, S, most, rfl, hp, lt, m0, m1, q⟩ := h
    have nd := scMod.nd
    have sl := sizeLine_eq
    have l3 := lt.hi
    have l1 := lt.lo
    refine ⟨_, (pss_cons (ps_set (i := 3) nd rfl (.inl rfl) (pe_op o_add pe_int (pe_callH HD hA hr (by rfl) (pa_cons (uv 0) (pa_cons (uv 2) pa_nil)))))
      (pss_cons (ps_set (i := 4) nd rfl (.inl rfl) (pe_callH HRw hA hr (by rfl) (pa_cons (uv 0) (pa_cons (uv 3) (pa_cons (pe_callB c_len (by rfl) M.len b_len (pa_cons (uv 1) pa_nil)) pa_nil)))))
      (pss_one (ps_ret (pe_tup (pa_cons (uv 4) (pa_cons (pe_callH HKd hA hr (by rfl) (pa_cons (uv 0) (pa_cons (uv 3) pa_nil))) pa_nil))))))), ?_⟩
    refine ⟨p, most, rfl, m0, by omega, hp, fun H1 d e1 hp1 hd => ?_⟩
    obtain ⟨n, hn, hn1, hnm⟩ : ∃ n : Nat, (1 + (d : Int)) = (n : Int) ∧ 1 ≤ n ∧ n ≤ most := ⟨d + 1, by omega, by omega, by omega⟩
    dsimp only [rAddU, gName, tSeq, tAsg]
    rw [hn]
    refine ⟨by show (cs (T S)).length ≤ sizeLine; rw [cs_T]; omega, ?_⟩
    rw [show ((cs (T S)).length : Int) = (S.length : Int) by rw [cs_T]]
    refine ⟨p, n, S.length, rfl, by omega, by omega, by omega, by omega, hp1, fun H2 r R e2 hp2 newr nrp hR nrs ok lR wh => ?_⟩
    refine ⟨p, n, rfl, by omega, by omega, hp2, fun H3 kk Kd e3 hp3 newk nkp hk lK => ?_⟩
    refine ⟨by show 2 ≤ sizeLine; omega, fun t nt => ?_⟩
    obtain ⟨rs, r1, r2, r3⟩ := hR.keepP (m := 0) e3 nrp nrs
    have nrs' : ∀ q ∈ rs, q ≠ p := by
      obtain ⟨rs0, z1, _, _⟩ := hR
      have z2 := e3.keep _ _ nrp z1 (fun _ z => nomatch z)
      rw [r1] at z2
      have e9 : rs.map V.ref = rs0.map V.ref := HO.lst.inj (Option.some.inj z2)
      have e8 : rs = rs0 := (List.map_inj_right fun x y z => V.ref.inj z).mp e9
      exact e8 ▸ nrs rs0 z1
    have e13 := (e1.trans e2).trans e3
    refine q _ t R Kd (e13.trans (.new nt)) (hp3.put (hp3.ne nt)) (Ex.newN e13 hp3 nt) (hp3.ne nt).symm ⟨r, kk, rs, upd_same, same_upd nt _ _ r1, r2, fun i q hq => ⟨nrs' q (List.mem_of_getElem? hq), same_upd nt _ _ (r3 i q hq)⟩, nrp, nkp, same_upd nt _ _ hk⟩ ⟨lt, ok, by omega, by omega, by rw [lK, lR]⟩ wh (by omega)
end
end LK

/-! _law_mixed_line -/
namespace LK
open PySem PySem.Spec PyProof.Rows L2 LamX
open scoped List
section
variable {K : PySem.W.Frag} {g : TG} {te : TE} {σ : L2.St} {H : Hp} {vs : List Nat} {Q : VK}
/-- a comprehension over a list that is told by a reading of any kind -/
theorem lc_listC {t : TE} (h : t σ H fun v H1 => ∃ (a : Addr) (xs : List V), v = .ref a ∧ SqL K H1 a xs ∧ ∃ R : Addr → List V → List V → Hp → Prop, (∀ D pre acc H, R D pre acc H → SqL K H a xs) ∧ (∀ D, H1 D = none → R D [] [] (upd H1 D (.lst []))) ∧
    (∀ D, H1 D = none → ∀ pre acc x suf H, xs = pre ++ x :: suf → R D pre acc H → g x (wipe σ vs) H fun σ2 H2 => wipe σ2 vs = wipe σ vs ∧ te σ2 H2 fun y H4 => ∃ acc, H4 D = some (.lst acc) ∧ acc.length < sizeLine ∧ ∃ a, R D (pre ++ [x]) a (upd H4 D (.lst (acc ++ [y])))) ∧
    (∀ D, H1 D = none → ∀ acc H, R D xs acc H → Q (.ref D) H)) : tLc (iList K (cl t)) g tYes te vs σ H Q := by
  refine ⟨_, h, fun v H1 z => ?_⟩
  obtain ⟨a, xs, rfl, hx, R, hP, h0, hs, he⟩ := z
  exact lc_list (K := K) (t := fun _ H R => R (.ref a) H) (a := a) (xs := xs) (H := H1) (H1 := H1) (fun R h => h) hx R hP h0 hs he
end
theorem pairs_of {R : Addr → (Key × V) → Prop} {f : Nat → Key × V} : ∀ {ps : List Addr} {ns : List Nat}, ps.length = ns.length → (∀ (i : Nat) q c, ps[i]? = some q → ns[i]? = some c → R q (f c)) → Paired R ps (ns.map f)
  | [], [], _, _ => .nil
  | [], _ :: _, h, _ => by cases h
  | _ :: _, [], h, _ => by cases h
  | p :: ps, c :: ns, h, r => .cons (r 0 p c rfl rfl) (pairs_of (Nat.succ.inj h) fun i q c' hq hc => r (i + 1) q c' hq hc)
theorem valV_no {κ : Type} [DecidableEq κ] {kvs : List (κ × V)} {k : κ} (h : k ∉ kvs.map (·.1)) : valV kvs k = none := by
  induction kvs with
  | nil => rfl
  | cons x r ih =>
    rw [List.map_cons, List.mem_cons, not_or] at h
    rw [valV_neg (fun z => h.1 z.symm), ih h.2]
theorem valV_mem {κ : Type} [DecidableEq κ] {kvs : List (κ × V)} {k : κ} {v : V} (nd : (kvs.map (·.1)).Nodup) (h : (k, v) ∈ kvs) : valV kvs k = some v := by
  induction kvs with
  | nil => cases h
  | cons x r ih =>
    rw [List.map_cons, List.nodup_cons] at nd
    rcases List.mem_cons.mp h with rfl | h
    · exact valV_pos rfl
    · rw [valV_neg (fun z => nd.1 (z ▸ List.mem_map.mpr ⟨_, h, rfl⟩)), ih nd.2 h]
theorem mergeK_nd : ∀ (kvs acc : List (Key × V)), ((acc ++ kvs).map (·.1)).Nodup → mergeK acc kvs = acc ++ kvs
  | [], acc, _ => by rw [List.append_nil]; rfl
  | x :: r, acc, h => by
    have hx : x.1 ∉ acc.map (·.1) := fun z => by
      rw [List.map_append, List.nodup_append] at h
      exact h.2.2 _ z _ (by rw [List.map_cons]; exact List.mem_cons_self) rfl
    show mergeK (putK acc x.1 x.2) r = _
    rw [putK_new _ (valV_no hx), mergeK_nd r (acc ++ [(x.1, x.2)]) (by rw [List.append_assoc]; exact h), List.append_assoc]
    rfl
section
variable {TT : List (Addr × Str)} {K : PySem.W.Frag} {H H' : Hp} {p : Addr}
/-- a list or a tuple of texts, as it lies in the heap -/
def hoT (tp : Bool) (hs : List (List Nat)) : HO := if tp then .tup (hs.map LT) else .lst (hs.map LT)
theorem hoT_tbl {tp : Bool} {hs : List (List Nat)} : ∀ ps, hoT tp hs ≠ .tbl ps := fun ps z => by cases tp <;> cases z
theorem hoT_sq {a : Addr} {tp : Bool} {hs : List (List Nat)} (h : H a = some (hoT tp hs)) : SqB K tp H a (hs.map LT) := by
  cases tp
  · exact .inl (.inl h)
  · exact .inl (.inl h)
theorem hoT_ne {a : Addr} {tp : Bool} {hs : List (List Nat)} (h : H a = some (hoT tp hs)) (ne : hs ≠ []) (hp : Pot H p) : a ≠ p := fun z => by
  obtain ⟨i, j, d⟩ := Pot.lst hp
  rw [z, d] at h
  cases hs with
  | nil => exact ne rfl
  | cons x r => cases tp <;> cases h
def HearW (H : Hp) (v : V) (hs : List (List Nat)) : Prop := ∃ a tp, v = .ref a ∧ H a = some (hoT tp hs)
theorem HearW.keepH {v : V} {hs : List (List Nat)} (h : HearW H v hs) (ne : hs ≠ []) (hp : Pot H p) (e : Ex TT (at1 p) H H') : HearW H' v hs := by
  obtain ⟨a, tp, ev, hq⟩ := h
  exact ⟨a, tp, ev, e.keep _ _ (hoT_ne hq ne hp) hq hoT_tbl⟩
theorem HearW.putF {F : Addr} {k0 k1 : List (Key × V)} {v : V} {hs : List (List Nat)} (h : HearW H v hs) (hF : H F = some (.dK k0)) : HearW (upd H F (.dK k1)) v hs := by
  obtain ⟨a, tp, ev, hq⟩ := h
  refine ⟨a, tp, ev, ?_⟩
  rw [upd_ne (fun z => by rw [z, hF] at hq; cases tp <;> cases hq)]; exact hq
/-- a line: for each letter a list or a tuple of texts -/
def LineW (H : Hp) (d : Addr) (S : List Nat) (hg : Nat → List (List Nat)) : Prop :=
  ∃ kvs : List (Key × V), H d = some (.dK kvs) ∧ kvs.length = S.length ∧ ∀ c ∈ S, ∃ v, valV kvs (.inr (T [c])) = some v ∧ HearW H v (hg c)
/-- .. with its entries in their sequence: the letter, where its hearings lie, whether these are a tuple -/
structure LineK (H : Hp) (d : Addr) (S : List Nat) (hg : Nat → List (List Nat)) (es : List (Nat × Addr × Bool)) : Prop where
  dk : H d = some (.dK (es.map fun e => ((Sum.inr (T [e.1]) : Key), V.ref e.2.1)))
  pm : es.map (·.1) ~ S
  at_ : ∀ e ∈ es, H e.2.1 = some (hoT e.2.2 (hg e.1))
theorem keys_nd {S : List Nat} (nd : S.Nodup) : (S.map fun c => (Sum.inr (T [c]) : Key)).Nodup := List.Pairwise.map _ (fun a b h z => h (by
  have z : (Sum.inr (T [a]) : Key) = Sum.inr (T [b]) := z
  exact (List.cons.inj (T_inj (Sum.inr.inj z))).1)) nd
theorem LineK.w {d : Addr} {S : List Nat} {hg : Nat → List (List Nat)} {es : List (Nat × Addr × Bool)} (h : LineK H d S hg es) (nd : S.Nodup) : LineW H d S hg := by
  refine ⟨_, h.dk, by rw [List.length_map, ← h.pm.length_eq, List.length_map], fun c hc => ?_⟩
  obtain ⟨e, he, rfl⟩ := List.mem_map.mp (h.pm.mem_iff.mpr hc)
  refine ⟨.ref e.2.1, valV_mem ?_ (List.mem_map.mpr ⟨e, he, rfl⟩), e.2.1, e.2.2, rfl, h.at_ e he⟩
  have := keys_nd (h.pm.nodup_iff.mpr nd)
  rw [List.map_map] at this ⊢
  exact this
theorem LineW.at {d : Addr} {S : List Nat} {hg : Nat → List (List Nat)} (h : LineW H d S hg) : LineAt K H d S hg := by
  obtain ⟨kvs, h1, h2, h3⟩ := h
  refine ⟨kvs, h1, h2, fun c hc => ?_⟩
  obtain ⟨v, hv, a, tp, ev, hq⟩ := h3 c hc
  exact ⟨v, hv, a, tp, ev, hoT_sq hq⟩
theorem LineK.ext {d : Addr} {S : List Nat} {hg : Nat → List (List Nat)} {es : List (Nat × Addr × Bool)} (h : LineK H d S hg es) (e : Same H H') : LineK H' d S hg es := ⟨e _ _ h.dk, h.pm, fun x hx => e _ _ (h.at_ x hx)⟩
theorem LineK.keep {d : Addr} {S : List Nat} {hg : Nat → List (List Nat)} {es : List (Nat × Addr × Bool)} (h : LineK H d S hg es) (ok : LineOk S hg) (hp : Pot H p) (e : Ex TT (at1 p) H H') : LineK H' d S hg es := by
  obtain ⟨i, j, dd⟩ := Pot.lst hp
  refine ⟨e.keep _ _ (fun z => ?_) h.dk (fun _ z => nomatch z), h.pm, fun x hx => e.keep _ _ ?_ (h.at_ x hx) hoT_tbl⟩
  · have z : d = p := z
    have := h.dk
    rw [z, dd] at this; cases this
  · exact hoT_ne (h.at_ x hx) (ok x.1 (h.pm.mem_iff.mp (List.mem_map.mpr ⟨x, hx, rfl⟩))).ne hp
theorem lineK_of {d : Addr} {S ns : List Nat} {hg : Nat → List (List Nat)} {vf : Nat → V} (pm : ns ~ S) (hd : H d = some (.dK (ns.map fun c => ((Sum.inr (T [c]) : Key), vf c)))) (h : ∀ c ∈ S, HearW H (vf c) (hg c)) : ∃ es, LineK H d S hg es ∧ ∀ e ∈ es, vf e.1 = .ref e.2.1 := by
  have ch : ∀ c, ∃ x : Addr × Bool, c ∈ S → vf c = .ref x.1 ∧ H x.1 = some (hoT x.2 (hg c)) := fun c => by
    by_cases hc : c ∈ S
    · obtain ⟨a, tp, e1, e2⟩ := h c hc
      exact ⟨(a, tp), fun _ => ⟨e1, e2⟩⟩
    · exact ⟨(d, false), fun z => absurd z hc⟩
  obtain ⟨f, hf⟩ := Classical.axiomOfChoice ch
  refine ⟨ns.map fun c => (c, f c), ⟨?_, by rw [List.map_map, show ((fun x : Nat × Addr × Bool => x.1) ∘ fun c => (c, f c)) = id from rfl, List.map_id]; exact pm, fun e he => ?_⟩, fun e he => ?_⟩
  · rw [hd, List.map_map]
    congr 2
    exact List.map_congr_left fun c hc => by
      show ((Sum.inr (T [c]) : Key), vf c) = (Sum.inr (T [c]), V.ref (f c).1)
      rw [(hf c (pm.mem_iff.mp hc)).1]
  · obtain ⟨c, hc, rfl⟩ := List.mem_map.mp he
    exact (hf c (pm.mem_iff.mp hc)).2
  · obtain ⟨c, hc, rfl⟩ := List.mem_map.mp he
    exact (hf c (pm.mem_iff.mp hc)).1
end
section
variable {P : Program} {w : World} {K : PySem.W.Frag} {mg : Str → Option Value} {base : Heap} (TT : List (Addr × Str))
abbrev nML : List Str := ["_law_pot_here", "_law_signs", "_law_road", "_law_sign"]
theorem scML : FnScope nML ["_law_pot_here", "_law_signs", "_law_road"] (defScope sMixLine) := ⟨rfl, rfl, rfl, by decide +kernel, rfl, by decide +kernel, by decide +kernel⟩
/-- the same line, its letters in some sequence -/
def spML (K : PySem.W.Frag) : Sp := fun vs H Q _ => ∃ (p d : Addr) (S : List Nat) (hg : Nat → List (List Nat)), vs = [.ref p, .str (T S), .ref d] ∧ Pot H p ∧ LetOk S ∧ LineW H d S hg ∧ LineOk S hg ∧
  ∀ H' d' es, Ex TT (at1 p) H H' → Pot H' p → New H d' → d' ≠ p → LineK H' d' S hg es → (∀ e ∈ es, ∀ kvs, H d = some (.dK kvs) → valV kvs (.inr (T [e.1])) = some (.ref e.2.1)) → Q (.ref d') H'
theorem ok_ml {f : Addr} {fd : FuncData} {k : Nat} (F : Fun K "_law_mixed_line" "_law_mixed_line" sMixLine f fd) (M : Mx mg) (gDict : mg "dict" = none) (HMx : Has P w K mg base k "_law_mixed" ["_law_pot_here", "_law_some"] (spMixed TT K)) :
    FnG P w K mg base CX0 (k + 1) f fd ["_law_pot_here", "_law_signs", "_law_road"] (spML TT K) := by
  refine okG F scML (fun vs H Q E h => ?_) (fun cdv A hA outer s H vs Q E hr h => ?_)
  · obtain ⟨p, d, S, hg, rfl, _⟩ := h; rfl
  · obtain ⟨p, d, S, hg, rfl, hp, lt, hd, ok, q⟩ := h
    have nd := scML.nd
    have sl := sizeLine_eq
    have l3 := lt.hi
    refine ⟨_, (pss_one (ps_ret (pe_callTy (call_dictP rfl) (by rfl) gDict b_dict (pa_cons (pe_cl (pe_lc (own := [("_law_sign", 3)]) (g := gName 3) (tt := tYes) rfl nd (pi_listK (K := K) rfl (pe_cl (pe_callH HMx hA hr (by rfl) (pa_cons (uv 0) (pa_cons (pe_callTy (c_listT rfl) (by rfl) M.list b_list (pa_cons (uv 1) pa_nil)) pa_nil))))) (blkOk_by (N := nML) (sc := defScope sMixLine) (by decide +kernel))
          (fun _ _ _ _ _ => pg_name (i := 3) nd rfl (Or.inl rfl)) (fun _ _ _ _ _ => pts_nil)
          (fun _ _ _ _ _ => (pe_tup (pa_cons (uv 3) (pa_cons (pe_dget (Room.u1 hr) (uv 2) (uv 3) (fun _ _ => rfl)) pa_nil)))))) pa_nil)))), ?_⟩
    obtain ⟨kvs, d1, d2, d3⟩ := id hd
    have vfm : ∀ c ∈ S, valV kvs (.inr (T [c])) = some ((valV kvs (.inr (T [c]))).getD .non) ∧ HearW H ((valV kvs (.inr (T [c]))).getD .non) (hg c) := fun c hc => by
      obtain ⟨v, hv, ha⟩ := d3 c hc
      rw [hv]; exact ⟨rfl, ha⟩
    obtain ⟨vf, evf⟩ : ∃ vf : Nat → V, vf = fun c => (valV kvs (.inr (T [c]))).getD .non := ⟨_, rfl⟩
    have vfm : ∀ c ∈ S, valV kvs (.inr (T [c])) = some (vf c) ∧ HearW H (vf c) (hg c) := by rw [evf]; exact vfm
    clear evf
    dsimp only [tRet, tCB, tCons]
    refine ⟨fun v H' => ∃ (B : Addr) (ns : List Nat) (ps : List Addr), v = .ref B ∧ Ex TT (at1 p) H H' ∧ Pot H' p ∧ ns ~ S ∧ H' B = some (.lst (ps.map V.ref)) ∧ Paired (fun q kv => SqT K H' q [kV kv.1, kv.2]) ps (ns.map fun c => ((Sum.inr (T [c]) : Key), vf c)), lc_listC ?_, fun v H' z => ?_⟩
    · refine ⟨by show (cs (T S)).length ≤ sizeLine; rw [cs_T]; omega, fun L nL => ?_⟩
      have hL : (upd H L (.lst (lets (cs (T S))))) L = some (.lst (lets S)) := by rw [upd_same, cs_T]
      have npL : p ≠ L := hp.ne nL
      have eL : Ex TT (at1 p) H (upd H L (.lst (lets (cs (T S))))) := .new nL
      have hpL : Pot (upd H L (.lst (lets (cs (T S))))) p := hp.put npL
      generalize upd H L (.lst (lets (cs (T S)))) = H1 at hL eL hpL
      refine ⟨p, L, false, lets S, rfl, hpL, .inl (.inl hL), by simp [lets]; omega, fun H2 Y ys e2 hp2 newY nYp hY pm => ?_⟩
      obtain ⟨ns, rfl, pmn⟩ := perm_mapI pm S rfl
      have e02 := eL.trans e2
      have d12 : H2 d = some (.dK kvs) := by
        obtain ⟨i, j, dd⟩ := Pot.lst hp
        exact e02.keep _ _ (fun z => by have z : d = p := z; rw [z, dd] at d1; cases d1) d1 (fun _ z => nomatch z)
      refine ⟨Y, _, rfl, .inl (.inl hY), fun D pre acc H3 => H2 D = none ∧ Same H2 H3 ∧ H3 D = some (.lst acc) ∧ ∃ ps : List Addr, acc = ps.map V.ref ∧ ps.length = pre.length ∧ ∀ (i : Nat) q c, ps[i]? = some q → ns[i]? = some c → q ≠ D ∧ H3 q = some (.tup [.str (T [c]), vf c]),
        fun D pre acc H3 r => .inl (.inl (r.2.1 _ _ hY)), fun D nD => ⟨nD, same_upd nD, upd_same, [], rfl, rfl, fun i q c z => by cases z⟩, fun D nD pre acc x suf H3 e r => ?_, fun D nD acc H3 r => ?_⟩
      · obtain ⟨_, e3, hD, ps, rfl, lp, hps⟩ := r
        have hx : (ns.map fun c => V.str (T [c]))[pre.length]? = some x := by rw [e]; simp
        rw [List.getElem?_map] at hx
        obtain ⟨c, hc, rfl⟩ := Option.map_eq_some_iff.mp hx
        have hcS : c ∈ S := pmn.mem_iff.mp (List.mem_of_getElem? hc)
        have g := DGet.k (k := .inr (T [c])) (e3 _ _ d12)
        rw [(vfm c hcS).1] at g
        refine ⟨rfl, d, vf c, rfl, g, by show 2 ≤ sizeLine; omega, fun t nt => ?_⟩
        have tD : t ≠ D := fun z => by rw [z, hD] at nt; cases nt
        have lns : ns.length = S.length := pmn.length_eq
        refine ⟨_, same_upd nt _ _ hD, ?_, _, nD, ?_, upd_same, ps ++ [t], by rw [List.map_append]; rfl, by rw [List.length_append, List.length_append, lp]; rfl, fun i q c' hq hc' => ?_⟩
        · have := (List.getElem?_eq_some_iff.mp hc).1
          rw [List.length_map]; omega
        · exact fun b o hb => by
            have : b ≠ D := fun z => by rw [z, nD] at hb; cases hb
            rw [upd_ne this]; exact (e3.trans (same_upd nt)) _ _ hb
        · rcases Nat.lt_or_ge i ps.length with lt' | ge
          · rw [List.getElem?_append_left lt'] at hq
            obtain ⟨w1, w2⟩ := hps i q c' hq hc'
            exact ⟨w1, by rw [upd_ne w1]; exact same_upd nt _ _ w2⟩
          · rw [List.getElem?_append_right ge] at hq
            have j0 : i = ps.length := by
              have := (List.getElem?_eq_some_iff.mp hq).1
              rw [List.length_singleton] at this
              omega
            subst j0
            rw [Nat.sub_self] at hq
            obtain rfl : t = q := by cases hq; rfl
            rw [lp, hc] at hc'
            cases hc'
            exact ⟨tD, by rw [upd_ne tD, upd_same]⟩
      · obtain ⟨_, e3, hD, ps, rfl, lp, hps⟩ := r
        rw [List.length_map] at lp
        refine ⟨D, ns, ps, rfl, e02.trans (.same e3), ?_, pmn, hD, ?_⟩
        · obtain ⟨i, j, a, b, c, dd⟩ := hp2
          exact ⟨i, j, a, b, c, e3 _ _ dd⟩
        · exact pairs_of lp fun i q c hq hc => .inl (.inl (hps i q c hq hc).2)
    · obtain ⟨B, ns, ps, rfl, e', hp', pmn, hB, pr⟩ := z
      have hnd : ((ns.map fun c => ((Sum.inr (T [c]) : Key), vf c)).map (·.1)).Nodup := by
        rw [List.map_map]
        refine List.Pairwise.map _ (fun a b h z => h ?_) (pmn.nodup_iff.mpr lt.up.nodup)
        have z : (Sum.inr (T [a]) : Key) = Sum.inr (T [b]) := z
        have := T_inj (Sum.inr.inj z)
        exact (List.cons.inj this).1
      refine ⟨B, ps, _, rfl, .inl (.inl hB), pr, fun D nD => ?_⟩
      rw [mergeK_nd _ [] hnd, List.nil_append]
      have e'' : Ex TT (at1 p) H (upd H' D (.dK (ns.map fun c => ((Sum.inr (T [c]) : Key), vf c)))) := e'.trans (.new nD)
      obtain ⟨es, hes, hvf⟩ := lineK_of (hg := hg) (vf := vf) (d := D) pmn (H := upd H' D (.dK (ns.map fun c => ((Sum.inr (T [c]) : Key), vf c)))) upd_same fun c hc => (vfm c hc).2.keepH (ok c hc).ne hp e''
      exact q _ D es e'' (hp'.put (hp'.ne nD)) (Ex.newN e' hp' nD) (hp'.ne nD).symm hes fun x hx kvs' hk => by
        rw [d1] at hk
        obtain rfl : kvs = kvs' := HO.dK.inj (Option.some.inj hk)
        rw [(vfm x.1 (hes.pm.mem_iff.mp (List.mem_map.mpr ⟨x, hx, rfl⟩))).1, hvf x hx]
end
end LK

/-! _law_line -/
namespace LK
open PySem PySem.Spec PyProof.Rows L2 LamX
open scoped List
section
variable {K : PySem.W.Frag} {g : TG} {tt : TT} {te : TE} {σ : L2.St} {H : Hp} {vs : List Nat} {Q : VK}
/-- a comprehension with a condition over a list that is told by a reading of any kind -/
theorem lc_listFC {t : TE} (h : t σ H fun v H1 => ∃ (a : Addr) (xs : List V), v = .ref a ∧ SqL K H1 a xs ∧ ∃ R : Addr → List V → List V → Hp → Prop, (∀ D pre acc H, R D pre acc H → SqL K H a xs) ∧ (∀ D, H1 D = none → R D [] [] (upd H1 D (.lst []))) ∧
    (∀ D, H1 D = none → ∀ pre acc x suf H, xs = pre ++ x :: suf → R D pre acc H → g x (wipe σ vs) H fun σ2 H2 => wipe σ2 vs = wipe σ vs ∧ tt σ2 H2 fun b H3 => if b = true then te σ2 H3 fun y H4 => ∃ acc, H4 D = some (.lst acc) ∧ acc.length < sizeLine ∧ ∃ a, R D (pre ++ [x]) a (upd H4 D (.lst (acc ++ [y]))) else ∃ a, R D (pre ++ [x]) a H3) ∧
    (∀ D, H1 D = none → ∀ acc H, R D xs acc H → Q (.ref D) H)) : tLc (iList K (cl t)) g tt te vs σ H Q := by
  refine ⟨_, h, fun v H1 z => ?_⟩
  obtain ⟨a, xs, rfl, hx, R, hP, h0, hs, he⟩ := z
  exact ⟨a, rfl, ⟨_, hx⟩, fun D nD => lc_wkF wk_list (fun pre acc H => R D pre acc H) (hP D) (h0 D nD) (hs D nD) (he D nD)⟩
end
/-- what a letter may be heard as, all of it -/
def allH (S : List Nat) : List (List Nat) := (S.map fun c => [c]) ++ [[]]
theorem allH_V (S : List Nat) : lets S ++ [V.str (T [])] = (allH S).map LT := by
  rw [allH, List.map_append, List.map_map]; rfl
theorem allH_len (S : List Nat) : (allH S).length = S.length + 1 := by rw [allH, List.length_append, List.length_map]; rfl
theorem allH_nd {S : List Nat} (nd : S.Nodup) : (allH S).Nodup := by
  refine List.nodup_append.mpr ⟨List.Pairwise.map _ (fun a b h z => h (List.cons.inj z).1) nd, by simp, fun x hx y hy z => ?_⟩
  obtain ⟨c, _, rfl⟩ := List.mem_map.mp hx
  rw [List.mem_singleton] at hy
  rw [hy] at z; cases z
theorem allH_one {S : List Nat} {h : List Nat} (m : h ∈ allH S) : h.length ≤ 1 ∧ ∀ c ∈ h, c ∈ S := by
  rcases List.mem_append.mp m with m | m
  · obtain ⟨c, hc, rfl⟩ := List.mem_map.mp m
    exact ⟨Nat.le_refl _, fun x hx => by rw [List.mem_singleton.mp hx]; exact hc⟩
  · rw [List.mem_singleton.mp m]
    exact ⟨Nat.zero_le _, fun x hx => by cases hx⟩
theorem hearOk_of {S : List Nat} {l hs : List (List Nat)} (nd : S.Nodup) (l3 : S.length ≤ 3) (sub : l <+ allH S) (ne : l ≠ []) (pm : hs ~ l) : HearOk S hs := by
  refine ⟨fun z => ne (List.Perm.nil_eq (z ▸ pm)).symm, pm.nodup_iff.mpr ((allH_nd nd).sublist sub), fun h hm => allH_one (sub.subset (pm.mem_iff.mp hm)), ?_⟩
  have := sub.length_le
  rw [pm.length_eq]
  rw [allH_len] at this
  omega
theorem newNN {TT : List (Addr × Str)} {H H1 : Hp} {p D : Addr} (e : Ex TT (at1 p) H H1) (n : New H1 D) (np : D ≠ p) : New H D := fun b o hb m z => n b o (e.keep b o (fun y => np (z.symm.trans y)) hb m) m z
theorem allH_read {S : List Nat} {σ : L2.St} {H : Hp} {Q : VK} (l3 : S.length ≤ 3) (h1 : σ[1]? = some (some (.str (T S)))) (q : ∀ H' W, Same H H' → H W = none → H' W = some (.lst ((allH S).map LT)) → Q (.ref W) H') :
    tOp rAddU (tCB listT (tCons (uVar 1) tNil)) (tLst (tCons (tC (V.str (T []))) tNil)) σ H Q := by
  have sl := sizeLine_eq
  dsimp only [tOp, tCB, tCons]
  refine uvq h1 ?_
  refine ⟨by show (cs (T S)).length ≤ sizeLine; rw [cs_T]; omega, fun L nL => ?_⟩
  refine ⟨by show 1 ≤ sizeLine; omega, fun E nE => ?_⟩
  have nLE : L ≠ E := ne_of_none upd_same nE
  have hL : (upd (upd H L (.lst (lets (cs (T S))))) E (.lst [.str (T [])])) L = some (.lst (lets S)) := by rw [upd_ne nLE, upd_same, cs_T]
  have e2 : Same H (upd (upd H L (.lst (lets (cs (T S))))) E (.lst [.str (T [])])) := (same_upd nL).trans (same_upd nE)
  refine ⟨lets S, [.str (T [])], hL, upd_same, by simp [lets]; omega, fun W nW => ?_⟩
  refine q _ W (e2.trans (same_upd nW)) (Same.free e2 nW) ?_
  rw [upd_same, allH_V]

section
variable {P : Program} {w : World} {K : PySem.W.Frag} {mg : Str → Option Value} {base : Heap} (TT : List (Addr × Str))
abbrev nLn : List Str := ["_law_pot_here", "_law_signs", "_law_found", "_law_sign", "_law_some", "_law_one"]
theorem scLn : FnScope nLn ["_law_pot_here", "_law_signs"] (defScope sLLine) := ⟨rfl, rfl, rfl, by decide +kernel, rfl, by decide +kernel, by decide +kernel⟩
def spLn (K : PySem.W.Frag) : Sp := fun vs H Q _ => ∃ (p : Addr) (S : List Nat), vs = [.ref p, .str (T S)] ∧ Pot H p ∧ LetOk S ∧
  ∀ H' d hg es, Ex TT (at1 p) H H' → Pot H' p → New H d → d ≠ p → LineK H' d S hg es → LineOk S hg → (∀ e ∈ es, New H e.2.1) → Q (.ref d) H'
theorem ok_ln {f : Addr} {fd : FuncData} {k : Nat} (F : Fun K "_law_line" "_law_line" sLLine f fd) (M : Mx mg) (HD : Has P w K mg base k "_law_draw" ["_law_pot_here", "_law_size"] (spDraw TT)) (HPk : Has P w K mg base k "_law_pick" ["_law_pot_here", "_law_some"] (spPick TT))
    (HMx : Has P w K mg base k "_law_mixed" ["_law_pot_here", "_law_some"] (spMixed TT K)) (HML : Has P w K mg base k "_law_mixed_line" ["_law_pot_here", "_law_signs", "_law_road"] (spML TT K)) :
    FnG P w K mg base CX0 (k + 1) f fd ["_law_pot_here", "_law_signs"] (spLn TT K) := by
  refine okG F scLn (fun vs H Q E h => ?_) (fun cdv A hA outer s H vs Q E hr h => ?_)
  · obtain ⟨p, S, rfl, _⟩ := h; rfl
  · obtain ⟨p, S, rfl, hp, lt, q⟩ := h
    have nd := scLn.nd
    have sl := sizeLine_eq
    have l3 := lt.hi
    have hnd := lt.up.nodup
    refine ⟨_, (pss_cons (ps_set (i := 2) nd rfl (.inl rfl) pe_dnewK)
      (pss_cons (ps_for PassesOwn.never rfl (pi_str (uv 1)) (pg_name (i := 3) nd rfl (.inl rfl))
        (pss_cons (ps_setLc (i := 4) (own := [("_law_one", 5)]) (g := gName 5) (by rfl) nd rfl rfl (sw_true rfl rfl rfl (by decide +kernel)) (pi_listK (K := K) rfl (pe_cl (pe_op o_add (pe_callTy (c_listT rfl) (by rfl) M.list b_list (pa_cons (uv 1) pa_nil)) (pe_lst (pa_cons (ustr []) pa_nil)))))
          (blkOk_by (N := nLn) (sc := defScope sLLine) (by decide +kernel))
          (fun _ _ _ _ _ => pg_name (i := 5) nd rfl (Or.inl rfl)) (fun _ _ _ _ _ => pts_one (pt_cu (r := eqU K false) (o_eq hr.units) (pe_callH HD hA hr (by rfl) (pa_cons (uv 0) (pa_cons pe_int pa_nil))) pe_int))
          (fun _ _ _ _ _ => (uv 5)))
      (pss_cons (ps_set (i := 4) nd rfl (.inl rfl) (pe_callH HMx hA hr (by rfl) (pa_cons (uv 0) (pa_cons (pe_cl (pe_ifU (pt_cu (r := eqU K true) (o_ne hr.units) (uv 4) (pe_lst pa_nil)) (uv 4) (pe_lst (pa_cons (pe_callH HPk hA hr (by rfl) (pa_cons (uv 0) (pa_cons (pe_op o_add (pe_callTy (c_listT rfl) (by rfl) M.list b_list (pa_cons (uv 1) pa_nil)) (pe_lst (pa_cons (ustr []) pa_nil))) pa_nil))) pa_nil)))) pa_nil))))
      (pss_one (ps_dput (Room.u1 hr) (uv 2) (uv 3) (pe_cl (pe_ifU (pt_cu (r := eqU K false) (o_eq hr.units) (pe_callH HD hA hr (by rfl) (pa_cons (uv 0) (pa_cons pe_int pa_nil))) pe_int) (pe_tupleOfK (K := K) rfl (by rfl) M.tuple (uv 4)) (uv 4))) rfl)))))
      (pss_one (ps_ret (pe_callH HML hA hr (by rfl) (pa_cons (uv 0) (pa_cons (uv 1) (pa_cons (uv 2) pa_nil)))))))), ?_⟩
    intro F nF
    have newF : New H F := fun b o hb _ z => by rw [z, nF] at hb; cases hb
    have npF : p ≠ F := hp.ne nF
    have hF0 : (upd H F (.dK [])) F = some (.dK ((([] : List Nat)).map fun c => ((Sum.inr (T [c]) : Key), V.non))) := upd_same
    have e0 : Ex TT (at1 p) H (upd H F (.dK [])) := .new nF
    have hp0 : Pot (upd H F (.dK [])) p := hp.put npF
    dsimp only [tSeq, tAsg, gName]
    generalize upd H F (.dK []) = H0 at hF0 e0 hp0
    refine for_str (l := S) (H1 := H0) (by exact fun _ h => h) (fun pre σ Hx => ∃ (vf : Nat → V) (hg : Nat → List (List Nat)) (y3 y4 : Option V), σ = [some (.ref p), some (.str (T S)), some (.ref F), y3, y4, none] ∧ Ex TT (at1 p) H Hx ∧ Pot Hx p ∧
        Hx F = some (.dK (pre.map fun c => ((Sum.inr (T [c]) : Key), vf c))) ∧ ∀ c ∈ pre, HearW Hx (vf c) (hg c) ∧ HearOk S (hg c) ∧ ∃ a, vf c = .ref a ∧ New H a)
      ⟨fun _ => .non, fun _ => [], none, none, rfl, e0, hp0, hF0, fun c hc => by cases hc⟩ (fun pre c suf σ Hx e iv => ?_) (fun σ Hx iv => ?_)
    · obtain ⟨vf, hg, y3, y4, rfl, ex, hpx, hFx, hcs⟩ := iv
      have nFx : F ≠ p := npF.symm
      have lpre : pre.length < S.length := by rw [e]; simp
      have hcp : c ∉ pre := fun z => by
        have := hnd
        rw [e, List.nodup_append] at this
        exact this.2.2 c z c List.mem_cons_self rfl
      dsimp only [gName, tSeq, tAsg]
      refine lc_listFC ?_
      refine allH_read l3 rfl fun H1 W e1 nW hW => ?_
      have hp1 : Pot H1 p := by obtain ⟨i, j, a, b, cc, dd⟩ := hpx; exact ⟨i, j, a, b, cc, e1 _ _ dd⟩
      have nWp : W ≠ p := (hpx.ne nW).symm
      refine ⟨W, (allH S).map LT, rfl, .inl (.inl hW), fun D pr acc H3 => H1 D = none ∧ Ex TT (at1 p) H1 H3 ∧ Pot H3 p ∧ H3 D = some (.lst acc) ∧ ∃ l : List (List Nat), acc = l.map LT ∧ l <+ (allH S).take pr.length,
        fun D pr acc H3 r => .inl (.inl (r.2.1.keep _ _ nWp hW fun _ z => nomatch z)), fun D nD => ⟨nD, .new nD, hp1.put (hp1.ne nD), upd_same, [], rfl, .slnil⟩, fun D nD pr acc x sf H3 e9 r => ?_, fun D nD acc H3 r => ?_⟩
      · obtain ⟨_, e3, hp3, hD, l, rfl, sub⟩ := r
        have nDp := hp1.ne nD
        have newD : New H1 D := fun b o hb _ z => by rw [z, nD] at hb; cases hb
        have hx : ((allH S).map LT)[pr.length]? = some x := by rw [e9]; simp
        rw [List.getElem?_map] at hx
        obtain ⟨h, hh, rfl⟩ := Option.map_eq_some_iff.mp hx
        have li := (List.getElem?_eq_some_iff.mp hh).1
        have tk : (allH S).take (pr.length + 1) = (allH S).take pr.length ++ [h] := by
          rw [List.take_succ_eq_append_getElem li, (List.getElem?_eq_some_iff.mp hh).2]
        refine ⟨rfl, p, 2, rfl, by omega, by omega, hp3, fun H4 d1 e4 hp4 hd1 => ?_⟩
        have hD4 := e4.keep _ _ nDp.symm hD fun _ z => nomatch z
        have ls := sub.length_le
        rw [List.length_take, allH_len] at ls
        dsimp only [tC, eqU, asB]
        by_cases z : decide ((d1 : Int) = 0) = true
        · rw [if_pos (show (if false = true then !decide ((d1 : Int) = 0) else decide ((d1 : Int) = 0)) = true from z)]
          refine ⟨_, hD4, by rw [List.length_map]; omega, _, nD, (e3.trans e4).putN newD hD4 (fun _ z => nomatch z) (fun _ _ z => nomatch z), hp4.put nDp, upd_same, l ++ [h], by rw [List.map_append]; rfl, ?_⟩
          rw [List.length_append, List.length_singleton, tk]
          exact sub.append (.refl _)
        · rw [if_neg (show ¬ (if false = true then !decide ((d1 : Int) = 0) else decide ((d1 : Int) = 0)) = true from z)]
          refine ⟨_, nD, e3.trans e4, hp4, hD4, l, rfl, ?_⟩
          rw [List.length_append, List.length_singleton, tk]
          exact sub.trans (List.sublist_append_left _ _)
      · obtain ⟨_, e3, hp3, hD, l, rfl, sub⟩ := r
        rw [List.length_map, List.take_length] at sub
        have e1x : Ex TT (at1 p) Hx H3 := (Ex.same e1).trans e3
        have nDp := hp1.ne nD
        have nFD : F ≠ D := fun z => by
          have := e1 _ _ hFx
          rw [z, nD] at this; cases this
        have hFx3 := e1x.keep _ _ nFx hFx fun _ z => nomatch z
        clear e3 hp1 hW
        refine ⟨fun v H' => ∃ (B : Addr) (l' : List (List Nat)), v = .ref B ∧ l' ≠ [] ∧ l' <+ allH S ∧ Ex TT (at1 p) Hx H' ∧ Pot H' p ∧ B ≠ p ∧ H' B = some (.lst (l'.map LT)), ?_, fun v H' z => ?_⟩
        · refine ⟨by show 0 ≤ sizeLine; omega, fun Z nZ => ?_⟩
          have shp : ∀ l : List (List Nat), l <+ allH S → SeqAt.shaped (encTs l) = true := fun l hl => (flat_strs fun h hh c hc => by
            have := lt.sm.asc c ((allH_one (hl.subset hh)).2 c hc)
            omega).shaped (by decide)
          have hp4 : Pot (upd H3 Z (.lst [])) p := hp3.put (hp3.ne nZ)
          have hD4 := same_upd (o := .lst []) nZ _ _ hD
          have hZ4 : (upd H3 Z (.lst [])) Z = some (.lst ((([] : List (List Nat))).map LT)) := upd_same
          have e4 : Ex TT (at1 p) Hx (upd H3 Z (.lst [])) := e1x.trans (.new nZ)
          generalize upd H3 Z (.lst []) = H4 at hp4 hD4 hZ4 e4
          refine ⟨encTs l, encTs [], .lst (.inl (.inl hD4)) (dpAll_str l), .lst (.inl (.inl hZ4)) (dpAll_str []), shp l sub, shp [] (List.nil_sublist _), ?_⟩
          show Br (!PyData.eqv (encTs l) (encTs [])) _ _
          by_cases z : l = []
          · rw [eqv_strs.mpr z]
            refine .no ?_
            dsimp only [tLst, tCons, uCall]
            refine uvq (v := .ref p) rfl (allH_read l3 rfl fun H5 W' e5 nW' hW' => ?_)
            have hp5 : Pot H5 p := by obtain ⟨i, j, a, b, cc, dd⟩ := hp4; exact ⟨i, j, a, b, cc, e5 _ _ dd⟩
            refine ⟨p, .ref W', rfl, hp5, .inl ⟨W', _, rfl, (hp4.ne nW').symm, hW', by rw [List.length_map, allH_len]; omega, by rw [List.length_map, allH_len]; omega, fun H6 x e6 hp6 hx => ?_⟩⟩
            obtain ⟨h, hh, rfl⟩ := List.mem_map.mp hx
            refine ⟨by show 1 ≤ sizeLine; omega, fun B nB => ?_⟩
            exact ⟨B, [h], rfl, by simp, List.singleton_sublist.mpr hh, ((e4.trans (.same e5)).trans e6).trans (.new nB), hp6.put (hp6.ne nB), (hp6.ne nB).symm, upd_same⟩
          · have : PyData.eqv (encTs l) (encTs []) = false := Bool.eq_false_iff.mpr fun y => z (eqv_strs.mp y)
            rw [this]
            exact .yes ⟨D, l, rfl, z, sub, e4, hp4, nDp.symm, hD4⟩
        · obtain ⟨B, l', rfl, nl', sub', e4, hp4, nBp, hB⟩ := z
          have sl4 := sub'.length_le
          rw [allH_len] at sl4
          refine ⟨p, B, false, l'.map LT, rfl, hp4, .inl (.inl hB), by rw [List.length_map]; omega, fun H5 Y ys e5 hp5 newY nYp hY pm => ?_⟩
          obtain ⟨hs, rfl, pmh⟩ := perm_mapI pm l' rfl
          have hok := hearOk_of hnd l3 sub' nl' pmh
          have e05 := e4.trans e5
          refine ⟨fun v H' => Ex TT (at1 p) H5 H' ∧ Pot H' p ∧ HearW H' v hs ∧ ∃ a, v = .ref a ∧ New H a, ?_, fun v H' z => ?_⟩
          · refine ⟨p, 4, rfl, by omega, by omega, hp5, fun H6 d2 e6 hp6 hd2 => ?_⟩
            have hY6 := e6.keep _ _ nYp hY fun _ z => nomatch z
            refine .d (fun _ => ?_) (fun _ => ⟨e6, hp6, ⟨Y, false, rfl, hY6⟩, Y, rfl, newNN (ex.trans e4) newY nYp⟩)
            exact .inl ⟨Y, hs.map LT, rfl, .inl (.inl hY6), fun t nt => ⟨e6.trans (.new nt), hp6.put (hp6.ne nt), ⟨t, true, rfl, upd_same⟩, t, rfl, Ex.newN ((ex.trans e05).trans e6) hp6 nt⟩⟩
          · obtain ⟨e6, hp6, hH, hN⟩ := z
            have e06 := e05.trans e6
            have hF6 := e06.keep _ _ nFx hFx fun _ z => nomatch z
            refine ⟨F, _, rfl, DPut.k (k := .inr (T [c])) hF6 (by rw [List.length_map]; omega), ?_⟩
            have hk : (Sum.inr (T [c]) : Key) ∉ (pre.map fun c => ((Sum.inr (T [c]) : Key), vf c)).map (·.1) := fun z => by
              rw [List.map_map] at z
              obtain ⟨c', hc', e'⟩ := List.mem_map.mp z
              have e' : (Sum.inr (T [c']) : Key) = Sum.inr (T [c]) := e'
              have := (List.cons.inj (T_inj (Sum.inr.inj e'))).1
              rw [this] at hc'
              exact hcp hc'
            rw [putK_new _ (valV_no hk)]
            refine ⟨fun x => if x = c then v else vf x, fun x => if x = c then hs else hg x, _, _, rfl, (ex.trans e06).putN newF hF6 (fun _ z => nomatch z) (fun _ _ z => nomatch z), hp6.put npF, ?_, fun x hx => ?_⟩
            · rw [upd_same, List.map_append]
              congr 2
              rw [List.map_singleton]
              dsimp only
              rw [if_pos rfl]
              congr 1
              refine List.map_congr_left fun x hx => ?_
              have nx : ¬ x = c := fun z => hcp (z ▸ hx)
              show _ = ((Sum.inr (T [x]) : Key), if x = c then v else vf x)
              rw [if_neg nx]
            · dsimp only
              by_cases z : x = c
              · rw [if_pos z, if_pos z]
                exact ⟨hH.putF hF6, hok, hN⟩
              · rw [if_neg z, if_neg z]
                have hx' : x ∈ pre := by
                  rcases List.mem_append.mp hx with h | h
                  · exact h
                  · exact (z (List.mem_singleton.mp h)).elim
                obtain ⟨w1, w2, w3⟩ := hcs x hx'
                exact ⟨(w1.keepH w2.ne hpx e06).putF hF6, w2, w3⟩
    · obtain ⟨vf, hg, y3, y4, rfl, ex, hpx, hFx, hcs⟩ := iv
      have hkn : ((S.map fun c => ((Sum.inr (T [c]) : Key), vf c)).map (·.1)).Nodup := by
        rw [List.map_map]
        refine List.Pairwise.map _ (fun a b h z => h ?_) hnd
        have z : (Sum.inr (T [a]) : Key) = Sum.inr (T [b]) := z
        exact (List.cons.inj (T_inj (Sum.inr.inj z))).1
      refine ⟨p, F, S, hg, rfl, hpx, lt, ⟨_, hFx, by rw [List.length_map], fun c hc => ⟨vf c, valV_mem hkn (List.mem_map.mpr ⟨c, hc, rfl⟩), (hcs c hc).1⟩⟩, fun c hc => (hcs c hc).2.1, fun H' d' es e' hp' nd' ndp hl hv => ?_⟩
      refine q H' d' hg es (ex.trans e') hp' (newNN ex nd' ndp) ndp hl (fun c hc => (hcs c hc).2.1) fun x hx => ?_
      have hxS := hl.pm.mem_iff.mp (List.mem_map.mpr ⟨x, hx, rfl⟩)
      have z1 := hv x hx _ hFx
      rw [valV_mem hkn (List.mem_map.mpr ⟨x.1, hxS, rfl⟩)] at z1
      obtain ⟨a9, z2, z3⟩ := (hcs x.1 hxS).2.2
      rw [z2] at z1
      have z4 : a9 = x.2.1 := V.ref.inj (Option.some.inj z1)
      rw [← z4]; exact z3

end
end LK

/-! staying, as the least set that is closed -/
namespace LK
open PySem PySem.Spec PyProof.Rows L2
open scoped List
section
variable {R : Rows} {js : List Nat} {m w : Nat}
/-- a set of places that the columns js do not lead out of -/
def ClosedS (R : Rows) (js : List Nat) (T : Nat → Prop) : Prop := ∀ p, p < R.length → T p → ∀ j ∈ js, T ((gls R p).getD j 0)
theorem ledS_in {T : Nat → Prop} (c : ClosedS R js T) (h : ∀ p, m.testBit p = true → T p) : ∀ q, (ledS R m js).testBit q = true → T q := by
  intro q hq
  obtain ⟨j, hj, hl⟩ := ledS_tb.mp hq
  obtain ⟨p, lp, tp, rfl⟩ := ledM_tb.mp hl
  exact c p lp (h p tp) j hj
theorem stayN_in {T : Nat → Prop} (c : ClosedS R js T) : ∀ (t m : Nat), (∀ p, m.testBit p = true → T p) → ∀ q, (stayN R js t m).testBit q = true → T q
  | 0, _, h => h
  | t + 1, m, h => by
    refine stayN_in c t (m ||| ledS R m js) fun p hp => ?_
    rw [tb_or, Bool.or_eq_true] at hp
    rcases hp with a | a
    · exact h p a
    · exact ledS_in c h p a
/-- least .. -/
theorem stayM_in {T : Nat → Prop} (c : ClosedS R js T) (h : ∀ p, m.testBit p = true → T p) : ∀ q, (stayM R m js).testBit q = true → T q := stayN_in c _ m h
theorem stayN_has : ∀ (t m q : Nat), m.testBit q = true → (stayN R js t m).testBit q = true
  | 0, _, _, h => h
  | t + 1, m, q, h => stayN_has t _ q (by rw [tb_or, h]; rfl)
theorem stayM_has {q : Nat} (h : m.testBit q = true) : (stayM R m js).testBit q = true := stayN_has _ m q h
/-- .. and closed -/
theorem stayM_closed (ok : RowsOk R w) (hj : ∀ j ∈ js, j < w) (hm : Low R.length m) : ClosedS R js fun q => (stayM R m js).testBit q = true := fun p lp tp j hjs => by
  have e := stayM_step ok hj hm
  have z : (ledS R (stayM R m js) js).testBit ((gls R p).getD j 0) = true := ledS_tb.mpr ⟨j, hjs, ledM_tb.mpr ⟨p, lp, tp, rfl⟩⟩
  show (stayM R m js).testBit _ = true
  rw [← e, tb_or, z, Bool.or_true]
/-- a rising list that holds the places, is closed and holds nothing but what each closed set with the places holds: the bits of staying -/
theorem stay_bits {ps l : List Nat} (ok : RowsOk R w) (hj : ∀ j ∈ js, j < w) (hps : ∀ p ∈ ps, p < R.length) (asc : l.Pairwise (· < ·)) (sub : ∀ p ∈ ps, p ∈ l) (c : ClosedS R js (· ∈ l))
    (least : ∀ T : Nat → Prop, ClosedS R js T → (∀ p ∈ ps, T p) → ∀ q ∈ l, T q) : l = bits R.length (stayM R (mask ps) js) := by
  have low : Low R.length (mask ps) := low_of fun q hq => by
    rw [mask_tb] at hq
    exact hps q (of_decide_eq_true hq)
  refine bits_of_asc (stayM_low ok hj low) asc fun p => ⟨fun hp => ?_, fun hp => ?_⟩
  · exact least _ (stayM_closed ok hj low) (fun q hq => stayM_has (by rw [mask_tb]; exact decide_eq_true hq)) p hp
  · refine stayM_in c (fun q hq => ?_) p hp
    rw [mask_tb] at hq
    exact sub q (of_decide_eq_true hq)
/-- where some places lead by some columns, as a number -/
theorem mask_led {some ps hs : List Nat} (lt : ∀ p ∈ some, p < R.length) (h : ∀ q, q ∈ ps ↔ ∃ p ∈ some, ∃ j ∈ hs, (gls R p).getD j 0 = q) : mask ps = ledS R (mask some) hs := by
  refine mask_ext fun q => ?_
  rw [mask_tb, Bool.eq_iff_iff, decide_eq_true_iff, h, ledS_tb]
  constructor
  · rintro ⟨p, hp, j, hj, e⟩
    exact ⟨j, hj, ledM_tb.mpr ⟨p, lt p hp, by rw [mask_tb]; exact decide_eq_true hp, e⟩⟩
  · rintro ⟨j, hj, z⟩
    obtain ⟨p, _, tp, e⟩ := ledM_tb.mp z
    rw [mask_tb] at tp
    exact ⟨p, of_decide_eq_true tp, j, hj, e⟩
end
end LK

/-! set(list of numbers), sorted of it -/
namespace LK
open PySem PySem.Spec PyProof.Rows L2 LamX
open scoped List
theorem in_iv (g : Nat) (f : List Nat) : inV (.int g) (iv f) = decide (g ∈ f) := by
  rw [Bool.eq_iff_iff, decide_eq_true_eq]
  unfold inV
  rw [List.any_eq_true]
  constructor
  · rintro ⟨x, hx, e⟩
    obtain ⟨y, hy, rfl⟩ := List.mem_map.mp hx
    have e : ((y : Int) == (g : Int)) = true := e
    have := beq_iff_eq.mp e
    have : y = g := by omega
    exact this ▸ hy
  · exact fun h => ⟨.int (g : Nat), List.mem_map.mpr ⟨g, h, rfl⟩, by show ((g : Int) == (g : Int)) = true; simp⟩
theorem flat_iv (f : List Nat) : (iv f).all flatV = true := by
  rw [List.all_eq_true]
  intro x hx
  obtain ⟨y, _, rfl⟩ := List.mem_map.mp hx
  rfl
section
variable {P : Program} {w : World} {A : Around} {E : Value → Shared → Prop} {s : Shared}
theorem init_ints {l : Addr} {its : Array Value} (ns : List Int) {Q : Value → Shared → Prop} (hh : A.handled = none) (hl : s.heap.IsList l its) (hi : IntsAre its.toList ns) (hb : ns.length + 1 < scanBound)
    (hQ : ∀ h' tk c, (∀ b o, s.heap.get? b = some o → h'.get? b = some o) → SetR w h' s.heap.objs.size (fun j => decide (j ∈ ns)) c → c ≤ ns.length → Q (.ref s.heap.objs.size) { s with heap := h', toks := tk }) :
    wpAny (model P w) A.in1.in1 (Builtin.«set.__init__» ⟨[.ref s.heap.objs.size, .ref l], []⟩)
      (fun fin s' => match fin with | .done f => wants (fun r s₂ => r = .none ∧ Q (.ref s.heap.objs.size) s₂) E (.ok f) s' | .again c' => c'.quiet = true ∧ codeAny (model P w) A.in1 c' (wants (fun r s₂ => r = .none ∧ Q (.ref s.heap.objs.size) s₂) E) s')
      (fun e s' => wants (fun r s₂ => r = .none ∧ Q (.ref s.heap.objs.size) s₂) E (.error e) s') { s with heap := s.heap.push (set0 w) } := by
  have hS : (s.heap.push (set0 w)).get? s.heap.objs.size = some (set0 w) := Heap.get?_push_size _ rfl
  have lz : its.size = ns.length := by have := hi.length; rwa [Array.length_toList] at this
  obtain ⟨⟨c0, d0, x0, sl0⟩, gl, k1, n0, k2⟩ := hl
  simp only at k1 k2
  subst k1; subst k2
  have ll : l < s.heap.objs.size := Heap.lt_size gl
  have gl1 : (s.heap.push (set0 w)).get? l = some ⟨.type "list", d0, .seq its n0, sl0⟩ := Heap.get?_push_of_some _ gl
  have f1 := F.sub_list_set
  have f2 := F.sub_list_frozenset
  have f3 : (Value.type "list" == Value.type "dict") = false := by decide
  have il : (s.heap.push (set0 w)).IsList l its := ⟨_, gl1, rfl, n0, rfl⟩
  have hz : (s.heap.push (set0 w)).objs.size = s.heap.objs.size + 1 := size_push' _ _
  have at_ : ∀ (i : Nat) (v : Value), its[i]? = some v → ∃ k t, ns[i]? = some k ∧ v = .int k t := fun i v hv => by
    have lt : i < ns.length := lz ▸ (Array.getElem?_eq_some_iff.mp hv).1
    obtain ⟨t, e⟩ := IntsAre.int_at hi i v (by rw [Array.getElem?_toList]; exact hv)
    exact ⟨ns[i], t, List.getElem?_eq_getElem lt, by rw [e, List.getD_eq_getElem?_getD, List.getElem?_eq_getElem lt]; rfl⟩
  unfold Builtin.«set.__init__» noKeywords Builtin.Frozenset.updateFrom
  generalize hPI : pyIter = PI
  wp_walk
  subst hPI
  refine wpAny_pyIter_list il ?_
  refine wpAny_bind (wpAny_runValue ?_)
  have ne1 : l ≠ (s.heap.push (set0 w)).objs.size := by rw [hz]; exact Nat.ne_of_lt (Nat.lt_succ_of_lt ll)
  refine set_update_ints ((Walks.list (by simp [hh]) _ l ne1 its).toS) s.heap.objs.size ?_ ns lz hb at_ (its.size - 0) 0 _ (by omega) (Nat.zero_le _) ⟨⟨_, Heap.get?_push_size _ rfl, rfl, rfl⟩, il.push _⟩ ⟨0, Nat.le_refl 0, setR_new_at (Heap.get?_push_of_some _ hS)⟩ ?_
  · rw [hz]
    simp only [List.mem_cons, List.not_mem_nil, or_false, not_or]
    exact ⟨Nat.ne_of_lt (Nat.lt_succ_self _), Nat.ne_of_gt ll⟩
  · intro s' c hm hc hR
    obtain ⟨h', g2, d', tk, os'⟩ := s'
    obtain rfl : g2 = s.gens := hm.gens
    obtain rfl : d' = s.drawn := hm.drawn
    obtain rfl : os' = s.os := hm.os
    show wpAny _ _ _ _ _ _
    refine wpAny_pure ?_
    show wpAny _ _ (ret Value.none) _ _ _
    refine wpAny_pure ⟨rfl, hQ h' tk c (fun b o e => ?_) hR (lz ▸ hc)⟩
    have lb := Heap.lt_size e
    refine hm.heap b o (fun z => ?_) (Heap.get?_push_of_some _ (Heap.get?_push_of_some _ e))
    rcases List.mem_cons.mp z with z | z
    · exact Nat.lt_irrefl _ (z ▸ lb)
    · rw [List.mem_singleton.mp z, hz] at lb
      exact Nat.not_succ_lt_self lb
theorem set_of_ints {l : Addr} {its : Array Value} (ns : List Int) {Q : Value → Shared → Prop} (hh : A.handled = none) (hl : s.heap.IsList l its) (hi : IntsAre its.toList ns) (hb : ns.length + 1 < scanBound)
    (hQ : ∀ h' tk c, (∀ b o, s.heap.get? b = some o → h'.get? b = some o) → SetR w h' s.heap.objs.size (fun j => decide (j ∈ ns)) c → c ≤ ns.length → Q (.ref s.heap.objs.size) { s with heap := h', toks := tk }) :
    wpAny (model P w) A (call (.type "set") [.ref l]) Q E s := by
  obtain ⟨c0, tl0, m0⟩ := F.called_set.mro
  have m1 := F.called_set.made; have m2 := F.called_set.sub; have m3 := F.called_set.notType; have m4 := F.called_set.canCreate
  have m5 := F.typeCall_set_1 (.ref l)
  refine wpAny_call (codeAny_of_tree (show wpAny _ _ (callAny (.type "set") _) _ _ _ from wpAny_pure ⟨Code.quiet_builtin _ (by decide +kernel), codeAny_builtin F.entry_type_call ?_⟩))
  rw [Around.under_plain (weight_type_call_type "set" [.ref l] []) rfl]
  repeat (any_goals (first | assumption | wp_step))
  refine codeAny_mono (new_set1 (.ref l) (E := E) (R := fun obj s₁ => obj = .ref s.heap.objs.size ∧ s₁ = { s with heap := s.heap.push (set0 w) }) ⟨rfl, rfl⟩) fun r s₁ hr => ?_
  match r, hr with
  | .error e, hr => exact hr
  | .ok .next, hr => exact hr.elim
  | .ok .brk, hr => exact hr.elim
  | .ok .cont, hr => exact hr.elim
  | .ok (.ret obj), hr =>
    obtain ⟨rfl, rfl⟩ := hr
    have hS : (s.heap.push (set0 w)).get? s.heap.objs.size = some (set0 w) := Heap.get?_push_size _ rfl
    have hT : Shared.TypeIs { s with heap := s.heap.push (set0 w) } (.ref s.heap.objs.size) "set" := ⟨_, hS, rfl⟩
    have m6 := F.called_set.init.lookup; have m7 := F.called_set.init.bind (.ref s.heap.objs.size)
    repeat (any_goals (first | assumption | wp_step))
    refine codeAny_mono (codeAny_call_builtin (R := wants (fun r s₂ => r = .none ∧ Q (.ref s.heap.objs.size) s₂) E) F.called_set.init.plain F.entry_set_init (check_set_init_1 hT (init_ints ns hh hl hi hb hQ))) fun r₂ s₂ hr₂ => ?_
    match r₂, hr₂ with
    | .error e, hr₂ => exact hr₂
    | .ok .next, hr₂ => exact hr₂.elim
    | .ok .brk, hr₂ => exact hr₂.elim
    | .ok .cont, hr₂ => exact hr₂.elim
    | .ok (.ret r), hr₂ =>
      obtain ⟨rfl, hq⟩ := hr₂
      repeat (any_goals (first | assumption | wp_step))
end
section
variable {X : Cx} {K : PySem.W.Frag} {w : World}
/-- set(list of numbers) -/
def setI (K : PySem.W.Frag) (w : World) : List V → Hp → VK → Prop := fun vs H Q => match vs with
  | [.ref l] => ∃ ns : List Int, SqL K H l (ns.map V.int) ∧ ns.length ≤ 1000 ∧ ∀ p c, c ≤ ns.length → H p = none → Q (.ref p) (upd H p (SetO w p (fun j => decide (j ∈ ns)) c))
  | _ => False
theorem c_setI (hK : X.K = K) (hw : X.w = w) (hc : X.calm = true) : CallR X (.type "set") (setI K w) := by
  subst hK hw
  intro pins s σ H xs us Q I r h
  unfold setI at h
  split at h
  · rename_i l
    obtain ⟨ns, hs, hl, q⟩ := h
    obtain ⟨u, rfl, ru⟩ := vals1 r
    obtain rfl : u = Value.ref l := ru
    obtain ⟨its, rv, pl, hz⟩ := I.list hs
    refine set_of_ints (its := its.toArray) ns (I.ok.hd hc) pl.isList (by simpa using ints_of_vals rv) (by unfold scanBound; omega) fun h' tk c keep R le => ?_
    exact ⟨.ref s.heap.objs.size, upd H s.heap.objs.size (SetO X.w s.heap.objs.size (fun j => decide (j ∈ ns)) c), I.laid (t' := tk) keep (Nat.le_refl _) (setO_new R), rfl, q _ c le (I.hok.fresh (Nat.le_refl _))⟩
  · exact h.elim
theorem cr_sortedSetK (hw : X.w = w) (hc : X.calm = true) : CallR X (.builtin "sorted") (rSortedSet w) := hw ▸ cr_sortedSet hc
theorem cr_sortedIK (hK : X.K = K) : CallR X (.builtin "sorted") (rSortedI K) := hK ▸ cr_sortedI
def iaddU : TIp := fun x y H Q => match x, y with
  | .int i, .int j => Q (.int (i + j)) H
  | _, _ => False
theorem ip_add : PIp X .Add iaddU := by
  intro pins s σ H x y v u Q I rx ry h
  unfold iaddU at h
  split at h
  · exact iop_add pins s σ H _ _ v u Q I rx ry ⟨_, _, rfl, rfl, h⟩
  · exact h.elim
end
end LK

/-! _law_missed -/
namespace LK
open PySem PySem.Spec PyProof.Rows L2 LamX
open scoped List
theorem o_ninK {X : Cx} {K : PySem.W.Frag} (hK : X.K = K) : OpR X (compareOp .NotIn) (rIn K true) := hK ▸ op_notIn_seq
theorem nats_of {ns : List Int} (h : ∀ k ∈ ns, 0 ≤ k) : ∃ l : List Nat, ns = l.map fun (g : Nat) => (g : Int) := by
  refine ⟨ns.map Int.toNat, ?_⟩
  rw [List.map_map]
  have : ns.map id = ns := List.map_id ns
  conv => lhs; rw [← this]
  exact List.map_congr_left fun k hk => (Int.toNat_of_nonneg (h k hk)).symm
theorem iv_int (l : List Nat) : (l.map fun (g : Nat) => (g : Int)).map V.int = iv l := List.map_map
/-- on the way: what was found, all of it closed up to i -/
structure MisOk (R : Rows) (js ps : List Nat) (i : Nat) (f : List Nat) : Prop where
  nd : f.Nodup
  lt : ∀ x ∈ f, x < R.length
  has : ∀ p ∈ ps, p ∈ f
  least : ∀ T : Nat → Prop, ClosedS R js T → (∀ p ∈ ps, T p) → ∀ q ∈ f, T q
  done : ∀ t, t < i → ∀ p, f[t]? = some p → ∀ j ∈ js, (gls R p).getD j 0 ∈ f
  le : i ≤ f.length
section
variable {R : Rows} {js ps f : List Nat} {i w : Nat}
theorem MisOk.len (m : MisOk R js ps i f) : f.length ≤ R.length := len_le_of_lt m.nd m.lt
theorem MisOk.add (m : MisOk R js ps i f) (ok : RowsOk R w) (hj : ∀ j ∈ js, j < w) {p j : Nat} (hp : p ∈ f) (h : j ∈ js) (n : (gls R p).getD j 0 ∉ f) : MisOk R js ps i (f ++ [(gls R p).getD j 0]) := by
  have lp := m.lt p hp
  refine ⟨List.nodup_append.mpr ⟨m.nd, by simp, fun a ha b hb z => ?_⟩, fun x hx => ?_, fun q hq => List.mem_append_left _ (m.has q hq), fun T c t q hq => ?_, fun t ht q hq j' hj' => ?_, by rw [List.length_append]; have := m.le; omega⟩
  · rw [List.mem_singleton.mp hb] at z; exact n (z ▸ ha)
  · rcases List.mem_append.mp hx with hx | hx
    · exact m.lt x hx
    · rw [List.mem_singleton.mp hx]
      exact gls_lt ok (p := p) (getD_mem (by rw [gls_len ok lp]; exact hj j h))
  · rcases List.mem_append.mp hq with hq | hq
    · exact m.least T c t q hq
    · rw [List.mem_singleton.mp hq]
      exact c p lp (m.least T c t p hp) j h
  · have : t < f.length := Nat.lt_of_lt_of_le ht m.le
    rw [List.getElem?_append_left this] at hq
    exact List.mem_append_left _ (m.done t ht q hq j' hj')
theorem MisOk.on (m : MisOk R js ps i f) {p : Nat} (hp : f[i]? = some p) (h : ∀ j ∈ js, (gls R p).getD j 0 ∈ f) : MisOk R js ps (i + 1) f := by
  refine ⟨m.nd, m.lt, m.has, m.least, fun t ht q hq => ?_, (List.getElem?_eq_some_iff.mp hp).1⟩
  by_cases e : t = i
  · subst e; rw [hp] at hq; cases hq; exact h
  · exact m.done t (by omega) q hq
theorem MisOk.fin {l : List Nat} (m : MisOk R js ps i f) (ok : RowsOk R w) (hj : ∀ j ∈ js, j < w) (hps : ∀ p ∈ ps, p < R.length) (e : f.length ≤ i) (pm : l ~ f) (asc : l.Pairwise (· ≤ ·)) : l = bits R.length (stayM R (mask ps) js) := by
  have nd : l.Nodup := pm.nodup_iff.mpr m.nd
  refine stay_bits ok hj hps ?_ (fun p hp => pm.mem_iff.mpr (m.has p hp)) (fun p lp hp j h => ?_) (fun T c t q hq => m.least T c t q (pm.mem_iff.mp hq))
  · exact List.Pairwise.imp₂ (fun a b h1 h2 => Nat.lt_of_le_of_ne h1 h2) asc nd
  · obtain ⟨t, ht⟩ := List.mem_iff_getElem?.mp (pm.mem_iff.mp hp)
    have := (List.getElem?_eq_some_iff.mp ht).1
    exact pm.mem_iff.mpr (m.done t (by omega) p ht j h)
theorem mis_start (hps : ∀ p ∈ ps, p < R.length) (nd : f.Nodup) (e : ∀ x, x ∈ f ↔ x ∈ ps) : MisOk R js ps 0 f :=
  ⟨nd, fun x hx => hps x ((e x).mp hx), fun p hp => (e p).mpr hp, fun T _ t q hq => t q ((e q).mp hq), fun t ht => by omega, Nat.zero_le _⟩
end

section
variable {P : Program} {w : World} {K : PySem.W.Frag} {mg : Str → Option Value} {base : Heap}
abbrev nMs : List Str := ["_law_signs", "_law_rows_here", "_law_road", "_law_some", "_law_found", "_law_at", "_law_sign", "_law_goal"]
theorem scMs : FnScope nMs ["_law_signs", "_law_rows_here", "_law_road", "_law_some"] (defScope sMissed) := ⟨rfl, rfl, rfl, by decide +kernel, rfl, by decide +kernel, by decide +kernel⟩
/-- staying, as a tuple of places -/
def spMs (K : PySem.W.Frag) : Sp := fun vs H Q _ => ∃ (r d a : Addr) (S ps : List Nat) (R : Rows) (hg : Nat → List (List Nat)), vs = [.str (T S), .ref r, .ref d, .ref a] ∧ RowsL H r R ∧ RowsOk R S.length ∧ (∀ c ∈ S, c < 128) ∧ S.length ≤ 100 ∧ R.length ≤ 1000 ∧ LineAt K H d S hg ∧
  SqL K H a (iv ps) ∧ ps.length ≤ 60 ∧ (∀ p ∈ ps, p < R.length) ∧ ∀ H' t, Same H H' → H' t = some (.tup (iv (bits R.length (stayM R (mask ps) (heardAs S hg []))))) → Q (.ref t) H'
theorem ok_ms {f : Addr} {fd : FuncData} {k : Nat} (F : Fun K "_law_missed" "_law_missed" sMissed f fd) (M : Mx mg) :
    FnG P w K mg base CX0 (k + 1) f fd ["_law_signs", "_law_rows_here", "_law_road", "_law_some"] (spMs K) := by
  refine okG F scMs (fun vs H Q E h => ?_) (fun cdv A hA outer s H vs Q E hr h => ?_)
  · obtain ⟨r, d, a, S, ps, R, hg, rfl, _⟩ := h; rfl
  · obtain ⟨r, d, a, S, ps, R, hg, rfl, ⟨rs, h1, h2, h3⟩, ok, asc, sl1, rl, hd, ha, hp, lt, q⟩ := h
    have nd := scMs.nd
    have sl := sizeLine_eq
    refine ⟨_, (pss_cons (ps_par (i := 4) (j := 5) (by rfl) nd rfl rfl (by decide) rfl rfl (pa_cons (pe_callB (cr_sortedSetK (w := w) rfl rfl) (by rfl) M.sorted b_sorted (pa_cons (pe_callTy (c_setI (K := K) (w := w) rfl rfl rfl) (by rfl) M.set b_set (pa_cons (uv 3) pa_nil)) pa_nil)) (pa_cons pe_int pa_nil)) (by rfl))
      (pss_cons (ps_while PassesOwn.never (pt_cl (pt_cu o_lt (uv 5) (pe_callB c_len (by rfl) M.len b_len (pa_cons (uv 4) pa_nil))))
        (pss_cons (ps_for PassesOwn.never rfl (pi_zipSL (by rfl) M.zip (pa_cons (uv 0) (pa_cons (pe_ixK (K := K) rfl (uv 1) (pe_ixK (K := K) rfl (uv 4) (uv 5))) pa_nil))) (pg_tup rfl (pgs_cons (pg_name (i := 6) nd rfl (.inl rfl)) (pgs_cons (pg_name (i := 7) nd rfl (.inl rfl)) pgs_nil)))
        (pss_one (ps_ifU (pt_cl (PW.pt (pw_andU (pt_cu (r := inTx K) (o_inTx (Room.u65 hr)) (ustr []) (pe_dget (Room.u1 hr) (uv 2) (uv 6) (fun _ _ => rfl))) (pw_and1 (pt_cu (o_ninK (K := K) rfl) (uv 7) (uv 4) (by rfl)))))) (pss_one (ps_expr (pe_bm PySem.F.plainAttrs_list PySem.F.slot_list_append PySem.F.type_list_append mt_append (uv 4) (pa_cons (uv 7) pa_nil)))) pss_nil)))
      (pss_one (ps_aug (i := 5) nd rfl (.inl rfl) pe_int ip_add))))
      (pss_one (ps_ret (pe_tupleOfK (K := K) rfl (by rfl) M.tuple (pe_callB (cr_sortedIK (K := K) rfl) (by rfl) M.sorted b_sorted (pa_cons (uv 4) pa_nil))))))), ?_⟩
    have hj : ∀ j ∈ heardAs S hg [], j < S.length := fun j h => heardAs_lt h
    obtain ⟨kvs, d1, d2, d3⟩ := hd
    refine ⟨ps.map fun (g : Nat) => (g : Int), by rw [iv_int]; exact ha, by rw [List.length_map]; omega, fun p c hc np => ⟨p, _, c, rfl, upd_same, by rw [List.length_map] at hc; omega, fun ms D rise mem _ nD => ⟨_, _, rfl, ?_⟩⟩⟩
    have e1 : Same H (upd H p (SetO w p (fun j => decide (j ∈ ps.map fun (g : Nat) => (g : Int))) c)) := same_upd np
    have nDH := Same.free e1 nD
    obtain ⟨f, rfl⟩ := nats_of (ns := ms) (fun k hk => by
      obtain ⟨g, _, rfl⟩ := List.mem_map.mp (of_decide_eq_true ((mem k).mp hk)); omega)
    have ndf : f.Nodup := by
      rw [List.pairwise_map] at rise
      exact rise.imp fun h z => by omega
    have mf : ∀ x, x ∈ f ↔ x ∈ ps := fun x => by
      have m1 := mem (x : Int)
      rw [decide_eq_true_eq] at m1
      have up : ∀ l : List Nat, (x : Int) ∈ l.map (fun (g : Nat) => (g : Int)) ↔ x ∈ l := fun l => by
        rw [List.mem_map]
        exact ⟨fun ⟨g, hg, e⟩ => by have : g = x := by omega
                                    exact this ▸ hg, fun h => ⟨x, h, rfl⟩⟩
      rw [up, up] at m1
      exact m1
    rw [iv_int]
    have m0 : MisOk R (heardAs S hg []) ps 0 f := mis_start lt ndf mf
    have e2 : Same H (upd (upd H p (SetO w p (fun j => decide (j ∈ ps.map fun (g : Nat) => (g : Int))) c)) D (.lst (iv f))) := same_upd2 e1 nDH
    have hD : (upd (upd H p (SetO w p (fun j => decide (j ∈ ps.map fun (g : Nat) => (g : Int))) c)) D (.lst (iv f))) D = some (.lst (iv f)) := upd_same
    generalize (upd (upd H p (SetO w p (fun j => decide (j ∈ ps.map fun (g : Nat) => (g : Int))) c)) D (.lst (iv f))) = H1 at e2 hD
    clear nD rise mem ndf mf e1 hc np
    show tWhile _ _ _ _ _
    refine wh (m0 := R.length) (fun mm σ H2 => ∃ (i : Nat) (f : List Nat) (y6 y7 : Option V), mm = R.length - i ∧ MisOk R (heardAs S hg []) ps i f ∧ Same H H2 ∧ H2 D = some (.lst (iv f)) ∧ σ = [some (.str (T S)), some (.ref r), some (.ref d), some (.ref a), some (.ref D), some (.int (i : Nat)), y6, y7])
      ⟨0, f, none, none, rfl, m0, e2, hD, rfl⟩ (fun mm σ H2 iv2 => ?_) (fun σ H Q Q' hm h => ?_)
    case refine_2 =>
      obtain ⟨Q0, h0, m0⟩ := h
      exact ⟨Q0, h0, fun v H' z => hm _ _ (m0 v H' z)⟩
    clear m0 e2 hD
    obtain ⟨i, f, y6, y7, rfl, m, e2, hD, rfl⟩ := iv2
    have fl := m.len
    refine ⟨fun b H' => b = decide ((i : Int) < ((iv f).length : Int)) ∧ H' = H2, .inl ⟨iv f, .inl (.inl (.inl hD)), rfl, rfl⟩, fun b H' z => ?_⟩
    obtain ⟨rfl, rfl⟩ := z
    have ll : (iv f).length = f.length := List.length_map _
    by_cases hlt : i < f.length
    · rw [if_pos (decide_eq_true (by rw [ll]; omega))]
      obtain ⟨p, hp⟩ : ∃ p, f[i]? = some p := ⟨_, List.getElem?_eq_getElem hlt⟩
      have plt := m.lt p (List.mem_of_getElem? hp)
      obtain ⟨qa, hqa⟩ : ∃ q, rs[p]? = some q := ⟨_, List.getElem?_eq_getElem (by omega)⟩
      have hrow := h3 _ _ hqa
      have lg := gls_len ok plt
      dsimp only [tNext, tSeq]
      refine for_zipSL (K := K) (l := S) (b := qa) (ys := iv (gls R p)) (H1 := H') (fun R' hR' => ⟨iv f, .int p, .inl (.inl (.inl hD)), atI_nat (by rw [List.getElem?_map, hp]; rfl), rs.map V.ref, .ref qa, .inl (.inl (.inl (e2 _ _ h1))), atI_nat (by rw [List.getElem?_map, hqa]; rfl), hR'⟩) asc (by rw [List.length_map, lg])
        (fun n σ H4 => ∃ (g : List Nat) (y6 y7 : Option V), MisOk R (heardAs S hg []) ps i g ∧ g[i]? = some p ∧ (∀ j ∈ heardAs S hg [], j < n → (gls R p).getD j 0 ∈ g) ∧ Same H H4 ∧ H4 D = some (.lst (iv g)) ∧
          σ = [some (.str (T S)), some (.ref r), some (.ref d), some (.ref a), some (.ref D), some (.int (i : Nat)), y6, y7])
        ⟨f, y6, y7, m, hp, fun j _ z => absurd z (Nat.not_lt_zero _), e2, hD, rfl⟩ (fun n σ H4 h => by obtain ⟨_, _, _, _, _, _, h, _⟩ := h; exact .inl (.inl (h _ _ hrow))) (fun n c y pr σ H4 hc hy h npr => ?_) (fun σ H4 h => ?_)
      · obtain ⟨g, y6, y7, mg', gp, gd, e5, hD5, rfl⟩ := h
        rw [List.getElem?_map] at hy
        obtain ⟨gg, hgg, rfl⟩ := Option.map_eq_some_iff.mp hy
        have nD5 : D ≠ pr := ne_of_none hD5 npr
        have npH : H pr = none := Same.free e5 npr
        have cS : c ∈ S := List.mem_of_getElem? hc
        have egg : (gls R p).getD n 0 = gg := by rw [List.getD_eq_getElem?_getD, hgg]; rfl
        have hn : n < S.length := (List.getElem?_eq_some_iff.mp hc).1
        have esn : S.getD n 0 = c := by rw [List.getD_eq_getElem?_getD, hc]; rfl
        have jn : n ∈ heardAs S hg [] ↔ [] ∈ hg c := by
          show n ∈ (List.range S.length).filter _ ↔ _
          rw [List.mem_filter, List.mem_range, decide_eq_true_eq, esn]
          exact ⟨fun z => z.2, fun z => ⟨hn, z⟩⟩
        refine ⟨pr, _, rfl, .inl (.inl upd_same), rfl, _, _, rfl, _, _, rfl, rfl, ?_⟩
        have e6 : Same H (upd H4 pr (.tup [.str (T [c]), .int (gg : Nat)])) := same_upd2 e5 npH
        have hD6 : (upd H4 pr (.tup [.str (T [c]), .int (gg : Nat)])) D = some (.lst (iv g)) := by rw [upd_ne nD5]; exact hD5
        generalize upd H4 pr (.tup [.str (T [c]), .int (gg : Nat)]) = H6 at e6 hD6
        obtain ⟨v, hv, ha'⟩ := d3 c cS
        obtain ⟨av, tp, rfl, hq⟩ := ha'.ext e6
        have dg : DGet H6 d (.str (T [c])) (some (.ref av)) := by
          have := DGet.k (k := .inr (T [c])) (e6 _ _ d1)
          rw [hv] at this
          exact this
        have gl := mg'.len
        refine ⟨fun b H' => b = (decide ([] ∈ hg c) && !decide (gg ∈ g)) ∧ H' = H6, ?_, fun b H' z => ?_⟩
        · dsimp only [uAnd, uT, tOp]
          refine ⟨d, _, rfl, dg, inTx_of hq ?_⟩
          by_cases z : [] ∈ hg c
          · rw [decide_eq_true z]
            refine .yes ⟨D, iv g, rfl, .inl (.inl (.inl hD6)), rfl, flat_iv g, ?_⟩
            show asB _ (.bl (!inV (.int gg) (iv g))) H6
            rw [in_iv]
            exact ⟨rfl, rfl⟩
          · rw [decide_eq_false z]
            exact .no ⟨rfl, rfl⟩
        · obtain ⟨rfl, rfl⟩ := z
          by_cases z : ([] : List Nat) ∈ hg c
          · by_cases z2 : gg ∈ g
            · rw [decide_eq_true z2, Bool.not_true, Bool.and_false]
              refine .no ⟨g, _, _, mg', gp, fun j hj' lj => ?_, e6, hD6, rfl⟩
              by_cases ej : j = n
              · rw [ej, egg]; exact z2
              · exact gd j hj' (by omega)
            · rw [decide_eq_true z, decide_eq_false z2]
              refine .yes ?_
              have z2' : (gls R p).getD n 0 ∉ g := by rw [egg]; exact z2
              have ma := mg'.add ok hj (List.mem_of_getElem? gp) (jn.mpr z) z2'
              rw [egg] at ma
              refine ⟨.inl ⟨rfl, _, .inl (.inl hD6)⟩, D, _, _, rfl, rfl, hD6, by rw [List.length_map]; omega, ?_⟩
              refine ⟨g ++ [gg], _, _, ma, by rw [List.getElem?_append_left (List.getElem?_eq_some_iff.mp gp).1]; exact gp, fun j hj' lj => ?_, same_upd2 e6 nDH, ?_, rfl⟩
              · by_cases ej : j = n
                · rw [ej, egg]; simp
                · exact List.mem_append_left _ (gd j hj' (by omega))
              · rw [upd_same, iv_app]; rfl
          · rw [decide_eq_false z, Bool.false_and]
            refine .no ⟨g, _, _, mg', gp, fun j hj' lj => ?_, e6, hD6, rfl⟩
            by_cases ej : j = n
            · exact absurd (jn.mp (ej ▸ hj')) z
            · exact gd j hj' (by omega)
      · obtain ⟨g, y6, y7, mg', gp, gd, e5, hD5, rfl⟩ := h
        refine ⟨_, rfl, ?_⟩
        refine ⟨R.length - (i + 1), by omega, i + 1, g, _, _, rfl, mg'.on gp fun j h => gd j h (hj j h), e5, hD5, rfl⟩
    · rw [if_neg (by rw [ll, decide_eq_true_eq]; omega)]
      refine ⟨D, f.map fun (g : Nat) => (g : Int), rfl, .inl (.inl (by rw [iv_int]; exact hD)), fun ms E2 pm rise nE => ?_⟩
      obtain ⟨l, rfl, pl⟩ := perm_mapI pm f rfl
      rw [iv_int]
      have rise' : l.Pairwise (· ≤ ·) := by
        rw [List.pairwise_map] at rise
        exact rise.imp fun h => by omega
      have el := m.fin ok hj lt (by omega) pl rise'
      subst el
      refine .inl ⟨E2, _, rfl, .inl (.inl upd_same), fun t nt => ?_⟩
      exact q _ t (same_upd2 (same_upd2 e2 (Same.free e2 nE)) (Same.free (same_upd2 e2 (Same.free e2 nE)) nt)) upd_same

end
end LK

/-! _law_behind -/
namespace LK
open PySem PySem.Spec PyProof.Rows L2 LamX
open scoped List
theorem pi_zipSLK {X : Cx} {K : PySem.W.Frag} {e e2 : Expr} {ta : TA} {p pos tpos : Pos} {elts : List Expr} {kk : Nat} (hK : X.K = K) (hg : Gl X "zip") (hm : X.mg "zip" = none) (ha : PA X [e, e2] ta)
    (hs : starEach [e, e2] X.env = (false, eval e X.env) :: starEach [e2] X.env := by rfl) (hpl : (backTo pos (starEach [e2] X.env)).any (·.1) = false := by rfl) :
    PI X (.Tuple elts kk tpos) (.Call (.Name "zip" p) [e, e2] [] pos) (iZipSL K ta) := hK ▸ pi_zipSL hg hm ha hs hpl
/-- a comprehension over zip of a text and a list, with a condition -/
theorem lc_zSLF {K : PySem.W.Frag} {ta : TA} {g : TG} {tt : TT} {te : TE} {vs : List Nat} {σ : L2.St} {H H1 : Hp} {Q : VK} {b : Addr} {l : List Nat} {ys : List V} (h : ∀ R : List V → Hp → Prop, R [.str (T l), .ref b] H1 → ta σ H R) (ha : ∀ c ∈ l, c < 128) (hl : l.length = ys.length)
    (hy : SqL K H1 b ys) (R : Addr → Nat → List V → Hp → Prop) (hP : ∀ D i acc H, R D i acc H → SqL K H b ys) (h0 : ∀ D, H1 D = none → R D 0 [] (upd H1 D (.lst [])))
    (hs : ∀ D, H1 D = none → ∀ (i c : Nat) (y : V) (p : Addr) acc H, l[i]? = some c → ys[i]? = some y → R D i acc H → H p = none → g (.ref p) (wipe σ vs) (upd H p (.tup [.str (T [c]), y])) fun σ2 H2 => wipe σ2 vs = wipe σ vs ∧ tt σ2 H2 fun b H3 => if b = true then te σ2 H3 fun y H4 =>
      ∃ acc, H4 D = some (.lst acc) ∧ acc.length < sizeLine ∧ ∃ a, R D (i + 1) a (upd H4 D (.lst (acc ++ [y]))) else ∃ a, R D (i + 1) a H3)
    (he : ∀ D, H1 D = none → ∀ acc H, R D l.length acc H → Q (.ref D) H) : tLc (iZipSL K ta) g tt te vs σ H Q := by
  refine h _ ⟨ha, ⟨ys, hy⟩, fun D nD => ?_⟩
  refine ⟨fun i m H => m = l.length - i ∧ i ≤ l.length ∧ ∃ acc, R D i acc H, ⟨l.length, rfl, Nat.zero_le _, [], h0 D nD⟩, ?_⟩
  rintro i m H ⟨rfl, hi, acc, iv⟩
  have qy := hP D i acc H iv
  by_cases lt : i < l.length
  · have hx : l[i]? = some l[i] := List.getElem?_eq_getElem lt
    have hyi : ys[i]? = some (ys[i]'(by omega)) := List.getElem?_eq_getElem (by omega)
    refine .inr ⟨⟨lt, ys, _, qy, hyi⟩, fun H' => ∃ acc, R D (i + 1) acc H', fun H' z => ⟨l.length - (i + 1), by omega, rfl, lt, z⟩, ?_⟩
    rintro v H' ⟨p, c, y, rfl, hp, rfl, hc, hyy⟩
    have e1 : c = l[i] := by
      have : (T l).cps[i]? = some l[i] := by rw [← Array.getElem?_toList]; exact hx
      rw [hc] at this; exact Option.some.inj this
    have e2 := hyy ys qy
    subst e1
    exact hs D nD i _ y p acc H hx e2 iv hp
  · have e : i = l.length := by omega
    subst e
    exact .inl ⟨⟨rfl, ys, qy, hl⟩, he D nD acc H iv⟩

section
variable {P : Program} {w : World} {K : PySem.W.Frag} {mg : Str → Option Value} {base : Heap}
abbrev nBh : List Str := ["_law_signs", "_law_rows_here", "_law_road", "_law_some", "_law_heard_as", "_law_found", "_law_spot", "_law_sign", "_law_goal"]
theorem scBh : FnScope nBh ["_law_signs", "_law_rows_here", "_law_road", "_law_some", "_law_heard_as"] (defScope sLBehind) := ⟨rfl, rfl, rfl, by decide +kernel, rfl, by decide +kernel, by decide +kernel⟩
/-- where a set of places leads by one more heard letter, letters behind it missed -/
def spBh (K : PySem.W.Frag) : Sp := fun vs H Q _ => ∃ (r d a m : Nat) (S h : List Nat) (R : Rows) (hg : Nat → List (List Nat)), vs = [.str (T S), .ref r, .ref d, .ref a, .str (T h)] ∧ RowsL H r R ∧ RowsOk R S.length ∧ (∀ c ∈ S, c < 128) ∧ S.length ≤ 100 ∧ R.length * S.length ≤ 60 ∧ R.length ≤ 1000 ∧ LineAt K H d S hg ∧
  H a = some (.tup (iv (bits R.length m))) ∧ Low R.length m ∧ ∀ H' t, Same H H' → H' t = some (.tup (iv (bits R.length (stayM R (ledS R m (heardAs S hg h)) (heardAs S hg []))))) → Q (.ref t) H'
theorem ok_bh {f : Addr} {fd : FuncData} {k : Nat} (F : Fun K "_law_behind" "_law_behind" sLBehind f fd) (M : Mx mg) (HMs : Has P w K mg base k "_law_missed" ["_law_signs", "_law_rows_here", "_law_road", "_law_some"] (spMs K)) :
    FnG P w K mg base CX0 (k + 1) f fd ["_law_signs", "_law_rows_here", "_law_road", "_law_some", "_law_heard_as"] (spBh K) := by
  refine okG F scBh (fun vs H Q E h => ?_) (fun cdv A hA outer s H vs Q E hr h => ?_)
  · obtain ⟨r, d, a, m, S, h, R, hg, rfl, _⟩ := h; rfl
  · obtain ⟨r, d, a, m, S, h, R, hg, rfl, hR, ok, asc, sl1, rs60, rl, hd, ha, low, q⟩ := h
    have nd := scBh.nd
    have sl := sizeLine_eq
    refine ⟨_, (pss_cons (ps_set (i := 5) nd rfl (.inl rfl) (pe_lst pa_nil))
      (pss_cons (ps_for PassesOwn.never rfl (pi_sqK (K := K) rfl (uv 3)) (pg_name (i := 6) nd rfl (.inl rfl))
        (pss_one (ps_expr (pe_bm PySem.F.plainAttrs_list PySem.F.slot_list_extend PySem.F.type_list_extend mt_extend (uv 5) (pa_cons (pe_lc (own := [("_law_sign", 7), ("_law_goal", 8)]) (g := gTup K 2 (gCons (gName 7) (gCons (gName 8) gNil))) rfl nd (pi_zipSLK (K := K) rfl (by rfl) M.zip (pa_cons (uv 0) (pa_cons (pe_ixK (K := K) rfl (uv 1) (uv 6)) pa_nil))) (blkOk_by (N := nBh) (sc := defScope sLBehind) (by decide +kernel))
          (fun _ _ _ _ _ => (pg_tup rfl (pgs_cons (pg_name (i := 7) nd rfl (Or.inl rfl)) (pgs_cons (pg_name (i := 8) nd rfl (Or.inl rfl)) pgs_nil)))) (fun _ _ _ _ _ => pts_one (pt_cu (r := inTx K) (o_inTx (Room.u65 hr)) (uv 4) (pe_dget (Room.u1 hr) (uv 2) (uv 7) (fun _ _ => rfl))))
          (fun _ _ _ _ _ => (uv 8))) pa_nil)))))
      (pss_one (ps_ret (pe_callH HMs hA hr (by rfl) (pa_cons (uv 0) (pa_cons (uv 1) (pa_cons (uv 2) (pa_cons (uv 5) pa_nil))))))))), ?_⟩
    obtain ⟨rs, h1, h2, h3⟩ := id hR
    have hd0 := hd
    obtain ⟨kvs, d1, d2, d3⟩ := hd
    have hmd : mask (bits R.length m) = m := mask_bits low
    refine ⟨by show 0 ≤ sizeLine; omega, fun F nF => ?_⟩
    have eF : Same H (upd H F (.lst [])) := same_upd nF
    have hF : (upd H F (.lst [])) F = some (.lst (iv [])) := upd_same
    dsimp only [tSeq, tAsg, gName]
    generalize upd H F (.lst []) = H0 at eF hF
    refine for_sq (K := K) (tp := true) (a := a) (xs := iv (bits R.length m)) (H1 := H0) (by exact fun _ h => h) (.inl (.inl (eF _ _ ha)))
      (fun pre σ Hx => ∃ (ps fl : List Nat) (y6 y7 y8 : Option V), pre = iv ps ∧ (∀ x, x ∈ fl ↔ ∃ p ∈ ps, ∃ j ∈ heardAs S hg h, (gls R p).getD j 0 = x) ∧ fl.length ≤ ps.length * S.length ∧ Same H Hx ∧ Hx F = some (.lst (iv fl)) ∧
        σ = [some (.str (T S)), some (.ref r), some (.ref d), some (.ref a), some (.str (T h)), some (.ref F), y6, none, none])
      (fun pre σ Hx iv => ?_) ⟨[], [], none, none, none, rfl, fun x => ?_, Nat.zero_le _, eF, hF, rfl⟩ (fun pre x suf σ Hx e iv => ?_) (fun σ Hx iv => ?_)
    · obtain ⟨_, _, _, _, _, _, _, _, ex, _⟩ := iv
      exact .inl (.inl (ex _ _ ha))
    · exact ⟨fun z => (List.not_mem_nil z).elim, fun ⟨p, z, _⟩ => (List.not_mem_nil z).elim⟩
    · obtain ⟨ps, fl, y6, y7, y8, rfl, mem, lf, ex, hFx, rfl⟩ := iv
      have hx : (iv (bits R.length m))[ps.length]? = some x := by rw [e, List.getElem?_append_right (by rw [List.length_map]; exact Nat.le_refl _), List.length_map, Nat.sub_self]; rfl
      rw [List.getElem?_map] at hx
      obtain ⟨p, hp, rfl⟩ := Option.map_eq_some_iff.mp hx
      have hpm := List.mem_of_getElem? hp
      have plt : p < R.length := List.mem_range.mp (List.mem_filter.mp hpm).1
      obtain ⟨qa, hqa⟩ : ∃ q, rs[p]? = some q := ⟨_, List.getElem?_eq_getElem (by omega)⟩
      have hrow := h3 _ _ hqa
      have lg := gls_len ok plt
      have lps : ps.length < R.length := by
        have := (List.getElem?_eq_some_iff.mp hp).1
        have lb := len_le_of_lt (l := bits R.length m) ((bits_asc R.length m).imp fun h => by omega) fun x hx => (List.mem_range.mp (List.mem_filter.mp hx).1)
        omega
      have lfl : fl.length + S.length ≤ 60 := by
        have h1 := Nat.mul_le_mul_right S.length (show ps.length + 1 ≤ R.length by omega)
        rw [Nat.add_mul, Nat.one_mul] at h1
        omega
      refine ⟨.inl ⟨rfl, _, .inl (.inl hFx)⟩, ?_⟩
      dsimp only [tCons]
      have sel : ∀ i, i ≤ S.length → (iv (((List.range i).filter fun j => decide (h ∈ hg (S.getD j 0))).map fun j => (gls R p).getD j 0)).length ≤ S.length := fun i hi => by
        have := List.length_filter_le (fun j => decide (h ∈ hg (S.getD j 0))) (List.range i)
        rw [List.length_map, List.length_map]
        rw [List.length_range] at this
        omega
      refine lc_zSLF (K := K) (l := S) (b := qa) (ys := iv (gls R p)) (H1 := Hx) (fun R' hR' => ⟨rs.map V.ref, .ref qa, .inl (.inl (.inl (ex _ _ h1))), atI_nat (by rw [List.getElem?_map, hqa]; rfl), hR'⟩) asc (by rw [List.length_map, lg]) (.inl (.inl (ex _ _ hrow)))
        (fun D i acc H2 => Same Hx H2 ∧ H2 D = some (.lst acc) ∧ acc = iv (((List.range i).filter fun j => decide (h ∈ hg (S.getD j 0))).map fun j => (gls R p).getD j 0))
        (fun D i acc H2 r => .inl (.inl (r.1 _ _ (ex _ _ hrow)))) (fun D nD => ⟨same_upd nD, upd_same, rfl⟩) (fun D nD i c y pr acc H2 hc hy r npr => ?_) (fun D nD acc H2 r => ?_)
      · obtain ⟨e1, hD, rfl⟩ := r
        rw [List.getElem?_map] at hy
        obtain ⟨gg, hgg, rfl⟩ := Option.map_eq_some_iff.mp hy
        have egg : (gls R p).getD i 0 = gg := by rw [List.getD_eq_getElem?_getD, hgg]; rfl
        have hcm : c ∈ S := List.mem_of_getElem? hc
        have hgd : S.getD i 0 = c := by rw [List.getD_eq_getElem?_getD, hc]; rfl
        have hil : i < S.length := (List.getElem?_eq_some_iff.mp hc).1
        obtain ⟨v, hv, ha'⟩ := d3 c hcm
        have np' : pr ≠ D := fun z => by rw [z, hD] at npr; cases npr
        have e2 := e1.trans (same_upd (o := .tup [.str (T [c]), .int (gg : Nat)]) npr)
        refine ⟨pr, _, rfl, .inl (.inl upd_same), rfl, _, _, rfl, _, _, rfl, rfl, ?_⟩
        refine ⟨rfl, ?_⟩
        have g : DGet (upd H2 pr (.tup [.str (T [c]), .int (gg : Nat)])) d (.str (T [c])) (some v) := by
          have := DGet.k (k := .inr (T [c])) (e2 _ _ (ex _ _ d1))
          rw [hv] at this
          exact this
        refine ⟨d, v, rfl, g, ?_⟩
        obtain ⟨av, tp, rfl, hq⟩ := ha'.ext (ex.trans e2)
        refine inTx_of hq ?_
        have rs9 : (List.range (i + 1)).filter (fun j => decide (h ∈ hg (S.getD j 0))) = (List.range i).filter (fun j => decide (h ∈ hg (S.getD j 0))) ++ if h ∈ hg c then [i] else [] := by
          rw [List.range_succ, List.filter_append]
          congr 1
          by_cases hh : h ∈ hg c
          · rw [if_pos hh, List.filter_cons_of_pos (by rw [hgd]; exact decide_eq_true hh)]; rfl
          · rw [if_neg hh, List.filter_cons_of_neg (by rw [hgd]; simpa using hh)]; rfl
        have sl9 := sel i (by omega)
        by_cases hh : h ∈ hg c
        · rw [decide_eq_true hh]
          dsimp only [asB]
          rw [if_pos rfl]
          have hD2 := same_upd (o := .tup [.str (T [c]), .int (gg : Nat)]) npr _ _ hD
          refine ⟨_, hD2, by omega, _, ?_, upd_same, ?_⟩
          · exact fun b o hb => by
              have : b ≠ D := fun z => by rw [z, nD] at hb; cases hb
              rw [upd_ne this]; exact e2 _ _ hb
          · rw [rs9, if_pos hh, List.map_append, iv_app]
            show _ = _ ++ iv [(gls R p).getD i 0]
            rw [egg]
            rfl
        · rw [decide_eq_false hh]
          dsimp only [asB]
          rw [if_neg (by decide)]
          refine ⟨_, e2, same_upd npr _ _ hD, ?_⟩
          rw [rs9, if_neg hh, List.append_nil]
      · obtain ⟨e1, hD, rfl⟩ := r
        have sl9 := sel S.length (Nat.le_refl _)
        refine ⟨F, D, _, _, rfl, rfl, e1 _ _ hFx, hD, ?_, ?_⟩
        · rw [List.length_map]; omega
        refine ⟨ps ++ [p], fl ++ (heardAs S hg h).map fun j => (gls R p).getD j 0, _, none, none, by rw [iv_app]; rfl, fun x => ?_, ?_, ?_, ?_, rfl⟩
        · rw [List.mem_append, mem, List.mem_map]
          constructor
          · rintro (⟨p', h1, h2⟩ | ⟨j, hj, rfl⟩)
            · exact ⟨p', List.mem_append_left _ h1, h2⟩
            · exact ⟨p, by simp, j, hj, rfl⟩
          · rintro ⟨p', h1, j, hj, rfl⟩
            rcases List.mem_append.mp h1 with h1 | h1
            · exact .inl ⟨p', h1, j, hj, rfl⟩
            · rw [List.mem_singleton.mp h1]; exact .inr ⟨j, hj, rfl⟩
        · rw [List.length_append, List.length_append, List.length_singleton, Nat.add_mul, Nat.one_mul]
          rw [List.length_map] at sl9
          have : ((heardAs S hg h).map fun j => (gls R p).getD j 0).length ≤ S.length := sl9
          omega
        · exact same_upd2 (ex.trans e1) nF
        · rw [upd_same, iv_app]; rfl
    · obtain ⟨ps, fl, y6, y7, y8, ep, mem, lf, ex, hFx, rfl⟩ := iv
      have ep := (iv_inj ep).symm
      subst ep
      have lb := len_le_of_lt (l := bits R.length m) ((bits_asc R.length m).imp fun h => by omega) fun x hx => (List.mem_range.mp (List.mem_filter.mp hx).1)
      have lf2 : fl.length ≤ 60 := by
        have := Nat.mul_le_mul_right S.length lb
        omega
      have blt : ∀ p ∈ bits R.length m, p < R.length := fun p hp => List.mem_range.mp (List.mem_filter.mp hp).1
      have em : mask fl = ledS R m (heardAs S hg h) := by
        have := mask_led (R := R) (some := bits R.length m) (ps := fl) (hs := heardAs S hg h) blt mem
        rw [hmd] at this
        exact this
      refine ⟨r, d, F, S, fl, R, hg, rfl, ⟨rs, ex _ _ h1, h2, fun i p hp => ex _ _ (h3 i p hp)⟩, ok, asc, sl1, rl, ?_, .inl (.inl hFx), lf2, fun x hx => ?_, fun H' t e' ht => ?_⟩
      · exact hd0.ext ex
      · obtain ⟨p, hp, j, hj, rfl⟩ := (mem x).mp hx
        exact gls_lt ok (p := p) (getD_mem (by rw [gls_len ok (blt p hp)]; exact heardAs_lt hj))
      · rw [em] at ht
        exact q H' t (ex.trans e') ht

end
end LK

/-! classes, numbered as their first places are met: the machine of classes is numbered as come to -/
namespace LK
open PySem PySem.Spec PyProof.Rows L2
open scoped List
section
variable {m : Nat} {R : Rows} {K : List Bool} {c : List Nat}
theorem nxt_getElem {p : Nat} (h : p < R.length) : (nxt R c)[p]? = some ((ddS (sgs R c)).idxOf (sg R c p)) := by rw [nxt, List.getElem?_map, sgs_at h]; rfl
/-- numbered by their first places -/
theorem dd_idx (l : List Sg) : ∀ i, i ≤ l.length → adds [] ((l.take i).map fun s => (ddS l).idxOf s) = List.range (ddS (l.take i)).length
  | 0, _ => rfl
  | i + 1, h => by
    have ih := dd_idx l i (by omega)
    obtain ⟨s, hs⟩ : ∃ s, l[i]? = some s := ⟨_, List.getElem?_eq_getElem (by omega)⟩
    have et : l.take (i + 1) = l.take i ++ [s] := by rw [List.take_add_one, hs]; rfl
    have ed := ddS_app (l.take i) s
    have pre : ∀ j, ddS (l.take j) <+: ddS l := fun j => by
      have : l.foldl addS [] = (l.drop j).foldl addS ((l.take j).foldl addS []) := by rw [← List.foldl_append, List.take_append_drop]
      have fp : ∀ (g f : List Sg), f <+: g.foldl addS f := fun g => by
        induction g with
        | nil => exact fun f => List.prefix_refl f
        | cons x g ih2 => exact fun f => List.IsPrefix.trans (by unfold addS; split; exact List.prefix_refl f; exact List.prefix_append f [x]) (ih2 (addS f x))
      unfold ddS
      rw [this]
      exact fp _ _
    rw [et, List.map_append, List.map_singleton, adds_app, ih, ed]
    have idx : ∀ {f : List Sg}, f <+: ddS l → s ∈ f → (ddS l).idxOf s = f.idxOf s := fun {f} ⟨t, e⟩ hm => by rw [← e, List.idxOf_append, if_pos hm]
    unfold addS
    by_cases hm : s ∈ ddS (l.take i)
    · rw [if_pos hm, idx (pre i) hm]
      exact if_pos (List.mem_range.mpr (List.idxOf_lt_length_iff.mpr hm))
    · rw [if_neg hm]
      have p1 := pre (i + 1)
      rw [et, ed] at p1
      unfold addS at p1
      rw [if_neg hm] at p1
      have : (ddS l).idxOf s = (ddS (l.take i)).length := by
        rw [idx p1 (by simp), List.idxOf_append, if_neg hm, List.idxOf_cons_self]; omega
      rw [this, List.length_append, List.length_singleton, List.range_succ]
      exact if_neg (fun z => Nat.lt_irrefl _ (List.mem_range.mp z))
theorem adds_nxt : adds [] (nxt R c) = List.range (cnt (nxt R c)) := by
  have h := dd_idx (sgs R c) (sgs R c).length (Nat.le_refl _)
  rw [List.take_length] at h
  have h : adds [] (nxt R c) = List.range (ddS (sgs R c)).length := h
  have e : cnt (nxt R c) = (ddS (sgs R c)).length := by unfold cnt; rw [h, List.length_range]
  rw [h, e]
/-- the classes of some places, each once -/
def DD (c l : List Nat) : List Nat := adds [] (l.map fun p => c.getD p 0)
theorem DD_app {l : List Nat} {p : Nat} : DD c (l ++ [p]) = add1 (DD c l) (c.getD p 0) := by unfold DD; rw [List.map_append]; exact adds_app
theorem DD_mem {l : List Nat} {p : Nat} (h : p ∈ l) : c.getD p 0 ∈ DD c l := adds_nil_mem.mpr (List.mem_map.mpr ⟨p, h, rfl⟩)
theorem DD_adds : ∀ {gs l : List Nat}, DD c (adds l gs) = adds (DD c l) (gs.map fun p => c.getD p 0)
  | [], l => rfl
  | g :: gs, l => by
    show DD c (adds (add1 l g) gs) = adds (add1 (DD c l) (c.getD g 0)) (gs.map _)
    rw [DD_adds]
    congr 1
    unfold add1
    by_cases h : g ∈ l
    · rw [if_pos h, if_pos (DD_mem h)]
    · rw [if_neg h]; exact DD_app
theorem DD_pre {a b : List Nat} (h : a <+: b) : DD c a <+: DD c b := by
  obtain ⟨t, rfl⟩ := h
  unfold DD
  rw [List.map_append]
  unfold adds
  rw [List.foldl_append]
  exact adds_pre
theorem adds_in : ∀ {gs f : List Nat}, (∀ g ∈ gs, g ∈ f) → adds f gs = f
  | [], _, _ => rfl
  | g :: gs, f, h => by
    show adds (add1 f g) gs = f
    have : add1 f g = f := if_pos (h g (by simp))
    rw [this]
    exact adds_in fun x hx => h x (by simp [hx])
theorem getD_at {l : List Nat} {i : Nat} (h : i < l.length) : l.getD i 0 = l[i] := by rw [List.getD_eq_getElem?_getD, List.getElem?_eq_getElem h]; rfl
/-- what was gone through has its goals -/
theorem fnd_on {s : Nat} {j t x : Nat} (h : (fnd R s j)[t]? = some x) (lt : t < j) : ∀ g ∈ gls R x, g ∈ fnd R s j := by
  have ht : (fnd R s t)[t]? = some x := by
    by_cases z : (fnd R s t).length ≤ t
    · rw [fnd_stop z j (by omega)] at h; exact h
    · obtain ⟨u, hu⟩ := fnd_pre (R := R) (s := s) (i := t) (j := j) (by omega)
      rw [← hu, List.getElem?_append_left (by omega)] at h
      exact h
  have st := fnd_step ht
  intro g hg
  have : g ∈ fnd R s (t + 1) := by rw [st]; exact mem_adds.mpr (.inr hg)
  exact (fnd_pre (R := R) (s := s) (i := t + 1) (j := j) (by omega)).subset this
variable {k : Nat}
theorem quot (ok : RowsOk R m) (n : Num R c k) (cl : ClsN m R K c) (h0 : 0 < R.length) (c0 : c.getD 0 0 = 0) : ∀ i, i ≤ (fnd R 0 i).length → fnd (qrows R c k) 0 (DD c ((fnd R 0 i).take i)).length = DD c (fnd R 0 i)
  | 0, _ => by
    show [0] = DD c [0]
    show [0] = [c.getD 0 0]
    rw [c0]
  | i + 1, hi => by
    by_cases z : (fnd R 0 i).length ≤ i
    · have := fnd_stop z (i + 1) (by omega)
      rw [this] at hi; omega
    have lt : i < (fnd R 0 i).length := by omega
    have ih := quot ok n cl h0 c0 i (by omega)
    obtain ⟨p, hp⟩ : ∃ p, (fnd R 0 i)[i]? = some p := ⟨_, List.getElem?_eq_getElem lt⟩
    have plt : p < R.length := fnd_lt ok h0 i p (List.mem_of_getElem? hp)
    have st := fnd_step hp
    have pre : fnd R 0 i <+: fnd R 0 (i + 1) := fnd_pre (by omega)
    have tk : (fnd R 0 (i + 1)).take (i + 1) = (fnd R 0 i).take i ++ [p] := by
      obtain ⟨t, et⟩ := pre
      rw [← et, List.take_append_of_le_length (by omega), List.take_add_one, hp]; rfl
    have vlt := n.lt p plt
    obtain ⟨a1, a2⟩ := n.idx vlt
    have qg : gls (qrows R c k) (c.getD p 0) = (gls R p).map fun g => c.getD g 0 := by
      rw [qrows_at vlt]
      have al := (cl.iff _ _ a1 plt).mp a2
      refine List.ext_getElem (by rw [List.length_map, List.length_map, gls_len ok a1, gls_len ok plt]) fun i h1 h2 => ?_
      rw [List.length_map] at h1 h2
      rw [List.getElem_map, List.getElem_map]
      have im : i < m := by rwa [gls_len ok a1] at h1
      have a := al.go (is := [i]) (.one im)
      rw [go_one, go_one, getD_at h1, getD_at h2] at a
      exact (cl.iff _ _ (gls_lt ok (List.getElem_mem h1)) (gls_lt ok (List.getElem_mem h2))).mpr a
    have ea : DD c (fnd R 0 (i + 1)) = adds (DD c (fnd R 0 i)) (gls (qrows R c k) (c.getD p 0)) := by rw [st, DD_adds, qg]
    have pp : DD c ((fnd R 0 i).take i ++ [p]) <+: DD c (fnd R 0 i) := by
      have e : (fnd R 0 i).take i ++ [p] = (fnd R 0 i).take (i + 1) := by rw [List.take_add_one, hp]; rfl
      rw [e]
      exact DD_pre (List.take_prefix _ _)
    rw [tk, DD_app]
    rw [DD_app] at pp
    have p0 : DD c ((fnd R 0 i).take i) <+: DD c (fnd R 0 i) := DD_pre (List.take_prefix _ _)
    by_cases hm : c.getD p 0 ∈ DD c ((fnd R 0 i).take i)
    · have e1 : add1 (DD c ((fnd R 0 i).take i)) (c.getD p 0) = DD c ((fnd R 0 i).take i) := if_pos hm
      rw [e1, ih, ea]
      symm
      refine adds_in fun g hg => ?_
      obtain ⟨t, ht⟩ := List.mem_iff_getElem?.mp hm
      have tl := (List.getElem?_eq_some_iff.mp ht).1
      have ht2 : (fnd (qrows R c k) 0 (DD c ((fnd R 0 i).take i)).length)[t]? = some (c.getD p 0) := by
        rw [ih]
        obtain ⟨u, eu⟩ := p0
        rw [← eu, List.getElem?_append_left tl]; exact ht
      have := fnd_on ht2 tl g hg
      rw [ih] at this
      exact this
    · have e1 : add1 (DD c ((fnd R 0 i).take i)) (c.getD p 0) = DD c ((fnd R 0 i).take i) ++ [c.getD p 0] := if_neg hm
      rw [e1] at pp
      rw [e1, List.length_append, List.length_singleton, ea, ← ih]
      refine fnd_step ?_
      rw [ih]
      obtain ⟨u, eu⟩ := pp
      rw [← eu, List.append_assoc, List.getElem?_append_right (Nat.le_refl _), Nat.sub_self]; rfl
theorem met_q (ok : RowsOk R m) (n : Num R c k) (cl : ClsN m R K c) (h0 : 0 < R.length) (can : met R 0 = List.range R.length) (fc : adds [] c = List.range k) : met (qrows R c k) 0 = List.range k := by
  have ec : c = (List.range R.length).map fun p => c.getD p 0 := by
    refine List.ext_getElem (by rw [List.length_map, List.length_range, n.len]) fun i h1 h2 => ?_
    rw [List.getElem_map, List.getElem_range, List.getD_eq_getElem?_getD, List.getElem?_eq_getElem h1]; rfl
  have hk : 0 < k := Nat.lt_of_le_of_lt (Nat.zero_le _) (n.lt 0 h0)
  have c0 : c.getD 0 0 = 0 := by
    have hl : 0 < c.length := by rw [n.len]; exact h0
    cases hc : c with
    | nil => rw [hc] at hl; cases hl
    | cons x t =>
      rw [hc] at fc
      have p : [x] <+: adds [] (x :: t) := by
        show [x] <+: adds (add1 [] x) t
        have : add1 [] x = [x] := if_neg (by simp)
        rw [this]; exact adds_pre
      obtain ⟨u, eu⟩ := p
      rw [fc] at eu
      have : (List.range k)[0]? = some x := by rw [← eu]; rfl
      rw [List.getElem?_range hk] at this
      exact (Option.some.inj this).symm
  have q := quot ok n cl h0 c0 R.length (by show R.length ≤ (met R 0).length; rw [can, List.length_range]; exact Nat.le_refl _)
  have ef : fnd R 0 R.length = List.range R.length := can
  have et : (List.range R.length).take R.length = List.range R.length := List.take_of_length_le (by rw [List.length_range]; exact Nat.le_refl _)
  have ed : DD c (List.range R.length) = List.range k := by unfold DD; rw [← ec]; exact fc
  rw [ef, et, ed, List.length_range] at q
  have qok := qrows_ok ok n
  have hq : 0 < (qrows R c k).length := by rw [qrows_len]; exact hk
  have := fnd_met (i := k) qok hq (by rw [q, List.length_range]; exact Nat.le_refl _)
  rw [← this, q]
theorem rn_range (ok : RowsOk R m) : rn R (List.range R.length) = R := by
  refine List.ext_getElem (by rw [rn_len, List.length_range]) fun i h1 h2 => ?_
  have e := rn_gls (R := R) (L := List.range R.length) (x := i) (p := i) (List.getElem?_range h2)
  rw [gls_at h1, gls_at h2] at e
  rw [e]
  have hi : ∀ g ∈ R[i], (List.range R.length).idxOf g = g := fun g hg => by
    have hg' : g < R.length := ok.2 _ (List.getElem_mem h2) g hg
    have := (List.nodup_range (n := R.length)).idxOf_getElem g (by rw [List.length_range]; exact hg')
    rwa [List.getElem_range] at this
  conv => rhs; rw [← List.map_id R[i]]
  exact List.map_congr_left hi
theorem kn_range {k : Nat} {K : List Bool} (h : K.length = k) : kn (List.range k) K = K := by
  refine List.ext_getElem (by rw [List.length_map, List.length_range, h]) fun i h1 h2 => ?_
  rw [List.getElem_map, List.getElem_range, List.getD_eq_getElem?_getD, List.getElem?_eq_getElem h2]; rfl
/-- the machine of classes is the least one as it stands -/
theorem least_q (ok : RowsOk R m) (n : Num R c k) (cl : ClsN m R K c) (h0 : 0 < R.length) (can : met R 0 = List.range R.length) (fc : adds [] c = List.range k) : LeastOf m R K 0 (qrows R c k) (qkinds K c k) := by
  have l := least_of_cls ok n cl h0
  have c0 : c.getD 0 0 = 0 := by
    have := met_zero (R := qrows R c k) (s := c.getD 0 0)
    have mq := met_q ok n cl h0 can fc
    have hk : 0 < k := Nat.lt_of_le_of_lt (Nat.zero_le _) (n.lt 0 h0)
    have hl : 0 < c.length := by rw [n.len]; exact h0
    cases hc : c with
    | nil => rw [hc] at hl; cases hl
    | cons x t =>
      rw [hc] at fc
      have p : [x] <+: adds [] (x :: t) := by
        show [x] <+: adds (add1 [] x) t
        have : add1 [] x = [x] := if_neg (by simp)
        rw [this]; exact adds_pre
      obtain ⟨u, eu⟩ := p
      rw [fc] at eu
      have : (List.range k)[0]? = some x := by rw [← eu]; rfl
      rw [List.getElem?_range hk] at this
      exact (Option.some.inj this).symm
  rw [c0, met_q ok n cl h0 can fc] at l
  have e1 := rn_range (qrows_ok ok n)
  rw [qrows_len] at e1
  rw [e1, kn_range (by rw [qkinds, List.length_map, fsts_len])] at l
  exact l
/-- a parting that does not part any more -/
theorem nxt_twice (ok : RowsOk R m) (h : Ref m R K c) (st : cnt (nxt R c) ≤ cnt c) : nxt R (nxt R c) = nxt R c := by
  have hn := h.nxt ok
  have fine : ∀ p q, p < R.length → q < R.length → (nxt R c).getD p 0 = (nxt R c).getD q 0 → c.getD p 0 = c.getD q 0 := fun p q hp hq e => nxt_fine hp hq e
  have back : ∀ p q, p < R.length → q < R.length → c.getD p 0 = c.getD q 0 → (nxt R c).getD p 0 = (nxt R c).getD q 0 := fun p q hp hq e => cnt_eq h.len hn.len fine st hp hq e
  have iff2 : ∀ p q, p < R.length → q < R.length → (sg R (nxt R c) p = sg R (nxt R c) q ↔ sg R c p = sg R c q) := fun p q hp hq => by
    constructor
    · intro e
      exact (nxt_iff hp hq).mp (congrArg Prod.fst e)
    · intro e
      have e1 := (nxt_iff hp hq).mpr e
      refine Prod.ext e1 ?_
      have e2 : (gls R p).map (fun g => c.getD g 0) = (gls R q).map fun g => c.getD g 0 := congrArg Prod.snd e
      show (gls R p).map _ = (gls R q).map _
      refine List.ext_getElem (by rw [List.length_map, List.length_map, gls_len ok hp, gls_len ok hq]) fun i h1 h2 => ?_
      rw [List.length_map] at h1 h2
      rw [List.getElem_map, List.getElem_map]
      refine back _ _ (gls_lt ok (List.getElem_mem h1)) (gls_lt ok (List.getElem_mem h2)) ?_
      have e3 := congrArg (fun l : List Nat => l[i]?) e2
      simp only [List.getElem?_map, List.getElem?_eq_getElem h1, List.getElem?_eq_getElem h2, Option.map_some] at e3
      exact Option.some.inj e3
  have key : ∀ i, i ≤ R.length → (ddS ((sgs R (nxt R c)).take i)).length = (ddS ((sgs R c).take i)).length ∧ ∀ p, p < i → (ddS ((sgs R (nxt R c)).take i)).idxOf (sg R (nxt R c) p) = (ddS ((sgs R c).take i)).idxOf (sg R c p) := by
    intro i
    induction i with
    | zero => exact fun _ => ⟨rfl, fun p hp => by omega⟩
    | succ i ih =>
      intro hi
      obtain ⟨ih1, ih2⟩ := ih (by omega)
      have et : ∀ c', (sgs R c').take (i + 1) = (sgs R c').take i ++ [sg R c' i] := fun c' => by rw [List.take_add_one, sgs_at (by omega)]; rfl
      have mem : ∀ c', sg R c' i ∈ ddS ((sgs R c').take i) ↔ ∃ p, p < i ∧ sg R c' p = sg R c' i := fun c' => by
        rw [ddS_mem]
        constructor
        · intro z
          obtain ⟨p, hp⟩ := List.mem_iff_getElem?.mp z
          have lp := (List.getElem?_eq_some_iff.mp hp).1
          rw [List.length_take] at lp
          have lp : p < i := by omega
          rw [List.getElem?_take_of_lt lp, sgs_at (by omega)] at hp
          exact ⟨p, lp, Option.some.inj hp⟩
        · rintro ⟨p, lp, e⟩
          rw [← e]
          refine List.mem_of_getElem? (i := p) ?_
          rw [List.getElem?_take_of_lt lp, sgs_at (by omega)]
      have mm : sg R (nxt R c) i ∈ ddS ((sgs R (nxt R c)).take i) ↔ sg R c i ∈ ddS ((sgs R c).take i) := by
        rw [mem, mem]
        exact ⟨fun ⟨p, lp, e⟩ => ⟨p, lp, (iff2 p i (by omega) (by omega)).mp e⟩, fun ⟨p, lp, e⟩ => ⟨p, lp, (iff2 p i (by omega) (by omega)).mpr e⟩⟩
      have inn : ∀ c' p, p < i → sg R c' p ∈ ddS ((sgs R c').take i) := fun c' p lp => ddS_mem.mpr (List.mem_of_getElem? (i := p) (by rw [List.getElem?_take_of_lt lp, sgs_at (by omega)]))
      rw [et, et, ddS_app, ddS_app]
      unfold addS
      by_cases z : sg R c i ∈ ddS ((sgs R c).take i)
      · rw [if_pos z, if_pos (mm.mpr z)]
        refine ⟨ih1, fun p hp => ?_⟩
        by_cases e : p = i
        · subst e
          obtain ⟨q, lq, eq⟩ := (mem c).mp z
          rw [← eq, ← (iff2 q p (by omega) (by omega)).mpr eq]
          exact ih2 q lq
        · exact ih2 p (by omega)
      · have z2 : ¬ sg R (nxt R c) i ∈ ddS ((sgs R (nxt R c)).take i) := fun y => z (mm.mp y)
        rw [if_neg z, if_neg z2]
        refine ⟨by rw [List.length_append, List.length_append, ih1]; rfl, fun p hp => ?_⟩
        by_cases e : p = i
        · subst e
          rw [List.idxOf_append, List.idxOf_append, if_neg z, if_neg z2, ih1, List.idxOf_cons_self, List.idxOf_cons_self]
        · rw [List.idxOf_append, List.idxOf_append, if_pos (inn _ p (by omega)), if_pos (inn _ p (by omega))]
          exact ih2 p (by omega)
  obtain ⟨_, k2⟩ := key R.length (Nat.le_refl _)
  have tl : ∀ c', (sgs R c').take R.length = sgs R c' := fun c' => List.take_of_length_le (by rw [sgs_len]; exact Nat.le_refl _)
  rw [tl, tl] at k2
  refine List.ext_getElem? fun p => ?_
  by_cases lp : p < R.length
  · rw [nxt_getElem lp, nxt_getElem lp, k2 p lp]
  · rw [List.getElem?_eq_none (by rw [nxt_len]; omega), List.getElem?_eq_none (by rw [nxt_len]; omega)]
end
end LK

/-! list.index, slices, methods within a comprehension -/
namespace LK
open PySem PySem.Spec PyProof.Rows L2 LamX
open scoped List
section
variable {X : Cx} {K : PySem.W.Frag} {o e : Expr} {es : List Expr} {to : TE} {t : TA} {name : Str} {apos cpos : Pos} {T id : String} {r : V → List V → Hp → VK → Prop}
theorem pe_bmK (hK : X.K = K) (pa : PlainAttrs T) (slot : Slot T name id) (hty : typeOf (.builtin id) = pure (.type "method_descriptor")) (hm : MtR X id r) (ho : PE X o to) (ha : PA X (e :: es) t)
    (hbase : attributeBase o name X.env (eval o X.env) = eval o X.env := by rfl)
    (hfew : ((backTo cpos (starEach (e :: es) X.env)).all (fun x => !x.1) && (backToKw cpos (keywordEach [] X.env)).all (fun x => x.1.isSome)
      && decide ((e :: es).length + ([] : List Keyword).length + (if ([] : List Keyword).isEmpty then 0 else 1) < 30)) = true := by rfl)
    (hline : (apos.endLine == cpos.line) = true := by rfl) (hs : starEach (e :: es) X.env = (false, eval e X.env) :: starEach es X.env := by rfl) (hplain : (backTo cpos (starEach es X.env)).any (·.1) = false := by rfl) :
    PE X (.Call (.Attribute o name apos) (e :: es) [] cpos) (tBM K T r to t) := hK ▸ pe_bm pa slot hty hm ho ha hbase hfew hline hs hplain
theorem mt_indexK (hK : X.K = K) : MtR X "list.index" (rIndex K) := hK ▸ mt_index
end
theorem eq_iv (a b : Nat) : eqV (.int (a : Int)) (.int (b : Int)) = decide (a = b) := by
  show ((a : Int) == (b : Int)) = _
  rw [Bool.eq_iff_iff, beq_iff_eq, decide_eq_true_eq]
  omega
theorem idx_le : ∀ {f : List Nat} {m y : Nat}, f[m]? = some y → f.idxOf y ≤ m
  | [], m, y, h => by simp at h
  | a :: f, 0, y, h => by
    have : a = y := by simpa using h
    subst this; simp
  | a :: f, m + 1, y, h => by
    have h : f[m]? = some y := by simpa using h
    rw [List.idxOf_cons]
    cases e : a == y with
    | true => show 0 ≤ _; omega
    | false => have := idx_le h; show f.idxOf y + 1 ≤ _; omega
/-- the place of g in a list -/
theorem idx_ok {f : List Nat} {g : Nat} (h : g ∈ f) : (iv f)[f.idxOf g]? = some (.int (g : Nat)) ∧ ∀ (m : Nat) (z : V), m < f.idxOf g → (iv f)[m]? = some z → eqV z (.int (g : Nat)) = false := by
  refine ⟨by rw [List.getElem?_map, idx_get h]; rfl, fun m z hm hz => ?_⟩
  rw [List.getElem?_map] at hz
  obtain ⟨y, hy, rfl⟩ := Option.map_eq_some_iff.mp hz
  rw [eq_iv, decide_eq_false_iff_not]
  intro e
  subst e
  have := idx_le hy
  omega
section
variable {K : PySem.W.Frag} {g : TG} {te : TE} {σ : L2.St} {H H1 : Hp} {vs : List Nat} {Q : VK}
/-- a comprehension over a range whose items are values -/
theorem lc_rngMap {t : TA} {n : Nat} {out : Nat → V} (h : ∀ R : List V → Hp → Prop, R [.int n] H1 → t σ H R) (hn : n < 1000000)
    (hs : ∀ i H', i < n → Same H1 H' → ∀ Qy : VK, (∀ H'', Same H' H'' → Qy (out i) H'') → g (.int i) (wipe σ vs) H' fun σ2 H2 => wipe σ2 vs = wipe σ vs ∧ te σ2 H2 Qy)
    (he : ∀ D H', H1 D = none → Same H1 H' → H' D = some (.lst ((List.range n).map out)) → Q (.ref D) H') : tLc (iRng1 t) g tYes te vs σ H Q := by
  have sl := sizeLine_eq
  refine lc_rng (n := n) h hn (fun D i acc H' => acc = (List.range i).map out ∧ Same H1 H' ∧ H' D = some (.lst acc)) (fun D nD => ⟨rfl, same_upd nD, upd_same⟩) (fun D nD i acc H' hi r => ?_) (fun D nD acc H' r => ?_)
  · obtain ⟨rfl, e, hD⟩ := r
    refine hs i H' hi e _ fun H'' e2 => ⟨_, e2 _ _ hD, by rw [List.length_map, List.length_range]; omega, _, ?_, same_upd2 (e.trans e2) nD, upd_same⟩
    rw [List.range_succ, List.map_append]; rfl
  · obtain ⟨rfl, e, hD⟩ := r
    exact he D H' nD e hD
end
end LK

/-! _law_fewer -/
namespace LK
open PySem PySem.Spec PyProof.Rows L2 LamX ClX
open scoped List
theorem cr_maxK {X : Cx} {K : PySem.W.Frag} (hK : X.K = K) (hc : X.calm = true) : CallR X (.builtin "max") (rMax K) := hK ▸ cr_max hc
theorem dpAll_iv {K : PySem.W.Frag} {H : Hp} : ∀ l : List Nat, DpAll K H (iv l) (l.map fun (g : Nat) => PyData.int (g : Int))
  | [] => .nil
  | g :: l => .cons (.int _) (dpAll_iv l)
theorem flat_row (l : List Nat) : Flat 1 (encR l) := flat_list fun d hd => by
  obtain ⟨g, _, rfl⟩ := List.mem_map.mp hd
  exact flat_int _
theorem ddS_pre (l : List Sg) (j : Nat) : ddS (l.take j) <+: ddS l := by
  have fp : ∀ (g f : List Sg), f <+: g.foldl addS f := fun g => by
    induction g with
    | nil => exact fun f => List.prefix_refl f
    | cons x g ih2 => exact fun f => List.IsPrefix.trans (by unfold addS; split; exact List.prefix_refl f; exact List.prefix_append f [x]) (ih2 (addS f x))
  have : ddS l = (l.drop j).foldl addS (ddS (l.take j)) := by unfold ddS; rw [← List.foldl_append, List.take_append_drop]
  rw [this]; exact fp _ _
theorem nxt_take {R : Rows} {c : List Nat} {j : Nat} (h : j < R.length) : (nxt R c).take (j + 1) = (nxt R c).take j ++ [(ddS ((sgs R c).take (j + 1))).idxOf (sg R c j)] := by
  rw [List.take_add_one, nxt_getElem h]
  obtain ⟨t, et⟩ := ddS_pre (sgs R c) (j + 1)
  have hm : sg R c j ∈ ddS ((sgs R c).take (j + 1)) := ddS_mem.mpr (List.mem_of_getElem? (i := j) (by rw [List.getElem?_take_of_lt (by omega), sgs_at h]))
  rw [← et, List.idxOf_append, if_pos hm]; rfl
theorem ne_of_none' {H : Hp} {a b : Addr} {o : HO} (n : H a = none) (h : H b = some o) : a ≠ b := fun z => by rw [z, h] at n; cases n

section
variable {P : Program} {w : World} {K : PySem.W.Frag} {mg : Str → Option Value} {base : Heap}
abbrev nFw : List Str := ["_law_rows_here", "_law_kinds_here", "_law_classes", "_law_later", "_law_known", "_law_spot", "_law_row", "_law_mark", "_law_firsts", "_law_kind", "_law_goal", "_law_first"]
theorem scFw : FnScope nFw ["_law_rows_here", "_law_kinds_here"] (defScope sFewer) := ⟨rfl, rfl, rfl, by decide +kernel, rfl, by decide +kernel, by decide +kernel⟩
/-- the least machine of rows that are numbered as come to -/
def spFw : Sp := fun vs H Q _ => ∃ (r kk : Addr) (m : Nat) (R : Rows) (Kd : List Bool), vs = [.ref r, .ref kk] ∧ RowsL H r R ∧ H kk = some (.lst (Kd.map V.bl)) ∧ RowsOk R m ∧ 0 < R.length ∧ R.length ≤ 900 ∧ Kd.length = R.length ∧ m ≤ 100 ∧ met R 0 = List.range R.length ∧
  ∀ H' t A KA, Same H H' → ModFr H H' t A KA → LeastOf m R Kd 0 A KA → Q (.ref t) H'
theorem ok_fw {f : Addr} {fd : FuncData} {k : Nat} (F : Fun K "_law_fewer" "_law_fewer" sFewer f fd) (M : Mx mg) :
    FnG P w K mg base CX0 (k + 1) f fd ["_law_rows_here", "_law_kinds_here"] spFw := by
  refine okG F scFw (fun vs H Q E h => ?_) (fun cdv A hA outer s H vs Q E hr h => ?_)
  · obtain ⟨r, kk, m, R, Kd, rfl, _⟩ := h; rfl
  · obtain ⟨r, kk, m, R, Kd, rfl, ⟨rs, h2, h3, h4⟩, hk, ok, lo, hi, lk, hm, can, q⟩ := h
    have nd := scFw.nd
    have sl := sizeLine_eq
    refine ⟨_, (pss_cons (ps_asg (pe_tup (pa_cons (pe_lst pa_nil) (pa_cons (pe_lc (own := [("_law_kind", 9)]) (g := gName 9) (tt := tYes) rfl nd (pi_listK (K := K) rfl (uv 1)) (blkOk_by (N := nFw) (sc := defScope sFewer) (by decide +kernel))
          (fun _ _ _ _ _ => pg_name (i := 9) nd rfl (Or.inl rfl)) (fun _ _ _ _ _ => pts_nil)
          (fun _ _ _ _ _ => (pe_callTy (r := intU) c_int (by rfl) M.int b_int (pa_cons (uv 9) pa_nil)))) pa_nil))) (pg_tup rfl (pgs_cons (pg_name (i := 2) nd rfl (.inr rfl)) (pgs_cons (pg_name (i := 3) nd rfl (.inl rfl)) pgs_nil))) rfl)
      (pss_cons (ps_while PassesOwn.never (pt_cl (pt_cu (r := eqU K true) (o_ne hr.units) (uv 3) (uv 2)))
        (pss_cons (ps_asg (pe_tup (pa_cons (uv 3) (pa_cons (pe_dnewNK (P := P) (w := w) rfl rfl) (pa_cons (pe_lst pa_nil) pa_nil)))) (pg_tup rfl (pgs_cons (pg_name (i := 2) nd rfl (.inr rfl)) (pgs_cons (pg_name (i := 4) nd rfl (.inl rfl)) (pgs_cons (pg_name (i := 3) nd rfl (.inl rfl)) pgs_nil)))) rfl)
      (pss_one (ps_for PassesOwn.never rfl (pi_enumB (by rfl) M.enumerate (pa_cons (uv 0) pa_nil)) (pg_tup rfl (pgs_cons (pg_name (i := 5) nd rfl (.inl rfl)) (pgs_cons (pg_name (i := 6) nd rfl (.inl rfl)) pgs_nil)))
        (pss_cons (ps_set (i := 7) nd rfl (.inl rfl) (pe_tup (pa_cons (pe_ixK (K := K) rfl (uv 2) (uv 5)) (pa_cons (pe_tupleOfK (K := K) rfl (by rfl) M.tuple (pe_lc (own := [("_law_goal", 10)]) (g := gName 10) (tt := tYes) rfl nd (pi_listK (K := K) rfl (uv 6)) (blkOk_by (N := nFw) (sc := defScope sFewer) (by decide +kernel))
          (fun _ _ _ _ _ => pg_name (i := 10) nd rfl (Or.inl rfl)) (fun _ _ _ _ _ => pts_nil)
          (fun _ _ _ _ _ => (pe_ixK (K := K) rfl (uv 2) (uv 10))))) pa_nil))))
      (pss_cons (ps_expr (pe_cl (pe_nsetdK (P := P) (w := w) rfl rfl (Room.u64 hr) (uv 4) (uv 7) (pe_callB (c_lenNK (P := P) (w := w) rfl rfl) (by rfl) M.len b_len (pa_cons (uv 4) pa_nil)) ⟨rfl, rfl, rfl, rfl⟩)))
      (pss_one (ps_expr (pe_bm PySem.F.plainAttrs_list PySem.F.slot_list_append PySem.F.type_list_append mt_append (uv 3) (pa_cons (pe_ngetK (P := P) (w := w) rfl rfl (Room.u64 hr) (uv 4) (uv 7) (fun _ _ => rfl)) pa_nil))))))))))
      (pss_cons (ps_setLc (i := 8) (own := [("_law_mark", 7)]) (g := gName 7) (by rfl) nd rfl rfl (sw_true rfl rfl rfl (by decide +kernel)) (pi_range1 (by rfl) M.range (pa_cons (pe_op o_add (pe_callB (cr_maxK (K := K) rfl rfl) (by rfl) M.max b_max (pa_cons (uv 2) pa_nil)) pe_int) pa_nil))
          (blkOk_by (N := nFw) (sc := defScope sFewer) (by decide +kernel))
          (fun _ _ _ _ _ => pg_name (i := 7) nd rfl (Or.inl rfl)) (fun _ _ _ _ _ => pts_nil)
          (fun _ _ _ _ _ => (pe_bmK (K := K) rfl PySem.F.plainAttrs_list PySem.F.slot_list_index PySem.F.type_list_index (mt_indexK (K := K) rfl) (uv 2) (pa_cons (uv 7) pa_nil))))
      (pss_one (ps_ret (pe_tup (pa_cons (pe_lc (own := [("_law_first", 11)]) (g := gName 11) (tt := tYes) rfl nd (pi_listK (K := K) rfl (uv 8)) (blkOk_by (N := nFw) (sc := defScope sFewer) (by decide +kernel))
          (fun _ _ _ _ _ => pg_name (i := 11) nd rfl (Or.inl rfl)) (fun _ _ _ _ _ => pts_nil)
          (fun _ _ _ _ _ => (pe_lc (own := [("_law_goal", 10)]) (g := gName 10) (tt := tYes) rfl nd (pi_listK (K := K) rfl (pe_ixK (K := K) rfl (uv 0) (uv 11))) (blkOk_in (N := nFw) (sc := { kind := .function, names := [(".0", .local), ("_law_first", .local), ("_law_classes", .free), ("_law_rows_here", .free)], isGenerator := false, isCoroutine := false }) (by decide +kernel))
          (fun _ _ _ _ _ => pg_name (i := 10) nd rfl (Or.inl rfl)) (fun _ _ _ _ _ => pts_nil)
          (fun _ _ _ _ _ => (pe_ixK (K := K) rfl (uv 2) (uv 10)))))) (pa_cons (pe_lc (own := [("_law_first", 11)]) (g := gName 11) (tt := tYes) rfl nd (pi_listK (K := K) rfl (uv 8)) (blkOk_by (N := nFw) (sc := defScope sFewer) (by decide +kernel))
          (fun _ _ _ _ _ => pg_name (i := 11) nd rfl (Or.inl rfl)) (fun _ _ _ _ _ => pts_nil)
          (fun _ _ _ _ _ => (pe_ixK (K := K) rfl (uv 1) (uv 11)))) pa_nil)))))))), ?_⟩
    refine ⟨by show 0 ≤ sizeLine; omega, fun L0 nL0 => ?_⟩
    have eL0 : Same H (upd H L0 (.lst [])) := same_upd nL0
    have hL0 : (upd H L0 (.lst [])) L0 = some (.lst (iv [])) := upd_same
    dsimp only [tCons]
    generalize upd H L0 (.lst []) = H0 at eL0 hL0
    refine lc_mapS (K := K) (a := kk) (ls := Kd) (enc := V.bl) (out := fun b => V.int ((if b then 1 else 0 : Nat) : Int)) (H1 := H0) (by exact fun _ h => h) (eL0 _ _ hk) (by omega) (fun H' b _ e Qy hq => ?_) (fun LA H1 nLA e1 hLA => ?_)
    · refine ⟨rfl, ?_⟩
      cases b
      · exact hq _ (Same.refl _)
      · exact hq _ (Same.refl _)
    refine ⟨by show 2 ≤ sizeLine; omega, fun T nT => ?_⟩
    have e2 : Same H (upd H1 T (.tup [.ref L0, .ref LA])) := (eL0.trans e1).trans (same_upd nT)
    have hL2 := same_upd (o := .tup [.ref L0, .ref LA]) nT _ _ (e1 _ _ hL0)
    have hA2 : (upd H1 T (.tup [.ref L0, .ref LA])) LA = some (.lst (iv (cls0 Kd))) := by
      rw [same_upd (o := .tup [.ref L0, .ref LA]) nT _ _ hLA, cls0]; unfold iv; rw [List.map_map]; rfl
    refine ⟨T, _, rfl, .inl (.inl upd_same), rfl, _, _, rfl, _, _, rfl, rfl, ?_⟩
    generalize upd H1 T (.tup [.ref L0, .ref LA]) = H2 at e2 hL2 hA2
    clear e1 hLA nT nLA eL0 hL0
    show tWhile _ _ _ _ _
    refine wh (m0 := 3 * (R.length - cnt (cls0 Kd)) + 2) (fun mm σ H2 => ∃ (CA LA : Addr) (cl c : List Nat) (fl : Nat) (y4 y5 y6 y7 y8 : Option V), mm = 3 * (R.length - cnt c) + fl ∧ Same H H2 ∧ H2 CA = some (.lst (iv cl)) ∧ H2 LA = some (.lst (iv c)) ∧ Ref m R Kd c ∧ (cl = [] ∨ c = nxt R cl) ∧ fl ≤ 2 ∧
        (fl < 2 → nxt R c = c) ∧ (fl < 1 → c = cl) ∧ σ = [some (.ref r), some (.ref kk), some (.ref CA), some (.ref LA), y4, y5, y6, y7, y8, none, none, none])
      ⟨L0, LA, [], cls0 Kd, 2, none, none, none, none, none, rfl, e2, hL2, hA2, ref0 lk, .inl rfl, Nat.le_refl _, fun z => absurd z (by omega), fun z => absurd z (by omega), rfl⟩ (fun mm σ H2 iv2 => ?_) (fun σ H Q Q' hm h => ?_)
    case refine_2 =>
      obtain ⟨Q0, h0, m0⟩ := h
      exact ⟨Q0, h0, fun v H' z => hm _ _ (m0 v H' z)⟩
    clear e2 hL2 hA2
    obtain ⟨CA, LA, cl, c, fl, y4, y5, y6, y7, y8, rfl, e2, hCA, hLA, rf, hcl, hf2, f2, f1, rfl⟩ := iv2
    have lc := rf.len
    refine ⟨fun b H' => b = (!decide (c = cl)) ∧ H' = H2, ?_, fun b H' z => ?_⟩
    · refine ⟨encR c, encR cl, .lst (.inl (.inl hLA)) (dpAll_iv c), .lst (.inl (.inl hCA)) (dpAll_iv cl), (flat_row c).shaped (by decide), (flat_row cl).shaped (by decide), ?_⟩
      show asB _ (.bl (!PyData.eqv (encR c) (encR cl))) H2
      have : PyData.eqv (encR c) (encR cl) = decide (c = cl) := by rw [Bool.eq_iff_iff, decide_eq_true_eq]; exact eqv_row
      rw [this]
      exact ⟨rfl, rfl⟩
    obtain ⟨rfl, rfl⟩ := z
    by_cases hcc : c = cl
    · rw [if_neg (by rw [decide_eq_true hcc]; decide)]
      have en : c = nxt R c := by
        rcases hcl with z | z
        · rw [z] at hcc; rw [hcc] at lc; exact absurd lc (by show ¬ 0 = _; omega)
        · rw [← hcc] at z; exact z
      have clN : ClsN m R Kd c := by
        have := cls_of ok rf (by rw [← en]; exact Nat.le_refl _)
        rwa [← en] at this
      have n := clN.nums
      have fc : adds [] c = List.range (cnt c) := by
        have := adds_nxt (R := R) (c := c)
        rwa [← en] at this
      have lo9 := least_q ok n clN lo can fc
      have kpos : 0 < cnt c := cnt_pos (by omega)
      have kle : cnt c ≤ c.length := cnt_len
      have vin : ∀ v, v < cnt c → v ∈ c := fun v hv => by
        obtain ⟨p, hp, e⟩ := n.all v hv
        exact e ▸ getD_in (by omega)
      subst hcc
      clear hLA hcl f1 f2 en
      generalize cnt c = k9 at n fc lo9 kpos kle vin
      dsimp only [tSeq, tAsg, gName]
      refine lc_rngMap (n := k9) (H1 := H') (out := fun v => V.int (c.idxOf v : Nat)) (fun R' hR' => ?_) (by omega) (fun v H3 hv e3 Qy hq => ?_) (fun FA H3 nFA e3 hFA => ?_)
      · refine ⟨CA, c.map fun (g : Nat) => (g : Int), rfl, .inl (.inl (by rw [iv_int]; exact hCA)), by rw [List.length_map]; omega, fun mx hmx hall => ?_⟩
        have e9 : mx + 1 = (k9 : Int) := by
          obtain ⟨g, hg, rfl⟩ := List.mem_map.mp hmx
          obtain ⟨p, hp, rfl⟩ := mem_getD hg
          have l1 := n.lt p (by omega)
          have l2 := hall ((k9 - 1 : Nat) : Int) (List.mem_map.mpr ⟨k9 - 1, vin _ (by omega), rfl⟩)
          omega
        show R' [V.int (mx + 1)] _
        rw [e9]; exact hR'
      · refine ⟨rfl, .inl ⟨rfl, _, .inl (.inl (e3 _ _ hCA))⟩, ?_⟩
        obtain ⟨i1, i2⟩ := idx_ok (vin v hv)
        exact ⟨_, iv c, .int v, c.idxOf v, .int v, rfl, rfl, .inl (.inl (e3 _ _ hCA)), rfl, flat_iv c, i1, by rw [eq_iv]; exact decide_eq_true rfl, i2, hq _ (Same.refl _)⟩
      · have hFA2 : H3 FA = some (.lst (iv (fsts c k9))) := by rw [hFA, fsts]; unfold iv; rw [List.map_map]; rfl
        have lf : (fsts c k9).length = k9 := fsts_len
        have flt : ∀ p ∈ fsts c k9, p < R.length := fun p hp => by
          obtain ⟨v, hv, rfl⟩ := List.mem_map.mp hp
          exact (n.idx (List.mem_range.mp hv)).1
        have e03 := e2.trans e3
        dsimp only [tRet, tTup, tCons]
        refine lc_refS (K := K) (a := FA) (ls := fsts c k9) (enc := fun (g : Nat) => V.int (g : Int)) (o := fun p => .lst (iv ((gls R p).map fun g => c.getD g 0))) (H1 := H3) (by exact fun _ h => h) hFA2 (by omega) (fun H4 p hp e4 Qy hq => ?_) (fun D H4 qs nD e4 hD lq hqs _ => ?_)
        · have plt := flt p hp
          obtain ⟨qa, hqa⟩ : ∃ q, rs[p]? = some q := ⟨_, List.getElem?_eq_getElem (by omega)⟩
          have e04 := e03.trans e4
          refine ⟨rfl, ?_⟩
          refine lc_mapS (K := K) (a := qa) (ls := gls R p) (enc := fun (g : Nat) => V.int (g : Int)) (out := fun g => V.int (c.getD g 0 : Nat)) (H1 := H4) (fun R' hR' => ⟨rs.map V.ref, .ref qa, .inl (.inl (.inl (e04 _ _ h2))), atI_nat (by rw [List.getElem?_map, hqa]; rfl), hR'⟩) (e04 _ _ (h4 p qa hqa)) (by rw [gls_len ok plt]; omega) (fun H5 g hg e5 Qz hz => ?_) (fun D2 H5 nD2 e5 hD2 => ?_)
          · have gl := gls_lt ok (p := p) hg
            refine ⟨rfl, iv c, .int (c.getD g 0 : Nat), .inl (.inl (.inl ((e3.trans (e4.trans e5)) _ _ hCA))), atI_nat (by rw [List.getElem?_map, getD_some (show g < c.length by omega)]; rfl), hz _ (Same.refl _)⟩
          · refine hq _ D2 e5 nD2 ?_
            rw [hD2]
            unfold iv
            rw [List.map_map]; rfl
        · have e04 := e03.trans e4
          refine lc_mapS (K := K) (a := FA) (ls := fsts c k9) (enc := fun (g : Nat) => V.int (g : Int)) (out := fun p => V.bl (Kd.getD p false)) (H1 := H4) (by exact fun _ h => h) (e4 _ _ hFA2) (by omega) (fun H5 p hp e5 Qz hz => ?_) (fun KA H5 nKA e5 hKA => ?_)
          · have plt := flt p hp
            have ek : Kd[p]? = some (Kd.getD p false) := by rw [List.getD_eq_getElem?_getD, List.getElem?_eq_getElem (by omega)]; rfl
            refine ⟨rfl, Kd.map V.bl, .bl (Kd.getD p false), .inl (.inl (.inl ((e04.trans e5) _ _ hk))), atI_nat (by rw [List.getElem?_map, ek]; rfl), hz _ (Same.refl _)⟩
          · refine ⟨by show 2 ≤ sizeLine; omega, fun t nt => ?_⟩
            have e6 : Same H5 (upd H5 t (.tup [.ref D, .ref KA])) := same_upd nt
            refine q _ t (qrows R c k9) (qkinds Kd c k9) ((e04.trans e5).trans e6) ⟨D, KA, qs, upd_same, (e5.trans e6) _ _ hD, by rw [lq, lf, qrows_len], fun i p hp => ?_, Same.free e03 nD, Same.free e04 nKA, ?_⟩ lo9
            · have li : i < k9 := by have := (List.getElem?_eq_some_iff.mp hp).1; omega
              have hi9 := fsts_at (c := c) li
              refine ⟨Same.free e03 (hqs i p _ hp hi9).1, ?_⟩
              rw [(e5.trans e6) _ _ (hqs i p _ hp hi9).2.2, qrows_at li]
            · rw [e6 _ _ hKA, qkinds, List.map_map]; rfl
    · rw [if_pos (by rw [decide_eq_false hcc]; rfl)]
      dsimp only [tSeq, tAsg, gName, tNext]
      refine fun N nN => ⟨by show 0 ≤ sizeLine; omega, fun B nB => ⟨by show 3 ≤ sizeLine; omega, fun T nT => ?_⟩⟩
      have nBN : B ≠ N := ne_of_none' nB upd_same
      have nBH : H' B = none := by rw [upd_ne nBN] at nB; exact nB
      have e3 : Same H' (upd (upd (upd H' N (ND P w N [])) B (.lst [])) T (.tup [.ref LA, .ref N, .ref B])) := same_upd2 (same_upd2 (same_upd nN) nBH) (Same.free (same_upd2 (same_upd nN) nBH) nT)
      have hN3 := same_upd (o := .tup [.ref LA, .ref N, .ref B]) nT _ _ (show (upd (upd H' N (ND P w N [])) B (.lst [])) N = some (ND P w N []) by rw [upd_ne nBN.symm, upd_same])
      have hB3 := same_upd (o := .tup [.ref LA, .ref N, .ref B]) nT _ _ (show (upd (upd H' N (ND P w N [])) B (.lst [])) B = some (.lst (iv [])) from upd_same)
      refine ⟨T, _, rfl, .inl (.inl upd_same), rfl, _, _, rfl, _, _, rfl, _, _, rfl, rfl, ?_⟩
      generalize upd (upd (upd H' N (ND P w N [])) B (.lst [])) T (.tup [.ref LA, .ref N, .ref B]) = H3 at e3 hN3 hB3
      clear nT nB
      refine for_enB (K := K) (tp := false) (a := r) (xs := rs.map V.ref) (H1 := H3) (by exact fun _ h => h) (.inl (.inl ((e2.trans e3) _ _ h2)))
        (fun j σ H6 => ∃ (xs : Nds) (y5 y6 y7 : Option V), j ≤ R.length ∧ Same H' H6 ∧ H6 N = some (ND P w N xs) ∧ NdOk H6 xs (ddS ((sgs R c).take j)) ∧ H6 B = some (.lst (iv ((nxt R c).take j))) ∧
          σ = [some (.ref r), some (.ref kk), some (.ref LA), some (.ref B), some (.ref N), y5, y6, y7, y8, none, none, none])
        (fun j σ H6 h => by obtain ⟨_, _, _, _, _, e, _⟩ := h; exact .inl (.inl ((e2.trans e) _ _ h2))) ⟨[], y5, y6, y7, Nat.zero_le _, e3, hN3, ⟨rfl, fun j x z => nomatch z⟩, hB3, rfl⟩ (fun j x pr σ H6 hx iv npr => ?_) (fun σ H6 iv => ?_)
      · obtain ⟨xs, y5, y6, y7, _, e6, hN, nd6, hB, rfl⟩ := iv
        rw [List.getElem?_map] at hx
        obtain ⟨qa, hqa, rfl⟩ := Option.map_eq_some_iff.mp hx
        have hj : j < R.length := by have := (List.getElem?_eq_some_iff.mp hqa).1; omega
        have nN6 : pr ≠ N := fun z => by rw [z, hN] at npr; cases npr
        have e7 : Same H6 (upd H6 pr (.tup [.int (j : Nat), .ref qa])) := same_upd npr
        refine ⟨pr, _, rfl, .inl (.inl upd_same), rfl, _, _, rfl, _, _, rfl, rfl, ?_⟩
        have e67 := e6.trans e7
        have hN7 := e7 _ _ hN
        have nd7 := nd6.ext e7
        have hB7 := e7 _ _ hB
        generalize upd H6 pr (.tup [.int (j : Nat), .ref qa]) = H7 at e7 e67 hN7 nd7 hB7
        clear hN nd6 hB npr nN6
        have hLA7 := e67 _ _ hLA
        have hrow := (e2.trans e67) _ _ (h4 j qa hqa)
        refine ⟨_, .int (c.getD j 0 : Nat), .inl (.inl (.inl hLA7)), atI_nat (by rw [List.getElem?_map, getD_some (show j < c.length by omega)]; rfl), ?_⟩
        dsimp only [tCons, tThen]
        refine lc_mapS (K := K) (a := qa) (ls := gls R j) (enc := fun (g : Nat) => V.int (g : Int)) (out := fun g => V.int (c.getD g 0 : Nat)) (H1 := H7) (by exact fun _ h => h) hrow (by rw [gls_len ok hj]; omega) (fun H5 g hg e5 Qz hz => ?_) (fun D2 H8 nD2 e8 hD2 => ?_)
        · have gl := gls_lt ok (p := j) hg
          exact ⟨rfl, iv c, .int (c.getD g 0 : Nat), .inl (.inl (.inl (e5 _ _ hLA7))), atI_nat (by rw [List.getElem?_map, getD_some (show g < c.length by omega)]; rfl), hz _ (Same.refl _)⟩
        have hD2' : H8 D2 = some (.lst (iv ((gls R j).map fun g => c.getD g 0))) := by rw [hD2]; unfold iv; rw [List.map_map]; rfl
        refine .inl ⟨D2, _, rfl, .inl (.inl hD2'), fun T2 nT2 => ?_⟩
        have e9 := e8.trans (same_upd (o := .tup (iv ((gls R j).map fun g => c.getD g 0))) nT2)
        have hT2 := upd_same (H := H8) (a := T2) (o := .tup (iv ((gls R j).map fun g => c.getD g 0)))
        generalize upd H8 T2 (.tup (iv ((gls R j).map fun g => c.getD g 0))) = H9 at e9 hT2
        refine ⟨by show 2 ≤ sizeLine; omega, fun Z nZ => ?_⟩
        have e10 := e9.trans (same_upd (o := .tup [.int (c.getD j 0 : Nat), .ref T2]) nZ)
        have st : SgAt (upd H9 Z (.tup [.int (c.getD j 0 : Nat), .ref T2])) (sg R c j) Z := ⟨T2, upd_same, same_upd (o := .tup [.int (c.getD j 0 : Nat), .ref T2]) nZ _ _ hT2⟩
        generalize upd H9 Z (.tup [.int (c.getD j 0 : Nat), .ref T2]) = H10 at e10 st
        clear hT2 nZ e9 hD2 hD2' e8 nD2 nT2
        have hN10 := e10 _ _ hN7
        have nd10 := nd7.ext e10
        have hB10 := e10 _ _ hB7
        have e610 := e67.trans e10
        have et : (sgs R c).take (j + 1) = (sgs R c).take j ++ [sg R c j] := by rw [List.take_add_one, sgs_at hj]; rfl
        have ea := ddS_app ((sgs R c).take j) (sg R c j)
        rw [← et] at ea
        have lx := nd10.len
        have lx2 : (ddS ((sgs R c).take j)).length ≤ j := by
          have := List.Nodup.length_le_of_subset (ddS_nd (l := (sgs R c).take j)) (fun x hx => ddS_mem.mp hx)
          rw [List.length_take] at this; omega
        have hin : sg R c j ∈ ddS ((sgs R c).take (j + 1)) := by rw [ddS_mem, et]; simp
        refine ⟨fun v Hf => ∃ xs' : Nds, Same H' Hf ∧ Hf N = some (ND P w N xs') ∧ NdOk Hf xs' (ddS ((sgs R c).take (j + 1))) ∧ Hf B = some (.lst (iv ((nxt R c).take j))) ∧ SgAt Hf (sg R c j) Z, ?_, fun v Hf z => ?_⟩
        · refine ⟨N, xs, rfl, hN10, nd10.all, xs, hN10, nd10.all, Z, sg R c j, xs.length, rfl, rfl, hN10, nd10.all, st, by omega, fun v hv => ?_, fun hv => ?_⟩
          · have hm : sg R c j ∈ ddS ((sgs R c).take j) := by
              rw [← nd10.keys]
              exact Classical.byContradiction fun z => by rw [lookN_none.mpr z] at hv; cases hv
            have eb : ddS ((sgs R c).take (j + 1)) = ddS ((sgs R c).take j) := by rw [ea, addS, if_pos hm]
            exact ⟨xs, e610, hN10, by rw [eb]; exact nd10, hB10, st⟩
          · have hm : sg R c j ∉ ddS ((sgs R c).take j) := by rw [← nd10.keys]; exact lookN_none.mp hv
            have eb : ddS ((sgs R c).take (j + 1)) = ddS ((sgs R c).take j) ++ [sg R c j] := by rw [ea, addS, if_neg hm]
            have nNt : ∀ vs, H10 N ≠ some (.tup vs) := fun vs z => by rw [hN10] at z; cases z
            have st2 := st.put (Z := N) (o := ND P w N (xs ++ [(sg R c j, Z, xs.length)])) nNt
            refine ⟨xs ++ [(sg R c j, Z, xs.length)], same_upd2 e610 nN, upd_same, ?_, by rw [upd_ne nBN]; exact hB10, st2⟩
            rw [eb]
            have n2 := nd10.put (Z := N) (o := ND P w N (xs ++ [(sg R c j, Z, xs.length)])) nNt
            refine ⟨by rw [List.length_append, List.length_append, lx]; rfl, fun i y hy => ?_⟩
            rcases Nat.lt_or_ge i xs.length with hl | hl
            · rw [List.getElem?_append_left hl] at hy
              rw [List.getElem?_append_left (by omega)]
              exact n2.at_ i y hy
            · rw [List.getElem?_append_right hl] at hy
              have e9 : i - xs.length = 0 := by
                have := (List.getElem?_eq_some_iff.mp hy).1
                simp at this; omega
              rw [e9] at hy
              have : (sg R c j, Z, xs.length) = y := by simpa using hy
              subst this
              rw [List.getElem?_append_right (by omega), show i - (ddS ((sgs R c).take j)).length = 0 by omega]
              exact ⟨rfl, by show xs.length = i; omega, st2⟩
        · obtain ⟨xs', eF, hNF, ndF, hBF, stF⟩ := z
          have ln : ((nxt R c).take j).length ≤ R.length := by rw [List.length_take]; omega
          refine ⟨.inl ⟨rfl, _, .inl (.inl hBF)⟩, N, Z, xs', sg R c j, _, rfl, rfl, hNF, ndF.all, stF, ndF.look hin, B, _, _, rfl, rfl, hBF, by rw [List.length_map]; omega, ?_⟩
          have nBt : ∀ vs, Hf B ≠ some (.tup vs) := fun vs z => by rw [hBF] at z; cases z
          refine ⟨xs', _, _, _, hj, same_upd2 eF nBH, by rw [upd_ne nBN.symm]; exact hNF, ndF.put nBt, ?_, rfl⟩
          rw [upd_same, nxt_take hj, iv_app]; rfl
      · obtain ⟨xs, y5, y6, y7, _, e6, hN, nd6, hB, rfl⟩ := iv
        have tl : (nxt R c).take (rs.map V.ref).length = nxt R c := List.take_of_length_le (by rw [nxt_len, List.length_map]; omega)
        rw [tl] at hB
        have fine : ∀ p q, p < R.length → q < R.length → (nxt R c).getD p 0 = (nxt R c).getD q 0 → c.getD p 0 = c.getD q 0 := fun p q hp hq e => nxt_fine hp hq e
        have cle := cnt_le lc (rf.nxt ok).len fine
        have cn : cnt (nxt R c) ≤ R.length := by have := cnt_len (c := nxt R c); rw [nxt_len] at this; exact this
        have fl0 : ¬ fl < 1 := fun z => hcc (f1 z)
        by_cases z1 : fl < 2
        · have en := f2 z1
          refine ⟨3 * (R.length - cnt (nxt R c)) + 0, by rw [en]; omega, LA, B, c, nxt R c, 0, _, _, _, _, _, rfl, e2.trans e6, e6 _ _ hLA, hB, rf.nxt ok, .inr rfl, by omega, fun _ => by rw [en]; exact en, fun _ => en, rfl⟩
        · by_cases z2 : cnt c < cnt (nxt R c)
          · refine ⟨3 * (R.length - cnt (nxt R c)) + 2, by omega, LA, B, c, nxt R c, 2, _, _, _, _, _, rfl, e2.trans e6, e6 _ _ hLA, hB, rf.nxt ok, .inr rfl, by omega, fun z => absurd z (by omega), fun z => absurd z (by omega), rfl⟩
          · refine ⟨3 * (R.length - cnt (nxt R c)) + 1, by omega, LA, B, c, nxt R c, 1, _, _, _, _, _, rfl, e2.trans e6, e6 _ _ hLA, hB, rf.nxt ok, .inr rfl, by omega, fun _ => nxt_twice ok rf (by omega), fun z => absurd z (by omega), rfl⟩

end
end LK

/-! _law_heard_rows -/
namespace LK
open PySem PySem.Spec PyProof.Rows L2 LamX ClX
open scoped List
def clS (t : TS) : TS := fun D σ H => ∃ N : L2.St → Hp → Prop, t { D with nx := N } σ H ∧ ∀ σ' H', N σ' H' → D.nx σ' H'
theorem ps_cl {X : Cx} {st : Stmt} {t : TS} (h : PS X st t) : PS X st (clS t) := by
  refine ⟨fun pins s σ H D I z => ?_⟩
  obtain ⟨N, h0, m⟩ := z
  refine wpAny_mono (h.run pins s σ H _ I h0) (fun f s' q => ?_) (fun _ _ z => z)
  cases f with
  | next => obtain ⟨σ', H', I', q⟩ := q; exact ⟨σ', H', I', m _ _ q⟩
  | brk => exact q
  | cont => exact q
  | ret u => exact q
abbrev encM (n m : Nat) : PyData := .tuple ((bits n m).map fun (g : Nat) => .int (g : Int))
theorem eqv_M {n a b : Nat} (ha : Low n a) (hb : Low n b) : PyData.eqv (encM n a) (encM n b) = decide (a = b) := by
  have e : PyData.eqv (encM n a) (encM n b) = PyData.eqv (encR (bits n a)) (encR (bits n b)) := rfl
  rw [e, Bool.eq_iff_iff, decide_eq_true_eq, eqv_row]
  exact ⟨bits_inj ha hb, fun h => by rw [h]⟩
theorem any_M {n g : Nat} {l : List Nat} (hl : ∀ x ∈ l, Low n x) (hg : Low n g) : ((l.map (encM n)).any fun z => PyData.eqv z (encM n g)) = decide (g ∈ l) := by
  rw [List.any_map, Bool.eq_iff_iff, List.any_eq_true, decide_eq_true_eq]
  constructor
  · rintro ⟨x, hx, e⟩
    have e : PyData.eqv (encM n x) (encM n g) = true := e
    rw [eqv_M (hl x hx) hg, decide_eq_true_eq] at e
    exact e ▸ hx
  · intro h
    exact ⟨g, h, by show PyData.eqv (encM n g) (encM n g) = true; rw [eqv_M hg hg]; exact decide_eq_true rfl⟩
theorem flat_M (n m : Nat) : Flat 1 (encM n m) := flat_tup (n := 0) fun d hd => by
  obtain ⟨g, _, rfl⟩ := List.mem_map.mp hd
  exact flat_int _
theorem flat_Ms (n : Nat) (l : List Nat) : Flat 2 (.list (l.map (encM n))) := flat_list (n := 1) fun d hd => by
  obtain ⟨g, _, rfl⟩ := List.mem_map.mp hd
  exact flat_M n g
/-- tuples of places, one for each number -/
def TsAt (n : Nat) (H : Hp) (ts : List Addr) (ms : List Nat) : Prop := ts.length = ms.length ∧ ∀ (i : Nat) t m, ts[i]? = some t → ms[i]? = some m → H t = some (.tup (iv (bits n m)))
theorem TsAt.ext {n : Nat} {H H' : Hp} {ts : List Addr} {ms : List Nat} (h : TsAt n H ts ms) (e : Same H H') : TsAt n H' ts ms := ⟨h.1, fun i t m a b => e _ _ (h.2 i t m a b)⟩
theorem TsAt.snoc {n : Nat} {H : Hp} {ts : List Addr} {ms : List Nat} {t m : Nat} (h : TsAt n H ts ms) (ht : H t = some (.tup (iv (bits n m)))) : TsAt n H (ts ++ [t]) (ms ++ [m]) := by
  refine ⟨by rw [List.length_append, List.length_append, h.1]; rfl, fun i t' m' a b => ?_⟩
  rcases Nat.lt_or_ge i ts.length with lt | ge
  · rw [List.getElem?_append_left lt] at a
    rw [List.getElem?_append_left (by have := h.1; omega)] at b
    exact h.2 i t' m' a b
  · rw [List.getElem?_append_right ge] at a
    rw [List.getElem?_append_right (by have := h.1; omega)] at b
    have e1 : i - ts.length = 0 := by
      have := (List.getElem?_eq_some_iff.mp a).1
      rw [List.length_singleton] at this; omega
    rw [e1] at a
    rw [show i - ms.length = 0 by have := h.1; omega] at b
    cases a; cases b
    exact ht
theorem dpAll_M {K : PySem.W.Frag} {n : Nat} {H : Hp} : ∀ {ts : List Addr} {ms : List Nat}, TsAt n H ts ms → DpAll K H (ts.map V.ref) (ms.map (encM n))
  | [], [], _ => .nil
  | [], _ :: _, h => by cases h.1
  | _ :: _, [], h => by cases h.1
  | t :: ts, g :: gs, h => .cons (.tup (.inl (.inl (h.2 0 t g rfl rfl))) (dpAll_iv (bits n g))) (dpAll_M ⟨by simpa using h.1, fun i t g a b => h.2 (i + 1) t g (by simpa using a) (by simpa using b)⟩)
theorem TsAt.dp {K : PySem.W.Frag} {n : Nat} {H : Hp} {L : Addr} {ts : List Addr} {ms : List Nat} (h : TsAt n H ts ms) (hL : H L = some (.lst (ts.map V.ref))) : Dp K H (.ref L) (.list (ms.map (encM n))) := .lst (.inl (.inl hL)) (dpAll_M h)
section
variable {X : Cx} {K : PySem.W.Frag}
theorem o_ninD (hK : X.K = K) (hu : X.A.units + 65 < cLine) : OpR X (compareOp .NotIn) (rNotInD K) := hK ▸ op_notInD hu
theorem mt_indexDK (hK : X.K = K) (hu : X.A.units + 65 < cLine) : MtR X "list.index" (rIndexD K) := hK ▸ mt_indexD hu
end
theorem goRow_at {R : Rows} {e : List Nat} {S : List Nat} {hg : Nat → List (List Nat)} {p n c : Nat} (h : S[n]? = some c) : (goRow R e (S.map fun c => heardAs S hg [c]) p)[n]? = some (stayM R (ledS R p (heardAs S hg [c])) e) := by
  rw [goRow, List.map_map, List.getElem?_map, h]; rfl
theorem idx_M {n g : Nat} {l : List Nat} (hl : ∀ x ∈ l, Low n x) (hg : Low n g) (hm : g ∈ l) : (l.map (encM n))[l.idxOf g]? = some (encM n g) ∧ ∀ (m : Nat) (z' : PyData), m < l.idxOf g → (l.map (encM n))[m]? = some z' → PyData.eqv z' (encM n g) = false := by
  refine ⟨by rw [List.getElem?_map, idx_get hm]; rfl, fun m z' lt h => ?_⟩
  rw [List.getElem?_map] at h
  obtain ⟨y, hy, rfl⟩ := Option.map_eq_some_iff.mp h
  rw [eqv_M (hl y (List.mem_of_getElem? hy)) hg, decide_eq_false_iff_not]
  intro e
  subst e
  have := idx_le hy
  omega
theorem some_last {R : Rows} {Kd : List Bool} {m : Nat} (h : Low R.length m) (lk : Kd.length = R.length) : ((bits R.length m).map fun g => Kd.getD g false).any id = decide (m &&& lastM Kd ≠ 0) := by
  rw [Bool.eq_iff_iff, List.any_eq_true, decide_eq_true_iff]
  constructor
  · rintro ⟨b, hb, e⟩ z
    obtain ⟨g, hg, rfl⟩ := List.mem_map.mp hb
    have tg := (mem_bits h).mp hg
    have lg := low_tb h tg
    have : (m &&& lastM Kd).testBit g = true := by
      rw [Nat.testBit_and, tg, mask_tb, Bool.true_and, decide_eq_true_iff, List.mem_filter, List.mem_range]
      exact ⟨by omega, e⟩
    rw [z, Nat.zero_testBit] at this; cases this
  · intro z
    obtain ⟨g, hg⟩ := Nat.exists_testBit_of_ne_zero z
    rw [Nat.testBit_and, Bool.and_eq_true, mask_tb, decide_eq_true_iff, List.mem_filter] at hg
    exact ⟨true, List.mem_map.mpr ⟨g, (mem_bits h).mpr hg.1, hg.2.2⟩, rfl⟩
section
variable {α : Type} {K : PySem.W.Frag} {tp : Bool} {t : TE} {g : TG} {te : TE} {σ : L2.St} {H H1 : Hp} {vs : List Nat} {Q : VK} {a : Addr} {ls : List α} {enc out : α → V}
/-- a comprehension over a list or a tuple whose items are values -/
theorem lc_mapQ (h : At t σ H (.ref a) H1) (hx : SqB K tp H1 a (ls.map enc)) (hn : ls.length < sizeLine)
    (hs : ∀ H' x, x ∈ ls → Same H1 H' → ∀ Qy : VK, (∀ H'', Same H' H'' → Qy (out x) H'') → g (enc x) (wipe σ vs) H' fun σ2 H2 => wipe σ2 vs = wipe σ vs ∧ te σ2 H2 Qy)
    (he : ∀ D H', H1 D = none → Same H1 H' → H' D = some (.lst (ls.map out)) → Q (.ref D) H') : tLc (iSq K t) g tYes te vs σ H Q := by
  refine lc_sq (K := K) (tp := tp) (a := a) (xs := ls.map enc) (H1 := H1) h hx (fun D pre acc H' => pre.length ≤ ls.length ∧ acc = (ls.take pre.length).map out ∧ Same H1 H' ∧ H' D = some (.lst acc))
    (fun D pre acc H' r => hx.ext r.2.2.1) (fun D nD => ⟨Nat.zero_le _, rfl, same_upd nD, upd_same⟩) (fun D nD pre acc x suf H' ex r => ?_) (fun D nD acc H' r => ?_)
  · obtain ⟨_, rfl, e, hD⟩ := r
    have hx' : (ls.map enc)[pre.length]? = some x := by rw [ex]; simp
    rw [List.getElem?_map] at hx'
    obtain ⟨y, hy, rfl⟩ := Option.map_eq_some_iff.mp hx'
    have li := (List.getElem?_eq_some_iff.mp hy).1
    refine hs H' y (List.mem_of_getElem? hy) e _ fun H'' e2 => ⟨_, e2 _ _ hD, by rw [List.length_map, List.length_take]; omega, _, by rw [List.length_append]; exact li, ?_, same_upd2 (e.trans e2) nD, upd_same⟩
    rw [List.length_append, List.length_singleton, List.take_add_one, hy, List.map_append]; rfl
  · obtain ⟨_, rfl, e, hD⟩ := r
    rw [List.length_map, List.take_length] at hD
    exact he D H' nD e hD
end

section
variable {P : Program} {w : World} {K : PySem.W.Frag} {mg : Str → Option Value} {base : Heap}
abbrev nHR : List Str := ["_law_signs", "_law_model_here", "_law_road", "_law_sets", "_law_rows_here", "_law_at", "_law_row", "_law_sign", "_law_later", "_law_some", "_law_spot"]
theorem scHR : FnScope nHR ["_law_signs", "_law_model_here", "_law_road"] (defScope sHeardR) := ⟨rfl, rfl, rfl, by decide +kernel, rfl, by decide +kernel, by decide +kernel⟩
/-- the least rows of what can be heard -/
def spHR (K : PySem.W.Frag) : Sp := fun vs H Q _ => ∃ (t d : Addr) (S : List Nat) (R : Rows) (Kd : List Bool) (hg : Nat → List (List Nat)), vs = [.str (T S), .ref t, .ref d] ∧ ModAt H t R Kd ∧ ShOk S R Kd ∧ R.length ≤ 5 ∧ LineAt K H d S hg ∧
  ∀ H' t' A KA, Same H H' → ModFr H H' t' A KA → LeastOf S.length (hRows S R hg) (hKd S R Kd hg) 0 A KA → Q (.ref t') H'
theorem ok_hr {f : Addr} {fd : FuncData} {k : Nat} (F : Fun K "_law_heard_rows" "_law_heard_rows" sHeardR f fd) (M : Mx mg) (HMs : Has P w K mg base k "_law_missed" ["_law_signs", "_law_rows_here", "_law_road", "_law_some"] (spMs K))
    (HBh : Has P w K mg base k "_law_behind" ["_law_signs", "_law_rows_here", "_law_road", "_law_some", "_law_heard_as"] (spBh K)) (HFw : Has P w K mg base k "_law_fewer" ["_law_rows_here", "_law_kinds_here"] spFw) :
    FnG P w K mg base CX0 (k + 1) f fd ["_law_signs", "_law_model_here", "_law_road"] (spHR K) := by
  refine okG F scHR (fun vs H Q E h => ?_) (fun cdv A hA outer s H vs Q E hr h => ?_)
  · obtain ⟨t, d, S, R, Kd, hg, rfl, _⟩ := h; rfl
  · obtain ⟨t, d, S, R, Kd, hg, rfl, ⟨r, kk, hT, hR, hK⟩, ok, h5, hd, q⟩ := h
    have nd := scHR.nd
    have sl := sizeLine_eq
    have hu := Room.u65 hr
    refine ⟨_, (pss_cons (ps_par3 (i := 3) (j := 4) (l := 5) rfl nd rfl rfl rfl (by decide) (by decide) (by decide) rfl rfl rfl (pa_cons (pe_lst (pa_cons (pe_callH HMs hA hr (by rfl) (pa_cons (uv 0) (pa_cons (pe_ixK (K := K) rfl (uv 1) pe_int) (pa_cons (uv 2) (pa_cons (pe_lst (pa_cons pe_int pa_nil)) pa_nil))))) pa_nil)) (pa_cons (pe_lst pa_nil) (pa_cons pe_int pa_nil))) rfl)
      (pss_cons (ps_while PassesOwn.never (pt_cl (pt_cu o_lt (uv 5) (pe_callB c_len (by rfl) M.len b_len (pa_cons (uv 3) pa_nil))))
        (pss_cons (ps_set (i := 6) nd rfl (.inl rfl) (pe_lst pa_nil))
      (pss_cons (ps_for PassesOwn.never rfl (pi_str (uv 0)) (pg_name (i := 7) nd rfl (.inl rfl))
        (pss_cons (ps_set (i := 8) nd rfl (.inl rfl) (pe_callH HBh hA hr (by rfl) (pa_cons (uv 0) (pa_cons (pe_ixK (K := K) rfl (uv 1) pe_int) (pa_cons (uv 2) (pa_cons (pe_ixK (K := K) rfl (uv 3) (uv 5)) (pa_cons (uv 7) pa_nil)))))))
      (pss_cons (ps_cl (ps_ifU (pt_cu (r := rNotInD K) (o_ninD rfl hu) (uv 8) (uv 3)) (pss_one (ps_expr (pe_bm PySem.F.plainAttrs_list PySem.F.slot_list_append PySem.F.type_list_append mt_append (uv 3) (pa_cons (uv 8) pa_nil)))) pss_nil))
      (pss_one (ps_expr (pe_bm PySem.F.plainAttrs_list PySem.F.slot_list_append PySem.F.type_list_append mt_append (uv 6) (pa_cons (pe_bmK (K := K) rfl PySem.F.plainAttrs_list PySem.F.slot_list_index PySem.F.type_list_index (mt_indexDK (K := K) rfl hu) (uv 3) (pa_cons (uv 8) pa_nil)) pa_nil)))))))
      (pss_cons (ps_expr (pe_bm PySem.F.plainAttrs_list PySem.F.slot_list_append PySem.F.type_list_append mt_append (uv 4) (pa_cons (uv 6) pa_nil)))
      (pss_one (ps_aug (i := 5) nd rfl (.inl rfl) pe_int ip_add))))))
      (pss_one (ps_ret (pe_callH HFw hA hr (by rfl) (pa_cons (uv 4) (pa_cons (pe_lc (own := [("_law_some", 9)]) (g := gName 9) (tt := tYes) rfl nd (pi_listK (K := K) rfl (uv 3)) (blkOk_by (N := nHR) (sc := defScope sHeardR) (by decide +kernel))
          (fun _ _ _ _ _ => pg_name (i := 9) nd rfl (Or.inl rfl)) (fun _ _ _ _ _ => pts_nil)
          (fun _ _ _ _ _ => (pe_callB (r := allU K fun bs => bs.any id) (c_any rfl) (by rfl) M.any b_any (pa_cons (pe_lc (own := [("_law_spot", 10)]) (g := gName 10) (tt := tYes) rfl nd (pi_sqK (K := K) rfl (uv 9)) (blkOk_in (N := nHR) (sc := { kind := .function, names := [(".0", .local), ("_law_some", .local), ("any", .globalImplicit), ("_law_model_here", .free)], isGenerator := false, isCoroutine := false }) (by decide +kernel))
          (fun _ _ _ _ _ => pg_name (i := 10) nd rfl (Or.inl rfl)) (fun _ _ _ _ _ => pts_nil)
          (fun _ _ _ _ _ => (pe_ixK (K := K) rfl (pe_ixK (K := K) rfl (uv 1) pe_int) (uv 10)))) pa_nil)))) pa_nil))))))), ?_⟩
    have l3 := ok.let_.hi
    have lo := ok.lo
    have hasc : ∀ c ∈ S, c < 128 := ok.let_.sm.asc
    have hsn : R.length * S.length ≤ 60 := Nat.le_trans (Nat.mul_le_mul h5 l3) (by decide)
    obtain ⟨RR, eRR⟩ : ∃ RR, RR = hRR S R hg := ⟨_, rfl⟩
    obtain ⟨s0, es0⟩ : ∃ s0, s0 = hS0 S R hg := ⟨_, rfl⟩
    have okRR : RowsOk RR S.length := eRR ▸ hRR_ok ok.rows
    have lRR : RR.length = 2 ^ R.length := eRR ▸ hRR_len
    have hp32 : 2 ^ R.length ≤ 32 := Nat.le_trans (Nat.pow_le_pow_right (by omega) h5) (by decide : 2 ^ 5 ≤ 32)
    have hs0 : s0 < RR.length := by rw [lRR, es0]; exact hS0_lt ok.rows lo
    have flow : ∀ i x, x ∈ fnd RR s0 i → Low R.length x := fun i x hx => by
      have := fnd_lt okRR hs0 i x hx
      rwa [lRR] at this
    have flen : ∀ i, (fnd RR s0 i).length ≤ 32 := fun i => by
      have := fnd_len okRR hs0 i
      omega
    have nTd : ∀ {b : Addr} {xs : List V} {c : Addr} {ys : List V} {H : Hp}, H b = some (.tup xs) → H c = some (.lst ys) → b ≠ c := fun hb hc z => by rw [z, hc] at hb; cases hb
    refine ⟨_, .ref r, .inr (.inl (.inl hT)), rfl, ?_⟩
    refine ⟨by show 1 ≤ sizeLine; omega, fun L1 nL1 => ?_⟩
    have eL1 : Same H (upd H L1 (.lst [.int 0])) := same_upd nL1
    refine ⟨r, d, L1, S, [0], R, hg, rfl, hR.ext eL1, ok.rows, hasc, by omega, by omega, hd.ext eL1, .inl (.inl upd_same), by decide, fun p hp => by rw [List.mem_singleton.mp hp]; omega, fun H1 t1 e1 ht1 => ?_⟩
    have m1 : mask [0] = 1 := by decide
    rw [m1] at ht1
    have ht1 : H1 t1 = some (.tup (iv (bits R.length s0))) := by rw [es0]; exact ht1
    refine ⟨by show 1 ≤ sizeLine; omega, fun L nL => ⟨by show 0 ≤ sizeLine; omega, fun W nW => ⟨_, _, _, rfl, ?_⟩⟩⟩
    have e01 := eL1.trans e1
    have nWL : W ≠ L := ne_of_none' nW upd_same
    have nLH : H L = none := Same.free e01 nL
    have e02 : Same H (upd H1 L (.lst [.ref t1])) := same_upd2 e01 nLH
    have nWH : H W = none := Same.free e02 nW
    have e2 : Same H (upd (upd H1 L (.lst [.ref t1])) W (.lst [])) := same_upd2 e02 nWH
    have hL2 : (upd (upd H1 L (.lst [.ref t1])) W (.lst [])) L = some (.lst ([t1].map V.ref)) := by rw [upd_ne nWL.symm, upd_same]; rfl
    have hW2 : (upd (upd H1 L (.lst [.ref t1])) W (.lst [])) W = some (.lst (([] : List Addr).map V.ref)) := upd_same
    have hT2 : TsAt R.length (upd (upd H1 L (.lst [.ref t1])) W (.lst [])) [t1] (fnd RR s0 0) := by
      refine ⟨rfl, fun i t' m' a b => ?_⟩
      cases i with
      | zero =>
        cases a; cases b
        exact same_upd nW _ _ (same_upd (o := .lst [.ref t1]) nL _ _ ht1)
      | succ i => exact absurd a (by simp)
    generalize upd (upd H1 L (.lst [.ref t1])) W (.lst []) = H2 at e2 hL2 hW2 hT2
    clear e01 e02 ht1 e1 eL1 nL1 nL nW m1
    show tWhile _ _ _ _ _
    refine wh (m0 := RR.length) (fun mm σ H4 => ∃ (i : Nat) (ts rws : List Addr) (y6 y7 y8 : Option V), mm = RR.length - i ∧ i ≤ (fnd RR s0 i).length ∧ Same H H4 ∧ H4 L = some (.lst (ts.map V.ref)) ∧ TsAt R.length H4 ts (fnd RR s0 i) ∧ H4 W = some (.lst (rws.map V.ref)) ∧ rws.length = i ∧
        (∀ j q, rws[j]? = some q → q ≠ W ∧ q ≠ L ∧ H4 q = some (.lst (iv (rowN RR s0 j)))) ∧ σ = [some (.str (T S)), some (.ref t), some (.ref d), some (.ref L), some (.ref W), some (.int (i : Nat)), y6, y7, y8, none, none])
      ⟨0, [t1], [], none, none, none, rfl, Nat.zero_le _, e2, hL2, hT2, hW2, rfl, fun j q z => (nil_none z).elim, rfl⟩ (fun mm σ H4 iv4 => ?_) (fun σ H Q Q' hm h => ?_)
    case refine_2 =>
      obtain ⟨Q0, h0, m0⟩ := h
      exact ⟨Q0, h0, fun v H' z => hm _ _ (m0 v H' z)⟩
    clear e2 hL2 hT2 hW2
    obtain ⟨i, ts, rws, y6, y7, y8, rfl, hi, e4, hL, hts, hW, lrw, hrw, rfl⟩ := iv4
    have lts := hts.1
    have fl := flen i
    have ltm : (ts.map V.ref).length = ts.length := List.length_map _
    refine ⟨fun b H' => b = decide ((i : Int) < ((ts.map V.ref).length : Int)) ∧ H' = H4, .inl ⟨ts.map V.ref, .inl (.inl (.inl hL)), rfl, rfl⟩, fun b H' z => ?_⟩
    obtain ⟨rfl, rfl⟩ := z
    by_cases hlt : i < ts.length
    · rw [if_pos (decide_eq_true (by rw [ltm]; omega))]
      obtain ⟨p, hp⟩ : ∃ p, (fnd RR s0 i)[i]? = some p := ⟨_, List.getElem?_eq_getElem (by omega)⟩
      obtain ⟨tp, htp⟩ : ∃ t, ts[i]? = some t := ⟨_, List.getElem?_eq_getElem hlt⟩
      have plow := flow i p (List.mem_of_getElem? hp)
      have plt : p < RR.length := by rw [lRR]; exact plow
      have lgp := gls_len okRR plt
      have hstep := fnd_step hp
      have pre1 : fnd RR s0 (i + 1) <+: met RR s0 := by
        by_cases z : i + 1 ≤ RR.length
        · exact fnd_pre z
        · have := fnd_len okRR hs0 i
          omega
      have prow : ∀ n, adds (fnd RR s0 i) ((gls RR p).take n) <+: fnd RR s0 (i + 1) := fun n => by
        rw [hstep]
        have : adds (fnd RR s0 i) (gls RR p) = adds (adds (fnd RR s0 i) ((gls RR p).take n)) ((gls RR p).drop n) := by unfold adds; rw [← List.foldl_append, List.take_append_drop]
        rw [this]
        exact adds_pre
      have pm : (met RR s0).getD i 0 = p := by
        have h1 : (fnd RR s0 (i + 1))[i]? = some p := by
          obtain ⟨u, eu⟩ := fnd_pre (R := RR) (s := s0) (i := i) (j := i + 1) (by omega)
          rw [← eu, List.getElem?_append_left (by omega)]; exact hp
        obtain ⟨u, eu⟩ := pre1
        rw [List.getD_eq_getElem?_getD, ← eu, List.getElem?_append_left (List.getElem?_eq_some_iff.mp h1).1, h1]; rfl
      refine ⟨by show 0 ≤ sizeLine; omega, fun B nB => ?_⟩
      have nBH : H B = none := Same.free e4 nB
      have nBL : B ≠ L := ne_of_none' nB hL
      have nBW : B ≠ W := ne_of_none' nB hW
      have eB : Same H' (upd H' B (.lst [])) := same_upd nB
      have e5 := e4.trans eB
      have hL5 := eB _ _ hL
      have hW5 := eB _ _ hW
      have hts5 := hts.ext eB
      have hB5 : (upd H' B (.lst [])) B = some (.lst (iv [])) := upd_same
      have hrw5 : ∀ j q, rws[j]? = some q → q ≠ W ∧ q ≠ L ∧ q ≠ B ∧ (upd H' B (.lst [])) q = some (.lst (iv (rowN RR s0 j))) := fun j q hq => by
        obtain ⟨a1, a2, a3⟩ := hrw j q hq
        exact ⟨a1, a2, (fun z => by rw [z, nB] at a3; cases a3), eB _ _ a3⟩
      dsimp only [tNext, tSeq, tAsg, gName]
      generalize upd H' B (.lst []) = H5 at eB e5 hL5 hW5 hts5 hB5 hrw5
      clear e4 hL hts hW hrw eB nB
      refine for_str (l := S) (H1 := H5) (by exact fun _ h => h) (fun pre σ H6 => ∃ (ts : List Addr) (y7 y8 : Option V), pre.length ≤ S.length ∧ Same H H6 ∧ H6 L = some (.lst (ts.map V.ref)) ∧ TsAt R.length H6 ts (adds (fnd RR s0 i) ((gls RR p).take pre.length)) ∧ ts[i]? = some tp ∧ H6 W = some (.lst (rws.map V.ref)) ∧
          H6 B = some (.lst (iv (((gls RR p).take pre.length).map fun g => (met RR s0).idxOf g))) ∧ (∀ j q, rws[j]? = some q → q ≠ W ∧ q ≠ L ∧ q ≠ B ∧ H6 q = some (.lst (iv (rowN RR s0 j)))) ∧
          σ = [some (.str (T S)), some (.ref t), some (.ref d), some (.ref L), some (.ref W), some (.int (i : Nat)), some (.ref B), y7, y8, none, none])
        ⟨ts, y7, y8, Nat.zero_le _, e5, hL5, hts5, htp, hW5, hB5, hrw5, rfl⟩ (fun pre c suf σ H6 e iv6 => ?_) (fun σ H6 iv6 => ?_)
      · obtain ⟨ts', y7, y8, lpre, e6, hL, hts, htp', hW, hB, hrw, rfl⟩ := iv6
        have hc : S[pre.length]? = some c := by rw [e]; simp
        have hn : pre.length < S.length := (List.getElem?_eq_some_iff.mp hc).1
        obtain ⟨gg, hgg⟩ : ∃ gg, (gls RR p)[pre.length]? = some gg := ⟨_, List.getElem?_eq_getElem (by omega)⟩
        have egg : gg = stayM R (ledS R p (heardAs S hg [c])) (heardAs S hg []) := by
          have h1 := hRR_gls (S := S) (R := R) (hg := hg) (m := p) plow
          rw [← eRR] at h1
          rw [h1, goRow_at hc] at hgg
          exact (Option.some.inj hgg).symm
        have htk : (gls RR p).take (pre.length + 1) = (gls RR p).take pre.length ++ [gg] := by rw [List.take_add_one, hgg]; rfl
        have prow1 := prow (pre.length + 1)
        have prow0 := prow pre.length
        rw [htk, adds_app] at prow1
        have hp2 : (adds (fnd RR s0 i) ((gls RR p).take pre.length))[i]? = some p := by
          obtain ⟨u, eu⟩ := adds_pre (gs := (gls RR p).take pre.length) (f := fnd RR s0 i)
          rw [← eu, List.getElem?_append_left (List.getElem?_eq_some_iff.mp hp).1]; exact hp
        have hrl : ((gls RR p).take (pre.length + 1)).map (fun g => (met RR s0).idxOf g) = ((gls RR p).take pre.length).map (fun g => (met RR s0).idxOf g) ++ [(met RR s0).idxOf gg] := by rw [htk, List.map_append]; rfl
        have lrow : (((gls RR p).take pre.length).map fun g => (met RR s0).idxOf g).length ≤ 3 := by rw [List.length_map, List.length_take]; omega
        have cle : (adds (fnd RR s0 i) ((gls RR p).take pre.length)).length ≤ 32 := Nat.le_trans prow0.length_le (flen (i + 1))
        have clow : ∀ x ∈ add1 (adds (fnd RR s0 i) ((gls RR p).take pre.length)) gg, Low R.length x := fun x hx => flow (i + 1) x (prow1.subset hx)
        have gm : gg ∈ add1 (adds (fnd RR s0 i) ((gls RR p).take pre.length)) gg := mem_add1.mpr (.inr rfl)
        have glow := clow gg gm
        have eidx := idx_pre (prow1.trans pre1) gm
        rw [show (pre ++ [c]).length = pre.length + 1 by rw [List.length_append]; rfl]
        rw [htk, adds_app, List.map_append]
        generalize adds (fnd RR s0 i) ((gls RR p).take pre.length) = cur at hts hp2 cle clow gm eidx prow1 prow0
        have hR6 := hR.ext e6
        refine ⟨_, .ref r, .inr (.inl (.inl (e6 _ _ hT))), rfl, ts'.map V.ref, .ref tp, .inl (.inl (.inl hL)), atI_nat (by rw [List.getElem?_map, htp']; rfl), ?_⟩
        refine ⟨r, d, tp, p, S, [c], R, hg, rfl, hR6, ok.rows, hasc, by omega, hsn, by omega, hd.ext e6, hts.2 i tp p htp' hp2, plow, fun H7 tn e7 htn => ?_⟩
        rw [← egg] at htn
        have hL7 := e7 _ _ hL
        have hts7 := hts.ext e7
        have hW7 := e7 _ _ hW
        have hB7 := e7 _ _ hB
        have e67 := e6.trans e7
        have hrw7 : ∀ j q, rws[j]? = some q → q ≠ W ∧ q ≠ L ∧ q ≠ B ∧ H7 q = some (.lst (iv (rowN RR s0 j))) := fun j q hq => by
          obtain ⟨a1, a2, a3, a4⟩ := hrw j q hq
          exact ⟨a1, a2, a3, e7 _ _ a4⟩
        clear hL hts hW hB hrw e6 e7 hR6
        have lts' : ts'.length = cur.length := hts7.1
        refine ⟨fun σ' H' => ∃ ts2 : List Addr, Same H H' ∧ H' L = some (.lst (ts2.map V.ref)) ∧ TsAt R.length H' ts2 (add1 cur gg) ∧ ts2[i]? = some tp ∧ H' W = some (.lst (rws.map V.ref)) ∧ H' B = some (.lst (iv (((gls RR p).take pre.length).map fun g => (met RR s0).idxOf g))) ∧
          (∀ j q, rws[j]? = some q → q ≠ W ∧ q ≠ L ∧ q ≠ B ∧ H' q = some (.lst (iv (rowN RR s0 j)))) ∧ H' tn = some (.tup (iv (bits R.length gg))) ∧
          σ' = [some (.str (T S)), some (.ref t), some (.ref d), some (.ref L), some (.ref W), some (.int (i : Nat)), some (.ref B), some (.str (T [c])), some (.ref tn), none, none], ?_, fun σ' H' z => ?_⟩
        · refine ⟨encM R.length gg, cur.map (encM R.length), .tup (.inl (.inl htn)) (dpAll_iv _), hts7.dp hL7, (flat_M _ _).shaped (by decide), (flat_Ms _ _).shaped (by decide), ?_⟩
          have clow' : ∀ x ∈ cur, Low R.length x := fun x hx => clow x (mem_add1.mpr (.inl hx))
          show Br (!((cur.map (encM R.length)).any fun z => PyData.eqv z (encM R.length gg))) _ _
          rw [any_M clow' glow]
          refine .nd (fun hg' => ?_) (fun hg' => ?_)
          · have ea : add1 cur gg = cur ++ [gg] := if_neg hg'
            rw [ea]
            refine ⟨.inl ⟨rfl, _, .inl (.inl hL7)⟩, L, _, _, rfl, rfl, hL7, by rw [List.length_map]; omega, ?_⟩
            refine ⟨ts' ++ [tn], same_upd2 e67 nLH, by rw [upd_same, List.map_append]; rfl, ?_, ?_, by rw [upd_ne nWL]; exact hW7, by rw [upd_ne nBL]; exact hB7, fun j q hq => ?_, ?_, rfl⟩
            · refine TsAt.snoc ⟨hts7.1, fun n t' m' a b => ?_⟩ ?_
              · have := hts7.2 n t' m' a b
                rw [upd_ne (nTd this hL7)]; exact this
              · rw [upd_ne (nTd htn hL7)]; exact htn
            · rw [List.getElem?_append_left (List.getElem?_eq_some_iff.mp htp').1]; exact htp'
            · obtain ⟨a1, a2, a3, a4⟩ := hrw7 j q hq
              exact ⟨a1, a2, a3, by rw [upd_ne a2]; exact a4⟩
            · rw [upd_ne (nTd htn hL7)]; exact htn
          · have ea : add1 cur gg = cur := if_pos hg'
            rw [ea]
            exact ⟨ts', e67, hL7, hts7, htp', hW7, hB7, hrw7, htn, rfl⟩
        · obtain ⟨ts2, e8, hL8, hts8, htp8, hW8, hB8, hrw8, htn8, rfl⟩ := z
          obtain ⟨i1, i2⟩ := idx_M clow glow gm
          refine ⟨.inl ⟨rfl, _, .inl (.inl hB8)⟩, .inl ⟨rfl, _, .inl (.inl hL8)⟩, L, .ref tn, encM R.length gg, _, _, _, rfl, rfl, hts8.dp hL8, .tup (.inl (.inl htn8)) (dpAll_iv _), (flat_Ms _ _).shaped (by decide), (flat_M _ _).shaped (by decide), i1, by rw [eqv_M glow glow]; exact decide_eq_true rfl, i2, ?_⟩
          refine ⟨B, _, _, rfl, rfl, hB8, by rw [List.length_map]; omega, ?_⟩
          refine ⟨ts2, _, _, hn, same_upd2 e8 nBH, by rw [upd_ne nBL.symm]; exact hL8, ⟨hts8.1, fun n t' m' a b => ?_⟩, htp8, by rw [upd_ne nBW.symm]; exact hW8, ?_, fun j q hq => ?_, rfl⟩
          · have := hts8.2 n t' m' a b
            rw [upd_ne (nTd this hB8)]; exact this
          · rw [upd_same, iv_app, List.map_singleton, eidx]; rfl
          · obtain ⟨a1, a2, a3, a4⟩ := hrw8 j q hq
            exact ⟨a1, a2, a3, by rw [upd_ne a3]; exact a4⟩
      · clear e5 hL5 hts5 htp hW5 hB5 hrw5
        obtain ⟨ts, y7, y8, _, e6, hL, hts, htp, hW, hB, hrw, rfl⟩ := iv6
        have tk : (gls RR p).take S.length = gls RR p := List.take_of_length_le (by rw [lgp]; exact Nat.le_refl _)
        rw [tk] at hts hB
        refine ⟨.inl ⟨rfl, _, .inl (.inl hW)⟩, W, _, _, rfl, rfl, hW, by rw [List.length_map]; omega, ?_⟩
        refine ⟨_, rfl, ?_⟩
        have fl1 := fnd_len okRR hs0 (i + 1)
        refine ⟨RR.length - (i + 1), by have := fnd_len okRR hs0 i; omega, i + 1, ts, rws ++ [B], _, _, _, rfl, ?_, same_upd2 e6 nWH, by rw [upd_ne nWL.symm]; exact hL, ?_, by rw [upd_same, List.map_append]; rfl, by rw [List.length_append, lrw]; rfl, fun j q hq => ?_, rfl⟩
        · have := (fnd_pre (R := RR) (s := s0) (i := i) (j := i + 1) (by omega)).length_le
          rw [hstep] at this ⊢
          omega
        · rw [hstep]
          exact ⟨hts.1, fun n t' m' a b => by
            have := hts.2 n t' m' a b
            rw [upd_ne (nTd this hW)]; exact this⟩
        · rcases Nat.lt_or_ge j rws.length with l | l
          · rw [List.getElem?_append_left l] at hq
            obtain ⟨a1, a2, a3, a4⟩ := hrw j q hq
            exact ⟨a1, a2, by rw [upd_ne a1]; exact a4⟩
          · rw [List.getElem?_append_right l] at hq
            have e9 : j - rws.length = 0 := by
              have := (List.getElem?_eq_some_iff.mp hq).1
              rw [List.length_singleton] at this; omega
            rw [e9] at hq
            obtain rfl : B = q := by cases hq; rfl
            have ej : j = i := by omega
            subst ej
            refine ⟨nBW, nBL, ?_⟩
            rw [upd_ne nBW, hB, rowN, pm]
    · rw [if_neg (by rw [ltm, decide_eq_true_eq]; omega)]
      have em : fnd RR s0 i = met RR s0 := fnd_met okRR hs0 (by omega)
      rw [em] at hts lts hi fl
      have li : i = (met RR s0).length := by omega
      have ez : (ts.zip (met RR s0)).map (fun x => V.ref x.1) = ts.map V.ref := by
        have : (ts.zip (met RR s0)).map (fun x => V.ref x.1) = ((ts.zip (met RR s0)).map Prod.fst).map V.ref := by rw [List.map_map]; rfl
        rw [this, List.map_fst_zip (by omega)]
      have lz : (ts.zip (met RR s0)).length = (met RR s0).length := by rw [List.length_zip]; omega
      dsimp only [tRet, uCall, tCons]
      refine uvq (v := .ref W) rfl ?_
      refine lc_mapS (K := K) (a := L) (ls := ts.zip (met RR s0)) (enc := fun x => V.ref x.1) (out := fun x => V.bl (decide (x.2 &&& lastM Kd ≠ 0))) (H1 := H') (by exact fun _ h => h) (by rw [ez]; exact hL) (by omega) (fun H5 x hx e5 Qy hq => ?_) (fun D H5 nD e5 hD => ?_)
      · obtain ⟨j, hj⟩ := List.mem_iff_getElem?.mp hx
        obtain ⟨tj, mj⟩ := x
        rw [List.getElem?_zip_eq_some] at hj
        have htj := e5 _ _ (hts.2 j tj mj hj.1 hj.2)
        have mlow : Low R.length mj := flow i mj (by rw [em]; exact List.mem_of_getElem? hj.2)
        refine ⟨rfl, ?_⟩
        have e45 := e4.trans e5
        dsimp only [tCB, tCons]
        refine lc_mapQ (K := K) (tp := true) (a := tj) (ls := bits R.length mj) (enc := fun (g : Nat) => V.int (g : Int)) (out := fun g => V.bl (Kd.getD g false)) (H1 := H5) (by exact fun _ h => h) (.inl (.inl htj)) ?_ (fun H6 g hg' e6 Qz hz => ?_) (fun D2 H6 nD2 e6 hD2 => ?_)
        · have := len_le_of_lt (l := bits R.length mj) ((bits_asc R.length mj).imp fun h => by omega) fun x hx => (List.mem_range.mp (List.mem_filter.mp hx).1)
          omega
        · have gl : g < R.length := List.mem_range.mp (List.mem_filter.mp hg').1
          have lk := ok.kinds
          have ek : Kd[g]? = some (Kd.getD g false) := by rw [List.getD_eq_getElem?_getD, List.getElem?_eq_getElem (by omega)]; rfl
          exact ⟨rfl, [.ref r, .ref kk], .ref kk, .inr (.inl (.inl ((e45.trans e6) _ _ hT))), rfl, Kd.map V.bl, .bl (Kd.getD g false), .inl (.inl (.inl ((e45.trans e6) _ _ hK))), atI_nat (by rw [List.getElem?_map, ek]; rfl), hz _ (Same.refl _)⟩
        · refine ⟨(bits R.length mj).map fun g => Kd.getD g false, .inl (.inl (by rw [hD2, List.map_map]; rfl)), ?_⟩
          show Qy (.bl (((bits R.length mj).map fun g => Kd.getD g false).any id)) H6
          rw [some_last mlow ok.kinds]
          exact hq _ e6
      · have e45 := e4.trans e5
        have hkd : (ts.zip (met RR s0)).map (fun x => V.bl (decide (x.2 &&& lastM Kd ≠ 0))) = (hKd S R Kd hg).map V.bl := by
          have : (ts.zip (met RR s0)).map (fun x => V.bl (decide (x.2 &&& lastM Kd ≠ 0))) = ((ts.zip (met RR s0)).map Prod.snd).map (fun m => V.bl (decide (m &&& lastM Kd ≠ 0))) := by rw [List.map_map]; rfl
          rw [this, List.map_snd_zip (by omega), hKd, hMet, ← eRR, ← es0, List.map_map]; rfl
        rw [hkd] at hD
        have hrs : hRows S R hg = rn RR (met RR s0) := by rw [hRows, hMet, ← eRR, ← es0]
        have lr : (hRows S R hg).length = (met RR s0).length := by rw [hrs, rn_len]
        have sh := hSh (hg := hg) ok h5
        have h0m : 0 < (met RR s0).length := (List.getElem?_eq_some_iff.mp (met_zero (R := RR) (s := s0))).1
        refine ⟨W, D, S.length, hRows S R hg, hKd S R Kd hg, rfl, ⟨rws, e5 _ _ hW, by omega, fun j q hq => ?_⟩, hD, sh.rows, by omega, by omega, sh.kinds, by omega, by rw [lr, hrs]; exact met_rn okRR hs0, fun H9 t' A KA e9 hm lo9 => q H9 t' A KA (e45.trans e9) (hm.of e45) lo9⟩
        have lj : j < (met RR s0).length := by have := (List.getElem?_eq_some_iff.mp hq).1; omega
        rw [e5 _ _ (hrw j q hq).2.2, hrs, rn_gls (List.getElem?_eq_getElem lj), rowN, List.getD_eq_getElem?_getD, List.getElem?_eq_getElem lj]; rfl

end
end LK

/-! repr of a list that holds an instance and data; a list extended by a list or a tuple -/
namespace LK
open PySem PySem.Spec PyProof.Rows L2 Builtin
open Builtin.List
section
variable {X : Cx} {pins : List (Addr × Obj)} {σ : L2.St} {H : Hp} {s : Shared} {n : Nat} {C : Addr} {sp : Sp}
/-- an item that shows itself, below a list's repr -/
def ItemR (X : Cx) (pins : List (Addr × Obj)) (σ : L2.St) (H : Hp) (n : Nat) (x : V) (t : Str) : Prop := ∀ (A : Around) (g : List Code) (E : Value → Shared → Prop) (s : Shared) (H' : Hp) (u : Value) (b : Nat) (Q : Str → Shared → Prop),
  A.guards = some g → A.frames = X.A.frames → Room n A → Inv X pins σ H' s → Ext H H' → GN g H' → RelV x u → b + t.length ≤ sizeLine → (∀ s2 H2, Inv X pins σ H2 s2 → Ext H' H2 → Q t s2) → wpAny (model X.prog X.w) A (pyReprUnder b u) Q E s
theorem itemR_ins (F : HasR X.prog X.w X.K X.mg X.base n C "__repr__" sp) {m : Addr} {t : Str} (h : ∀ H', Ext H H' → ∃ dx fs, H' m = some (.ins C dx fs) ∧ sp [.ref m] H' (fun v H2 => v = .str t ∧ Ext H' H2) E0) : ItemR X pins σ H n (.ref m) t := by
  intro A g E s H' u b Q hA hf hr I e gn ru hb fin
  obtain ⟨dx, fs, hi, q⟩ := h H' e
  obtain rfl : u = Value.ref m := ru
  exact item_repr F hA hf hr I gn hi (by omega) q fin
theorem itemR_data {N : Addr → Prop} {v : V} {d : PyData} (SM : SysD X.base) (h : ∀ H', Ext H H' → DpX X.K N H' v d) (hw : ShwX d) : ItemR X pins σ H n v d.shown := by
  intro A g E s H' u b Q hA hf hr I e gn ru hb fin
  have S : SysD s.heap := by
    obtain ⟨o, es, ep, z1, z2⟩ := SM
    exact ⟨o, es, ep, I.bk _ _ z1, z2⟩
  obtain ⟨as, rd, ns⟩ := DpX.reads I S (h H' e) ru
  obtain ⟨bs, hb', rk⟩ := ReprK.of_reads (prog := X.prog) (w := X.w) rd hw.sh (fun _ => ns) (by omega)
  refine rk b hb A g E s Q hA (fun c hc => ?_) (by have := hr.un; have := hw.dp; omega) (fun _ _ e => e) (fun h' tk hk => fin _ _ (I.kept hk) Ext.rfl')
  obtain ⟨d', as', r', _⟩ := hb' c hc
  exact gn.clear I r'
theorem loop_mix {A : Around} {L P : Addr} {xs : List V} {ts : List Str} {base : Nat} {R : Result → Shared → Prop} (hA : A.guards = some []) (hf : A.frames = X.A.frames) (hr : Room (n + 1) A)
    (hL : H L = some (.lst xs)) (hne : L ≠ P) (hlen : ts.length = xs.length) (hm : ∃ m dx fs, V.ref m ∈ xs ∧ H m = some (.ins C dx fs)) (hT : ∀ (i : Nat) (x : V) (t : Str), xs[i]? = some x → ts[i]? = some t → ItemR X pins σ H n x t)
    (hsz : base + (listText ts).length ≤ sizeLine) (fin : ∀ s' H' u, Inv X pins σ H' s' → Ext H H' → R (.ok (.ret (.str (listText ts) u))) s') :
    ∀ (k i : Nat) (s : Shared) (H' : Hp), xs.length - i = k → i ≤ xs.length → Inv X pins σ H' s → Ext H H' → H' P = some (.lst ((ts.take i).map V.str)) → H P = none →
    codeAny (model X.prog X.w) A (.builtin "list.__repr__.loop" ⟨[.ref L, rawInt i, .ref P, rawInt ((base + piled (ts.take i) : Nat) : Int)], []⟩) R s := by
  have hTl := textFrom_len ts 0 "["
  have hX : (listText ts).length = (textFrom 0 "[" ts).length + 1 := by
    show (textFrom 0 "[" ts ++ "]").length = _
    rw [strLen_append]; rfl
  have sz1 : xs.length ≤ sizeLine := by
    have h1 := hTl.1
    rw [if_neg (Nat.lt_irrefl 0)] at h1
    omega
  have sz2 : ∀ t ∈ ts, t.length ≤ sizeLine := fun t ht => by have h2 := hTl.2.1 t ht; omega
  have sz3 : (listText ts).length ≤ sizeLine := by omega
  have hp3 := piled_le_listText ts
  intro k
  induction k with
  | zero =>
    intro i s H' hk hi I e hP nP
    have ei : i = xs.length := by omega
    obtain ⟨z, its, c, r1, g1⟩ := I.hok L _ (e _ _ hL)
    obtain ⟨z2, its2, c2, r2, g2⟩ := I.hok P _ hP
    have l1 : its.length = xs.length := r1.length.symm
    obtain ⟨done, rfl, ed⟩ := strs_of r2
    refine codeAny_builtin PySem.F.entry_list_repr_loop (show wpAny _ _ («list.__repr__.loop» ⟨[.ref L, .int i 0, .ref P, .int ((base + piled (ts.take i) : Nat) : Int) 0], []⟩) _ _ s from ?_)
    rw [repr_loop_tree]
    refine wpAny_bind (wpAny_listItems g1 rfl ?_)
    have hnone : its.toArray[(i : Int).toNat]? = none := by simp [ei, l1]
    simp only [hnone]
    unfold reprEnd
    refine wpAny_bind (wpAny_listItems g2 rfl ?_)
    rw [show (strValues done).toArray.toList = strValues done by simp, repr_fold]
    have hall : done.map (·.1) = ts := by rw [ed, ei, ← hlen, List.take_length]
    refine wpAny_bind (wpAny_pure ?_)
    rw [hall]
    exact wpAny_bind (wpAny_mkStr (wpAny_pure (fin _ _ _ (I.tok _) e)) sz3)
  | succ k ih =>
    intro i s H' hk hi I e hP nP
    have hlt : i < xs.length := by omega
    obtain ⟨z, its, c, r1, g1⟩ := I.hok L _ (e _ _ hL)
    have hx : xs[i]? = some xs[i] := List.getElem?_eq_getElem hlt
    obtain ⟨t, ht⟩ : ∃ t, ts[i]? = some t := ⟨_, List.getElem?_eq_getElem (by omega)⟩
    have hp1 := piled_take_succ ht
    have hp2 := piled_take_le ts (i + 1)
    obtain ⟨u, hu, ru⟩ := r1.get hx
    refine codeAny_builtin PySem.F.entry_list_repr_loop (show wpAny _ _ («list.__repr__.loop» ⟨[.ref L, .int i 0, .ref P, .int ((base + piled (ts.take i) : Nat) : Int) 0], []⟩) _ _ s from ?_)
    rw [repr_loop_tree]
    refine wpAny_bind (wpAny_listItems g1 rfl ?_)
    have hsome : its.toArray[(i : Int).toNat]? = some u := by simpa using hu
    simp only [hsome]
    rw [Int.toNat_natCast]
    have gd := guards_under_guard (A := A) (c := .builtin "list.__repr__.loop" ⟨[.ref L, .int i 0, .ref P, .int ((base + piled (ts.take i) : Nat) : Int) 0], []⟩) (isGuard_list_loop _) hA
    have gn : GN [Code.builtin "list.__repr__.loop" ⟨[.ref L, .int i 0, .ref P, .int ((base + piled (ts.take i) : Nat) : Int) 0], []⟩] H' := fun id v rest kw hm2 => by
      rw [List.mem_singleton] at hm2
      injection hm2 with h1 h2
      injection h2 with h3 h4
      injection h3 with h5 h6
      obtain ⟨m, dx, fs, hmx, hmi⟩ := hm
      exact ⟨L, xs, m, C, dx, fs, h5, e _ _ hL, hmx, e _ _ hmi⟩
    refine wpAny_bind (wpAny_holding (hT i _ t hx ht _ _ _ _ _ _ _ _ gd ?_ ?_ I e gn ru (by omega) fun s2 H2 I2 e2 => ?_))
    · rw [← hf]; first | rfl | (simp [Around.under, Code.envs, Code.isFrame, pushEnvs])
    · exact room_loop hr
    refine wpAny_bind (wpAny_mkStr ?_ (sz2 t (List.mem_of_getElem? ht)))
    refine wpAny_bind (show wpAny _ _ (updateSeq P _) _ _ _ from ?_)
    obtain ⟨z2, its2, c2, r2, g2⟩ := I2.hok P _ (e2 _ _ hP)
    have l2 : its2.length = i := by rw [← r2.length, List.length_map, List.length_take]; omega
    refine wpAny_updateSeq g2 rfl (wpAny_pure ⟨PySem.F.quiet_list_repr_loop _, ?_⟩) (by rw [List.size_toArray]; omega)
    rw [show ((i : Int) + 1) = ((i + 1 : Nat) : Int) by omega, show base + piled (ts.take i) + (t.length + 2) = base + piled (ts.take (i + 1)) by omega]
    have et : (ts.take (i + 1)).map V.str = (ts.take i).map V.str ++ [V.str t] := by rw [List.take_add_one, ht, List.map_append]; rfl
    refine ih (i + 1) _ (upd H2 P (.lst ((ts.take (i + 1)).map V.str))) (by omega) hlt ?_ (fun b o hb => ?_) upd_same nP
    · obtain ⟨n2, gu⟩ : ∃ n2, (s2.heap.update P (Obj.mapSeq fun x => x.push (Value.str t s2.toks))).get? P = some { cls := .type "list", data := .seq (its2.toArray.push (.str t s2.toks)) n2 } := ⟨_, Heap.get?_update_self _ g2 rfl⟩
      refine I2.write (x := P) (e := P) (by rw [e2 _ _ hP]; exact True.intro) (.inl rfl) (fun b u nb hb => (Heap.get?_update_other _ _ (fun h : P = b => nb h.symm)).trans hb) ⟨_, Heap.get?_update_self _ g2 rfl⟩ ⟨by rw [List.length_map, List.length_take]; omega, its2 ++ [.str t s2.toks], n2, by rw [et]; exact Vals.append r2 (.cons ⟨_, rfl⟩ .nil), ?_⟩
      rw [show (its2 ++ [Value.str t s2.toks]).toArray = its2.toArray.push (.str t s2.toks) by simp]
      exact gu
    · have nb : b ≠ P := ne_of_none hb nP
      rw [upd_ne nb]; exact e2 _ _ (e _ _ hb)
/-- repr of a list of an instance and data -/
def reprID (K : PySem.W.Frag) (C : Addr) (sp : Sp) : List V → Hp → VK → Prop := fun vs H Q => match vs with
  | [.ref L] => ∃ (m : Addr) (v : V) (t : Str) (N : Addr → Prop) (d : PyData), H L = some (.lst [.ref m, v]) ∧ (∀ H', Ext H H' → ∃ dx fs, H' m = some (.ins C dx fs) ∧ sp [.ref m] H' (fun v H2 => v = .str t ∧ Ext H' H2) E0) ∧
      (∀ H', Ext H H' → DpX K N H' v d) ∧ ShwX d ∧ (listText [t, d.shown]).length ≤ sizeLine ∧ ∀ H', Ext H H' → Q (.str (listText [t, d.shown])) H'
  | _ => False
theorem c_reprID (F : HasR X.prog X.w X.K X.mg X.base n C "__repr__" sp) (hA : X.A.guards = some []) (hr : Room (n + 2) X.A) (SM : SysD X.base) : CallR X (.builtin "repr") (reprID X.K C sp) := by
  intro pins s σ H xs us Q I r h
  unfold reprID at h
  split at h
  · rename_i L
    obtain ⟨m, v, t, N, d, hL, hm, hd, hw, hsz, q⟩ := h
    obtain ⟨u, rfl, ru⟩ := vals1 r
    obtain rfl : u = Value.ref L := ru
    obtain ⟨z, its, c, r1, g1⟩ := I.hok L _ hL
    have l1 : its.length = 2 := r1.length.symm
    obtain ⟨x, l, rfl⟩ : ∃ x l, its = x :: l := by
      cases its with
      | nil => cases l1
      | cons x l => exact ⟨x, l, rfl⟩
    have hu := hr.un
    refine call_repr_slot (by omega) ⟨_, g1, rfl⟩ PySem.F.slot_list_repr.toG ?_
    refine wpAny_call (codeAny_call_builtin PySem.F.slot_list_repr.plain PySem.F.entry_list_repr (PySem.F.slot_list_repr.check _ _ _ _ _ _ _ _ ⟨_, g1, rfl⟩ (PySem.F.args_list_repr_1 _) ?_))
    refine wpAny_list_repr_head (g := []) hA (fun v rest kw hm => nomatch hm) g1 rfl (wpAny_bind (m := newList []) (wpAny_newObj_type (wpAny_pure ⟨PySem.F.quiet_list_repr_loop _, ?_⟩)))
    have nP : H s.heap.objs.size = none := I.hok.fresh (Nat.le_refl _)
    have I1 : Inv X pins σ (upd H s.heap.objs.size (.lst [])) { s with heap := s.heap.push { cls := .type "list", dict := none, data := .seq #[] 0 } } :=
      I.laid (t' := s.toks) (fun b u z => Heap.get?_push_of_some _ z) (Nat.le_refl _) ⟨by show 0 ≤ sizeLine; omega, [], _, .nil, Heap.get?_push_size _ rfl⟩
    obtain ⟨dx0, fs0, hi0, _⟩ := hm H Ext.rfl'
    refine loop_mix (C := C) (A := X.A.in1) (P := s.heap.objs.size) (base := 0) (xs := [.ref m, v]) (ts := [t, d.shown]) (H := H) hA rfl hr.in1 hL (ne_of_none hL nP) rfl ⟨m, dx0, fs0, by simp, hi0⟩ (fun i x t' hx ht => ?_) (by omega) (fun s' H' u I' e' => ?_) _ 0 _ _ rfl (Nat.zero_le _) I1 (Ext.upd nP) upd_same nP
    · match i, hx, ht with
      | 0, hx, ht =>
        injection hx with hx; injection ht with ht; subst hx; subst ht
        exact itemR_ins F hm
      | 1, hx, ht =>
        injection hx with hx; injection ht with ht; subst hx; subst ht
        exact itemR_data SM hd hw
      | i + 2, hx, ht => cases hx
    · exact ⟨_, u, rfl, .str _, H', I', ⟨u, rfl⟩, q H' e'⟩
  · exact h.elim
end
/-! ### extend -/
section
open AutoSeq1 (wpAny_loadPart')
theorem ext_seq {l b : Addr} {its its2 : Array Value} {n n2 : Nat} {d2 : Option Addr} {sl2 : Array (Option Value)} {tp : Bool} (h0 : ¬ (!its.isEmpty && Builtin.List.listTooLong (its.size + its2.size)) = true) (h1 : its.size ≤ sizeLine) (h2 : its.size + its2.size ≤ sizeLine + 1) :
    Meets (Builtin.«list.extend» ⟨[.ref l, .ref b], []⟩) (fun _ R s => s.heap.get? l = some { cls := .type "list", dict := none, data := .seq its n, slots := #[] } ∧ s.heap.get? b = some { cls := .type (if tp then "tuple" else "list"), dict := d2, data := .seq its2 n2, slots := sl2 } ∧
      R (.ok (.ret Value.none)) { s with heap := s.heap.update l (Obj.mapSeq fun x => x ++ its2), toks := s.toks }) := by
  refine .of_wp fun prog w A R s h => ?_
  obtain ⟨hp, g, d, tk, os⟩ := s
  obtain ⟨gl, gb, h⟩ := h
  have f1 := AutoSeq1.idx_int; have f2 := AutoSeq1.sub_tuple_tuple; have f3 := AutoSeq1.sub_list_list
  have f4 := AutoSeq1.sub_tuple_list; have f5 := AutoSeq1.sub_list_tuple
  have hz : (its ++ its2).size ≤ sizeLine + 1 := by rw [Array.size_append]; exact h2
  cases tp
  · simp only [Bool.false_eq_true, if_false] at gb
    wp_walk using (wpAny_updateSeq gl rfl (hz := h1) (_hz' := hz)), wpAny_loadPart' gl, wpAny_loadPart' gb
    exact ⟨_, rfl, h⟩
  · simp only [if_true] at gb
    wp_walk using (wpAny_updateSeq gl rfl (hz := h1) (_hz' := hz)), wpAny_loadPart' gl, wpAny_loadPart' gb
    exact ⟨_, rfl, h⟩
end
section
variable {X : Cx} {K : PySem.W.Frag}
/-- l.extend(a list or a tuple) -/
def rExtB (K : PySem.W.Frag) : V → List V → Hp → VK → Prop := fun x vs H Q => ∃ (l b : Addr) (xs zs : List V) (tp : Bool), x = .ref l ∧ vs = [.ref b] ∧ H l = some (.lst xs) ∧ SqB K tp H b zs ∧ xs.length + zs.length ≤ sizeLine ∧ Q .non (upd H l (.lst (xs ++ zs)))
theorem mt_extB (hK : X.K = K) : MtR X "list.extend" (rExtB K) := by
  subst hK
  intro pins s σ H x vs v us Q I rx rv h
  obtain ⟨l, b, xs, zs, tp, rfl, rfl, hl, hb, hz, q⟩ := h
  cases rx
  obtain ⟨u, rfl, ru⟩ := rv.one
  obtain rfl : u = Value.ref b := ru
  obtain ⟨_, its, n, r, ll, e⟩ := I.lstM hl
  have two : ∃ (its2 : List Value) (n2 : Nat) (d2 : Option Addr) (sl2 : Array (Option Value)), Vals zs its2 ∧ s.heap.get? b = some { cls := .type (if tp then "tuple" else "list"), dict := d2, data := .seq its2.toArray n2, slots := sl2 } := by
    cases tp
    · obtain ⟨its2, r2, ⟨⟨c, d2, x2, sl2⟩, n2, e2, k1, k2, k3⟩, _⟩ := I.list hb
      simp only at k1 k2 k3
      subst k1; subst k3
      exact ⟨its2, n2, d2, sl2, r2, e2⟩
    · obtain ⟨its2, r2, ⟨⟨c, d2, x2, sl2⟩, e2, k1, n2, k3⟩, _⟩ := I.tuple hb
      simp only at k1 k3
      subst k1; subst k3
      exact ⟨its2, n2, d2, sl2, r2, e2⟩
  obtain ⟨its2, n2, d2, sl2, r2, e2⟩ := two
  have lz := r2.length
  have hs : its.toArray.size + its2.toArray.size ≤ sizeLine := by rw [List.size_toArray, List.size_toArray]; omega
  refine call_meets PySem.F.slot_list_extend ⟨_, e, rfl⟩ PySem.F.entry_list_extend (PySem.F.args_list_extend_2 _ _) (ext_seq (tp := tp) (by rw [notLongL hs, Bool.and_false]; exact Bool.false_ne_true) (by omega) (by omega)) ⟨e, e2, ?_⟩
  exact ⟨.non, _, I.lset (its' := its ++ its2) hl e (by simp) (r.append r2) (by rw [List.length_append]; exact hz), rfl, q⟩
end
end LK

/-! what _law_right wants -/
namespace LK
open PySem PySem.Spec PyProof.Rows L2 LamX ClX
open scoped List
/-! ### what is heard rests on what letters may be heard as -/
section
variable {S : List Nat} {R : Rows} {Kd : List Bool} {hg hg' : Nat → List (List Nat)}
def SameH (S : List Nat) (hg hg' : Nat → List (List Nat)) : Prop := ∀ c ∈ S, ∀ x, x ∈ hg c ↔ x ∈ hg' c
theorem heardAs_congr (h : SameH S hg hg') (x : List Nat) : heardAs S hg x = heardAs S hg' x := by
  unfold heardAs
  refine List.filter_congr fun i hi => ?_
  have li := List.mem_range.mp hi
  have hm : S.getD i 0 ∈ S := getD_in li
  rw [Bool.eq_iff_iff, decide_eq_true_eq, decide_eq_true_eq]
  exact h _ hm x
theorem hRR_congr (h : SameH S hg hg') : hRR S R hg = hRR S R hg' := by
  unfold hRR
  rw [heardAs_congr h, List.map_congr_left fun c _ => heardAs_congr h [c]]
theorem hS0_congr (h : SameH S hg hg') : hS0 S R hg = hS0 S R hg' := by unfold hS0; rw [heardAs_congr h]
theorem hRows_congr (h : SameH S hg hg') : hRows S R hg = hRows S R hg' := by unfold hRows hMet; rw [hRR_congr h, hS0_congr h]
theorem hKd_congr (h : SameH S hg hg') : hKd S R Kd hg = hKd S R Kd hg' := by unfold hKd hMet; rw [hRR_congr h, hS0_congr h]
end
section
variable {m s : Nat} {R A : Rows} {K KA : List Bool} {S : List Nat}
theorem LeastOf.self (h : LeastOf m R K s A KA) : LeastOf m A KA 0 A KA := ⟨h.rows, h.lo, Nat.le_refl _, h.kinds, h.canon, .refl, h.red⟩
theorem LeastOf.whole (h : LeastOf m R K s A KA) : Whole A := fun x hx => by rw [h.canon]; exact List.mem_range.mpr hx
theorem LeastOf.shOk (h : LeastOf S.length R K s A KA) (ok : ShOk S R K) : ShOk S A KA := ⟨ok.let_, h.rows, h.lo, Nat.le_trans h.hi ok.hi, h.kinds⟩
end
theorem HearOk.perm {S : List Nat} {a b : List (List Nat)} (h : HearOk S a) (p : b ~ a) : HearOk S b :=
  ⟨fun z => h.ne (List.Perm.nil_eq (z ▸ p)).symm, p.nodup_iff.mpr h.nd, fun x hx => h.one x (p.mem_iff.mp hx), by rw [p.length_eq]; exact h.hi⟩
/-! ### machines compared; made -/
theorem notFirstZ {K : PySem.W.Frag} {C : Addr} : PySem.W.notFirst K C (.ref C) = true := by simp [PySem.W.notFirst]
theorem mach_same {K : PySem.W.Frag} {C : Addr} {neg : Bool} {H : Hp} {a b : Addr} {S : List Nat} {R1 : Rows} {K1 : List Bool} {Q : VK} (iM : IsM K C) (m1 : Mach C H a S R1 K1) (m2 : Mach C H b S R1 K1) (h1 : R1.length ≤ 40) (q : ∀ H', Same H H' → Q (.bl (!neg)) H') : eqI K C (spEq K C) neg (.ref a) (.ref b) H Q := by
  obtain ⟨dx, _, _, _, i1, _⟩ := id m1
  obtain ⟨dx2, _, _, _, i2, _⟩ := id m2
  refine ⟨dx, _, _, i1, iM.ty _ _ _ _ i2 (mf_none (by decide +kernel) (by decide +kernel) (by decide +kernel)), notFirstZ, a, .ref b, S, R1, K1, rfl, m1, by omega, .inl ⟨b, S, R1, K1, rfl, m2, by omega, fun H' e => ⟨_, rfl, ?_⟩⟩⟩
  have e2 : (if neg = true then !decide (S = S ∧ R1 = R1 ∧ K1 = K1) else decide (S = S ∧ R1 = R1 ∧ K1 = K1)) = !neg := by
    rw [decide_eq_true ⟨rfl, rfl, rfl⟩]; cases neg <;> rfl
  rw [e2]
  exact q H' e
theorem mach_newN {K : PySem.W.Frag} {C : Addr} {H : Hp} {Q : VK} {S : List Nat} {R : Rows} {Kd : List Bool} {r k : Addr} (ok : ShOk S R Kd) (wh : Whole R) (hr : RowsAt K H r R) (hk : KindsAt K H k Kd)
    (q : ∀ H' a, Same H H' → H a = none → MachN C H H' a S R Kd → Q (.ref a) H') : mkSp C (spInit K C) [.str (T S), .ref r, .ref k] H Q := by
  intro a d na nd nad
  have e9 : Same H (upd (upd H d (.own a)) a (.ins C d [])) := (same_upd nd).trans (same_upd (by rw [upd_ne nad.symm]; exact na))
  refine ⟨a, d, r, k, S, R, Kd, rfl, ok, wh, hr.ext e9, hk.ext e9, upd_same, fun H' but mach => ⟨rfl, q H' a (fun b o hb => ?_) na (mach.of e9)⟩⟩
  exact but b o (ne_of_none hb na) (e9 _ _ hb)
theorem RowsL.at {K : PySem.W.Frag} {H : Hp} {r : Addr} {R : Rows} (h : RowsL H r R) : RowsAt K H r R := by
  obtain ⟨rs, h1, h2, h3⟩ := h
  exact ⟨false, rs, .inl (.inl h1), h2, fun i p hp => ⟨false, .inl (.inl (h3 i p hp))⟩⟩
theorem kindsL_at {K : PySem.W.Frag} {H : Hp} {k : Addr} {Kd : List Bool} (h : H k = some (.lst (Kd.map V.bl))) : KindsAt K H k Kd := ⟨false, .inl (.inl h)⟩
/-! ### shown -/
abbrev enc3 (S : List Nat) (A : Rows) (KA : List Bool) : PyData := .list [.str (T S), encRs A, encB KA]
abbrev enc2 (A : Rows) (KA : List Bool) : PyData := .list [encRs A, encB KA]
theorem Shn.up {n n' m : Nat} {d : PyData} (h : Shn n m d) (l : n ≤ n') : Shn n' m d := ⟨h.sh, h.nd, Nat.le_trans h.dp l, h.lf, h.wt⟩
theorem shn_txt {l : List Nat} {m : Nat} (h : ∀ c ∈ l, c < 128) (hl : l.length ≤ m) : Shn 0 m (.str (T l)) := by
  refine ⟨rfl, rfl, Nat.le_refl _, ?_, hl⟩
  show (l.all fun c => decide (c < 16 ^ 8)) = true
  rw [List.all_eq_true]
  intro c hc
  have := h c hc
  have : (128 : Nat) < 16 ^ 8 := by decide
  exact decide_eq_true (by omega)
theorem shw3 {S : List Nat} {A : Rows} {KA : List Bool} (ok : ShOk S A KA) : Shw (enc3 S A KA) := by
  have l3 := ok.let_.hi
  refine (shn_list (n := 2) (m := 880) fun d hd => ?_).shw (by omega) (by show (880 + 1) * 3 ≤ 2 ^ 20; omega)
  simp at hd
  rcases hd with rfl | rfl | rfl
  · exact (shn_txt ok.let_.sm.asc (by omega)).up (by omega)
  · exact shn_rows ok
  · exact ((shn_kinds ok).up (by omega)).mono (by omega)
theorem shw2 {S : List Nat} {A : Rows} {KA : List Bool} (ok : ShOk S A KA) : Shw (enc2 A KA) := by
  refine (shn_list (n := 2) (m := 880) fun d hd => ?_).shw (by omega) (by show (880 + 1) * 2 ≤ 2 ^ 20; omega)
  simp at hd
  rcases hd with rfl | rfl
  · exact shn_rows ok
  · exact ((shn_kinds ok).up (by omega)).mono (by omega)
theorem dp_rowsL {K : PySem.W.Frag} {H : Hp} {r : Addr} {A : Rows} (h : RowsL H r A) : Dp K H (.ref r) (encRs A) := by
  obtain ⟨rs, h1, h2, h3⟩ := h
  exact .lst (.inl (.inl h1)) (dpAll_rows h2 h3)
theorem dp_kindsL {K : PySem.W.Frag} {H : Hp} {k : Addr} {KA : List Bool} (h : H k = some (.lst (KA.map V.bl))) : Dp K H (.ref k) (encB KA) := .lst (.inl (.inl h)) (dpAll_bl KA)
section
variable {K : PySem.W.Frag} {C : Addr} {σ : L2.St} {H : Hp} {Q : VK} {S : List Nat} {A : Rows} {KA : List Bool} {i b : Nat}
/-- repr([told.letters, told.rows(), told.kinds()]) -/
theorem rep_told3 (e : σ[i]? = some (some (.ref b))) (m : Mach C H b S A KA) (ok : ShOk S A KA) (q : ∀ H', Same H H' → Q (.str (enc3 S A KA).shown) H') :
    tCB (reprU K) (tCons (tLst (tCons (tProp C (getSp C "_letters") [] E0 (uVar i)) (tCons (uMeth C "rows" (spRows C) (uVar i) tNil) (tCons (uMeth C "kinds" (spKinds C) (uVar i) tNil) tNil)))) tNil) σ H Q := by
  have sl := sizeLine_eq
  have hi := ok.hi
  obtain ⟨dx, r, k, rs, h1, h2, h3, h4, h5⟩ := id m
  dsimp only [tCB, tCons, tLst, tProp, uMeth]
  refine uvq e ?_
  refine ⟨b, dx, _, rfl, h1, ⟨b, dx, _, .str (T S), rfl, h1, rfl, ?_⟩⟩
  refine uvq e ?_
  refine ⟨dx, _, h1, mf_none (by decide +kernel) (by decide +kernel) (by decide +kernel), b, S, A, KA, rfl, m, by omega, fun H1 p ls e1 np hp hl hls _ => ?_⟩
  refine uvq e ?_
  refine ⟨dx, _, e1 _ _ h1, mf_none (by decide +kernel) (by decide +kernel) (by decide +kernel), b, S, A, KA, rfl, m.ext e1, fun k2 nk => ?_⟩
  refine ⟨by show 3 ≤ sizeLine; omega, fun L nL => ?_⟩
  have e2 : Same H1 (upd H1 k2 (.lst (KA.map V.bl))) := same_upd nk
  have e3 : Same (upd H1 k2 (.lst (KA.map V.bl))) (upd (upd H1 k2 (.lst (KA.map V.bl))) L (.lst [.str (T S), .ref p, .ref k2])) := same_upd nL
  have hr : RowsL H1 p A := ⟨ls, hp, hl, fun i q hq => (hls i q hq).2.2⟩
  refine ⟨enc3 S A KA, .lst (.inl (.inl upd_same)) (.cons (.str _) (.cons (dp_rowsL (hr.ext (e2.trans e3))) (.cons (dp_kindsL (e3 _ _ upd_same)) .nil))), shw3 ok, q _ ((e1.trans e2).trans e3)⟩
/-- repr([told.rows(), told.kinds()]) -/
theorem rep_told2 (e : σ[i]? = some (some (.ref b))) (m : Mach C H b S A KA) (ok : ShOk S A KA) (q : ∀ H', Same H H' → Q (.str (enc2 A KA).shown) H') :
    tCB (reprU K) (tCons (tLst (tCons (uMeth C "rows" (spRows C) (uVar i) tNil) (tCons (uMeth C "kinds" (spKinds C) (uVar i) tNil) tNil))) tNil) σ H Q := by
  have sl := sizeLine_eq
  have hi := ok.hi
  obtain ⟨dx, r, k, rs, h1, h2, h3, h4, h5⟩ := id m
  dsimp only [tCB, tCons, tLst, uMeth]
  refine uvq e ?_
  refine ⟨dx, _, h1, mf_none (by decide +kernel) (by decide +kernel) (by decide +kernel), b, S, A, KA, rfl, m, by omega, fun H1 p ls e1 np hp hl hls _ => ?_⟩
  refine uvq e ?_
  refine ⟨dx, _, e1 _ _ h1, mf_none (by decide +kernel) (by decide +kernel) (by decide +kernel), b, S, A, KA, rfl, m.ext e1, fun k2 nk => ?_⟩
  refine ⟨by show 2 ≤ sizeLine; omega, fun L nL => ?_⟩
  have e2 : Same H1 (upd H1 k2 (.lst (KA.map V.bl))) := same_upd nk
  have e3 : Same (upd H1 k2 (.lst (KA.map V.bl))) (upd (upd H1 k2 (.lst (KA.map V.bl))) L (.lst [.ref p, .ref k2])) := same_upd nL
  have hr : RowsL H1 p A := ⟨ls, hp, hl, fun i q hq => (hls i q hq).2.2⟩
  refine ⟨enc2 A KA, .lst (.inl (.inl upd_same)) (.cons (dp_rowsL (hr.ext (e2.trans e3))) (.cons (dp_kindsL (e3 _ _ upd_same)) .nil)), shw2 ok, q _ ((e1.trans e2).trans e3)⟩
end
/-! ### a line, shown -/
def encHd (tp : Bool) (hs : List (List Nat)) : PyData := if tp then .tuple (hs.map encT) else .list (hs.map encT)
def encLn (hg : Nat → List (List Nat)) (es : List (Nat × Addr × Bool)) : PyData := .dict (es.map fun e => (.str (T [e.1]), encHd e.2.2 (hg e.1)))
structure Shx (n m : Nat) (d : PyData) : Prop where
  sh : d.showable = true
  dp : d.depth ≤ n
  lf : d.leavesShort 25 = true
  wt : d.weight ≤ m
theorem shx_txts {hs : List (List Nat)} {tp : Bool} (h : ∀ x ∈ hs, x.length ≤ 1 ∧ ∀ c ∈ x, c < 128) (hl : hs.length ≤ 100) : Shx 1 200 (encHd tp hs) := by
  have key : PyData.showableAll (hs.map encT) = true ∧ PyData.depthAll (hs.map encT) = 0 ∧ PyData.leavesShortAll 25 (hs.map encT) = true ∧ PyData.weightAll (hs.map encT) ≤ 2 * hs.length := by
    clear hl
    induction hs with
    | nil => exact ⟨rfl, rfl, rfl, Nat.le_refl _⟩
    | cons x hs ih =>
      obtain ⟨a, b, c, e⟩ := ih fun y hy => h y (List.mem_cons_of_mem _ hy)
      obtain ⟨l1, l2⟩ := h x (by simp)
      have lf : (encT x).leavesShort 25 = true := by
        show (x.all fun c => decide (c < 16 ^ 8)) = true
        rw [List.all_eq_true]
        intro c hc
        have := l2 c hc
        have : (128 : Nat) < 16 ^ 8 := by decide
        exact decide_eq_true (by omega)
      have w : (encT x).weight = x.length := rfl
      rw [List.map_cons]
      refine ⟨?_, ?_, ?_, ?_⟩
      · rw [PyData.showableAll, a]; rfl
      · rw [PyData.depthAll, b]; rfl
      · rw [PyData.leavesShortAll, c, lf]; rfl
      · rw [PyData.weightAll, w, List.length_cons]; omega
  obtain ⟨a, b, c, e⟩ := key
  unfold encHd
  cases tp
  · exact ⟨by show PyData.showable (.list _) = true; rw [PyData.showable]; exact a, by show PyData.depth (.list _) ≤ 1; rw [PyData.depth, b]; omega, by show PyData.leavesShort 25 (.list _) = true; rw [PyData.leavesShort]; exact c, by show PyData.weight (.list _) ≤ 200; rw [PyData.weight]; omega⟩
  · exact ⟨by show PyData.showable (.tuple _) = true; rw [PyData.showable]; exact a, by show PyData.depth (.tuple _) ≤ 1; rw [PyData.depth, b]; omega, by show PyData.leavesShort 25 (.tuple _) = true; rw [PyData.leavesShort]; exact c, by show PyData.weight (.tuple _) ≤ 200; rw [PyData.weight]; omega⟩
theorem shx_line {S : List Nat} {hg : Nat → List (List Nat)} {es : List (Nat × Addr × Bool)} (lt : LetOk S) (ok : LineOk S hg) (pm : es.map (·.1) ~ S) : ShwX (encLn hg es) := by
  have l3 := lt.hi
  have hl : es.length = S.length := by have := pm.length_eq; rwa [List.length_map] at this
  have asc := lt.sm.asc
  have key : ∀ fs : List (Nat × Addr × Bool), (∀ e ∈ fs, e.1 ∈ S) → PyData.showableKv (fs.map fun e => (.str (T [e.1]), encHd e.2.2 (hg e.1))) = true ∧ PyData.depthKv (fs.map fun e => (.str (T [e.1]), encHd e.2.2 (hg e.1))) ≤ 1 ∧
      PyData.leavesShortKv 25 (fs.map fun e => (.str (T [e.1]), encHd e.2.2 (hg e.1))) = true ∧ PyData.weightKv (fs.map fun e => (.str (T [e.1]), encHd e.2.2 (hg e.1))) ≤ 203 * fs.length := by
    intro fs
    induction fs with
    | nil => exact fun _ => ⟨rfl, Nat.zero_le _, rfl, Nat.zero_le _⟩
    | cons x fs ih =>
      intro h
      obtain ⟨a, b, c, e⟩ := ih fun y hy => h y (List.mem_cons_of_mem _ hy)
      have hx := h x (by simp)
      have ho := ok x.1 hx
      have z := shx_txts (tp := x.2.2) (hs := hg x.1) (fun y hy => ⟨(ho.one y hy).1, fun c hc => asc c ((ho.one y hy).2 c hc)⟩) (by exact ho.hi)
      have lf : (PyData.str (T [x.1])).leavesShort 25 = true := by
        show ([x.1].all fun c => decide (c < 16 ^ 8)) = true
        have := asc x.1 hx
        have : (128 : Nat) < 16 ^ 8 := by decide
        simp; omega
      have wk : (PyData.str (T [x.1])).weight = 1 := rfl
      have dk : (PyData.str (T [x.1])).depth = 0 := rfl
      have dz := z.dp
      have wz := z.wt
      rw [List.map_cons]
      refine ⟨?_, ?_, ?_, ?_⟩
      · rw [PyData.showableKv, a, z.sh]; rfl
      · rw [PyData.depthKv, dk]; omega
      · rw [PyData.leavesShortKv, c, z.lf, lf]; rfl
      · rw [PyData.weightKv, wk, List.length_cons]; omega
  obtain ⟨a, b, c, e⟩ := key es fun x hx => pm.mem_iff.mp (List.mem_map.mpr ⟨x, hx, rfl⟩)
  unfold encLn
  exact ⟨by rw [PyData.showable]; exact a, by rw [PyData.depth]; omega, by rw [PyData.leavesShort]; exact c, by rw [PyData.weight]; omega⟩
theorem dpXAll_txts {K : PySem.W.Frag} {N : Addr → Prop} {H : Hp} : ∀ ls : List (List Nat), DpXAll K N H (ls.map LT) (ls.map encT)
  | [] => .nil
  | l :: ls => .cons (.str _) (dpXAll_txts ls)
theorem LineK.dpx {K : PySem.W.Frag} {H : Hp} {d : Addr} {S : List Nat} {hg : Nat → List (List Nat)} {es : List (Nat × Addr × Bool)} (h : LineK H d S hg es) : DpX K (fun _ => False) H (.ref d) (encLn hg es) := by
  have hv : ∀ fs : List (Nat × Addr × Bool), (∀ e ∈ fs, H e.2.1 = some (hoT e.2.2 (hg e.1))) → DpXAll K (fun _ => False) H ((fs.map fun e => ((Sum.inr (T [e.1]) : Key), V.ref e.2.1)).map (·.2)) (fs.map fun e => encHd e.2.2 (hg e.1)) := by
    intro fs
    induction fs with
    | nil => exact fun _ => .nil
    | cons x fs ih =>
      intro hf
      refine .cons ?_ (ih fun y hy => hf y (List.mem_cons_of_mem _ hy))
      have hx := hf x (by simp)
      obtain ⟨c, a, tp⟩ := x
      cases tp
      · exact .lst (fun z => z) (.inl (.inl hx)) (dpXAll_txts _)
      · exact .tup (fun z => z) (.inl (.inl hx)) (dpXAll_txts _)
  have z := DpX.dct (K := K) (N := fun _ => False) (a := d) (fun z => z) h.dk (hv es h.at_)
  have e : (((es.map fun e => ((Sum.inr (T [e.1]) : Key), V.ref e.2.1)).map fun p => encK p.1).zip (es.map fun e => encHd e.2.2 (hg e.1))) = es.map fun e => (PyData.str (T [e.1]), encHd e.2.2 (hg e.1)) := by
    rw [List.map_map, List.zip_map']; rfl
  rw [e] at z
  exact z
end LK

/-! _law_right -/
namespace LK
open PySem PySem.Spec PyProof.Rows L2 LamX ClX
open scoped List
/-! ### what stays -/
def MachP (C p : Addr) (H : Hp) (a : Addr) (S : List Nat) (R : Rows) (Kd : List Bool) : Prop := ∃ (dx r k : Addr) (rs : List Addr), H a = some (.ins C dx (mf3 S r k)) ∧ H r = some (.lst (rs.map V.ref)) ∧ rs.length = R.length ∧
  (∀ (i : Nat) q, rs[i]? = some q → H q = some (.lst (iv (gls R i))) ∧ q ≠ p) ∧ H k = some (.lst (Kd.map V.bl)) ∧ r ≠ p ∧ k ≠ p
theorem MachP.m {C p : Addr} {H : Hp} {a : Addr} {S : List Nat} {R : Rows} {Kd : List Bool} (h : MachP C p H a S R Kd) : Mach C H a S R Kd := by
  obtain ⟨dx, r, k, rs, h1, h2, h3, h4, h5, _⟩ := h
  exact ⟨dx, r, k, rs, h1, h2, h3, fun i q hq => (h4 i q hq).1, h5⟩
theorem MachN.p {C p : Addr} {H0 H : Hp} {a : Addr} {S : List Nat} {R : Rows} {Kd : List Bool} (h : MachN C H0 H a S R Kd) (hp : Pot H0 p) : MachP C p H a S R Kd := by
  obtain ⟨i, j, d⟩ := Pot.lst hp
  have ne : ∀ {b : Addr}, H0 b = none → b ≠ p := fun hb z => by rw [z, d] at hb; cases hb
  obtain ⟨dx, r, k, rs, h1, h2, h3, h4, h5, h6, h7⟩ := h
  exact ⟨dx, r, k, rs, h1, h2, h3, fun i q hq => ⟨(h4 i q hq).1, ne (h4 i q hq).2⟩, h5, ne h6, ne h7⟩
structure Sc (C p : Addr) (H : Hp) (t d a : Addr) (S : List Nat) (R : Rows) (Kd : List Bool) (hg : Nat → List (List Nat)) (es : List (Nat × Addr × Bool)) : Prop where
  pot : Pot H p
  mod : ModN p H t R Kd
  mach : MachP C p H a S R Kd
  line : LineK H d S hg es
section
variable {C p : Addr} {H H' : Hp} {t d a : Addr} {S : List Nat} {R : Rows} {Kd : List Bool} {hg : Nat → List (List Nat)} {es : List (Nat × Addr × Bool)}
theorem ModN.keep {TT : List (Addr × Str)} (h : ModN p H t R Kd) (hp : Pot H p) (e : Ex TT (at1 p) H H') : ModN p H' t R Kd := by
  obtain ⟨i, j, dd⟩ := Pot.lst hp
  obtain ⟨r, k, rs, h1, h2, h3, h4, h5, h6, h7⟩ := h
  refine ⟨r, k, rs, e.keep _ _ (fun z => ?_) h1 (fun _ z => nomatch z), e.keep _ _ h5 h2 (fun _ z => nomatch z), h3, fun i q hq => ⟨(h4 i q hq).1, e.keep _ _ (h4 i q hq).1 (h4 i q hq).2 (fun _ z => nomatch z)⟩, h5, h6, e.keep _ _ h6 h7 (fun _ z => nomatch z)⟩
  have z : t = p := z
  rw [z, dd] at h1; cases h1
theorem Sc.keep {TT : List (Addr × Str)} (h : Sc C p H t d a S R Kd hg es) (ok : LineOk S hg) (hp' : Pot H' p) (e : Ex TT (at1 p) H H') : Sc C p H' t d a S R Kd hg es := by
  refine ⟨hp', h.mod.keep h.pot e, ?_, h.line.keep ok h.pot e⟩
  obtain ⟨i, j, dd⟩ := Pot.lst h.pot
  obtain ⟨dx, r, k, rs, h1, h2, h3, h4, h5, h6, h7⟩ := h.mach
  refine ⟨dx, r, k, rs, e.keep _ _ (fun z => ?_) h1 (fun _ z => nomatch z), e.keep _ _ h6 h2 (fun _ z => nomatch z), h3, fun i q hq => ⟨e.keep _ _ (h4 i q hq).2 (h4 i q hq).1 (fun _ z => nomatch z), (h4 i q hq).2⟩, e.keep _ _ h7 h5 (fun _ z => nomatch z), h6, h7⟩
  have z : a = p := z
  rw [z, dd] at h1; cases h1
theorem Pot.same (h : Pot H p) (e : Same H H') : Pot H' p := by
  obtain ⟨i, j, a, b, c, dd⟩ := h; exact ⟨i, j, a, b, c, e _ _ dd⟩
theorem Sc.same (h : Sc C p H t d a S R Kd hg es) (e : Same H H') : Sc C p H' t d a S R Kd hg es := by
  refine ⟨h.pot.same e, ?_, ?_, h.line.ext e⟩
  · obtain ⟨r, k, rs, h1, h2, h3, h4, h5, h6, h7⟩ := h.mod
    exact ⟨r, k, rs, e _ _ h1, e _ _ h2, h3, fun i q hq => ⟨(h4 i q hq).1, e _ _ (h4 i q hq).2⟩, h5, h6, e _ _ h7⟩
  · obtain ⟨dx, r, k, rs, h1, h2, h3, h4, h5, h6, h7⟩ := h.mach
    exact ⟨dx, r, k, rs, e _ _ h1, e _ _ h2, h3, fun i q hq => ⟨e _ _ (h4 i q hq).1, (h4 i q hq).2⟩, e _ _ h5, h6, h7⟩
/-- a list of texts that none of it is may be written -/
theorem Sc.z {z : Addr} {hs : List (List Nat)} (h : Sc C p H t d a S R Kd hg es) (ok : ShOk S R Kd) (hz : H z = some (.lst (hs.map LT))) (ne : hs ≠ []) (nz : ∀ e ∈ es, e.2.1 ≠ z) (b : But1 (at1 z) H H') : Sc C p H' t d a S R Kd hg es := by
  obtain ⟨x, r0, rfl⟩ : ∃ x r, hs = x :: r := by cases hs with
    | nil => exact (ne rfl).elim
    | cons x r => exact ⟨x, r, rfl⟩
  have lo := ok.lo
  have lS := ok.let_.lo
  have lk := ok.kinds
  have nl : ∀ {c : Addr} {o : HO}, H c = some o → o ≠ .lst (LT x :: r0.map LT) → c ≠ z := fun hc no e => by
    rw [e, hz] at hc
    exact no (Option.some.inj hc).symm
  have nrow : ∀ {c : Addr} {i : Nat}, i < R.length → H c = some (.lst (iv (gls R i))) → c ≠ z := fun {c i} li hc => nl hc fun e => by
    have lg := gls_len ok.rows li
    cases hh : gls R i with
    | nil => rw [hh] at lg; rw [← lg] at lS; exact absurd lS (by simp)
    | cons g l => rw [hh] at e; cases e
  have nref : ∀ {c : Addr} {rs : List Addr}, rs.length = R.length → H c = some (.lst (rs.map V.ref)) → c ≠ z := fun {c rs} l hc => nl hc fun e => by
    cases rs with
    | nil => rw [← l] at lo; exact absurd lo (by simp)
    | cons g l => cases e
  have nbl : ∀ {c : Addr}, H c = some (.lst (Kd.map V.bl)) → c ≠ z := fun {c} hc => nl hc fun e => by
    cases hk : Kd with
    | nil => rw [hk] at lk; rw [← lk] at lo; exact absurd lo (by simp)
    | cons g l => rw [hk] at e; cases e
  refine ⟨?_, ?_, ?_, ⟨b _ _ (nl h.line.dk (by exact fun e => nomatch e)) h.line.dk, h.line.pm, fun e he => b _ _ (nz e he) (h.line.at_ e he)⟩⟩
  · obtain ⟨i, j, a1, a2, a3, dd⟩ := h.pot
    exact ⟨i, j, a1, a2, a3, b _ _ (nl dd (by exact fun e => nomatch e)) dd⟩
  · obtain ⟨r, k, rs, h1, h2, h3, h4, h5, h6, h7⟩ := h.mod
    exact ⟨r, k, rs, b _ _ (nl h1 (by exact fun e => nomatch e)) h1, b _ _ (nref h3 h2) h2, h3, fun i q hq => ⟨(h4 i q hq).1, b _ _ (nrow (by have := (List.getElem?_eq_some_iff.mp hq).1; omega) (h4 i q hq).2) (h4 i q hq).2⟩, h5, h6, b _ _ (nbl h7) h7⟩
  · obtain ⟨dx, r, k, rs, h1, h2, h3, h4, h5, h6, h7⟩ := h.mach
    exact ⟨dx, r, k, rs, b _ _ (nl h1 (by exact fun e => nomatch e)) h1, b _ _ (nref h3 h2) h2, h3, fun i q hq => ⟨b _ _ (nrow (by have := (List.getElem?_eq_some_iff.mp hq).1; omega) (h4 i q hq).1) (h4 i q hq).1, (h4 i q hq).2⟩, b _ _ (nbl h5) h5, h6, h7⟩
end
/-- rows and kinds, by their own names -/
def RK (p : Addr) (H : Hp) (r k : Addr) (A : Rows) (KA : List Bool) : Prop := ∃ rs : List Addr, H r = some (.lst (rs.map V.ref)) ∧ rs.length = A.length ∧ (∀ (i : Nat) q, rs[i]? = some q → q ≠ p ∧ H q = some (.lst (iv (gls A i)))) ∧ r ≠ p ∧ k ≠ p ∧ H k = some (.lst (KA.map V.bl))
section
variable {p : Addr} {H H' : Hp} {r k : Addr} {A : Rows} {KA : List Bool}
theorem RK.rows (h : RK p H r k A KA) : RowsL H r A := by
  obtain ⟨rs, h1, h2, h3, _⟩ := h
  exact ⟨rs, h1, h2, fun i q hq => (h3 i q hq).2⟩
theorem RK.kinds (h : RK p H r k A KA) : H k = some (.lst (KA.map V.bl)) := by
  obtain ⟨rs, _, _, _, _, _, h⟩ := h; exact h
theorem RK.keep {TT : List (Addr × Str)} (h : RK p H r k A KA) (e : Ex TT (at1 p) H H') : RK p H' r k A KA := by
  obtain ⟨rs, h1, h2, h3, h4, h5, h6⟩ := h
  exact ⟨rs, e.keep _ _ h4 h1 (fun _ z => nomatch z), h2, fun i q hq => ⟨(h3 i q hq).1, e.keep _ _ (h3 i q hq).1 (h3 i q hq).2 (fun _ z => nomatch z)⟩, h4, h5, e.keep _ _ h5 h6 (fun _ z => nomatch z)⟩
theorem RK.same (h : RK p H r k A KA) (e : Same H H') : RK p H' r k A KA := h.keep (.same (TT := []) e)
end
def five5 : List (List Nat) := [[97, 98], [97, 98], [97, 98, 99], [97], [98, 122]]
theorem five5_ok : ∀ S ∈ five5, LetOk S := by
  intro S h
  simp only [five5, List.mem_cons, List.mem_nil_iff, or_false] at h
  rcases h with rfl | rfl | rfl | rfl | rfl
  all_goals exact ⟨by show List.Pairwise (· < ·) _; decide, by show ∀ c ∈ _, c ∈ smalls; decide +kernel, by decide, by decide⟩
theorem list2_len (a b : Str) : (listText [a, b]).length = a.length + b.length + 4 := by
  unfold listText textFrom textFrom textFrom
  simp only [strLen_append]
  rw [if_neg (Nat.lt_irrefl 0), if_pos (Nat.zero_lt_succ 0)]
  show 1 + 0 + a.length + 2 + b.length + 1 = _
  omega
def lookT (S : List Nat) (R : Rows) (Kd : List Bool) (hg : Nat → List (List Nat)) (es : List (Nat × Addr × Bool)) : Str := listText [spk S R Kd, (encLn hg es).shown]
/-- repr([gear, wire]) -/
theorem rep_look {K : PySem.W.Frag} {C p : Addr} {σ : L2.St} {H : Hp} {Q : VK} {t d a : Addr} {S : List Nat} {R : Rows} {Kd : List Bool} {hg : Nat → List (List Nat)} {es : List (Nat × Addr × Bool)} (i4 : σ[4]? = some (some (.ref a))) (i3 : σ[3]? = some (some (.ref d)))
    (sc : Sc C p H t d a S R Kd hg es) (ok : ShOk S R Kd) (hok : LineOk S hg) (q : ∀ H', Same H H' → Q (.str (lookT S R Kd hg es)) H') : tCB (reprID K C (spRepr C)) (tCons (tLst (tCons (uVar 4) (tCons (uVar 3) tNil))) tNil) σ H Q := by
  have sl := sizeLine_eq
  dsimp only [tCB, tCons, tLst]
  refine uvq i4 (uvq i3 ?_)
  refine ⟨by show 2 ≤ sizeLine; omega, fun L nL => ?_⟩
  have e7 : Same H (upd H L (.lst [.ref a, .ref d])) := same_upd nL
  have hw := shx_line ok.let_ hok sc.line.pm
  have lline : (encLn hg es).shown.length ≤ 27 * 100000 + 100 := by
    have := PyData.shown_le 25 (by omega) (encLn hg es) hw.lf
    have := hw.wt
    omega
  have lspk : (spk S R Kd).length ≤ 100000 := by
    have b1 := rep_let ok.let_
    have b2 := (shn_rows ok).len
    have b3 := (shn_kinds ok).len
    unfold spk
    simp only [strLen_append]
    have c1 : Str.empty.length = 0 := rfl
    have c2 : ("Machine(" : Str).length = 8 := rfl
    have c3 : (", " : Str).length = 2 := rfl
    have c4 : (")" : Str).length = 1 := rfl
    omega
  have llk := list2_len (spk S R Kd) (encLn hg es).shown
  have sc7 := sc.same e7
  refine ⟨a, .ref d, spk S R Kd, fun _ => False, encLn hg es, upd_same, fun H' e' => ?_, fun H' e' => (sc7.line.ext fun b o hb => e' b o hb).dpx, hw, by omega, fun H7 e7' => q H7 (e7.trans fun b o hb => e7' b o hb)⟩
  have sc' := sc7.same fun b o hb => e' b o hb
  obtain ⟨dx, _, _, _, i1, _⟩ := id sc'.mach
  exact ⟨dx, _, i1, a, S, R, Kd, rfl, sc'.mach.m, ok, rfl, Ext.rfl'⟩
theorem lineK_put {H : Hp} {d c : Addr} {S ns : List Nat} {hg : Nat → List (List Nat)} {af : Nat → Addr} {hs : List (List Nat)} (h : LineK H d S hg (ns.map fun c => (c, af c, false))) (inj : ∀ x ∈ ns, ∀ y ∈ ns, af x = af y → x = y) (hc : c ∈ ns) :
    LineK (upd H (af c) (.lst (hs.map LT))) d S (fun x => if x = c then hs else hg x) (ns.map fun c => (c, af c, false)) := by
  have hz : H (af c) = some (.lst ((hg c).map LT)) := h.at_ (c, af c, false) (List.mem_map.mpr ⟨c, hc, rfl⟩)
  refine ⟨?_, h.pm, fun e he => ?_⟩
  · rw [upd_ne (fun z => by have := h.dk; rw [z, hz] at this; cases this)]; exact h.dk
  · have h0 := h.at_ e he
    obtain ⟨x, hx, rfl⟩ := List.mem_map.mp he
    by_cases z : x = c
    · subst z
      show upd H (af x) _ (af x) = some (hoT false (if x = x then hs else hg x))
      rw [upd_same, if_pos rfl]; rfl
    · show upd H (af c) _ (af x) = some (hoT false (if x = c then hs else hg x))
      rw [upd_ne (fun y => z (inj x hx c hc y)), if_neg z]
      exact h0
theorem LineK.but {H H' : Hp} {d z : Addr} {S : List Nat} {hg : Nat → List (List Nat)} {es : List (Nat × Addr × Bool)} {xs : List V} (h : LineK H d S hg es) (b : But1 (at1 z) H H') (hz : H z = some (.lst xs)) (nz : ∀ e ∈ es, e.2.1 ≠ z) : LineK H' d S hg es :=
  ⟨b _ _ (fun y => by have y : d = z := y; have := h.dk; rw [y, hz] at this; cases this) h.dk, h.pm, fun e he => b _ _ (nz e he) (h.at_ e he)⟩
theorem LineK.get {H : Hp} {d : Addr} {S : List Nat} {hg : Nat → List (List Nat)} {es : List (Nat × Addr × Bool)} (h : LineK H d S hg es) (nd : S.Nodup) {e : Nat × Addr × Bool} (he : e ∈ es) : DGet H d (.str (T [e.1])) (some (.ref e.2.1)) := by
  have g := DGet.k (k := .inr (T [e.1])) h.dk
  have kn := keys_nd (h.pm.nodup_iff.mpr nd)
  have v := valV_mem (kvs := es.map fun e => ((Sum.inr (T [e.1]) : Key), V.ref e.2.1)) (k := .inr (T [e.1])) (v := .ref e.2.1) (by rw [List.map_map] at kn ⊢; exact kn) (List.mem_map.mpr ⟨e, he, rfl⟩)
  rw [v] at g
  exact g
theorem Mach.extN {C : Addr} {H H' : Hp} {a : Addr} {S : List Nat} {R : Rows} {Kd : List Bool} (h : Mach C H a S R Kd) (e : ExtN H H') : Mach C H' a S R Kd := by
  obtain ⟨dx, r, k, rs, h1, h2, h3, h4, h5⟩ := h
  exact ⟨dx, r, k, rs, e _ _ h1 (fun _ z => nomatch z), e _ _ h2 (fun _ z => nomatch z), h3, fun i q hq => e _ _ (h4 i q hq) (fun _ z => nomatch z), e _ _ h5 (fun _ z => nomatch z)⟩
theorem Pot.extN {H H' : Hp} {p : Addr} (h : Pot H p) (e : ExtN H H') : Pot H' p := by
  obtain ⟨i, j, a, b, c, dd⟩ := h; exact ⟨i, j, a, b, c, e _ _ dd (fun _ z => nomatch z)⟩

section
variable {P : Program} {w : World} {K : PySem.W.Frag} {mg : Str → Option Value} {base : Heap} {C : Addr}
abbrev nRt : List Str := ["_law_pot_here", "_law_signs", "_law_model_here", "_law_wire", "_law_gear", "_law_rows_here", "_law_kinds_here", "_law_look", "_law_due", "_law_other", "_law_told", "_law_fresh", "_law_sign"]
theorem scRt : FnScope nRt ["_law_pot_here"] (defScope sRight) := ⟨rfl, rfl, rfl, by decide +kernel, rfl, by decide +kernel, by decide +kernel⟩
def spRt (Pt : Addr) : Sp := fun vs H Q _ => ∃ (p : Addr), vs = [.ref p] ∧ Pot H p ∧ Tabs (T1G Pt) H ∧ ∀ H', Ex (T1G Pt) (at1 p) H H' → Q (.bl true) H'
theorem ok_rt {f Pt : Addr} {fd : FuncData} {k : Nat} (F : Fun K "_law_right" "_law_right" sRight f fd) (M : Mx mg) (gDict : mg "dict" = none) (cM : ClsM K C) (iM : IsM K C) (cE : EqC K C) (SM : SysD base)
    (HPk : Has P w K mg base (k + 2) "_law_pick" ["_law_pot_here", "_law_some"] (spPick (T1G Pt))) (HMd : Has P w K mg base (k + 2) "_law_model" ["_law_pot_here", "_law_signs", "_law_most"] (spMod (T1G Pt) K)) (HLn : Has P w K mg base (k + 2) "_law_line" ["_law_pot_here", "_law_signs"] (spLn (T1G Pt) K))
    (HMx : Has P w K mg base (k + 2) "_law_mixed" ["_law_pot_here", "_law_some"] (spMixed (T1G Pt) K)) (HHR : Has P w K mg base (k + 2) "_law_heard_rows" ["_law_signs", "_law_model_here", "_law_road"] (spHR K)) (HHd : Has P w K mg base (k + 2) "heard" ["machine", "line"] (spHeardP K C Pt))
    (HI : HasI P w K mg base (k + 1) "Machine" C ["letters", "rows", "kinds"] (spInit K C)) (HL : HasP P w K mg base (k + 1) C "letters" (getSp C "_letters")) (HRo : HasM P w K mg base (k + 2) C "rows" [] (spRows C)) (HKi : HasM P w K mg base (k + 2) C "kinds" [] (spKinds C)) (HLe : HasM P w K mg base (k + 2) C "least" [] (spLeast C))
    (HRp : HasR P w K mg base k C "__repr__" (spRepr C)) (HQ : HasM P w K mg base (k + 1) C "__eq__" ["other"] (spEq K C)) :
    FnG P w K mg base CX0 (k + 3) f fd ["_law_pot_here"] (spRt Pt) := by
  refine okG F scRt (fun vs H Q E h => ?_) (fun cdv A hA outer s H vs Q E hr h => ?_)
  · obtain ⟨p, rfl, _⟩ := h; rfl
  · obtain ⟨p, rfl, hp, tb, q⟩ := h
    have nd := scRt.nd
    have sl := sizeLine_eq
    have hu := Room.u64 hr
    have hr1 := hr.mono (show k + 1 + 1 ≤ k + 2 by omega)
    refine ⟨_, (pss_cons (ps_set (i := 1) nd rfl (.inl rfl) (pe_callH HPk hA hr (by rfl) (pa_cons (uv 0) (pa_cons (pe_lst (pa_cons (ustr [97, 98]) (pa_cons (ustr [97, 98]) (pa_cons (ustr [97, 98, 99]) (pa_cons (ustr [97]) (pa_cons (ustr [98, 122]) pa_nil)))))) pa_nil))))
      (pss_cons (ps_asg (pe_tup (pa_cons (pe_callH HMd hA hr (by rfl) (pa_cons (uv 0) (pa_cons (uv 1) (pa_cons pe_int pa_nil)))) (pa_cons (pe_callH HLn hA hr (by rfl) (pa_cons (uv 0) (pa_cons (uv 1) pa_nil))) pa_nil))) (pg_tup rfl (pgs_cons (pg_name (i := 2) nd rfl (.inl rfl)) (pgs_cons (pg_name (i := 3) nd rfl (.inr rfl)) pgs_nil))) rfl)
      (pss_cons (ps_set (i := 4) nd rfl (.inl rfl) (pe_mkI HI hA hr (by rfl) (pa_cons (uv 1) (pa_cons (pe_ixK (K := K) rfl (uv 2) pe_int) (pa_cons (pe_ixK (K := K) rfl (uv 2) pe_int) pa_nil)))))
      (pss_cons (ps_asg (pe_callH HHR hA hr (by rfl) (pa_cons (uv 1) (pa_cons (uv 2) (pa_cons (uv 3) pa_nil)))) (pg_tup rfl (pgs_cons (pg_name (i := 5) nd rfl (.inl rfl)) (pgs_cons (pg_name (i := 6) nd rfl (.inl rfl)) pgs_nil))) rfl)
      (pss_cons (ps_par (i := 7) (j := 8) (by rfl) nd rfl rfl (by decide) rfl rfl (pa_cons (pe_callB (c_reprID (C := C) HRp hA hr SM) (by rfl) M.repr b_repr (pa_cons (pe_lst (pa_cons (uv 4) (pa_cons (uv 3) pa_nil))) pa_nil)) (pa_cons (pe_callB (c_repr hA hu) (by rfl) M.repr b_repr (pa_cons (pe_lst (pa_cons (uv 1) (pa_cons (uv 5) (pa_cons (uv 6) pa_nil)))) pa_nil)) pa_nil)) (by rfl))
      (pss_cons (ps_set (i := 9) nd rfl (.inl rfl) (pe_callTy (call_dictP rfl) (by rfl) gDict b_dict (pa_cons (pe_cl (pe_lc (own := [("_law_sign", 12)]) (g := gName 12) (tt := tYes) rfl nd (pi_listK (K := K) rfl (pe_cl (pe_callH HMx hA hr (by rfl) (pa_cons (uv 0) (pa_cons (pe_callTy (c_listT rfl) (by rfl) M.list b_list (pa_cons (uv 1) pa_nil)) pa_nil))))) (blkOk_by (N := nRt) (sc := defScope sRight) (by decide +kernel))
          (fun _ _ _ _ _ => pg_name (i := 12) nd rfl (Or.inl rfl)) (fun _ _ _ _ _ => pts_nil)
          (fun _ _ _ _ _ => (pe_tup (pa_cons (uv 12) (pa_cons (pe_callH HMx hA hr (by rfl) (pa_cons (uv 0) (pa_cons (pe_dget (Room.u1 hr) (uv 3) (uv 12) (fun _ _ => rfl)) pa_nil))) pa_nil)))))) pa_nil)))
      (pss_cons (ps_for PassesOwn.never rfl (pi_listK (K := K) rfl (pe_cl (pe_lst (pa_cons (pe_callH HHd hA hr (by rfl) (pa_cons (uv 4) (pa_cons (uv 3) pa_nil))) (pa_cons (pe_callHK (ks := ["line", "machine"]) (g := List.reverse) (gV := List.reverse) HHd hA hr (by rfl) (pk_cons (uv 3) (pk_cons (uv 4) pk_nil)) (by rfl) (by rfl) (by rfl) (fun f fd b s ws l l2 => match ws, l with | [x, y], _ => (b s [y, x] rfl).2) (fun zs ws r l => ⟨r.reverse, by rw [← r.length, ← List.length_reverse]; exact l⟩)) (pa_cons (pe_callH HHd hA hr (by rfl) (pa_cons (uv 4) (pa_cons (uv 9) pa_nil))) pa_nil)))))) (pg_name (i := 10) nd rfl (.inl rfl))
        (pss_cons (ps_ifU (pt_cu (r := eqU K true) (o_ne hr.units) (pe_callB (c_repr hA hu) (by rfl) M.repr b_repr (pa_cons (pe_lst (pa_cons (pe_propH HL cM.cls hr (uv 10)) (pa_cons (pe_mH0 HRo cM.cls hA hr (uv 10)) (pa_cons (pe_mH0 HKi cM.cls hA hr (uv 10)) pa_nil)))) pa_nil)) (uv 8)) (pss_one (ps_ret pe_bl)) pss_nil)
      (pss_one (ps_ifU (pt_cl (PW.pt (pw_orU (pt_cu (o_neI HQ cE hA hr1) (uv 10) (pe_mkI HI hA hr (by rfl) (pa_cons (uv 1) (pa_cons (uv 5) (pa_cons (uv 6) pa_nil))))) (pw_or1 (pt_cu (o_neI HQ cE hA hr1) (pe_mH0 HLe cM.cls hA hr (uv 10)) (uv 10)))))) (pss_one (ps_ret pe_bl)) pss_nil))))
      (pss_cons (ps_par (i := 11) (j := 12) (by rfl) nd rfl rfl (by decide) rfl rfl (pa_cons (pe_callH HLn hA hr (by rfl) (pa_cons (uv 0) (pa_cons (uv 1) pa_nil))) (pa_cons (pe_callH HPk hA hr (by rfl) (pa_cons (uv 0) (pa_cons (uv 1) pa_nil))) pa_nil)) (by rfl))
      (pss_cons (ps_expr (pe_bm0 PySem.F.plainAttrs_list PySem.F.slot_list_clear PySem.F.type_list_clear mt_clear (pe_dget (Room.u1 hr) (uv 9) (uv 12) (fun _ _ => rfl))))
      (pss_cons (ps_expr (pe_bm PySem.F.plainAttrs_list PySem.F.slot_list_extend PySem.F.type_list_extend (mt_extB (K := K) rfl) (pe_dget (Room.u1 hr) (uv 9) (uv 12) (fun _ _ => rfl)) (pa_cons (pe_dget (Room.u1 hr) (uv 11) (uv 12) (fun _ _ => rfl)) pa_nil)))
      (pss_cons (ps_asg (pe_callH HHR hA hr (by rfl) (pa_cons (uv 1) (pa_cons (uv 2) (pa_cons (uv 9) pa_nil)))) (pg_tup rfl (pgs_cons (pg_name (i := 5) nd rfl (.inl rfl)) (pgs_cons (pg_name (i := 6) nd rfl (.inl rfl)) pgs_nil))) rfl)
      (pss_cons (ps_set (i := 10) nd rfl (.inl rfl) (pe_callH HHd hA hr (by rfl) (pa_cons (uv 4) (pa_cons (uv 9) pa_nil))))
      (pss_cons (ps_ifU (pt_cu (r := eqU K true) (o_ne hr.units) (pe_callB (c_repr hA hu) (by rfl) M.repr b_repr (pa_cons (pe_lst (pa_cons (pe_mH0 HRo cM.cls hA hr (uv 10)) (pa_cons (pe_mH0 HKi cM.cls hA hr (uv 10)) pa_nil))) pa_nil)) (pe_callB (c_repr hA hu) (by rfl) M.repr b_repr (pa_cons (pe_lst (pa_cons (uv 5) (pa_cons (uv 6) pa_nil))) pa_nil))) (pss_one (ps_ret pe_bl)) pss_nil)
      (pss_cons (ps_set (i := 10) nd rfl (.inl rfl) (pe_callH HHd hA hr (by rfl) (pa_cons (uv 4) (pa_cons (uv 3) pa_nil))))
      (pss_one (ps_ret (pe_andU (pe_cu (r := eqU K false) (o_eq hr.units) (pe_callB (c_reprID (C := C) HRp hA hr SM) (by rfl) M.repr b_repr (pa_cons (pe_lst (pa_cons (uv 4) (pa_cons (uv 3) pa_nil))) pa_nil)) (uv 7)) (pe_one (pe_cu (r := eqU K false) (o_eq hr.units) (pe_callB (c_repr hA hu) (by rfl) M.repr b_repr (pa_cons (pe_lst (pa_cons (pe_propH HL cM.cls hr (uv 10)) (pa_cons (pe_mH0 HRo cM.cls hA hr (uv 10)) (pa_cons (pe_mH0 HKi cM.cls hA hr (uv 10)) pa_nil)))) pa_nil)) (uv 8)))))))))))))))))))), ?_⟩
    refine ⟨by show 5 ≤ sizeLine; omega, fun L0 nL0 => ?_⟩
    have e1 : Ex (T1G Pt) (at1 p) H (upd H L0 (.lst (five5.map LT))) := .new nL0
    refine ⟨p, .ref L0, rfl, hp.put (hp.ne nL0), .inl ⟨L0, five5.map LT, rfl, (hp.ne nL0).symm, upd_same, by decide, by decide, fun H1 x e2 hp1 hx => ?_⟩⟩
    obtain ⟨S, h5, rfl⟩ := List.mem_map.mp hx
    have lt := five5_ok S h5
    have l3 := lt.hi
    have l1 := lt.lo
    have ndS := lt.up.nodup
    have e01 := e1.trans e2
    clear e1 e2 hx nL0
    refine ⟨p, S, 5, rfl, hp1, lt, by omega, by omega, fun H2 t R Kd e2 hp2 newt ntp hmod ok wh hR5 => ?_⟩
    refine ⟨p, S, rfl, hp2, lt, fun H3 d hg es e3 hp3 newd ndp hline hok hnew => ?_⟩
    refine ⟨by show 2 ≤ sizeLine; omega, fun T0 nT0 => ?_⟩
    have e4 : Same H3 (upd H3 T0 (.tup [.ref t, .ref d])) := same_upd nT0
    have e04 : Ex (T1G Pt) (at1 p) H (upd H3 T0 (.tup [.ref t, .ref d])) := ((e01.trans e2).trans e3).trans (.same e4)
    have hmod4 := (hmod.keep hp2 e3).keep hp3 (.same (TT := T1G Pt) e4)
    have hline4 := hline.ext e4
    have hp4 := hp3.same e4
    refine ⟨T0, _, rfl, .inl (.inl upd_same), rfl, _, _, rfl, _, _, rfl, rfl, ?_⟩
    generalize upd H3 T0 (.tup [.ref t, .ref d]) = H4 at e4 e04 hmod4 hline4 hp4
    clear e01 e2 e3 e4 hmod hline hp3 hp2 hp1 nT0 newd newt
    obtain ⟨r, kk, rs, m1, m2, m3, m4, m5, m6, m7⟩ := id hmod4
    refine ⟨_, .ref r, .inr (.inl (.inl m1)), rfl, _, .ref kk, .inr (.inl (.inl m1)), rfl, ⟨rfl, mach_newN ok wh (RowsL.at ⟨rs, m2, m3, fun i q hq => (m4 i q hq).2⟩) (kindsL_at m7) fun H5 a e5 na mach => ?_⟩⟩
    have sc5 : Sc C p H5 t d a S R Kd hg es := ⟨hp4.same e5, hmod4.keep hp4 (.same (TT := T1G Pt) e5), mach.p hp4, hline4.ext e5⟩
    have e05 := e04.trans (.same e5)
    clear m1 m2 m4 m7 na mach e5 e04 hmod4 hline4 hp4
    refine ⟨t, d, S, R, Kd, hg, rfl, sc5.mod.at, ok, hR5, (sc5.line.w ndS).at, fun H6 t' A KA e6 hmA loA => ?_⟩
    have sc6 := sc5.same e6
    have e06 := e05.trans (.same e6)
    have shA := loA.shOk (hSh (hg := hg) ok hR5)
    obtain ⟨r', k', rs', a1, b2, b3, b4, b5, b6, a3⟩ := hmA.n sc5.pot
    have a2 : RK p H6 r' k' A KA := ⟨rs', b2, b3, b4, b5, b6, a3⟩
    clear sc5 e05 e6
    refine ⟨t', _, rfl, .inl (.inl a1), rfl, _, _, rfl, _, _, rfl, rfl, ?_⟩
    clear a1 b2 b3 b4 b5 b6 a3 hmA
    dsimp only [tSeq, tPar]
    rw [tCons_d]
    refine rep_look rfl rfl sc6 ok hok fun H7 e7 => ?_
    have sc8 := sc6.same e7
    have e08 := e06.trans (.same e7)
    have a2' := a2.same e7
    clear sc6 e06 e7 a2
    refine ⟨by show 3 ≤ sizeLine; omega, fun L2 nL2 => ?_⟩
    have e9 : Same H7 (upd H7 L2 (.lst [.str (T S), .ref r', .ref k'])) := same_upd nL2
    refine ⟨enc3 S A KA, .lst (.inl (.inl upd_same)) (.cons (.str _) (.cons (dp_rowsL (a2'.same e9).rows) (.cons (dp_kindsL (a2'.same e9).kinds) .nil))), shw3 shA, _, _, rfl, ?_⟩
    have sc9 := sc8.same e9
    have e09 := e08.trans (.same e9)
    have a2 := a2'.same e9
    generalize upd H7 L2 (.lst [.str (T S), .ref r', .ref k']) = H8 at e9 sc9 e09 a2
    clear sc8 e08 e9 a2' nL2 H7
    dsimp only [tSeq, tAsg, gName, tCB, tCons]
    refine ⟨fun v H' => ∃ (B : Addr) (ns : List Nat) (ps : List Addr) (af : Nat → Addr) (h2 : Nat → List (List Nat)), v = .ref B ∧ Ex (T1G Pt) (at1 p) H8 H' ∧ Pot H' p ∧ ns ~ S ∧ H' B = some (.lst (ps.map V.ref)) ∧ Paired (fun q kv => SqT K H' q [kV kv.1, kv.2]) ps (ns.map fun c => ((Sum.inr (T [c]) : Key), V.ref (af c))) ∧
      (∀ c ∈ S, H' (af c) = some (.lst ((h2 c).map LT)) ∧ h2 c ~ hg c ∧ New H8 (af c) ∧ af c ≠ p) ∧ (∀ x ∈ S, ∀ y ∈ S, af x = af y → x = y), lc_listC ?_, fun v H' z => ?_⟩
    · refine ⟨by show (cs (T S)).length ≤ sizeLine; rw [cs_T]; omega, fun L3 nL3 => ?_⟩
      have hL3 : (upd H8 L3 (.lst (lets (cs (T S))))) L3 = some (.lst (lets S)) := by rw [upd_same, cs_T]
      have eL3 : Ex (T1G Pt) (at1 p) H8 (upd H8 L3 (.lst (lets (cs (T S))))) := .new nL3
      have hpL : Pot (upd H8 L3 (.lst (lets (cs (T S))))) p := sc9.pot.put (sc9.pot.ne nL3)
      generalize upd H8 L3 (.lst (lets (cs (T S)))) = H1 at hL3 eL3 hpL
      refine ⟨p, L3, false, lets S, rfl, hpL, .inl (.inl hL3), by simp [lets]; omega, fun H2 Y ys e2 hp2 newY nYp hY pm => ?_⟩
      obtain ⟨ns, rfl, pmn⟩ := perm_mapI pm S rfl
      have e82 := eL3.trans e2
      have ndn : ns.Nodup := pmn.nodup_iff.mpr ndS
      clear eL3 e2 hL3 hpL nL3 pm newY
      refine ⟨Y, _, rfl, .inl (.inl hY), fun D pre acc H3 => H2 D = none ∧ Ex (T1G Pt) (at1 p) H2 H3 ∧ Pot H3 p ∧ H3 D = some (.lst acc) ∧ ∃ (ps : List Addr) (af : Nat → Addr) (h2 : Nat → List (List Nat)), acc = ps.map V.ref ∧ ps.length = pre.length ∧
          (∀ (i : Nat) q c, ps[i]? = some q → ns[i]? = some c → q ≠ D ∧ H3 q = some (.tup [.str (T [c]), .ref (af c)])) ∧ (∀ x ∈ ns.take pre.length, H3 (af x) = some (.lst ((h2 x).map LT)) ∧ h2 x ~ hg x ∧ New H8 (af x) ∧ af x ≠ p ∧ af x ≠ D) ∧
          (∀ x ∈ ns.take pre.length, ∀ y ∈ ns.take pre.length, af x = af y → x = y),
        fun D pre acc H3 r => .inl (.inl (r.2.1.keep _ _ nYp hY (fun _ z => nomatch z))), fun D nD => ⟨nD, .new nD, hp2.put (hp2.ne nD), upd_same, [], fun _ => 0, fun _ => [], rfl, rfl, (fun i q c z => (nil_none z).elim), (fun x z => nomatch z), fun x z => nomatch z⟩, fun D nD pre acc x suf H3 e r => ?_, fun D nD acc H3 r => ?_⟩
      · obtain ⟨_, e3, hp3, hD, ps, af, h2, rfl, lp, hps, haf, inj⟩ := r
        have hx : (ns.map fun c => V.str (T [c]))[pre.length]? = some x := by rw [e]; simp
        rw [List.getElem?_map] at hx
        obtain ⟨c, hc, rfl⟩ := Option.map_eq_some_iff.mp hx
        have hcS : c ∈ S := pmn.mem_iff.mp (List.mem_of_getElem? hc)
        have lc := (List.getElem?_eq_some_iff.mp hc).1
        have tk : ns.take (pre.length + 1) = ns.take pre.length ++ [c] := by rw [List.take_add_one, hc]; rfl
        have hcn : c ∉ ns.take pre.length := fun z => by
          have := ndn.sublist (List.take_sublist (pre.length + 1) ns)
          rw [tk, List.nodup_append] at this
          exact this.2.2 c z c List.mem_cons_self rfl
        have sc3 := sc9.keep hok hp3 (e82.trans e3)
        obtain ⟨kvs, w1, w2, w3⟩ := sc3.line.w ndS
        obtain ⟨v, hv, va, tp, rfl, hva⟩ := w3 c hcS
        have g := DGet.k (k := .inr (T [c])) w1
        rw [hv] at g
        have okc := hok c hcS
        have nDp : D ≠ p := (hp2.ne nD).symm
        have newD2 : New H2 D := fun b o hb _ z => by rw [z, nD] at hb; cases hb
        refine ⟨rfl, ?_⟩
        refine ⟨d, _, rfl, g, ?_⟩
        refine ⟨p, va, tp, (hg c).map LT, rfl, hp3, hoT_sq hva, by rw [List.length_map]; have := okc.hi; omega, fun H4 Y2 ys e4 hp4 newY nYp2 hY2 pm2 => ?_⟩
        obtain ⟨h9, rfl, pm9⟩ := perm_mapI pm2 (hg c) rfl
        have nYD : Y2 ≠ D := fun z => newY D _ hD (fun _ y => nomatch y) z.symm
        have newY8 : New H8 Y2 := newNN (e82.trans e3) newY nYp2
        have hD4 := e4.keep _ _ nDp hD (fun _ z => nomatch z)
        refine ⟨by show 2 ≤ sizeLine; omega, fun t9 nt => ?_⟩
        have ntD : t9 ≠ D := ne_of_none' nt hD4
        have eT : Same H4 (upd H4 t9 (.tup [.str (T [c]), .ref Y2])) := same_upd nt
        have hD5 := eT _ _ hD4
        have lps : ps.length < S.length := by rw [lp]; rw [pmn.length_eq] at lc; exact lc
        refine ⟨_, hD5, by rw [List.length_map]; omega, _, nD, ((e3.trans e4).trans (.same eT)).putN newD2 hD5 (fun _ z => nomatch z) (fun _ _ z => nomatch z), (hp4.same eT).put nDp.symm, upd_same, ps ++ [t9], fun x => if x = c then Y2 else af x, fun x => if x = c then h9 else h2 x, by rw [List.map_append]; rfl, by rw [List.length_append, List.length_append, lp]; rfl, fun i q c' hq hc' => ?_, fun x hx => ?_, fun x hx y hy => ?_⟩
        · rcases Nat.lt_or_ge i ps.length with l | l
          · rw [List.getElem?_append_left l] at hq
            obtain ⟨q1, q2⟩ := hps i q c' hq hc'
            have nc : c' ≠ c := fun z => hcn (by rw [← z]; exact List.mem_of_getElem? (i := i) (by rw [List.getElem?_take_of_lt (by omega)]; exact hc'))
            refine ⟨q1, ?_⟩
            dsimp only
            rw [upd_ne q1, if_neg nc]
            refine eT _ _ (e4.keep _ _ (fun z => ?_) q2 (fun _ z => nomatch z))
            have z : q = p := z
            obtain ⟨_, _, dd⟩ := Pot.lst hp3
            rw [z, dd] at q2; cases q2
          · rw [List.getElem?_append_right l] at hq
            have e9 : i - ps.length = 0 := by
              have := (List.getElem?_eq_some_iff.mp hq).1
              rw [List.length_singleton] at this; omega
            rw [e9] at hq
            obtain rfl : t9 = q := by cases hq; rfl
            obtain rfl : i = pre.length := by omega
            rw [hc] at hc'
            obtain rfl := Option.some.inj hc'
            refine ⟨ntD, ?_⟩
            dsimp only
            rw [upd_ne ntD, upd_same, if_pos rfl]
        · rw [show (pre ++ [V.str (T [c])]).length = pre.length + 1 by rw [List.length_append]; rfl, tk] at hx
          dsimp only
          by_cases z : x = c
          · rw [if_pos z, if_pos z, z]
            exact ⟨by rw [upd_ne nYD]; exact eT _ _ hY2, pm9, newY8, nYp2, nYD⟩
          · rw [if_neg z, if_neg z]
            have hx' : x ∈ ns.take pre.length := (List.mem_append.mp hx).resolve_right fun y => z (List.mem_singleton.mp y)
            obtain ⟨f1, f2, f3, f4, f5⟩ := haf x hx'
            exact ⟨by rw [upd_ne f5]; exact eT _ _ (e4.keep _ _ f4 f1 (fun _ z => nomatch z)), f2, f3, f4, f5⟩
        · rw [show (pre ++ [V.str (T [c])]).length = pre.length + 1 by rw [List.length_append]; rfl, tk] at hx hy
          dsimp only
          have old : ∀ x ∈ ns.take pre.length, af x ≠ Y2 := fun x hx => newY _ _ (haf x hx).1 (fun _ y => nomatch y)
          by_cases z1 : x = c
          · by_cases z2 : y = c
            · exact fun _ => z1.trans z2.symm
            · rw [if_pos z1, if_neg z2]
              exact fun z => absurd z.symm (old y ((List.mem_append.mp hy).resolve_right fun u => z2 (List.mem_singleton.mp u)))
          · by_cases z2 : y = c
            · rw [if_neg z1, if_pos z2]
              exact fun z => absurd z (old x ((List.mem_append.mp hx).resolve_right fun u => z1 (List.mem_singleton.mp u)))
            · rw [if_neg z1, if_neg z2]
              exact inj x ((List.mem_append.mp hx).resolve_right fun u => z1 (List.mem_singleton.mp u)) y ((List.mem_append.mp hy).resolve_right fun u => z2 (List.mem_singleton.mp u))
      · obtain ⟨_, e3, hp3, hD, ps, af, h2, rfl, lp, hps, haf, inj⟩ := r
        rw [List.length_map] at lp haf inj
        rw [List.take_length] at haf inj
        refine ⟨D, ns, ps, af, h2, rfl, e82.trans e3, hp3, pmn, hD, pairs_of lp fun i q c hq hc => .inl (.inl (hps i q c hq hc).2), fun c hc => ?_, fun x hx y hy => inj x (pmn.mem_iff.mpr hx) y (pmn.mem_iff.mpr hy)⟩
        obtain ⟨f1, f2, f3, f4, f5⟩ := haf c (pmn.mem_iff.mpr hc)
        exact ⟨f1, f2, f3, f4⟩
    · obtain ⟨B, ns, ps, af, h2, rfl, e10, hp10, pmn, hB, pr, hafS, inj⟩ := z
      have hnd : ((ns.map fun c => ((Sum.inr (T [c]) : Key), V.ref (af c))).map (·.1)).Nodup := by
        rw [List.map_map]; exact keys_nd (pmn.nodup_iff.mpr ndS)
      refine ⟨B, ps, _, rfl, .inl (.inl hB), pr, fun d2 nd2 => ?_⟩
      rw [mergeK_nd _ [] hnd, List.nil_append]
      have e11 : Same H' (upd H' d2 (.dK (ns.map fun c => ((Sum.inr (T [c]) : Key), V.ref (af c))))) := same_upd nd2
      have sc11 := (sc9.keep hok hp10 e10).same e11
      have e0b := (e09.trans e10).trans (.same e11)
      have rk11 := (a2.keep e10).same e11
      have ln2 : LineK (upd H' d2 (.dK (ns.map fun c => ((Sum.inr (T [c]) : Key), V.ref (af c))))) d2 S h2 (ns.map fun c => (c, af c, false)) := by
        refine ⟨by rw [upd_same, List.map_map]; rfl, by rw [List.map_map, show ((fun x : Nat × Addr × Bool => x.1) ∘ fun c => (c, af c, false)) = id from rfl, List.map_id]; exact pmn, fun e he => ?_⟩
        obtain ⟨c, hc, rfl⟩ := List.mem_map.mp he
        exact e11 _ _ (hafS c (pmn.mem_iff.mp hc)).1
      have hok2 : LineOk S h2 := fun c hc => (hok c hc).perm (hafS c hc).2.1
      have smh : SameH S hg h2 := fun c hc x => ((hafS c hc).2.1.mem_iff).symm
      have newaf : ∀ c ∈ S, New H (af c) ∧ af c ≠ p := fun c hc => ⟨newNN e09 (hafS c hc).2.2.1 (hafS c hc).2.2.2, (hafS c hc).2.2.2⟩
      have nwire : ∀ c ∈ S, ∀ e ∈ es, e.2.1 ≠ af c := fun c hc e he => (hafS c hc).2.2.1 _ _ (sc9.line.at_ e he) hoT_tbl
      have e8b := e10.trans (.same (TT := T1G Pt) e11)
      generalize upd H' d2 (.dK (ns.map fun c => ((Sum.inr (T [c]) : Key), V.ref (af c)))) = H11 at sc11 e0b rk11 ln2 e8b
      clear e10 hp10 hB pr hafS hnd e11 nd2 a2 sc9 e09 H'
      have tb11 : Tabs (T1G Pt) H11 := e0b.tabs tb
      have fin2 : R.length ≤ 40 := ok.hi
      have okH := hSh (hg := hg) (Kd := Kd) ok hR5
      refine forM_list ?_
      refine ⟨a, d, S, R, Kd, hg, rfl, sc11.mach.m, ok, hR5, (sc11.line.w ndS).at, hok, tb11, fun H12 b1 A1 K1 x12 t12 nb1 mm1 lo1 => ?_⟩
      obtain ⟨u1, u2⟩ := loA.uniq lo1 .refl
      subst u1; subst u2
      have e12 : Ex (T1G Pt) (at1 p) H11 H12 := ex_of x12 t12
      have hp12 := sc11.pot.extN x12
      have sc12 := sc11.keep hok hp12 e12
      refine ⟨a, d, S, R, Kd, hg, rfl, sc12.mach.m, ok, hR5, (sc12.line.w ndS).at, hok, t12, fun H13 b2 A2 K2 x13 t13 nb2 mm2 lo2 => ?_⟩
      obtain ⟨u1, u2⟩ := loA.uniq lo2 .refl
      subst u1; subst u2
      have e13 : Ex (T1G Pt) (at1 p) H12 H13 := ex_of x13 t13
      have hp13 := hp12.extN x13
      have sc13 := sc12.keep hok hp13 e13
      have ln13 := (ln2.keep hok2 sc11.pot e12).keep hok2 hp12 e13
      refine ⟨a, d2, S, R, Kd, h2, rfl, sc13.mach.m, ok, hR5, (ln13.w ndS).at, hok2, t13, fun H14 b3 A3 K3 x14 t14 nb3 mm3 lo3 => ?_⟩
      rw [← hRows_congr smh, ← hKd_congr smh] at lo3
      obtain ⟨u1, u2⟩ := loA.uniq lo3 .refl
      subst u1; subst u2
      have e14 : Ex (T1G Pt) (at1 p) H13 H14 := ex_of x14 t14
      have hp14 := hp13.extN x14
      refine ⟨by show 3 ≤ sizeLine; omega, fun L9 nL9 => ?_⟩
      have e15 : Same H14 (upd H14 L9 (.lst [.ref b1, .ref b2, .ref b3])) := same_upd nL9
      have eE : Ex (T1G Pt) (at1 p) H11 (upd H14 L9 (.lst [.ref b1, .ref b2, .ref b3])) := ((e12.trans e13).trans e14).trans (.same e15)
      have sc15 := (sc13.keep hok hp14 e14).same e15
      have ln15 := (ln13.keep hok2 hp13 e14).ext e15
      have rk15 := rk11.keep eE
      have e0f := e0b.trans eE
      have e8f := e8b.trans eE
      have q1 := ((mm1.extN x13).extN x14).ext e15
      have q2 := (mm2.extN x14).ext e15
      have q3 := mm3.ext e15
      have hL9 : (upd H14 L9 (.lst [.ref b1, .ref b2, .ref b3])) L9 = some (.lst [.ref b1, .ref b2, .ref b3]) := upd_same
      generalize upd H14 L9 (.lst [.ref b1, .ref b2, .ref b3]) = H15 at e15 eE sc15 ln15 rk15 e0f e8f q1 q2 q3 hL9
      clear e12 e13 e14 e15 x12 x13 x14 t12 t13 t14 mm1 mm2 mm3 lo1 lo2 lo3 sc12 sc13 ln13 hp12 hp13 hp14 sc11 ln2 rk11 e0b e8b tb11 nL9 nb1 nb2 nb3 eE
      have each : ∀ x : V, x ∈ [V.ref b1, V.ref b2, V.ref b3] → ∃ b, x = .ref b ∧ Mach C H15 b S A KA := fun x hx => by
        simp only [List.mem_cons, List.mem_nil_iff, or_false] at hx
        rcases hx with rfl | rfl | rfl
        · exact ⟨b1, rfl, q1⟩
        · exact ⟨b2, rfl, q2⟩
        · exact ⟨b3, rfl, q3⟩
      have hiA := shA.hi
      refine ⟨L9, [.ref b1, .ref b2, .ref b3], rfl, .inl (.inl hL9), fun pre σ Hx => Same H15 Hx ∧ ∃ y10 : Option V, σ = [some (.ref p), some (.str (T S)), some (.ref t), some (.ref d), some (.ref a), some (.ref r'), some (.ref k'), some (.str (lookT S R Kd hg es)), some (.str (enc3 S A KA).shown), some (.ref d2), y10, none, none],
        fun pre σ Hx iv => .inl (.inl (iv.1 _ _ hL9)), ⟨Same.refl _, none, rfl⟩, fun pre x suf σ Hx e iv => ?_, fun σ Hx iv => ?_⟩
      · obtain ⟨ex, y10, rfl⟩ := iv
        obtain ⟨b, rfl, mb0⟩ := each x (by rw [e]; simp)
        have mb := mb0.ext ex
        have rkx := rk15.same ex
        dsimp only [gName, tSeq, uIf, uT, tOp]
        refine rep_told3 (b := b) rfl mb shA fun H16 e16 => ?_
        refine uvq (v := .str (enc3 S A KA).shown) rfl ?_
        show Br (!decide (cs (enc3 S A KA).shown = cs (enc3 S A KA).shown)) _ _
        rw [decide_eq_true rfl]
        refine .no ?_
        have mb16 := mb.ext e16
        have rk16 := rkx.same e16
        refine ⟨fun b' H' => b' = false ∧ Same H16 H', ?_, fun b' H' z => ?_⟩
        · dsimp only [uOr, uT, tOp]
          refine uvq (v := .ref b) rfl ?_
          refine ⟨rfl, mach_newN shA loA.whole rk16.rows.at (kindsL_at rk16.kinds) fun H17 m e17 nm mach => ?_⟩
          refine mach_same iM (mb16.ext e17) mach.m hiA fun H18 e18 => .no ?_
          dsimp only [uMeth, tNil]
          refine uvq (v := .ref b) rfl ?_
          have mb18 := (mb16.ext e17).ext e18
          obtain ⟨dx, _, _, _, i1, _⟩ := id mb18
          refine ⟨dx, _, i1, mf_none (by decide +kernel) (by decide +kernel) (by decide +kernel), b, S, A, KA, rfl, mb18, shA, fun H19 b4 A4 K4 e19 nb4 m4 lo4 => ?_⟩
          obtain ⟨u1, u2⟩ := (loA.self).uniq lo4 .refl
          subst u1; subst u2
          refine uvq (v := .ref b) rfl ?_
          exact mach_same iM m4 (mb18.ext e19) hiA fun H20 e20 => ⟨rfl, ((e17.trans e18).trans e19).trans e20⟩
        · obtain ⟨rfl, ez⟩ := z
          exact .no ⟨(ex.trans e16).trans ez, _, rfl⟩
      · obtain ⟨ex, y10, rfl⟩ := iv
        have scx := sc15.same ex
        have lnx := ln15.ext ex
        have e0x := e0f.trans (.same ex)
        have e8x := e8f.trans (.same ex)
        clear each q1 q2 q3 hL9 sc15 ln15 e0f e8f rk15 ex
        refine ⟨p, S, rfl, scx.pot, lt, fun H20 dF hgF esF e20 hp20 newF nFp lineF hokF hnewF => ?_⟩
        refine ⟨p, .str (T S), rfl, hp20, .inr ⟨S, rfl, by omega, by omega, fun H21 c e21 hp21 hc => ?_⟩⟩
        refine ⟨_, _, rfl, ?_⟩
        have sc21 := (scx.keep hok hp20 e20).keep hok hp21 e21
        have ln21 := (lnx.keep hok2 scx.pot e20).keep hok2 hp20 e21
        have lf21 := lineF.keep hokF hp20 e21
        have e021 := (e0x.trans e20).trans e21
        have hcn := pmn.mem_iff.mpr hc
        have injn : ∀ x ∈ ns, ∀ y ∈ ns, af x = af y → x = y := fun x hx y hy => inj x (pmn.mem_iff.mp hx) y (pmn.mem_iff.mp hy)
        have em2 : (c, af c, false) ∈ ns.map fun c => (c, af c, false) := List.mem_map.mpr ⟨c, hcn, rfl⟩
        have hzx : Hx (af c) = some (.lst ((h2 c).map LT)) := lnx.at_ _ em2
        have hz21 : H21 (af c) = some (.lst ((h2 c).map LT)) := ln21.at_ _ em2
        have neh := (hok2 c hc).ne
        have nFz : ∀ e ∈ esF, e.2.1 ≠ af c := fun e he z => hnewF e he _ _ hzx (fun _ y => nomatch y) z.symm
        obtain ⟨newz, nzp⟩ := newaf c hc
        obtain ⟨⟨c', aF, tF⟩, heF, hcF⟩ := List.mem_map.mp (lf21.pm.mem_iff.mpr hc)
        have hcF : c' = c := hcF
        subst hcF
        clear e20 e21 scx lnx lineF hp20 e0x e8x hnewF hzx
        -- clear, extend
        refine ⟨d2, _, rfl, ln21.get ndS em2, .inl ⟨rfl, _, .inl (.inl hz21)⟩, af c', _, rfl, rfl, hz21, ?_⟩
        have b22 : But1 (at1 (af c')) H21 (upd H21 (af c') (.lst [])) := fun b o n hb => by rw [upd_ne n]; exact hb
        have ln22 : LineK (upd H21 (af c') (.lst [])) d2 S (fun x => if x = c' then [] else h2 x) _ := lineK_put (hs := []) ln21 injn hcn
        have lf22 := lf21.but b22 hz21 nFz
        have hz22 : (upd H21 (af c') (.lst [])) (af c') = some (.lst []) := upd_same
        have e022 := e021.putN (o' := .lst []) newz hz21 (fun _ z => nomatch z) (fun _ _ z => nomatch z)
        have lenF := (hokF c' hc).hi
        refine ⟨d2, _, rfl, ln22.get ndS em2, .inl ⟨rfl, _, .inl (.inl hz22)⟩, dF, _, rfl, lf22.get ndS heF, af c', aF, [], (hgF c').map LT, tF, rfl, rfl, hz22, hoT_sq (lf22.at_ _ heF), by rw [List.length_map]; show 0 + _ ≤ sizeLine; omega, ?_⟩
        have b23 : But1 (at1 (af c')) H21 (upd (upd H21 (af c') (.lst [])) (af c') (.lst ([] ++ (hgF c').map LT))) := fun b o n hb => by rw [upd_ne n, upd_ne n]; exact hb
        have sc23 := sc21.z ok hz21 neh (nwire c' hc) b23
        have ln23 := lineK_put (hs := hgF c') ln22 injn hcn
        have e023 := e022.putN (o' := .lst ([] ++ (hgF c').map LT)) newz hz22 (fun _ z => nomatch z) (fun _ _ z => nomatch z)
        have hok3 : LineOk S (fun x => if x = c' then hgF c' else if x = c' then [] else h2 x) := fun x hx => by
          show HearOk S (if x = c' then hgF c' else if x = c' then [] else h2 x)
          by_cases z : x = c'
          · rw [if_pos z]; exact hokF c' hc
          · rw [if_neg z, if_neg z]; exact hok2 x hx
        generalize (fun x => if x = c' then hgF c' else if x = c' then [] else h2 x) = hg3 at ln23 hok3
        change LineK (upd (upd H21 (af c') (.lst [])) (af c') (.lst ([] ++ (hgF c').map LT))) d2 S hg3 _ at ln23
        generalize upd (upd H21 (af c') (.lst [])) (af c') (.lst ([] ++ (hgF c').map LT)) = H23 at b23 sc23 ln23 e023
        clear b22 b23 ln22 lf22 hz22 e022 e021 sc21 ln21 lf21 hz21 nFz
        refine ⟨t, d2, S, R, Kd, hg3, rfl, sc23.mod.at, ok, hR5, (ln23.w ndS).at, fun H24 t5 A5 K5 e24 hm5 lo5 => ?_⟩
        have okH3 := hSh (hg := hg3) (Kd := Kd) ok hR5
        have sh5 := lo5.shOk okH3
        obtain ⟨r5, k5, rs5, a1, c2, c3, c4, c5, c6, c7⟩ := hm5.n sc23.pot
        have rk5 : RK p H24 r5 k5 A5 K5 := ⟨rs5, c2, c3, c4, c5, c6, c7⟩
        have sc24 := sc23.same e24
        have ln24 := ln23.ext e24
        have e024 := e023.trans (.same e24)
        have tb24 : Tabs (T1G Pt) H24 := e024.tabs tb
        refine ⟨t5, _, rfl, .inl (.inl a1), rfl, _, _, rfl, _, _, rfl, rfl, ?_⟩
        clear a1 c2 c3 c4 c5 c6 c7 hm5 sc23 ln23 e023 e24
        refine ⟨a, d2, S, R, Kd, hg3, rfl, sc24.mach.m, ok, hR5, (ln24.w ndS).at, hok3, tb24, fun H25 b5 A6 K6 x25 t25 nb5 mm5 lo6 => ?_⟩
        obtain ⟨u1, u2⟩ := lo5.uniq lo6 .refl
        subst u1; subst u2
        have e25 : Ex (T1G Pt) (at1 p) H24 H25 := ex_of x25 t25
        have sc25 := sc24.keep hok (sc24.pot.extN x25) e25
        have e025 := e024.trans e25
        have rk25 := rk5.keep e25
        clear sc24 ln24 e024 rk5 x25 e25 tb24 lo6 nb5
        dsimp only [gName, tSeq, uIf, uT, tOp]
        refine rep_told2 (b := b5) rfl mm5 sh5 fun H26 e26 => ?_
        have rk26 := rk25.same e26
        have sc26 := sc25.same e26
        have e026 := e025.trans (.same e26)
        clear rk25 sc25 e025 mm5 e26 t25
        refine ⟨by show 2 ≤ sizeLine; omega, fun L6 nL6 => ?_⟩
        have e27 : Same H26 (upd H26 L6 (.lst [.ref r5, .ref k5])) := same_upd nL6
        refine ⟨enc2 A5 K5, .lst (.inl (.inl upd_same)) (.cons (dp_rowsL (rk26.same e27).rows) (.cons (dp_kindsL (rk26.same e27).kinds) .nil)), shw2 sh5, ?_⟩
        have sc27 := sc26.same e27
        have e027 := e026.trans (.same e27)
        generalize upd H26 L6 (.lst [.ref r5, .ref k5]) = H27 at e27 sc27 e027
        clear rk26 sc26 e026 e27 nL6
        show Br (!decide (cs (enc2 A5 K5).shown = cs (enc2 A5 K5).shown)) _ _
        rw [decide_eq_true rfl]
        refine .no ?_
        have tb27 : Tabs (T1G Pt) H27 := e027.tabs tb
        refine ⟨a, d, S, R, Kd, hg, rfl, sc27.mach.m, ok, hR5, (sc27.line.w ndS).at, hok, tb27, fun H28 b7 A7 K7 x28 t28 nb7 mm7 lo7 => ?_⟩
        obtain ⟨u1, u2⟩ := loA.uniq lo7 .refl
        subst u1; subst u2
        have e28 : Ex (T1G Pt) (at1 p) H27 H28 := ex_of x28 t28
        have sc28 := sc27.keep hok (sc27.pot.extN x28) e28
        have e028 := e027.trans e28
        clear sc27 e027 tb27 x28 e28 lo7 nb7
        dsimp only [gName, tSeq, tRet, uAndV, tOp]
        refine rep_look rfl rfl sc28 ok hok fun H29 e29 => ?_
        have mm29 := mm7.ext e29
        have e029 := e028.trans (.same e29)
        refine uvq (v := .str (lookT S R Kd hg es)) rfl ?_
        show Br (decide (cs (lookT S R Kd hg es) = cs (lookT S R Kd hg es))) _ _
        rw [decide_eq_true rfl]
        refine .yes ?_
        refine rep_told3 (b := b7) rfl mm29 shA fun H30 e30 => ?_
        refine uvq (v := .str (enc3 S A KA).shown) rfl ?_
        show Q (.bl (decide (cs (enc3 S A KA).shown = cs (enc3 S A KA).shown))) H30
        rw [decide_eq_true rfl]
        exact q H30 (e029.trans (.same e30))

end
end LK

/-! law -/
namespace LK
open PySem PySem.Spec PyProof.Rows L2 LamX ClX
open scoped List
section
variable {P : Program} {w : World} {K : PySem.W.Frag} {mg : Str → Option Value} {base : Heap} {C : Addr}
theorem scLaw : FnScope ["_law_script", "_law_k"] ["_law_script"] (defScope sLaw) := ⟨rfl, rfl, rfl, by decide +kernel, rfl, by decide +kernel, by decide +kernel⟩
def spLaw (K : PySem.W.Frag) (Pt : Addr) : Sp := fun vs H Q _ => ∃ (a : Addr) (ns : List Int), vs = [.ref a] ∧ SqL K H a (ns.map V.int) ∧ ns.length ≤ 63 ∧ Tabs (T1G Pt) H ∧ ∀ H', Q (.bl true) H'
theorem sq_new {K : PySem.W.Frag} {TT : List (Addr × Str)} {H H1 H2 : Hp} {a p : Addr} {xs : List V} (h : SqL K H a xs) (n : H p = none) (s : Same H H1) (e : Ex TT (at1 p) H1 H2) : SqL K H2 a xs := by
  rcases h with (h | ⟨o, h⟩) | h
  · exact .inl (.inl (e.keep a _ (ne_of_none h n) (s _ _ h) fun ps z => nomatch z))
  · exact .inl (.inr ⟨o, e.keep a _ (ne_of_none h n) (s _ _ h) fun ps z => nomatch z⟩)
  · exact .inr h
theorem ok_law {f : Addr} {fd : FuncData} {k : Nat} {Pt : Addr} (F : Fun K "law" "law" sLaw f fd) (M : Mx mg)
    (HR : Has P w K mg base k "_law_right" ["_law_pot_here"] (spRt Pt)) (HPo : Has P w K mg base k "_law_pot" ["_law_script", "_law_k"] (spPot K)) :
    FnG P w K mg base CX0 (k + 1) f fd ["_law_script"] (spLaw K Pt) := by
  refine okG F scLaw (fun vs H Q E h => ?_) (fun cdv A hA outer s H vs Q E hr h => ?_)
  · obtain ⟨a, ns, rfl, _⟩ := h; rfl
  · obtain ⟨a, ns, rfl, hs, hn, hT, q⟩ := h
    have nd := scLaw.nd
    refine ⟨_, pss_one (ps_ret (pe_callB (c_all rfl) (by rfl) M.all b_all (pa_cons (pe_lc (own := [("_law_k", 1)]) (g := gName 1) (tt := tYes) rfl nd
      (pi_range1 (by rfl) M.range (pa_cons (pe_callB (c_max2 rfl) (by rfl) M.max b_max (pa_cons pe_int (pa_cons (pe_callB (c_min2 rfl) (by rfl) M.min b_min (pa_cons pe_int (pa_cons (pe_callB c_len (by rfl) M.len b_len (pa_cons (uv 0) pa_nil)) pa_nil))) pa_nil))) pa_nil))
      (blkOk_by (N := ["_law_script", "_law_k"]) (sc := defScope sLaw) (by decide +kernel)) (fun _ _ _ _ _ => pg_name (i := 1) nd rfl (Or.inl rfl)) (fun _ _ _ _ _ => pts_nil)
      (fun _ _ _ _ _ => pe_callH HR hA hr (by rfl) (pa_cons (pe_callH HPo hA hr (by rfl) (pa_cons (uv 0) (pa_cons (uv 1) pa_nil))) pa_nil))) pa_nil))), ?_⟩
    have hz := sizeLine_eq
    have ec : max (1 : Int) (min 4 (((ns.map V.int).length : Nat) : Int)) = ((max 1 (min 4 ns.length) : Nat) : Int) := by rw [List.length_map]; omega
    dsimp only [tRet, tCB, tCons]
    refine lc_rng (n := max 1 (min 4 ns.length)) (H1 := H) (by
        intro R h
        refine .inl ⟨_, .inl hs, ?_⟩
        show R [V.int (max (1 : Int) (min 4 (((ns.map V.int).length : Nat) : Int)))] H
        rw [ec]; exact h) (by omega) (fun D i acc H1 => H1 D = some (.lst acc) ∧ acc = (List.replicate i true).map V.bl ∧ SqL K H1 a (ns.map V.int) ∧ Tabs (T1G Pt) H1)
      (fun D nD => ⟨upd_same, rfl, (Ex.new (TT := []) (S := no) nD).sq (fun z => z) hs, (Ex.new (S := no) nD).tabs hT⟩) (fun D nD i acc H1 hi r => ?_) (fun D nD acc H1 r => ?_)
    · obtain ⟨r1, rfl, r3, r4⟩ := r
      refine ⟨rfl, a, ns, i, rfl, r3, by omega, fun H2 p e2 np pot2 => ?_⟩
      refine ⟨p, rfl, pot2, r4.ext e2, fun H3 e3 => ?_⟩
      have hD3 : H3 D = some _ := e3.keep D _ (ne_of_none r1 np) (e2 _ _ r1) (fun _ z => nomatch z)
      have hs3 : SqL K H3 a (ns.map V.int) := sq_new r3 np e2 e3
      refine ⟨_, hD3, by rw [List.length_map, List.length_replicate]; omega, _, upd_same, ?_, ?_, ?_⟩
      · rw [List.replicate_succ', List.map_append]; rfl
      · by_cases ha : a = D
        · subst ha
          rcases hs with (h | ⟨o, h⟩) | h
          · rw [nD] at h; cases h
          · rw [nD] at h; cases h
          · exact .inr h
        · rcases hs3 with (h | ⟨o, h⟩) | h
          · exact .inl (.inl (by rw [upd_ne ha]; exact h))
          · exact .inl (.inr ⟨o, by rw [upd_ne ha]; exact h⟩)
          · exact .inr h
      · exact (Ex.write (S := at1 D) rfl hD3 (fun _ z => nomatch z) (fun _ _ z => nomatch z)).tabs (e3.tabs (r4.ext e2))
    · obtain ⟨r1, rfl, r3, r4⟩ := r
      refine ⟨_, .inl (.inl r1), ?_⟩
      have : (List.replicate (max 1 (min 4 ns.length)) true).all id = true := by simp
      show Q (.bl ((List.replicate (max 1 (min 4 ns.length)) true).all id)) _
      rw [this]
      exact q _
end
end LK

/-! the end of a law with guards, one table and sys.modules -/
namespace LK
open PySem PySem.Spec PyProof.Rows L2 LamX
open scoped List
/-! ### the law's own call: guards, and the one table that is written -/
theorem lawGTS {P : Program} {w : World} {K : PySem.W.Frag} {mg mb : Str → Option Value} {k : Nat} {fa a c Pt : Addr} {fd : FuncData} {x : Str} {sp : Sp} {s1 : Shared} {vs : List Value} {ns : List Int}
    (KX : K.In s1.heap) (g1 : s1.heap.Ns mainGlobals mg) (g2 : s1.heap.Ns builtinsNs mb) (g3 : ∀ x : Str, x ≠ "__name__" → mb x = bootBuiltins x)
    (lim : s1.heap.NoLimit) (gens : s1.gens = #[]) (sy : SysD s1.heap) (tP : s1.heap.get? Pt = some { cls := .none, data := .fields #[] }) (nP : K.lookup Pt = none) (C : PySem.W.CodeHd s1.heap c Pt)
    (bmA : ∃ (bm : Addr) (ob : Obj), mg "__builtins__" = some (.ref bm) ∧ bm ≠ builtinsNs ∧ s1.heap.get? bm = some ob ∧ ob.cls = .type "module" ∧ ob.dict = some builtinsNs ∧ ob.data = .plain)
    (ha : s1.heap.get? a = some { cls := .type "list", data := .seq vs.toArray }) (hi : IntsAre vs ns) (hl : ns.length ≤ sizeLine) (hr : Room k callerA)
    (F : ∀ base : Heap, K.In base → base.Ns mainGlobals mg → TabB base mg c Pt → SysD base → FnG P w K mg base CX0 k fa fd [x] sp)
    (bnd : ∀ (s : Shared) (u : Value), BindsTo s fd ⟨[u], []⟩ [(x, u)])
    (hsp : ∀ H : Hp, H Pt = some (.tbl #[]) → SqL K H a (ns.map V.int) → sp [.ref a] H (fun v _ => v = .bl true) E0) :
    codeAny (model P w) callerA (.call (.ref fa) ⟨[.ref a], []⟩)
      (fun r s' => r = .ok (.ret (.bool true)) ∧ PySem.OldK s1.heap s'.heap ∧ s'.os = s1.os ∧ AllBare s'.gens) s1 := by
  have rv : L2.Vals (ns.map V.int) vs := vals_ints hi
  let scr : HO := .frz { cls := .type "list", data := .seq vs.toArray } (.lst (ns.map V.int))
  have aP : a ≠ Pt := fun e => by rw [e, tP] at ha; cases ha
  let H : Hp := fun b => if b = Pt then some (.tbl #[]) else if b = a ∧ K.lookup a = none then some scr else none
  have HP : H Pt = some (.tbl #[]) := if_pos rfl
  have hH : ∀ b u, H b = some u → (b = Pt ∧ u = .tbl #[]) ∨ (b = a ∧ K.lookup a = none ∧ u = scr) := by
    intro b u e
    by_cases cP : b = Pt
    · have e2 : some (HO.tbl #[]) = some u := (if_pos cP).symm.trans e
      exact .inl ⟨cP, (Option.some.inj e2).symm⟩
    · by_cases cA : b = a ∧ K.lookup a = none
      · have e2 : some scr = some u := ((if_neg cP).trans (if_pos cA)).symm.trans e
        exact .inr ⟨cA.1, cA.2, (Option.some.inj e2).symm⟩
      · have e2 : (none : Option HO) = some u := ((if_neg cP).trans (if_neg cA)).symm.trans e
        cases e2
  have sizes : (ns.map V.int).length ≤ sizeLine := by rw [List.length_map]; exact hl
  have okH : HOk P w H s1.heap := by
    intro b u e
    rcases hH b u e with ⟨rfl, rfl⟩ | ⟨rfl, _, rfl⟩
    · exact tP
    · exact ⟨ha, sizes, vs, _, rv, ha⟩
  have sq : SqL K H a (ns.map V.int) := by
    cases e : K.lookup a with
    | none => exact .inl (.inr ⟨_, (if_neg aP).trans (if_pos ⟨rfl, e⟩)⟩)
    | some o =>
      have z := KX a o e
      rw [ha] at z; cases z
      exact .inr ⟨_, vs.toArray, _, e, rfl, rfl, rfl, by rw [List.size_toArray, ← rv.length]; exact sizes, by simpa using rv⟩
  -- what is no list and no table of its own is not tracked
  have off : ∀ (b : Addr) (o : Obj), s1.heap.get? b = some o → (∀ xs n, o.data ≠ .seq xs n) → o.data ≠ .fields #[] → H b = none := by
    intro b o e h1 h2
    cases q : H b with
    | none => rfl
    | some u =>
      rcases hH b u q with ⟨rfl, _⟩ | ⟨rfl, _, _⟩
      · rw [tP] at e; cases e; exact (h2 rfl).elim
      · rw [ha] at e; cases e; exact (h1 _ _ rfl).elim
  have free : ∀ (b : Addr) (o : Obj), s1.heap.get? b = some o → (∀ es ep, o.data = .dict es ep → H b = none) := fun b o e es ep d =>
    off b o e (fun xs n z => by rw [d] at z; cases z) (fun z => by rw [d] at z; cases z)
  have ns_ : ∀ {b : Addr} {m : Str → Option Value}, s1.heap.Ns b m → (hidT s1.heap H).Ns b m := by
    intro b m z
    obtain ⟨o, es, ep, e, d, r⟩ := z
    exact ⟨o, es, ep, hidT_get e (free b o e es ep d), d, r⟩
  have kin : K.In (hidT s1.heap H) := by
    intro b o e
    refine hidT_get (KX b o e) ?_
    cases q : H b with
    | none => rfl
    | some u =>
      rcases hH b u q with ⟨rfl, _⟩ | ⟨rfl, n, _⟩
      · rw [nP] at e; cases e
      · rw [n] at e; cases e
  have sys : SysD (hidT s1.heap H) := by
    obtain ⟨o, es, ep, e, d⟩ := sy
    exact ⟨o, es, ep, hidT_get e (free _ o e es ep d), d⟩
  have tb : TabB (hidT s1.heap H) mg c Pt := by
    constructor
    · obtain ⟨o, us, file, tf, flags, tg, inF, text, tt, q0, q1, q2, q3, rest⟩ := C
      have nC : H c = none := off c o q0 (fun xs n z => by rw [q2] at z; cases z) (fun z => by rw [q2] at z; cases z; simp at q3)
      exact ⟨o, us, file, tf, flags, tg, inF, text, tt, hidT_get q0 nC, q1, q2, q3, rest⟩
    · obtain ⟨bm, ob, q1, q2, q3, q4, q5, q6⟩ := bmA
      have n1 : bm ≠ mainGlobals := fun z => by
        obtain ⟨o, es, ep, e, d, _⟩ := g1
        rw [z, e] at q3; cases q3; rw [d] at q6; cases q6
      have n2 : bm ≠ Pt := fun z => by rw [z, tP] at q3; cases q3; cases q6
      exact ⟨bm, ob, q1, q2, n1, n2, hidT_get q3 (off bm ob q3 (fun xs n z => by rw [q6] at z; cases z) (fun z => by rw [q6] at z; cases z)), q4, q5, q6⟩
    · intro z
      obtain ⟨o, es, ep, e, d, _⟩ := g1
      rw [z, tP] at e; cases e; cases d
  have e0 : Env0 P w K mg (hidT s1.heap H) callerA [] s1 H :=
    ⟨rfl, ⟨kin, ns_ g1, ⟨mb, ns_ g2, g3⟩, (by obtain ⟨mc, p, q⟩ := lim; exact ⟨mc, ns_ p, q⟩)⟩, fun b o e => of_hidT e,
      Nat.le_of_eq (hidT_size _ _), trivial, (fun b hb => absurd (show b ∈ ([] : List Addr) from hb) (fun y => nomatch y)), okH, .of_eq gens⟩
  refine codeAny_mono ((F _ kin (ns_ g1) tb sys).run callerA rfl [] s1 H ⟨[.ref a], []⟩ [.ref a] [.ref a] _ _ hr e0 (bnd s1 (.ref a)) (.cons rfl .nil) (hsp H HP sq)) ?_
  intro r s' z
  match r, z with
  | .error _, z => exact z.elim
  | .ok .next, z => exact z.elim
  | .ok .brk, z => exact z.elim
  | .ok .cont, z => exact z.elim
  | .ok (.ret u), z =>
    obtain ⟨v, H', os, bare, un, ok', rv', q⟩ := z
    obtain rfl : v = .bl true := q
    obtain rfl : u = Value.bool true := rv'
    obtain ⟨more, gm⟩ := un.tbls Pt #[] HP
    have grown : s'.heap.get? Pt = some { cls := .none, data := .fields (#[] ++ more) } := ok' Pt _ gm
    rw [Array.empty_append] at grown
    have old : ∀ b o, b ≠ Pt → s1.heap.get? b = some o → s'.heap.get? b = some o := fun b o nb e => by
      cases y : H b with
      | none => exact un.keep b o e y (fun y => absurd (show b ∈ ([] : List Addr) from y) (fun y => nomatch y)) (fun y => nomatch y)
      | some yv =>
        have y2 := y
        rcases hH b yv y with ⟨rfl, _⟩ | ⟨rfl, _, rfl⟩
        · exact (nb rfl).elim
        · have z2 := un.frzs _ _ _ y2
          rw [ha] at e; cases e
          exact (ok' _ _ z2).1
    refine ⟨rfl, ⟨fun b o e => ?_, fun b o e => ?_⟩, os, bare⟩
    · by_cases hb : b = Pt
      · subst hb
        rw [tP] at e; cases e
        exact .inr (.inl ⟨(C.tab tP).isCodeTable, rfl, #[], more, rfl, by rw [Array.empty_append]; exact grown⟩)
      · exact .inl (old b o hb e)
    · by_cases hb : b = Pt
      · subst hb; exact ⟨_, grown⟩
      · exact ⟨o, old b o hb e⟩

/-- what is to be known at the head's heap: the law's promise, and where the table that is written lies -/
def LawGS (l : PySem.W.OpenLaw) (w : World) (K : PySem.W.Frag) (k n : Nat) (x : Str) (mg : Str → Option Value) (fa : Addr) (h : Heap) : Prop :=
  ∃ (fd : FuncData) (c Pt : Addr) (sp : Sp), h.get? Pt = some { cls := .none, data := .fields #[] } ∧ K.lookup Pt = none ∧ PySem.W.CodeHd h c Pt ∧ (∀ (s : Shared) (u : Value), BindsTo s fd ⟨[u], []⟩ [(x, u)]) ∧
    (∀ (H : Hp) (a : Addr) (ns : List Int), ns.length ≤ n → H Pt = some (.tbl #[]) → SqL K H a (ns.map V.int) → sp [.ref a] H (fun v _ => v = .bl true) E0) ∧
    ∀ base : Heap, K.In base → base.Ns mainGlobals mg → TabB base mg c Pt → SysD base → FnG l.prog w K mg base CX0 k fa fd [x] sp
theorem walkGTS {l : PySem.W.OpenLaw} {n k : Nat} {q : Program} {loose : List Str} {XP : (Str → Option Value) → Heap → Prop} {YP : World → Heap → Prop} {d : DefRec} {K : Params → PySem.W.Frag} {x : Str}
    (hn : l.most = some n) (hn2 : n ≤ sizeLine) (hdf : d.params.defaults = []) (hr : Room k callerA) (hi : importsNone q = true) (hY : ∀ (w : World) (h : Heap), YP w h → (K w.params).In h)
    (F : ∀ (w : World) (mg : Str → Option Value) (fa : Addr) (h : Heap), YP w h → (K w.params).In h → h.Ns mainGlobals mg → mg d.name = some (.ref fa) → LawGS l w (K w.params) k n x mg fa h) :
    PySem.W.WalkO q loose XP YP l.row.toRowW d [] (fun f vs => PySem.call f vs) := by
  refine Att.attach_call hn hdf ?_
  intro w s0 s1 mg mb fa o pm cd doc a vs ns G Y ho hd hcd hmg hobj hints hlen hg
  have kin := hY w _ Y
  obtain ⟨fd, c, Pt, sp, hP, nP, hC, hb, hsp, hF⟩ := F w mg fa _ Y kin G.T.g hmg
  have sy : SysD s1.heap := by
    obtain ⟨mm, ⟨o, es, ep, e, d, _⟩, _⟩ := (G.T.seer hi).mods
    exact ⟨o, es, ep, e, d⟩
  exact lawGTS kin G.T.g G.T.b G.T.builtins G.T.nolimit hg sy hP nP hC G.T.bmain hobj hints (Nat.le_trans hlen hn2) hr hF hb (fun H hH hS => hsp H a ns hlen hH hS)
end LK

/-! static methods; instances made by names in any sequence; a lambda that is handed to a def of the module and called there, under guards -/
namespace LK
open PySem PySem.Spec PyProof.Rows L2 Builtin LamX ClX
section
variable {X : Cx} {k : Nat} {C : Addr} {ps : List Str} {sp : Sp} {m x : Str} {apos pos p : Pos} {e o : Expr} {es : List Expr} {kws : List Keyword} {ta : TE} {t tk : TA} {E : L2.St → XK}
end
section
variable {X : Cx} {k : Nat} {C : Addr} {x p1 p2 p3 : Str} {sp : Sp} {p pos : Pos} {kws : List Keyword} {tk : TA} {E : L2.St → XK}
end
/-! ### a lambda without parameters, called by the def that got it, under guards -/
section
variable {X : Cx} {T : List (Addr × Str)} {TT : (XK → Hp → VK → Prop) → Hp → VK → Prop} {x y : Str} {g c P : Addr} {k : Nat} {pg : Arguments} {bg : List Stmt} {sg : Scope} {dV kV doc pm cdv ct oc : Value} {an od : Option Addr} {osl : Array (Option Value)} {Ng : List Str}
  {params : Arguments} {body : Expr} {scope : Scope} {t : XK → TE} {p lpos pos : Pos}
end
end LK

/-! the facts of an error's class, by looks that the kernel runs -/
namespace LK
open PySem PySem.Spec PyProof.Rows L2 LamX
open PySem.W (Frag excInitIn excOver findIn subIn hasDictIn specialIn takesIn mroIn keepIn typeIn takerIn kitOne exmOne excIn)
def excCB (K : Frag) (D : Addr) : Bool :=
  decide (findIn K (.ref D) "__getattribute__" = some (some (.builtin "BaseException.__getattribute__"))) && (decide (findIn K (.ref D) "__getattr__" = some none) && (decide (subIn K (.ref D) (.type "BaseException") = some true) && (hasDictIn K D &&
    (decide (findIn K (.ref D) "__class__" = some (some (.builtin "object.__class__"))) && (decide (specialIn K (.builtin "object.__class__") "__get__" = some (some (.builtin "getset_descriptor.__get__"))) &&
      (decide (takesIn K (.builtin "object.__class__") = some true) && decide (mroIn K D (.type "object") = some true)))))))
theorem excCB_ok {K : Frag} {D : Addr} (h : excCB K D = true) : ExcC K D := by
  obtain ⟨h1, h⟩ := Bool.and_eq_true_iff.mp h
  obtain ⟨h2, h⟩ := Bool.and_eq_true_iff.mp h
  obtain ⟨h3, h⟩ := Bool.and_eq_true_iff.mp h
  obtain ⟨h4, h⟩ := Bool.and_eq_true_iff.mp h
  obtain ⟨h5, h⟩ := Bool.and_eq_true_iff.mp h
  obtain ⟨h6, h⟩ := Bool.and_eq_true_iff.mp h
  obtain ⟨h7, h8⟩ := Bool.and_eq_true_iff.mp h
  exact ⟨of_decide_eq_true h1, of_decide_eq_true h2, of_decide_eq_true h3, h4, of_decide_eq_true h5, of_decide_eq_true h6, of_decide_eq_true h7, of_decide_eq_true h8⟩
def clsB (K : Frag) (C : Addr) (bmB : List Value) (newId : String) : Bool :=
  excInitIn K C bmB newId && (excOver K C bmB && (decide (findIn K (.ref C) "__setattr__" = some (some (.builtin "object.__setattr__"))) && (excCB K C && (keepIn K (.ref C) && decide (typeIn K (.ref C) = some (.type "type"))))))
theorem clsB_ok {K : Frag} {C : Addr} {bmB : List Value} {newId : String} (h : clsB K C bmB newId = true) : ExcK K C bmB newId ∧ typeIn K (.ref C) = some (.type "type") := by
  obtain ⟨h1, h⟩ := Bool.and_eq_true_iff.mp h
  obtain ⟨h2, h⟩ := Bool.and_eq_true_iff.mp h
  obtain ⟨h3, h⟩ := Bool.and_eq_true_iff.mp h
  obtain ⟨h4, h⟩ := Bool.and_eq_true_iff.mp h
  obtain ⟨h5, h6⟩ := Bool.and_eq_true_iff.mp h
  exact ⟨⟨h1, h2, of_decide_eq_true h3, excCB_ok h4, h5⟩, of_decide_eq_true h6⟩
def fldB (K : Frag) (C : Addr) (f : Str) : Bool := decide (takerIn K C f = some none) && decide (findIn K (.ref C) f = some none)
theorem fldB_ok {K : Frag} {C : Addr} {f : Str} (h : fldB K C f = true) : takerIn K C f = some none ∧ findIn K (.ref C) f = some none := by
  obtain ⟨h1, h2⟩ := Bool.and_eq_true_iff.mp h
  exact ⟨of_decide_eq_true h1, of_decide_eq_true h2⟩
section
variable {P : Program} {w : World} {K : Frag} {mg : Str → Option Value} {base : Heap} {B newId initId : String} {bmB : List Value} {q x : Str} {st : Stmt} {C fI : Addr} {fd : FuncData} {k : Nat}
theorem hasC1 {fn : Str} {p1 p2 p3 p4 : Pos} (FB : ExcBaseFacts B newId initId bmB) (SF : StoreFacts B bmB "object.__setattr__" "object") (c : clsB K C bmB newId = true) (f1 : fldB K C fn = true) (g : mg x = some (.ref C))
    (iC : findIn K (.ref C) "__init__" = some (some (.ref fI))) (tI : typeIn K (.ref fI) = some (.type "function")) (F : Fun K "__init__" q st fI fd) (S : FnScope ["self", fn] ["self", fn] (defScope st))
    (body : defBody st = [.Assign [.Attribute (.Name "self" p1) fn p2] (.Name fn p3) p4]) (v0 : Vis (defScope st) "self") (v1 : Vis (defScope st) fn) (d1 : (fn == ("__debug__" : Str)) = false) (c1 : (fn == ("__classdict__" : Str)) = false)
    (sw : ∀ env : Env, env.scope = defScope st → swapsWith (.Name fn p3) (some (.Attribute (.Name "self" p1) fn p2)) p4.line env = pure false) (hb : Binds K fd ["self", fn] [])
    (hk : ∀ (s : Shared) (z : Value) (ws : List Value), ws.length = [fn].length → BindsTo s fd ⟨[z], [fn].zip ws⟩ ((("self" : Str) :: [fn]).zip (z :: ws)) ∧ BindsTo s fd ⟨[z], ([fn].zip ws).reverse⟩ ((("self" : Str) :: [fn]).zip (z :: ws))) :
    HasC P w K mg base (k + 1) x C [fn] := by
  obtain ⟨T, ty⟩ := clsB_ok c
  exact ⟨⟨B, newId, initId, bmB, fI, fd, FB, T, ty, iC, tI, ok_init1 SF F S body v0 v1 d1 c1 sw T (fldB_ok f1).1, hb, hk⟩, g⟩
end
abbrev bmR : List Value := [.type "RuntimeError", .type "Exception", .type "BaseException", .type "object"]
end LK

namespace LK
open PySem PySem.Spec PyProof.Rows L2 LamX ClX
theorem scLetters : FnScope ["self"] ["self"] (defScope sLetters) := ⟨rfl, rfl, rfl, by decide +kernel, rfl, by decide +kernel, by decide +kernel⟩
abbrev stNC : Stmt := inCls (topM 21) 0
theorem scNC : FnScope ["self", "place"] ["self", "place"] (defScope stNC) := ⟨rfl, rfl, rfl, by decide +kernel, rfl, by decide +kernel, by decide +kernel⟩
/-! ### what the top has written -/
theorem all_mk {l : PySem.W.OpenLaw} {w : World} {K : PySem.W.Frag} {h : Heap} {mg : Str → Option Value} {fa c Pt : Addr} (X : K.In h) (tP : h.get? Pt = some { cls := .none, data := .fields #[] }) (G : h.Ns mainGlobals mg) (hfa : mg "law" = some (.ref fa))
    {fIsInt : Addr} {ocIsInt kVIsInt dcIsInt pmIsInt cdIsInt ctIsInt : Value} {odIsInt anIsInt : Option Addr} {slIsInt : Array (Option Value)}
    {fIsText : Addr} {ocIsText kVIsText dcIsText pmIsText cdIsText ctIsText : Value} {odIsText anIsText : Option Addr} {slIsText : Array (Option Value)}
    {fIsOver : Addr} {ocIsOver kVIsOver dcIsOver pmIsOver cdIsOver ctIsOver : Value} {odIsOver anIsOver : Option Addr} {slIsOver : Array (Option Value)}
    {fAreLet : Addr} {ocAreLet kVAreLet dcAreLet pmAreLet cdAreLet ctAreLet : Value} {odAreLet anAreLet : Option Addr} {slAreLet : Array (Option Value)}
    {fNeedPl : Addr} {ocNeedPl kVNeedPl dcNeedPl pmNeedPl cdNeedPl ctNeedPl : Value} {odNeedPl anNeedPl : Option Addr} {slNeedPl : Array (Option Value)}
    {fBits : Addr} {ocBits kVBits dcBits pmBits cdBits ctBits : Value} {odBits anBits : Option Addr} {slBits : Array (Option Value)}
    {fMetG : Addr} {ocMetG kVMetG dcMetG pmMetG cdMetG ctMetG : Value} {odMetG anMetG : Option Addr} {slMetG : Array (Option Value)}
    {fLeastOf : Addr} {ocLeastOf kVLeastOf dcLeastOf pmLeastOf cdLeastOf ctLeastOf : Value} {odLeastOf anLeastOf : Option Addr} {slLeastOf : Array (Option Value)}
    {fAlike : Addr} {ocAlike kVAlike dcAlike pmAlike cdAlike ctAlike : Value} {odAlike anAlike : Option Addr} {slAlike : Array (Option Value)}
    {fNeedParts : Addr} {ocNeedParts kVNeedParts dcNeedParts pmNeedParts cdNeedParts ctNeedParts : Value} {odNeedParts anNeedParts : Option Addr} {slNeedParts : Array (Option Value)}
    {fIsRow : Addr} {ocIsRow kVIsRow dcIsRow pmIsRow cdIsRow ctIsRow : Value} {odIsRow anIsRow : Option Addr} {slIsRow : Array (Option Value)}
    {fIsPlace : Addr} {ocIsPlace kVIsPlace dcIsPlace pmIsPlace cdIsPlace ctIsPlace : Value} {odIsPlace anIsPlace : Option Addr} {slIsPlace : Array (Option Value)}
    {fMetFrom : Addr} {ocMetFrom kVMetFrom dcMetFrom pmMetFrom cdMetFrom ctMetFrom : Value} {odMetFrom anMetFrom : Option Addr} {slMetFrom : Array (Option Value)}
    {fNumFrom : Addr} {ocNumFrom kVNumFrom dcNumFrom pmNumFrom cdNumFrom ctNumFrom : Value} {odNumFrom anNumFrom : Option Addr} {slNumFrom : Array (Option Value)}
    {fHeardP : Addr} {ocHeardP kVHeardP dcHeardP pmHeardP cdHeardP ctHeardP : Value} {odHeardP anHeardP : Option Addr} {slHeardP : Array (Option Value)}
    {fIsLine : Addr} {ocIsLine kVIsLine dcIsLine pmIsLine cdIsLine ctIsLine : Value} {odIsLine anIsLine : Option Addr} {slIsLine : Array (Option Value)}
    {fHeardM : Addr} {ocHeardM kVHeardM dcHeardM pmHeardM ctHeardM : Value} {odHeardM anHeardM : Option Addr} {slHeardM : Array (Option Value)}
    {fHeardAs : Addr} {ocHeardAs kVHeardAs dcHeardAs pmHeardAs cdHeardAs ctHeardAs : Value} {odHeardAs anHeardAs : Option Addr} {slHeardAs : Array (Option Value)}
    {fAreHear : Addr} {ocAreHear kVAreHear dcAreHear pmAreHear cdAreHear ctAreHear : Value} {odAreHear anAreHear : Option Addr} {slAreHear : Array (Option Value)}
    {fNeedLine : Addr} {ocNeedLine kVNeedLine dcNeedLine pmNeedLine cdNeedLine ctNeedLine : Value} {odNeedLine anNeedLine : Option Addr} {slNeedLine : Array (Option Value)}
    {fPot : Addr} {ocPot kVPot dcPot pmPot cdPot ctPot : Value} {odPot anPot : Option Addr} {slPot : Array (Option Value)}
    {fDraw : Addr} {ocDraw kVDraw dcDraw pmDraw cdDraw ctDraw : Value} {odDraw anDraw : Option Addr} {slDraw : Array (Option Value)}
    {fPick : Addr} {ocPick kVPick dcPick pmPick cdPick ctPick : Value} {odPick anPick : Option Addr} {slPick : Array (Option Value)}
    {fMixed : Addr} {ocMixed kVMixed dcMixed pmMixed cdMixed ctMixed : Value} {odMixed anMixed : Option Addr} {slMixed : Array (Option Value)}
    {fLRows : Addr} {ocLRows kVLRows dcLRows pmLRows cdLRows ctLRows : Value} {odLRows anLRows : Option Addr} {slLRows : Array (Option Value)}
    {fLKinds : Addr} {ocLKinds kVLKinds dcLKinds pmLKinds cdLKinds ctLKinds : Value} {odLKinds anLKinds : Option Addr} {slLKinds : Array (Option Value)}
    {fMixLine : Addr} {ocMixLine kVMixLine dcMixLine pmMixLine cdMixLine ctMixLine : Value} {odMixLine anMixLine : Option Addr} {slMixLine : Array (Option Value)}
    {fLLine : Addr} {ocLLine kVLLine dcLLine pmLLine cdLLine ctLLine : Value} {odLLine anLLine : Option Addr} {slLLine : Array (Option Value)}
    {fMissed : Addr} {ocMissed kVMissed dcMissed pmMissed cdMissed ctMissed : Value} {odMissed anMissed : Option Addr} {slMissed : Array (Option Value)}
    {fLBehind : Addr} {ocLBehind kVLBehind dcLBehind pmLBehind cdLBehind ctLBehind : Value} {odLBehind anLBehind : Option Addr} {slLBehind : Array (Option Value)}
    {fModel : Addr} {ocModel kVModel dcModel pmModel cdModel ctModel : Value} {odModel anModel : Option Addr} {slModel : Array (Option Value)}
    {fFewer : Addr} {ocFewer kVFewer dcFewer pmFewer cdFewer ctFewer : Value} {odFewer anFewer : Option Addr} {slFewer : Array (Option Value)}
    {fHeardR : Addr} {ocHeardR kVHeardR dcHeardR pmHeardR cdHeardR ctHeardR : Value} {odHeardR anHeardR : Option Addr} {slHeardR : Array (Option Value)}
    {fRight : Addr} {ocRight kVRight dcRight pmRight cdRight ctRight : Value} {odRight anRight : Option Addr} {slRight : Array (Option Value)}
    {fLaw : Addr} {ocLaw kVLaw dcLaw pmLaw cdLaw ctLaw : Value} {odLaw anLaw : Option Addr} {slLaw : Array (Option Value)}
    {mKinds : Addr} {ocmKinds kVmKinds dcmKinds pmmKinds cdmKinds ctmKinds : Value} {odmKinds anmKinds : Option Addr} {slmKinds : Array (Option Value)}
    {mRows : Addr} {ocmRows kVmRows dcmRows pmmRows cdmRows ctmRows : Value} {odmRows anmRows : Option Addr} {slmRows : Array (Option Value)}
    {mLeast : Addr} {ocmLeast kVmLeast dcmLeast pmmLeast cdmLeast ctmLeast : Value} {odmLeast anmLeast : Option Addr} {slmLeast : Array (Option Value)}
    {mLen : Addr} {ocmLen kVmLen dcmLen pmmLen cdmLen ctmLen : Value} {odmLen anmLen : Option Addr} {slmLen : Array (Option Value)}
    {mEq : Addr} {ocmEq kVmEq dcmEq pmmEq cdmEq ctmEq : Value} {odmEq anmEq : Option Addr} {slmEq : Array (Option Value)}
    {mRepr : Addr} {ocmRepr kVmRepr dcmRepr pmmRepr cdmRepr ctmRepr : Value} {odmRepr anmRepr : Option Addr} {slmRepr : Array (Option Value)}
    {mInit : Addr} {ocmInit kVmInit dcmInit pmmInit cdmInit ctmInit : Value} {odmInit anmInit : Option Addr} {slmInit : Array (Option Value)}
    {mLetters : Addr} {ocmLetters kVmLetters dcmLetters pmmLetters cdmLetters ctmLetters : Value} {odmLetters anmLetters : Option Addr} {slmLetters : Array (Option Value)}
    {mNC : Addr} {ocmNC kVmNC dcmNC pmmNC cdmNC ctmNC : Value} {odmNC anmNC : Option Addr} {slmNC : Array (Option Value)}
    {C pL cN : Addr} {restL : List Value} {tS tM tC2 : Tok}
    {mKInit : Addr} {ocmKInit kVmKInit dcmKInit pmmKInit cdmKInit ctmKInit : Value} {odmKInit anmKInit : Option Addr} {slmKInit : Array (Option Value)}
    {mKLed : Addr} {ocmKLed kVmKLed dcmKLed pmmKLed cdmKLed ctmKLed : Value} {odmKLed anmKLed : Option Addr} {slmKLed : Array (Option Value)}
    {mKSome : Addr} {ocmKSome kVmKSome dcmKSome pmmKSome cdmKSome ctmKSome : Value} {odmKSome anmKSome : Option Addr} {slmKSome : Array (Option Value)}
    {mKStay : Addr} {ocmKStay kVmKStay dcmKStay pmmKStay cdmKStay ctmKStay : Value} {odmKStay anmKStay : Option Addr} {slmKStay : Array (Option Value)}
    {mKTake : Addr} {ocmKTake kVmKTake dcmKTake pmmKTake cdmKTake ctmKTake : Value} {odmKTake anmKTake : Option Addr} {slmKTake : Array (Option Value)}
    {CM : Addr} {tML : Tok}
    (aIsInt : PySem.W.nsIn K mainGlobals "is_integer" = some (some (.ref fIsInt)))
    (lIsInt : K.lookup fIsInt = some ⟨ocIsInt, odIsInt, .func (PySem.W.fnOf "is_integer" "is_integer" (defArgs sIsInt) (defBody sIsInt) (defScope sIsInt) .none kVIsInt dcIsInt pmIsInt anIsInt cdIsInt ctIsInt), slIsInt⟩)
    (cIsInt : PySem.W.codeIn K cdIsInt "is_integer" = true)
    (kIsInt : PySem.W.keepIn K (.ref fIsInt) = true)
    (aIsText : PySem.W.nsIn K mainGlobals "is_text" = some (some (.ref fIsText)))
    (lIsText : K.lookup fIsText = some ⟨ocIsText, odIsText, .func (PySem.W.fnOf "is_text" "is_text" (defArgs sIsText) (defBody sIsText) (defScope sIsText) .none kVIsText dcIsText pmIsText anIsText cdIsText ctIsText), slIsText⟩)
    (cIsText : PySem.W.codeIn K cdIsText "is_text" = true)
    (kIsText : PySem.W.keepIn K (.ref fIsText) = true)
    (aIsOver : PySem.W.nsIn K mainGlobals "is_over" = some (some (.ref fIsOver)))
    (lIsOver : K.lookup fIsOver = some ⟨ocIsOver, odIsOver, .func (PySem.W.fnOf "is_over" "is_over" (defArgs sIsOver) (defBody sIsOver) (defScope sIsOver) .none kVIsOver dcIsOver pmIsOver anIsOver cdIsOver ctIsOver), slIsOver⟩)
    (cIsOver : PySem.W.codeIn K cdIsOver "is_over" = true)
    (kIsOver : PySem.W.keepIn K (.ref fIsOver) = true)
    (aAreLet : PySem.W.nsIn K mainGlobals "are_letters" = some (some (.ref fAreLet)))
    (lAreLet : K.lookup fAreLet = some ⟨ocAreLet, odAreLet, .func (PySem.W.fnOf "are_letters" "are_letters" (defArgs sAreLet) (defBody sAreLet) (defScope sAreLet) .none kVAreLet dcAreLet pmAreLet anAreLet cdAreLet ctAreLet), slAreLet⟩)
    (cAreLet : PySem.W.codeIn K cdAreLet "are_letters" = true)
    (kAreLet : PySem.W.keepIn K (.ref fAreLet) = true)
    (aNeedPl : PySem.W.nsIn K mainGlobals "need_places" = some (some (.ref fNeedPl)))
    (lNeedPl : K.lookup fNeedPl = some ⟨ocNeedPl, odNeedPl, .func (PySem.W.fnOf "need_places" "need_places" (defArgs sNeedPl) (defBody sNeedPl) (defScope sNeedPl) .none kVNeedPl dcNeedPl pmNeedPl anNeedPl cdNeedPl ctNeedPl), slNeedPl⟩)
    (cNeedPl : PySem.W.codeIn K cdNeedPl "need_places" = true)
    (kNeedPl : PySem.W.keepIn K (.ref fNeedPl) = true)
    (aBits : PySem.W.nsIn K mainGlobals "_bits" = some (some (.ref fBits)))
    (lBits : K.lookup fBits = some ⟨ocBits, odBits, .func (PySem.W.fnOf "_bits" "_bits" (defArgs sBits) (defBody sBits) (defScope sBits) .none kVBits dcBits pmBits anBits cdBits ctBits), slBits⟩)
    (cBits : PySem.W.codeIn K cdBits "_bits" = true)
    (kBits : PySem.W.keepIn K (.ref fBits) = true)
    (aMetG : PySem.W.nsIn K mainGlobals "met_from" = some (some (.ref fMetG)))
    (lMetG : K.lookup fMetG = some ⟨ocMetG, odMetG, .func (PySem.W.fnOf "met_from" "met_from" (defArgs sMetG) (defBody sMetG) (defScope sMetG) .none kVMetG dcMetG pmMetG anMetG cdMetG ctMetG), slMetG⟩)
    (cMetG : PySem.W.codeIn K cdMetG "met_from" = true)
    (kMetG : PySem.W.keepIn K (.ref fMetG) = true)
    (aLeastOf : PySem.W.nsIn K mainGlobals "least_of" = some (some (.ref fLeastOf)))
    (lLeastOf : K.lookup fLeastOf = some ⟨ocLeastOf, odLeastOf, .func (PySem.W.fnOf "least_of" "least_of" (defArgs sLeastOf) (defBody sLeastOf) (defScope sLeastOf) .none kVLeastOf dcLeastOf pmLeastOf anLeastOf cdLeastOf ctLeastOf), slLeastOf⟩)
    (cLeastOf : PySem.W.codeIn K cdLeastOf "least_of" = true)
    (kLeastOf : PySem.W.keepIn K (.ref fLeastOf) = true)
    (aAlike : PySem.W.nsIn K mainGlobals "alike_classes" = some (some (.ref fAlike)))
    (lAlike : K.lookup fAlike = some ⟨ocAlike, odAlike, .func (PySem.W.fnOf "alike_classes" "alike_classes" (defArgs sAlike) (defBody sAlike) (defScope sAlike) .none kVAlike dcAlike pmAlike anAlike cdAlike ctAlike), slAlike⟩)
    (cAlike : PySem.W.codeIn K cdAlike "alike_classes" = true)
    (kAlike : PySem.W.keepIn K (.ref fAlike) = true)
    (aNeedParts : PySem.W.nsIn K mainGlobals "_need_parts" = some (some (.ref fNeedParts)))
    (lNeedParts : K.lookup fNeedParts = some ⟨ocNeedParts, odNeedParts, .func (PySem.W.fnOf "_need_parts" "_need_parts" (defArgs sNeedParts) (defBody sNeedParts) (defScope sNeedParts) .none kVNeedParts dcNeedParts pmNeedParts anNeedParts cdNeedParts ctNeedParts), slNeedParts⟩)
    (cNeedParts : PySem.W.codeIn K cdNeedParts "_need_parts" = true)
    (kNeedParts : PySem.W.keepIn K (.ref fNeedParts) = true)
    (aIsRow : PySem.W.nsIn K mainGlobals "_is_row" = some (some (.ref fIsRow)))
    (lIsRow : K.lookup fIsRow = some ⟨ocIsRow, odIsRow, .func (PySem.W.fnOf "_is_row" "_is_row" (defArgs sIsRow) (defBody sIsRow) (defScope sIsRow) .none kVIsRow dcIsRow pmIsRow anIsRow cdIsRow ctIsRow), slIsRow⟩)
    (cIsRow : PySem.W.codeIn K cdIsRow "_is_row" = true)
    (kIsRow : PySem.W.keepIn K (.ref fIsRow) = true)
    (aIsPlace : PySem.W.nsIn K mainGlobals "is_place" = some (some (.ref fIsPlace)))
    (lIsPlace : K.lookup fIsPlace = some ⟨ocIsPlace, odIsPlace, .func (PySem.W.fnOf "is_place" "is_place" (defArgs sIsPlace) (defBody sIsPlace) (defScope sIsPlace) .none kVIsPlace dcIsPlace pmIsPlace anIsPlace cdIsPlace ctIsPlace), slIsPlace⟩)
    (cIsPlace : PySem.W.codeIn K cdIsPlace "is_place" = true)
    (kIsPlace : PySem.W.keepIn K (.ref fIsPlace) = true)
    (aMetFrom : PySem.W.nsIn K mainGlobals "_met_from" = some (some (.ref fMetFrom)))
    (lMetFrom : K.lookup fMetFrom = some ⟨ocMetFrom, odMetFrom, .func (PySem.W.fnOf "_met_from" "_met_from" (defArgs sMetFrom) (defBody sMetFrom) (defScope sMetFrom) .none kVMetFrom dcMetFrom pmMetFrom anMetFrom cdMetFrom ctMetFrom), slMetFrom⟩)
    (cMetFrom : PySem.W.codeIn K cdMetFrom "_met_from" = true)
    (kMetFrom : PySem.W.keepIn K (.ref fMetFrom) = true)
    (aNumFrom : PySem.W.nsIn K mainGlobals "_numbered_from" = some (some (.ref fNumFrom)))
    (lNumFrom : K.lookup fNumFrom = some ⟨ocNumFrom, odNumFrom, .func (PySem.W.fnOf "_numbered_from" "_numbered_from" (defArgs sNumFrom) (defBody sNumFrom) (defScope sNumFrom) .none kVNumFrom dcNumFrom pmNumFrom anNumFrom cdNumFrom ctNumFrom), slNumFrom⟩)
    (cNumFrom : PySem.W.codeIn K cdNumFrom "_numbered_from" = true)
    (kNumFrom : PySem.W.keepIn K (.ref fNumFrom) = true)
    (aHeardP : PySem.W.nsIn K mainGlobals "heard" = some (some (.ref fHeardP)))
    (lHeardP : K.lookup fHeardP = some ⟨ocHeardP, odHeardP, .func (PySem.W.fnOf "heard" "heard" (defArgs sHeardP) (defBody sHeardP) (defScope sHeardP) .none kVHeardP dcHeardP pmHeardP anHeardP cdHeardP ctHeardP), slHeardP⟩)
    (cHeardP : PySem.W.codeIn K cdHeardP "heard" = true)
    (kHeardP : PySem.W.keepIn K (.ref fHeardP) = true)
    (aIsLine : PySem.W.nsIn K mainGlobals "is_line_over" = some (some (.ref fIsLine)))
    (lIsLine : K.lookup fIsLine = some ⟨ocIsLine, odIsLine, .func (PySem.W.fnOf "is_line_over" "is_line_over" (defArgs sIsLine) (defBody sIsLine) (defScope sIsLine) .none kVIsLine dcIsLine pmIsLine anIsLine cdIsLine ctIsLine), slIsLine⟩)
    (cIsLine : PySem.W.codeIn K cdIsLine "is_line_over" = true)
    (kIsLine : PySem.W.keepIn K (.ref fIsLine) = true)
    (aHeardM : PySem.W.nsIn K mainGlobals "heard_machine" = some (some (.ref fHeardM)))
    (lHeardM : K.lookup fHeardM = some ⟨ocHeardM, odHeardM, .func (PySem.W.fnOf "heard_machine" "heard_machine" (defArgs sHeardM) (defBody sHeardM) (defScope sHeardM) .none kVHeardM dcHeardM pmHeardM anHeardM (.ref c) ctHeardM), slHeardM⟩)
    (cHeardM : PySem.W.codeIn K (.ref c) "heard_machine" = true)
    (kHeardM : PySem.W.keepIn K (.ref fHeardM) = true)
    (aHeardAs : PySem.W.nsIn K mainGlobals "_heard_as" = some (some (.ref fHeardAs)))
    (lHeardAs : K.lookup fHeardAs = some ⟨ocHeardAs, odHeardAs, .func (PySem.W.fnOf "_heard_as" "_heard_as" (defArgs sHeardAs) (defBody sHeardAs) (defScope sHeardAs) .none kVHeardAs dcHeardAs pmHeardAs anHeardAs cdHeardAs ctHeardAs), slHeardAs⟩)
    (cHeardAs : PySem.W.codeIn K cdHeardAs "_heard_as" = true)
    (kHeardAs : PySem.W.keepIn K (.ref fHeardAs) = true)
    (aAreHear : PySem.W.nsIn K mainGlobals "_are_hearings" = some (some (.ref fAreHear)))
    (lAreHear : K.lookup fAreHear = some ⟨ocAreHear, odAreHear, .func (PySem.W.fnOf "_are_hearings" "_are_hearings" (defArgs sAreHear) (defBody sAreHear) (defScope sAreHear) .none kVAreHear dcAreHear pmAreHear anAreHear cdAreHear ctAreHear), slAreHear⟩)
    (cAreHear : PySem.W.codeIn K cdAreHear "_are_hearings" = true)
    (kAreHear : PySem.W.keepIn K (.ref fAreHear) = true)
    (aNeedLine : PySem.W.nsIn K mainGlobals "_need_line" = some (some (.ref fNeedLine)))
    (lNeedLine : K.lookup fNeedLine = some ⟨ocNeedLine, odNeedLine, .func (PySem.W.fnOf "_need_line" "_need_line" (defArgs sNeedLine) (defBody sNeedLine) (defScope sNeedLine) .none kVNeedLine dcNeedLine pmNeedLine anNeedLine cdNeedLine ctNeedLine), slNeedLine⟩)
    (cNeedLine : PySem.W.codeIn K cdNeedLine "_need_line" = true)
    (kNeedLine : PySem.W.keepIn K (.ref fNeedLine) = true)
    (aPot : PySem.W.nsIn K mainGlobals "_law_pot" = some (some (.ref fPot)))
    (lPot : K.lookup fPot = some ⟨ocPot, odPot, .func (PySem.W.fnOf "_law_pot" "_law_pot" (defArgs sPot) (defBody sPot) (defScope sPot) .none kVPot dcPot pmPot anPot cdPot ctPot), slPot⟩)
    (cPot : PySem.W.codeIn K cdPot "_law_pot" = true)
    (kPot : PySem.W.keepIn K (.ref fPot) = true)
    (aDraw : PySem.W.nsIn K mainGlobals "_law_draw" = some (some (.ref fDraw)))
    (lDraw : K.lookup fDraw = some ⟨ocDraw, odDraw, .func (PySem.W.fnOf "_law_draw" "_law_draw" (defArgs sDraw) (defBody sDraw) (defScope sDraw) .none kVDraw dcDraw pmDraw anDraw cdDraw ctDraw), slDraw⟩)
    (cDraw : PySem.W.codeIn K cdDraw "_law_draw" = true)
    (kDraw : PySem.W.keepIn K (.ref fDraw) = true)
    (aPick : PySem.W.nsIn K mainGlobals "_law_pick" = some (some (.ref fPick)))
    (lPick : K.lookup fPick = some ⟨ocPick, odPick, .func (PySem.W.fnOf "_law_pick" "_law_pick" (defArgs sPick) (defBody sPick) (defScope sPick) .none kVPick dcPick pmPick anPick cdPick ctPick), slPick⟩)
    (cPick : PySem.W.codeIn K cdPick "_law_pick" = true)
    (kPick : PySem.W.keepIn K (.ref fPick) = true)
    (aMixed : PySem.W.nsIn K mainGlobals "_law_mixed" = some (some (.ref fMixed)))
    (lMixed : K.lookup fMixed = some ⟨ocMixed, odMixed, .func (PySem.W.fnOf "_law_mixed" "_law_mixed" (defArgs sMixed) (defBody sMixed) (defScope sMixed) .none kVMixed dcMixed pmMixed anMixed cdMixed ctMixed), slMixed⟩)
    (cMixed : PySem.W.codeIn K cdMixed "_law_mixed" = true)
    (kMixed : PySem.W.keepIn K (.ref fMixed) = true)
    (aLRows : PySem.W.nsIn K mainGlobals "_law_rows" = some (some (.ref fLRows)))
    (lLRows : K.lookup fLRows = some ⟨ocLRows, odLRows, .func (PySem.W.fnOf "_law_rows" "_law_rows" (defArgs sLRows) (defBody sLRows) (defScope sLRows) .none kVLRows dcLRows pmLRows anLRows cdLRows ctLRows), slLRows⟩)
    (cLRows : PySem.W.codeIn K cdLRows "_law_rows" = true)
    (kLRows : PySem.W.keepIn K (.ref fLRows) = true)
    (aLKinds : PySem.W.nsIn K mainGlobals "_law_kinds" = some (some (.ref fLKinds)))
    (lLKinds : K.lookup fLKinds = some ⟨ocLKinds, odLKinds, .func (PySem.W.fnOf "_law_kinds" "_law_kinds" (defArgs sLKinds) (defBody sLKinds) (defScope sLKinds) .none kVLKinds dcLKinds pmLKinds anLKinds cdLKinds ctLKinds), slLKinds⟩)
    (cLKinds : PySem.W.codeIn K cdLKinds "_law_kinds" = true)
    (kLKinds : PySem.W.keepIn K (.ref fLKinds) = true)
    (aMixLine : PySem.W.nsIn K mainGlobals "_law_mixed_line" = some (some (.ref fMixLine)))
    (lMixLine : K.lookup fMixLine = some ⟨ocMixLine, odMixLine, .func (PySem.W.fnOf "_law_mixed_line" "_law_mixed_line" (defArgs sMixLine) (defBody sMixLine) (defScope sMixLine) .none kVMixLine dcMixLine pmMixLine anMixLine cdMixLine ctMixLine), slMixLine⟩)
    (cMixLine : PySem.W.codeIn K cdMixLine "_law_mixed_line" = true)
    (kMixLine : PySem.W.keepIn K (.ref fMixLine) = true)
    (aLLine : PySem.W.nsIn K mainGlobals "_law_line" = some (some (.ref fLLine)))
    (lLLine : K.lookup fLLine = some ⟨ocLLine, odLLine, .func (PySem.W.fnOf "_law_line" "_law_line" (defArgs sLLine) (defBody sLLine) (defScope sLLine) .none kVLLine dcLLine pmLLine anLLine cdLLine ctLLine), slLLine⟩)
    (cLLine : PySem.W.codeIn K cdLLine "_law_line" = true)
    (kLLine : PySem.W.keepIn K (.ref fLLine) = true)
    (aMissed : PySem.W.nsIn K mainGlobals "_law_missed" = some (some (.ref fMissed)))
    (lMissed : K.lookup fMissed = some ⟨ocMissed, odMissed, .func (PySem.W.fnOf "_law_missed" "_law_missed" (defArgs sMissed) (defBody sMissed) (defScope sMissed) .none kVMissed dcMissed pmMissed anMissed cdMissed ctMissed), slMissed⟩)
    (cMissed : PySem.W.codeIn K cdMissed "_law_missed" = true)
    (kMissed : PySem.W.keepIn K (.ref fMissed) = true)
    (aLBehind : PySem.W.nsIn K mainGlobals "_law_behind" = some (some (.ref fLBehind)))
    (lLBehind : K.lookup fLBehind = some ⟨ocLBehind, odLBehind, .func (PySem.W.fnOf "_law_behind" "_law_behind" (defArgs sLBehind) (defBody sLBehind) (defScope sLBehind) .none kVLBehind dcLBehind pmLBehind anLBehind cdLBehind ctLBehind), slLBehind⟩)
    (cLBehind : PySem.W.codeIn K cdLBehind "_law_behind" = true)
    (kLBehind : PySem.W.keepIn K (.ref fLBehind) = true)
    (aModel : PySem.W.nsIn K mainGlobals "_law_model" = some (some (.ref fModel)))
    (lModel : K.lookup fModel = some ⟨ocModel, odModel, .func (PySem.W.fnOf "_law_model" "_law_model" (defArgs sModel) (defBody sModel) (defScope sModel) .none kVModel dcModel pmModel anModel cdModel ctModel), slModel⟩)
    (cModel : PySem.W.codeIn K cdModel "_law_model" = true)
    (kModel : PySem.W.keepIn K (.ref fModel) = true)
    (aFewer : PySem.W.nsIn K mainGlobals "_law_fewer" = some (some (.ref fFewer)))
    (lFewer : K.lookup fFewer = some ⟨ocFewer, odFewer, .func (PySem.W.fnOf "_law_fewer" "_law_fewer" (defArgs sFewer) (defBody sFewer) (defScope sFewer) .none kVFewer dcFewer pmFewer anFewer cdFewer ctFewer), slFewer⟩)
    (cFewer : PySem.W.codeIn K cdFewer "_law_fewer" = true)
    (kFewer : PySem.W.keepIn K (.ref fFewer) = true)
    (aHeardR : PySem.W.nsIn K mainGlobals "_law_heard_rows" = some (some (.ref fHeardR)))
    (lHeardR : K.lookup fHeardR = some ⟨ocHeardR, odHeardR, .func (PySem.W.fnOf "_law_heard_rows" "_law_heard_rows" (defArgs sHeardR) (defBody sHeardR) (defScope sHeardR) .none kVHeardR dcHeardR pmHeardR anHeardR cdHeardR ctHeardR), slHeardR⟩)
    (cHeardR : PySem.W.codeIn K cdHeardR "_law_heard_rows" = true)
    (kHeardR : PySem.W.keepIn K (.ref fHeardR) = true)
    (aRight : PySem.W.nsIn K mainGlobals "_law_right" = some (some (.ref fRight)))
    (lRight : K.lookup fRight = some ⟨ocRight, odRight, .func (PySem.W.fnOf "_law_right" "_law_right" (defArgs sRight) (defBody sRight) (defScope sRight) .none kVRight dcRight pmRight anRight cdRight ctRight), slRight⟩)
    (cRight : PySem.W.codeIn K cdRight "_law_right" = true)
    (kRight : PySem.W.keepIn K (.ref fRight) = true)
    (aLaw : PySem.W.nsIn K mainGlobals "law" = some (some (.ref fLaw)))
    (lLaw : K.lookup fLaw = some ⟨ocLaw, odLaw, .func (PySem.W.fnOf "law" "law" (defArgs sLaw) (defBody sLaw) (defScope sLaw) .none kVLaw dcLaw pmLaw anLaw cdLaw ctLaw), slLaw⟩)
    (cLaw : PySem.W.codeIn K cdLaw "law" = true)
    (kLaw : PySem.W.keepIn K (.ref fLaw) = true)
    (nM : PySem.W.nsIn K mainGlobals "Machine" = some (some (.ref C)))
    (amKinds : PySem.W.findIn K (.ref C) "kinds" = some (some (.ref mKinds)))
    (tmKinds : PySem.W.typeIn K (.ref mKinds) = some (.type "function"))
    (lmKinds : K.lookup mKinds = some ⟨ocmKinds, odmKinds, .func (PySem.W.fnOf "kinds" "Machine.kinds" (defArgs sKinds) (defBody sKinds) (defScope sKinds) .none kVmKinds dcmKinds pmmKinds anmKinds cdmKinds ctmKinds), slmKinds⟩)
    (cmKinds : PySem.W.codeIn K cdmKinds "Machine.kinds" = true)
    (kmKinds : PySem.W.keepIn K (.ref mKinds) = true)
    (amRows : PySem.W.findIn K (.ref C) "rows" = some (some (.ref mRows)))
    (tmRows : PySem.W.typeIn K (.ref mRows) = some (.type "function"))
    (lmRows : K.lookup mRows = some ⟨ocmRows, odmRows, .func (PySem.W.fnOf "rows" "Machine.rows" (defArgs sRows) (defBody sRows) (defScope sRows) .none kVmRows dcmRows pmmRows anmRows cdmRows ctmRows), slmRows⟩)
    (cmRows : PySem.W.codeIn K cdmRows "Machine.rows" = true)
    (kmRows : PySem.W.keepIn K (.ref mRows) = true)
    (amLeast : PySem.W.findIn K (.ref C) "least" = some (some (.ref mLeast)))
    (tmLeast : PySem.W.typeIn K (.ref mLeast) = some (.type "function"))
    (lmLeast : K.lookup mLeast = some ⟨ocmLeast, odmLeast, .func (PySem.W.fnOf "least" "Machine.least" (defArgs sLeast) (defBody sLeast) (defScope sLeast) .none kVmLeast dcmLeast pmmLeast anmLeast cdmLeast ctmLeast), slmLeast⟩)
    (cmLeast : PySem.W.codeIn K cdmLeast "Machine.least" = true)
    (kmLeast : PySem.W.keepIn K (.ref mLeast) = true)
    (amLen : PySem.W.findIn K (.ref C) "__len__" = some (some (.ref mLen)))
    (tmLen : PySem.W.typeIn K (.ref mLen) = some (.type "function"))
    (lmLen : K.lookup mLen = some ⟨ocmLen, odmLen, .func (PySem.W.fnOf "__len__" "Machine.__len__" (defArgs sLen) (defBody sLen) (defScope sLen) .none kVmLen dcmLen pmmLen anmLen cdmLen ctmLen), slmLen⟩)
    (cmLen : PySem.W.codeIn K cdmLen "Machine.__len__" = true)
    (kmLen : PySem.W.keepIn K (.ref mLen) = true)
    (amEq : PySem.W.findIn K (.ref C) "__eq__" = some (some (.ref mEq)))
    (tmEq : PySem.W.typeIn K (.ref mEq) = some (.type "function"))
    (lmEq : K.lookup mEq = some ⟨ocmEq, odmEq, .func (PySem.W.fnOf "__eq__" "Machine.__eq__" (defArgs sEq) (defBody sEq) (defScope sEq) .none kVmEq dcmEq pmmEq anmEq cdmEq ctmEq), slmEq⟩)
    (cmEq : PySem.W.codeIn K cdmEq "Machine.__eq__" = true)
    (kmEq : PySem.W.keepIn K (.ref mEq) = true)
    (amRepr : PySem.W.findIn K (.ref C) "__repr__" = some (some (.ref mRepr)))
    (tmRepr : PySem.W.typeIn K (.ref mRepr) = some (.type "function"))
    (lmRepr : K.lookup mRepr = some ⟨ocmRepr, odmRepr, .func (PySem.W.fnOf "__repr__" "Machine.__repr__" (defArgs sRepr) (defBody sRepr) (defScope sRepr) .none kVmRepr dcmRepr pmmRepr anmRepr cdmRepr ctmRepr), slmRepr⟩)
    (cmRepr : PySem.W.codeIn K cdmRepr "Machine.__repr__" = true)
    (kmRepr : PySem.W.keepIn K (.ref mRepr) = true)
    (amInit : PySem.W.findIn K (.ref C) "__init__" = some (some (.ref mInit)))
    (tmInit : PySem.W.typeIn K (.ref mInit) = some (.type "function"))
    (lmInit : K.lookup mInit = some ⟨ocmInit, odmInit, .func (PySem.W.fnOf "__init__" "Machine.__init__" (defArgs sInit) (defBody sInit) (defScope sInit) .none kVmInit dcmInit pmmInit anmInit cdmInit ctmInit), slmInit⟩)
    (cmInit : PySem.W.codeIn K cdmInit "Machine.__init__" = true)
    (kmInit : PySem.W.keepIn K (.ref mInit) = true)
    (amLetters : PySem.W.findIn K (.ref C) "letters" = some (some (.ref pL)))
    (pget : PySem.W.specialIn K (.ref pL) "__get__" = some (some (.builtin "property.__get__")))
    (ptak : PySem.W.takesIn K (.ref pL) = some true)
    (prec : PySem.W.recIn K pL "property" = some (.ref mLetters :: restL))
    (lmLetters : K.lookup mLetters = some ⟨ocmLetters, odmLetters, .func (PySem.W.fnOf "letters" "Machine.letters" (defArgs sLetters) (defBody sLetters) (defScope sLetters) .none kVmLetters dcmLetters pmmLetters anmLetters cdmLetters ctmLetters), slmLetters⟩)
    (cmLetters : PySem.W.codeIn K cdmLetters "Machine.letters" = true)
    (kmLetters : PySem.W.keepIn K (.ref mLetters) = true)
    (nN : PySem.W.nsIn K mainGlobals "NotComeTo" = some (some (.ref cN)))
    (amNC : PySem.W.findIn K (.ref cN) "__init__" = some (some (.ref mNC)))
    (tmNC : PySem.W.typeIn K (.ref mNC) = some (.type "function"))
    (lmNC : K.lookup mNC = some ⟨ocmNC, odmNC, .func (PySem.W.fnOf "__init__" "NotComeTo.__init__" (defArgs stNC) (defBody stNC) (defScope stNC) .none kVmNC dcmNC pmmNC anmNC cdmNC ctmNC), slmNC⟩)
    (cmNC : PySem.W.codeIn K cdmNC "NotComeTo.__init__" = true)
    (kmNC : PySem.W.keepIn K (.ref mNC) = true)
    (bNC : clsB K cN bmR "RuntimeError.__new__" = true)
    (dNC : fldB K cN "place" = true)
    (eNC : excCB K cN = true)
    (cpg : PySem.W.plainGet K C Str.empty = true)
    (chd : PySem.W.hasDictIn K C = true)
    (cpo : PySem.W.plainOver K C = true)
    (csa : PySem.W.findIn K (.ref C) "__setattr__" = some (some (.builtin "object.__setattr__")))
    (n_letters : PySem.W.findIn K (.ref C) "_letters" = some none)
    (n_rows : PySem.W.findIn K (.ref C) "_rows" = some none)
    (n_kinds : PySem.W.findIn K (.ref C) "_kinds" = some none)
    (mmk : PySem.W.makesIn K C = true)
    (mkp : PySem.W.keepIn K (.ref C) = true)
    (ene : PySem.W.findIn K (.ref C) "__ne__" = some (some (.builtin "object.__ne__")))
    (eob : PySem.W.mroIn K C (.type "object") = some true)
    (ica : PySem.W.findIn K (.ref C) "__class__" = some (some (.builtin "object.__class__")))
    (icn : PySem.W.specialIn K (.builtin "object.__class__") "__get__" = some (some (.builtin "getset_descriptor.__get__")))
    (ict : PySem.W.takesIn K (.builtin "object.__class__") = some true)
    (rrd : PySem.W.readsIn K C (.type "type") = true)
    (rga : PySem.W.specialIn K (.ref C) "__getattribute__" = some (some (.builtin "type.__getattribute__")))
    (vat : PySem.W.findCls K (.ref C) (.type "type") "MOST_PLACES" = some (.val (.int 40 tC2)))
    (gS : PySem.W.nsIn K mainGlobals "SMALL_LETTERS" = some (some (.str "abcdefghijklmnopqrstuvwxyz" tS)))
    (gM : PySem.W.nsIn K mainGlobals "MOST_LETTERS" = some (some (.int 3 tM)))
    (hC : PySem.W.codeHdIn K c Pt = true)
    (nP : K.lookup Pt = none)
    (z_tuple : PySem.W.nsIn K mainGlobals "tuple" = some none)
    (z_zip : PySem.W.nsIn K mainGlobals "zip" = some none)
    (z_set : PySem.W.nsIn K mainGlobals "set" = some none)
    (z_bool : PySem.W.nsIn K mainGlobals "bool" = some none)
    (z_any : PySem.W.nsIn K mainGlobals "any" = some none)
    (z_enumerate : PySem.W.nsIn K mainGlobals "enumerate" = some none)
    (z_ve : PySem.W.nsIn K mainGlobals "ValueError" = some none)
    (z_re : PySem.W.nsIn K mainGlobals "RuntimeError" = some none)
    (z_ae : PySem.W.nsIn K mainGlobals "ArithmeticError" = some none)
    (z_len : PySem.W.nsIn K mainGlobals "len" = some none)
    (z_isi : PySem.W.nsIn K mainGlobals "isinstance" = some none)
    (z_all : PySem.W.nsIn K mainGlobals "all" = some none)
    (z_str : PySem.W.nsIn K mainGlobals "str" = some none)
    (z_list : PySem.W.nsIn K mainGlobals "list" = some none)
    (z_sorted : PySem.W.nsIn K mainGlobals "sorted" = some none)
    (z_range : PySem.W.nsIn K mainGlobals "range" = some none)
    (z_sum : PySem.W.nsIn K mainGlobals "sum" = some none)
    (z_repr : PySem.W.nsIn K mainGlobals "repr" = some none)
    (z_int : PySem.W.nsIn K mainGlobals "int" = some none)
    (z_abs : PySem.W.nsIn K mainGlobals "abs" = some none)
    (z_max : PySem.W.nsIn K mainGlobals "max" = some none)
    (z_min : PySem.W.nsIn K mainGlobals "min" = some none)
    (z_divmod : PySem.W.nsIn K mainGlobals "divmod" = some none)
    (nK : PySem.W.nsIn K mainGlobals "Marks" = some (some (.ref CM)))
    (amKInit : PySem.W.findIn K (.ref CM) "__init__" = some (some (.ref mKInit)))
    (tmKInit : PySem.W.typeIn K (.ref mKInit) = some (.type "function"))
    (lmKInit : K.lookup mKInit = some ⟨ocmKInit, odmKInit, .func (PySem.W.fnOf "__init__" "Marks.__init__" (defArgs sMkInit) (defBody sMkInit) (defScope sMkInit) .none kVmKInit dcmKInit pmmKInit anmKInit cdmKInit ctmKInit), slmKInit⟩)
    (cmKInit : PySem.W.codeIn K cdmKInit "Marks.__init__" = true)
    (kmKInit : PySem.W.keepIn K (.ref mKInit) = true)
    (amKLed : PySem.W.findIn K (.ref CM) "led" = some (some (.ref mKLed)))
    (tmKLed : PySem.W.typeIn K (.ref mKLed) = some (.type "function"))
    (lmKLed : K.lookup mKLed = some ⟨ocmKLed, odmKLed, .func (PySem.W.fnOf "led" "Marks.led" (defArgs sMkLed) (defBody sMkLed) (defScope sMkLed) .none kVmKLed dcmKLed pmmKLed anmKLed cdmKLed ctmKLed), slmKLed⟩)
    (cmKLed : PySem.W.codeIn K cdmKLed "Marks.led" = true)
    (kmKLed : PySem.W.keepIn K (.ref mKLed) = true)
    (amKSome : PySem.W.findIn K (.ref CM) "led_by_some" = some (some (.ref mKSome)))
    (tmKSome : PySem.W.typeIn K (.ref mKSome) = some (.type "function"))
    (lmKSome : K.lookup mKSome = some ⟨ocmKSome, odmKSome, .func (PySem.W.fnOf "led_by_some" "Marks.led_by_some" (defArgs sMkSome) (defBody sMkSome) (defScope sMkSome) .none kVmKSome dcmKSome pmmKSome anmKSome cdmKSome ctmKSome), slmKSome⟩)
    (cmKSome : PySem.W.codeIn K cdmKSome "Marks.led_by_some" = true)
    (kmKSome : PySem.W.keepIn K (.ref mKSome) = true)
    (amKStay : PySem.W.findIn K (.ref CM) "stayed" = some (some (.ref mKStay)))
    (tmKStay : PySem.W.typeIn K (.ref mKStay) = some (.type "function"))
    (lmKStay : K.lookup mKStay = some ⟨ocmKStay, odmKStay, .func (PySem.W.fnOf "stayed" "Marks.stayed" (defArgs sMkStay) (defBody sMkStay) (defScope sMkStay) .none kVmKStay dcmKStay pmmKStay anmKStay cdmKStay ctmKStay), slmKStay⟩)
    (cmKStay : PySem.W.codeIn K cdmKStay "Marks.stayed" = true)
    (kmKStay : PySem.W.keepIn K (.ref mKStay) = true)
    (amKTake : PySem.W.findIn K (.ref CM) "some_take" = some (some (.ref mKTake)))
    (tmKTake : PySem.W.typeIn K (.ref mKTake) = some (.type "function"))
    (lmKTake : K.lookup mKTake = some ⟨ocmKTake, odmKTake, .func (PySem.W.fnOf "some_take" "Marks.some_take" (defArgs sMkTake) (defBody sMkTake) (defScope sMkTake) .none kVmKTake dcmKTake pmmKTake anmKTake cdmKTake ctmKTake), slmKTake⟩)
    (cmKTake : PySem.W.codeIn K cdmKTake "Marks.some_take" = true)
    (kmKTake : PySem.W.keepIn K (.ref mKTake) = true)
    (kpg : PySem.W.plainGet K CM Str.empty = true)
    (khd : PySem.W.hasDictIn K CM = true)
    (kpo : PySem.W.plainOver K CM = true)
    (ksa : PySem.W.findIn K (.ref CM) "__setattr__" = some (some (.builtin "object.__setattr__")))
    (k_last : PySem.W.findIn K (.ref CM) "_last" = some none)
    (k_bits : PySem.W.findIn K (.ref CM) "_bits" = some none)
    (k_known : PySem.W.findIn K (.ref CM) "_known" = some none)
    (kmk : PySem.W.makesIn K CM = true)
    (kkp : PySem.W.keepIn K (.ref CM) = true)
    (gML : PySem.W.nsIn K mainGlobals "MOST_IN_LINE" = some (some (.int 5 tML)))
    (z_dict : PySem.W.nsIn K mainGlobals "dict" = some none)
 :
    LawGS l w K 14 63 "_law_script" mg fa h := by
  have e := hfa.symm.trans (PySem.W.mg_of X G aLaw)
  cases e
  have M : Mx mg := ⟨PySem.W.mg_none_of X G z_tuple, PySem.W.mg_none_of X G z_zip, PySem.W.mg_none_of X G z_set, PySem.W.mg_none_of X G z_bool, PySem.W.mg_none_of X G z_any, PySem.W.mg_none_of X G z_enumerate, PySem.W.mg_none_of X G z_ve, PySem.W.mg_none_of X G z_re, PySem.W.mg_none_of X G z_ae, PySem.W.mg_none_of X G z_len, PySem.W.mg_none_of X G z_isi, PySem.W.mg_none_of X G z_all, PySem.W.mg_none_of X G z_str, PySem.W.mg_none_of X G z_list, PySem.W.mg_none_of X G z_sorted, PySem.W.mg_none_of X G z_range, PySem.W.mg_none_of X G z_sum, PySem.W.mg_none_of X G z_repr, PySem.W.mg_none_of X G z_int, PySem.W.mg_none_of X G z_abs, PySem.W.mg_none_of X G z_max, PySem.W.mg_none_of X G z_min, PySem.W.mg_none_of X G z_divmod⟩
  have FIsInt := fun_mk (st := sIsInt) lIsInt cIsInt kIsInt
  have bIsInt : Binds K _ ["value"] [] := FIsInt.binds (ps := ["value"]) fun _ _ _ _ _ _ us hl => match us, hl with | [_], _ => rfl
  have gIsInt := PySem.W.mg_of X G aIsInt
  have FIsText := fun_mk (st := sIsText) lIsText cIsText kIsText
  have bIsText : Binds K _ ["value"] [] := FIsText.binds (ps := ["value"]) fun _ _ _ _ _ _ us hl => match us, hl with | [_], _ => rfl
  have gIsText := PySem.W.mg_of X G aIsText
  have FIsOver := fun_mk (st := sIsOver) lIsOver cIsOver kIsOver
  have bIsOver : Binds K _ ["value", "letters"] [] := FIsOver.binds (ps := ["value", "letters"]) fun _ _ _ _ _ _ us hl => match us, hl with | [_, _], _ => rfl
  have gIsOver := PySem.W.mg_of X G aIsOver
  have FAreLet := fun_mk (st := sAreLet) lAreLet cAreLet kAreLet
  have bAreLet : Binds K _ ["value"] [] := FAreLet.binds (ps := ["value"]) fun _ _ _ _ _ _ us hl => match us, hl with | [_], _ => rfl
  have gAreLet := PySem.W.mg_of X G aAreLet
  have FNeedPl := fun_mk (st := sNeedPl) lNeedPl cNeedPl kNeedPl
  have bNeedPl : Binds K _ ["machine", "most"] [] := FNeedPl.binds (ps := ["machine", "most"]) fun _ _ _ _ _ _ us hl => match us, hl with | [_, _], _ => rfl
  have gNeedPl := PySem.W.mg_of X G aNeedPl
  have FBits := fun_mk (st := sBits) lBits cBits kBits
  have bBits : Binds K _ ["places"] [] := FBits.binds (ps := ["places"]) fun _ _ _ _ _ _ us hl => match us, hl with | [_], _ => rfl
  have gBits := PySem.W.mg_of X G aBits
  have FMetG := fun_mk (st := sMetG) lMetG cMetG kMetG
  have bMetG : Binds K _ ["start", "goals_of", "most"] [] := FMetG.binds (ps := ["start", "goals_of", "most"]) fun _ _ _ _ _ _ us hl => match us, hl with | [_, _, _], _ => rfl
  have gMetG := PySem.W.mg_of X G aMetG
  have FLeastOf := fun_mk (st := sLeastOf) lLeastOf cLeastOf kLeastOf
  have bLeastOf : Binds K _ ["letters", "rows", "kinds", "start"] [] := FLeastOf.binds (ps := ["letters", "rows", "kinds", "start"]) fun _ _ _ _ _ _ us hl => match us, hl with | [_, _, _, _], _ => rfl
  have gLeastOf := PySem.W.mg_of X G aLeastOf
  have FAlike := fun_mk (st := sAlike) lAlike cAlike kAlike
  have bAlike : Binds K _ ["rows", "kinds"] [] := FAlike.binds (ps := ["rows", "kinds"]) fun _ _ _ _ _ _ us hl => match us, hl with | [_, _], _ => rfl
  have gAlike := PySem.W.mg_of X G aAlike
  have FNeedParts := fun_mk (st := sNeedParts) lNeedParts cNeedParts kNeedParts
  have bNeedParts : Binds K _ ["letters", "rows", "kinds"] [] := FNeedParts.binds (ps := ["letters", "rows", "kinds"]) fun _ _ _ _ _ _ us hl => match us, hl with | [_, _, _], _ => rfl
  have gNeedParts := PySem.W.mg_of X G aNeedParts
  have FIsRow := fun_mk (st := sIsRow) lIsRow cIsRow kIsRow
  have bIsRow : Binds K _ ["value", "many_letters", "many_places"] [] := FIsRow.binds (ps := ["value", "many_letters", "many_places"]) fun _ _ _ _ _ _ us hl => match us, hl with | [_, _, _], _ => rfl
  have gIsRow := PySem.W.mg_of X G aIsRow
  have FIsPlace := fun_mk (st := sIsPlace) lIsPlace cIsPlace kIsPlace
  have bIsPlace : Binds K _ ["value", "many"] [] := FIsPlace.binds (ps := ["value", "many"]) fun _ _ _ _ _ _ us hl => match us, hl with | [_, _], _ => rfl
  have gIsPlace := PySem.W.mg_of X G aIsPlace
  have FMetFrom := fun_mk (st := sMetFrom) lMetFrom cMetFrom kMetFrom
  have bMetFrom : Binds K _ ["rows", "start"] [] := FMetFrom.binds (ps := ["rows", "start"]) fun _ _ _ _ _ _ us hl => match us, hl with | [_, _], _ => rfl
  have gMetFrom := PySem.W.mg_of X G aMetFrom
  have FNumFrom := fun_mk (st := sNumFrom) lNumFrom cNumFrom kNumFrom
  have bNumFrom : Binds K _ ["letters", "rows", "kinds", "start"] [] := FNumFrom.binds (ps := ["letters", "rows", "kinds", "start"]) fun _ _ _ _ _ _ us hl => match us, hl with | [_, _, _, _], _ => rfl
  have gNumFrom := PySem.W.mg_of X G aNumFrom
  have FHeardP := fun_mk (st := sHeardP) lHeardP cHeardP kHeardP
  have bHeardP : Binds K _ ["machine", "line"] [] := FHeardP.binds (ps := ["machine", "line"]) fun _ _ _ _ _ _ us hl => match us, hl with | [_, _], _ => rfl
  have gHeardP := PySem.W.mg_of X G aHeardP
  have FIsLine := fun_mk (st := sIsLine) lIsLine cIsLine kIsLine
  have bIsLine : Binds K _ ["letters", "value"] [] := FIsLine.binds (ps := ["letters", "value"]) fun _ _ _ _ _ _ us hl => match us, hl with | [_, _], _ => rfl
  have gIsLine := PySem.W.mg_of X G aIsLine
  have FHeardM : FunC K "heard_machine" "heard_machine" sHeardM fHeardM _ c := ⟨⟨_, _, _, _, _, _, _, _, rfl, lHeardM, cHeardM⟩, kHeardM⟩
  have FHeardM0 := FHeardM.fn
  have bHeardM : Binds K _ ["machine", "line"] [] := FHeardM0.binds (ps := ["machine", "line"]) fun _ _ _ _ _ _ us hl => match us, hl with | [_, _], _ => rfl
  have gHeardM := PySem.W.mg_of X G aHeardM
  have FHeardAs := fun_mk (st := sHeardAs) lHeardAs cHeardAs kHeardAs
  have bHeardAs : Binds K _ ["letters", "line", "hearing"] [] := FHeardAs.binds (ps := ["letters", "line", "hearing"]) fun _ _ _ _ _ _ us hl => match us, hl with | [_, _, _], _ => rfl
  have gHeardAs := PySem.W.mg_of X G aHeardAs
  have FAreHear := fun_mk (st := sAreHear) lAreHear cAreHear kAreHear
  have bAreHear : Binds K _ ["letters", "value"] [] := FAreHear.binds (ps := ["letters", "value"]) fun _ _ _ _ _ _ us hl => match us, hl with | [_, _], _ => rfl
  have gAreHear := PySem.W.mg_of X G aAreHear
  have FNeedLine := fun_mk (st := sNeedLine) lNeedLine cNeedLine kNeedLine
  have bNeedLine : Binds K _ ["machine", "value"] [] := FNeedLine.binds (ps := ["machine", "value"]) fun _ _ _ _ _ _ us hl => match us, hl with | [_, _], _ => rfl
  have gNeedLine := PySem.W.mg_of X G aNeedLine
  have FPot := fun_mk (st := sPot) lPot cPot kPot
  have bPot : Binds K _ ["_law_script", "_law_k"] [] := FPot.binds (ps := ["_law_script", "_law_k"]) fun _ _ _ _ _ _ us hl => match us, hl with | [_, _], _ => rfl
  have gPot := PySem.W.mg_of X G aPot
  have FDraw := fun_mk (st := sDraw) lDraw cDraw kDraw
  have bDraw : Binds K _ ["_law_pot_here", "_law_size"] [] := FDraw.binds (ps := ["_law_pot_here", "_law_size"]) fun _ _ _ _ _ _ us hl => match us, hl with | [_, _], _ => rfl
  have gDraw := PySem.W.mg_of X G aDraw
  have FPick := fun_mk (st := sPick) lPick cPick kPick
  have bPick : Binds K _ ["_law_pot_here", "_law_some"] [] := FPick.binds (ps := ["_law_pot_here", "_law_some"]) fun _ _ _ _ _ _ us hl => match us, hl with | [_, _], _ => rfl
  have gPick := PySem.W.mg_of X G aPick
  have FMixed := fun_mk (st := sMixed) lMixed cMixed kMixed
  have bMixed : Binds K _ ["_law_pot_here", "_law_some"] [] := FMixed.binds (ps := ["_law_pot_here", "_law_some"]) fun _ _ _ _ _ _ us hl => match us, hl with | [_, _], _ => rfl
  have gMixed := PySem.W.mg_of X G aMixed
  have FLRows := fun_mk (st := sLRows) lLRows cLRows kLRows
  have bLRows : Binds K _ ["_law_pot_here", "_law_many", "_law_size"] [] := FLRows.binds (ps := ["_law_pot_here", "_law_many", "_law_size"]) fun _ _ _ _ _ _ us hl => match us, hl with | [_, _, _], _ => rfl
  have gLRows := PySem.W.mg_of X G aLRows
  have FLKinds := fun_mk (st := sLKinds) lLKinds cLKinds kLKinds
  have bLKinds : Binds K _ ["_law_pot_here", "_law_many"] [] := FLKinds.binds (ps := ["_law_pot_here", "_law_many"]) fun _ _ _ _ _ _ us hl => match us, hl with | [_, _], _ => rfl
  have gLKinds := PySem.W.mg_of X G aLKinds
  have FMixLine := fun_mk (st := sMixLine) lMixLine cMixLine kMixLine
  have bMixLine : Binds K _ ["_law_pot_here", "_law_signs", "_law_road"] [] := FMixLine.binds (ps := ["_law_pot_here", "_law_signs", "_law_road"]) fun _ _ _ _ _ _ us hl => match us, hl with | [_, _, _], _ => rfl
  have gMixLine := PySem.W.mg_of X G aMixLine
  have FLLine := fun_mk (st := sLLine) lLLine cLLine kLLine
  have bLLine : Binds K _ ["_law_pot_here", "_law_signs"] [] := FLLine.binds (ps := ["_law_pot_here", "_law_signs"]) fun _ _ _ _ _ _ us hl => match us, hl with | [_, _], _ => rfl
  have gLLine := PySem.W.mg_of X G aLLine
  have FMissed := fun_mk (st := sMissed) lMissed cMissed kMissed
  have bMissed : Binds K _ ["_law_signs", "_law_rows_here", "_law_road", "_law_some"] [] := FMissed.binds (ps := ["_law_signs", "_law_rows_here", "_law_road", "_law_some"]) fun _ _ _ _ _ _ us hl => match us, hl with | [_, _, _, _], _ => rfl
  have gMissed := PySem.W.mg_of X G aMissed
  have FLBehind := fun_mk (st := sLBehind) lLBehind cLBehind kLBehind
  have bLBehind : Binds K _ ["_law_signs", "_law_rows_here", "_law_road", "_law_some", "_law_heard_as"] [] := FLBehind.binds (ps := ["_law_signs", "_law_rows_here", "_law_road", "_law_some", "_law_heard_as"]) fun _ _ _ _ _ _ us hl => match us, hl with | [_, _, _, _, _], _ => rfl
  have gLBehind := PySem.W.mg_of X G aLBehind
  have FModel := fun_mk (st := sModel) lModel cModel kModel
  have bModel : Binds K _ ["_law_pot_here", "_law_signs", "_law_most"] [] := FModel.binds (ps := ["_law_pot_here", "_law_signs", "_law_most"]) fun _ _ _ _ _ _ us hl => match us, hl with | [_, _, _], _ => rfl
  have gModel := PySem.W.mg_of X G aModel
  have FFewer := fun_mk (st := sFewer) lFewer cFewer kFewer
  have bFewer : Binds K _ ["_law_rows_here", "_law_kinds_here"] [] := FFewer.binds (ps := ["_law_rows_here", "_law_kinds_here"]) fun _ _ _ _ _ _ us hl => match us, hl with | [_, _], _ => rfl
  have gFewer := PySem.W.mg_of X G aFewer
  have FHeardR := fun_mk (st := sHeardR) lHeardR cHeardR kHeardR
  have bHeardR : Binds K _ ["_law_signs", "_law_model_here", "_law_road"] [] := FHeardR.binds (ps := ["_law_signs", "_law_model_here", "_law_road"]) fun _ _ _ _ _ _ us hl => match us, hl with | [_, _, _], _ => rfl
  have gHeardR := PySem.W.mg_of X G aHeardR
  have FRight := fun_mk (st := sRight) lRight cRight kRight
  have bRight : Binds K _ ["_law_pot_here"] [] := FRight.binds (ps := ["_law_pot_here"]) fun _ _ _ _ _ _ us hl => match us, hl with | [_], _ => rfl
  have gRight := PySem.W.mg_of X G aRight
  have FLaw := fun_mk (st := sLaw) lLaw cLaw kLaw
  have bLaw : Binds K _ ["_law_script"] [] := FLaw.binds (ps := ["_law_script"]) fun _ _ _ _ _ _ us hl => match us, hl with | [_], _ => rfl
  have gLaw := PySem.W.mg_of X G aLaw
  have FmKinds := fun_mk (st := sKinds) lmKinds cmKinds kmKinds
  have bmKinds : Binds K _ ["self"] [] := FmKinds.binds (ps := ["self"]) fun _ _ _ _ _ _ us hl => match us, hl with | [_], _ => rfl
  have MKinds : Meth K C "kinds" mKinds := ⟨amKinds, by unfold PySem.W.isFn; rw [tmKinds]; rfl, kmKinds⟩
  have FmRows := fun_mk (st := sRows) lmRows cmRows kmRows
  have bmRows : Binds K _ ["self"] [] := FmRows.binds (ps := ["self"]) fun _ _ _ _ _ _ us hl => match us, hl with | [_], _ => rfl
  have MRows : Meth K C "rows" mRows := ⟨amRows, by unfold PySem.W.isFn; rw [tmRows]; rfl, kmRows⟩
  have FmLeast := fun_mk (st := sLeast) lmLeast cmLeast kmLeast
  have bmLeast : Binds K _ ["self"] [] := FmLeast.binds (ps := ["self"]) fun _ _ _ _ _ _ us hl => match us, hl with | [_], _ => rfl
  have MLeast : Meth K C "least" mLeast := ⟨amLeast, by unfold PySem.W.isFn; rw [tmLeast]; rfl, kmLeast⟩
  have FmLen := fun_mk (st := sLen) lmLen cmLen kmLen
  have bmLen : Binds K _ ["self"] [] := FmLen.binds (ps := ["self"]) fun _ _ _ _ _ _ us hl => match us, hl with | [_], _ => rfl
  have MLen : Meth K C "__len__" mLen := ⟨amLen, by unfold PySem.W.isFn; rw [tmLen]; rfl, kmLen⟩
  have FmEq := fun_mk (st := sEq) lmEq cmEq kmEq
  have bmEq : Binds K _ ["self", "other"] [] := FmEq.binds (ps := ["self", "other"]) fun _ _ _ _ _ _ us hl => match us, hl with | [_, _], _ => rfl
  have MEq : Meth K C "__eq__" mEq := ⟨amEq, by unfold PySem.W.isFn; rw [tmEq]; rfl, kmEq⟩
  have FmRepr := fun_mk (st := sRepr) lmRepr cmRepr kmRepr
  have bmRepr : Binds K _ ["self"] [] := FmRepr.binds (ps := ["self"]) fun _ _ _ _ _ _ us hl => match us, hl with | [_], _ => rfl
  have MRepr : Meth K C "__repr__" mRepr := ⟨amRepr, by unfold PySem.W.isFn; rw [tmRepr]; rfl, kmRepr⟩
  have FmInit := fun_mk (st := sInit) lmInit cmInit kmInit
  have bmInit : Binds K _ ["self", "letters", "rows", "kinds"] [] := FmInit.binds (ps := ["self", "letters", "rows", "kinds"]) fun _ _ _ _ _ _ us hl => match us, hl with | [_, _, _, _], _ => rfl
  have gMa := PySem.W.mg_of X G nM
  have gN := PySem.W.mg_of X G nN
  have FNC := fun_mk (st := stNC) lmNC cmNC kmNC
  have bmNC : Binds K _ ["self", "place"] [] := FNC.binds (ps := ["self", "place"]) fun _ _ _ _ _ _ us hl => match us, hl with | [_, _], _ => rfl
  have cM : ClsM K C := ⟨⟨cpg, chd, cpo, csa⟩, n_letters, n_rows, n_kinds⟩
  have cE : EqC K C := ⟨ene, eob⟩
  have iM : IsM K C := ⟨fun H a dx fs ea _ => .base (.ins ea cM.cls ica icn ict eob), by unfold PySem.W.kitOne; simp⟩
  have mK : Mk K C mInit := ⟨mmk, amInit, by unfold PySem.W.isFn; rw [tmInit]; rfl, mkp⟩
  have rC : CRead K C (.type "type") := ⟨rrd, rga⟩
  have vC : CVal K C (.type "type") "MOST_PLACES" (.int 40) (.int 40 tC2) := ⟨vat, ⟨_, rfl⟩⟩
  have bmLetters : Binds K _ ["self"] [] := (fun_mk (st := sLetters) lmLetters cmLetters kmLetters).binds (ps := ["self"]) fun _ _ _ _ _ _ us hl => match us, hl with | [_], _ => rfl
  refine ⟨PySem.W.fnOf "law" "law" (defArgs sLaw) (defBody sLaw) (defScope sLaw) .none kVLaw dcLaw pmLaw anLaw cdLaw ctLaw, c, Pt, spLaw K Pt, tP, nP, PySem.W.codeHd_of_K X hC, fun s v => .of_eq rfl, fun H a ns hl hP hs => ?_, fun base _ _ TB SM => ?_⟩
  · refine ⟨a, ns, rfl, hs, hl, fun p hp => ?_, fun _ => rfl⟩
    rw [List.mem_singleton.mp hp]
    exact .nil hP
  have hNC : HasC l.prog w K mg base 1 "NotComeTo" cN ["place"] := hasC1 (k := 0) PySem.F.excBase_RuntimeError PySem.F.store_RuntimeError bNC dNC gN amNC tmNC FNC scNC rfl (.inl rfl) (.inl rfl) (by decide) (by decide) (fun _ _ => rfl) bmNC (fun s z ws hl => match ws, hl with | [_], _ => ⟨.of_eq rfl, .of_eq rfl⟩)
  have FmKInit := fun_mk (st := sMkInit) lmKInit cmKInit kmKInit
  have bmKInit : Binds K _ ["self", "machine"] [] := FmKInit.binds (ps := ["self", "machine"]) fun _ _ _ _ _ _ us hl => match us, hl with | [_, _], _ => rfl
  have FmKLed := fun_mk (st := sMkLed) lmKLed cmKLed kmKLed
  have bmKLed : Binds K _ ["self", "places", "index"] [] := FmKLed.binds (ps := ["self", "places", "index"]) fun _ _ _ _ _ _ us hl => match us, hl with | [_, _, _], _ => rfl
  have MKLed : Meth K CM "led" mKLed := ⟨amKLed, by unfold PySem.W.isFn; rw [tmKLed]; rfl, kmKLed⟩
  have FmKSome := fun_mk (st := sMkSome) lmKSome cmKSome kmKSome
  have bmKSome : Binds K _ ["self", "places", "indices"] [] := FmKSome.binds (ps := ["self", "places", "indices"]) fun _ _ _ _ _ _ us hl => match us, hl with | [_, _, _], _ => rfl
  have MKSome : Meth K CM "led_by_some" mKSome := ⟨amKSome, by unfold PySem.W.isFn; rw [tmKSome]; rfl, kmKSome⟩
  have FmKStay := fun_mk (st := sMkStay) lmKStay cmKStay kmKStay
  have bmKStay : Binds K _ ["self", "places", "indices"] [] := FmKStay.binds (ps := ["self", "places", "indices"]) fun _ _ _ _ _ _ us hl => match us, hl with | [_, _, _], _ => rfl
  have MKStay : Meth K CM "stayed" mKStay := ⟨amKStay, by unfold PySem.W.isFn; rw [tmKStay]; rfl, kmKStay⟩
  have FmKTake := fun_mk (st := sMkTake) lmKTake cmKTake kmKTake
  have bmKTake : Binds K _ ["self", "places"] [] := FmKTake.binds (ps := ["self", "places"]) fun _ _ _ _ _ _ us hl => match us, hl with | [_, _], _ => rfl
  have MKTake : Meth K CM "some_take" mKTake := ⟨amKTake, by unfold PySem.W.isFn; rw [tmKTake]; rfl, kmKTake⟩
  have gMk := PySem.W.mg_of X G nK
  have kM : ClsK K CM := ⟨⟨kpg, khd, kpo, ksa⟩, k_last, k_bits, k_known⟩
  have mkK : Mk K CM mKInit := ⟨kmk, amKInit, by unfold PySem.W.isFn; rw [tmKInit]; rfl, kkp⟩
  have gDict := PySem.W.mg_none_of X G z_dict
  have hIsInt : Has l.prog w K mg base 1 "is_integer" ["value"] spIsInt := has_of (ok_isInt (k := 0) FIsInt M) gIsInt kIsInt bIsInt (fun s us hl => match us, hl with | [_], _ => ⟨.of_eq rfl, .of_eq rfl⟩)
  have hIsText : Has l.prog w K mg base 1 "is_text" ["value"] spIsText := has_of (ok_isText (k := 0) FIsText M (PySem.W.mg_of X G gS)) gIsText kIsText bIsText (fun s us hl => match us, hl with | [_], _ => ⟨.of_eq rfl, .of_eq rfl⟩)
  have hIsOver : Has l.prog w K mg base 1 "is_over" ["value", "letters"] (spIsOver K) := has_of (ok_isOver (k := 0) FIsOver M) gIsOver kIsOver bIsOver (fun s us hl => match us, hl with | [_, _], _ => ⟨.of_eq rfl, .of_eq rfl⟩)
  have hAreLet : Has l.prog w K mg base 2 "are_letters" ["value"] spAreLet := has_of (ok_areLet (k := 1) FAreLet M (PySem.W.mg_of X G gM) hIsText) gAreLet kAreLet bAreLet (fun s us hl => match us, hl with | [_], _ => ⟨.of_eq rfl, .of_eq rfl⟩)
  have hIsPlace : Has l.prog w K mg base 2 "is_place" ["value", "many"] spIsPlace := has_of (ok_isPlace (k := 1) FIsPlace hIsInt) gIsPlace kIsPlace bIsPlace (fun s us hl => match us, hl with | [_, _], _ => ⟨.of_eq rfl, .of_eq rfl⟩)
  have hIsRow : Has l.prog w K mg base 3 "_is_row" ["value", "many_letters", "many_places"] (spIsRow K) := has_of (ok_isRow (k := 2) FIsRow M hIsPlace) gIsRow kIsRow bIsRow (fun s us hl => match us, hl with | [_, _, _], _ => ⟨.of_eq rfl, .of_eq rfl⟩)
  have hNeedParts : Has l.prog w K mg base 4 "_need_parts" ["letters", "rows", "kinds"] (spNeedParts K) := has_of (ok_needParts (k := 3) FNeedParts M (hAreLet.up (by omega)) hIsRow gMa rC vC) gNeedParts kNeedParts bNeedParts (fun s us hl => match us, hl with | [_, _, _], _ => ⟨.of_eq rfl, .of_eq rfl⟩)
  have hMetFrom : Has l.prog w K mg base 1 "_met_from" ["rows", "start"] (spMetFrom K) := has_of (ok_metFrom (k := 0) FMetFrom M) gMetFrom kMetFrom bMetFrom (fun s us hl => match us, hl with | [_, _], _ => ⟨.of_eq rfl, .of_eq rfl⟩)
  have iX := ok_initX (k := 3) FmInit M cM hNeedParts (hMetFrom.up (by omega)) (hNC.up (by omega))
  have hInitX : HasIX l.prog w K mg base 5 "Machine" C ["letters", "rows", "kinds"] (spInitX K C cN) := ⟨_, _, iX, mK, bmInit, gMa, fun s z us hl => match us, hl with | [_, _, _], _ => .of_eq rfl⟩
  have hInit : HasI l.prog w K mg base 5 "Machine" C ["letters", "rows", "kinds"] (spInit K C) := hInitX.calm spInit_X
  have HKinds : HasM l.prog w K mg base 1 C "kinds" [] (spKinds C) := ⟨_, _, ok_kinds (k := 0) FmKinds M cM, MKinds, bmKinds, fun s z us hl => match us, hl with | [], _ => ⟨.of_eq rfl, .of_eq rfl⟩⟩
  have HLen : HasM l.prog w K mg base 1 C "__len__" [] (spLen C) := ⟨_, _, ok_len (k := 0) FmLen M cM, MLen, bmLen, fun s z us hl => match us, hl with | [], _ => ⟨.of_eq rfl, .of_eq rfl⟩⟩
  have HRows : HasM l.prog w K mg base 1 C "rows" [] (spRows C) := ⟨_, _, ok_rows (k := 0) FmRows M cM, MRows, bmRows, fun s z us hl => match us, hl with | [], _ => ⟨.of_eq rfl, .of_eq rfl⟩⟩
  have hNumFrom : Has l.prog w K mg base 7 "_numbered_from" ["letters", "rows", "kinds", "start"] (spNumFrom K C) := has_of (ok_numFrom (k := 5) FNumFrom M (hMetFrom.up (by omega)) hInit) gNumFrom kNumFrom bNumFrom (fun s us hl => match us, hl with | [_, _, _, _], _ => ⟨.of_eq rfl, .of_eq rfl⟩)
  have HLetters : HasP l.prog w K mg base 1 C "letters" (getSp C "_letters") := ⟨_, _, _, ⟨amLetters, pget, ptak, ⟨_, prec⟩⟩, fn_getter (k := 0) lmLetters cmLetters scLetters rfl rfl cM.cls n_letters, bmLetters⟩
  have HEq : HasM l.prog w K mg base 3 C "__eq__" ["other"] (spEq K C) := ⟨_, _, ok_eq (k := 1) FmEq M cM iM gMa HLetters (HRows.up (by omega)) (HKinds.up (by omega)), MEq, bmEq, fun s z us hl => match us, hl with | [_], _ => ⟨.of_eq rfl, .of_eq rfl⟩⟩
  have HReprR : HasR l.prog w K mg base 1 C "__repr__" (spRepr C) := ⟨_, _, ok_repr (k := 0) FmRepr cM, MRepr, bmRepr⟩
  have hAlike : Has l.prog w K mg base 1 "alike_classes" ["rows", "kinds"] spAlike := has_of (ok_alike (k := 0) FAlike M) gAlike kAlike bAlike (fun s us hl => match us, hl with | [_, _], _ => ⟨.of_eq rfl, .of_eq rfl⟩)
  have hLeastOf : Has l.prog w K mg base 8 "least_of" ["letters", "rows", "kinds", "start"] (spLeastOf C) := has_of (ok_leastOf (k := 7) FLeastOf M (hAlike.up (by omega)) hNumFrom gMa rC vC) gLeastOf kLeastOf bLeastOf (fun s us hl => match us, hl with | [_, _, _, _], _ => ⟨.of_eq rfl, .of_eq rfl⟩)
  have HLeast : HasM l.prog w K mg base 9 C "least" [] (spLeast C) := ⟨_, _, ok_least (k := 8) FmLeast cM hLeastOf, MLeast, bmLeast, fun s z us hl => match us, hl with | [], _ => ⟨.of_eq rfl, .of_eq rfl⟩⟩
  have hBits : Has l.prog w K mg base 1 "_bits" ["places"] spBits := has_of (ok_bits (k := 0) FBits M) gBits kBits bBits (fun s us hl => match us, hl with | [_], _ => ⟨.of_eq rfl, .of_eq rfl⟩)
  have hMarks : HasI l.prog w K mg base 2 "Marks" CM ["machine"] (spMkI C CM) := ⟨_, _, ok_mkI (k := 1) FmKInit M cM kM hBits HKinds HRows, mkK, bmKInit, gMk, fun s z us hl => match us, hl with | [_], _ => .of_eq rfl⟩
  have HKLed : HasM l.prog w K mg base 1 CM "led" ["places", "index"] (spLedK CM) := ⟨_, _, ok_ledK (k := 0) FmKLed M kM, MKLed, bmKLed, fun s z us hl => match us, hl with | [_, _], _ => ⟨.of_eq rfl, .of_eq rfl⟩⟩
  have HKSome : HasM l.prog w K mg base 2 CM "led_by_some" ["places", "indices"] (spSomeK CM) := ⟨_, _, ok_someK (k := 1) FmKSome M kM HKLed, MKSome, bmKSome, fun s z us hl => match us, hl with | [_, _], _ => ⟨.of_eq rfl, .of_eq rfl⟩⟩
  have HKStay : HasM l.prog w K mg base 3 CM "stayed" ["places", "indices"] (spStayK CM) := ⟨_, _, ok_stayK (k := 2) FmKStay M kM HKSome, MKStay, bmKStay, fun s z us hl => match us, hl with | [_, _], _ => ⟨.of_eq rfl, .of_eq rfl⟩⟩
  have HKTake : HasM l.prog w K mg base 1 CM "some_take" ["places"] (spTakeK CM) := ⟨_, _, ok_takeK (k := 0) FmKTake M kM, MKTake, bmKTake, fun s z us hl => match us, hl with | [_], _ => ⟨.of_eq rfl, .of_eq rfl⟩⟩
  have hHeardAs : Has l.prog w K mg base 1 "_heard_as" ["letters", "line", "hearing"] (spHeardAs K) := has_of (ok_heardAs (k := 0) FHeardAs M) gHeardAs kHeardAs bHeardAs (fun s us hl => match us, hl with | [_, _, _], _ => ⟨.of_eq rfl, .of_eq rfl⟩)
  have hAreHear : Has l.prog w K mg base 2 "_are_hearings" ["letters", "value"] (spAreHear K) := has_of (ok_areHear (k := 1) FAreHear M hIsOver) gAreHear kAreHear bAreHear (fun s us hl => match us, hl with | [_, _], _ => ⟨.of_eq rfl, .of_eq rfl⟩)
  have hIsLine : Has l.prog w K mg base 3 "is_line_over" ["letters", "value"] (spIsLine K) := has_of (ok_isLine (k := 2) FIsLine M gDict hAreHear) gIsLine kIsLine bIsLine (fun s us hl => match us, hl with | [_, _], _ => ⟨.of_eq rfl, .of_eq rfl⟩)
  have hNeedLine : Has l.prog w K mg base 4 "_need_line" ["machine", "value"] (spNeedLine K C) := has_of (ok_needLine (k := 2) FNeedLine M cM (HLetters.up (by omega)) hIsLine) gNeedLine kNeedLine bNeedLine (fun s us hl => match us, hl with | [_, _], _ => ⟨.of_eq rfl, .of_eq rfl⟩)
  have hNeedPl : Has l.prog w K mg base 3 "need_places" ["machine", "most"] (spNeedPl C) := has_of (ok_needPl (k := 1) FNeedPl M cM HLen) gNeedPl kNeedPl bNeedPl (fun s us hl => match us, hl with | [_, _], _ => ⟨.of_eq rfl, .of_eq rfl⟩)
  have hHeardM : Has l.prog w K mg base 11 "heard_machine" ["machine", "line"] (spHeardM K C Pt) := has_of (ok_heardM (k := 8) FHeardM M TB cM kM (HLetters.up (by omega)) (hMarks.up (by omega)) FMetG gMetG bMetG (hHeardAs.up (by omega)) (HKSome.up (by omega)) (HKStay.up (by omega)) (HKTake.up (by omega)) hLeastOf) gHeardM kHeardM bHeardM (fun s us hl => match us, hl with | [_, _], _ => ⟨.of_eq rfl, .of_eq rfl⟩)
  have hHeardP : Has l.prog w K mg base 12 "heard" ["machine", "line"] (spHeardP K C Pt) := has_of (ok_heardP (k := 11) FHeardP M (PySem.W.mg_of X G gML) (hNeedLine.up (by omega)) (hNeedPl.up (by omega)) hHeardM) gHeardP kHeardP bHeardP (fun s us hl => match us, hl with | [_, _], _ => ⟨.of_eq rfl, .of_eq rfl⟩)
  have hPot : Has l.prog w K mg base 1 "_law_pot" ["_law_script", "_law_k"] (spPot K) := has_of (ok_pot (k := 0) FPot M) gPot kPot bPot (fun s us hl => match us, hl with | [_, _], _ => ⟨.of_eq rfl, .of_eq rfl⟩)
  have hDraw : Has l.prog w K mg base 1 "_law_draw" ["_law_pot_here", "_law_size"] (spDraw (T1G Pt)) := has_of (ok_draw (T1G Pt) (k := 0) FDraw M) gDraw kDraw bDraw (fun s us hl => match us, hl with | [_, _], _ => ⟨.of_eq rfl, .of_eq rfl⟩)
  have hPick : Has l.prog w K mg base 2 "_law_pick" ["_law_pot_here", "_law_some"] (spPick (T1G Pt)) := has_of (ok_pick (T1G Pt) (k := 1) FPick M hDraw) gPick kPick bPick (fun s us hl => match us, hl with | [_, _], _ => ⟨.of_eq rfl, .of_eq rfl⟩)
  have hMixed : Has l.prog w K mg base 2 "_law_mixed" ["_law_pot_here", "_law_some"] (spMixed (T1G Pt) K) := has_of (ok_mixed (T1G Pt) (k := 1) FMixed M hDraw) gMixed kMixed bMixed (fun s us hl => match us, hl with | [_, _], _ => ⟨.of_eq rfl, .of_eq rfl⟩)
  have hLRows : Has l.prog w K mg base 3 "_law_rows" ["_law_pot_here", "_law_many", "_law_size"] (spRw (T1G Pt) K) := has_of (ok_rw (T1G Pt) (k := 2) FLRows M (hDraw.up (by omega)) hMixed) gLRows kLRows bLRows (fun s us hl => match us, hl with | [_, _, _], _ => ⟨.of_eq rfl, .of_eq rfl⟩)
  have hLKinds : Has l.prog w K mg base 2 "_law_kinds" ["_law_pot_here", "_law_many"] (spLKi (T1G Pt)) := has_of (ok_lki (T1G Pt) (k := 1) FLKinds M hDraw) gLKinds kLKinds bLKinds (fun s us hl => match us, hl with | [_, _], _ => ⟨.of_eq rfl, .of_eq rfl⟩)
  have hModel : Has l.prog w K mg base 4 "_law_model" ["_law_pot_here", "_law_signs", "_law_most"] (spMod (T1G Pt) K) := has_of (ok_mod (T1G Pt) (k := 3) FModel M (hDraw.up (by omega)) hLRows (hLKinds.up (by omega))) gModel kModel bModel (fun s us hl => match us, hl with | [_, _, _], _ => ⟨.of_eq rfl, .of_eq rfl⟩)
  have hMixLine : Has l.prog w K mg base 3 "_law_mixed_line" ["_law_pot_here", "_law_signs", "_law_road"] (spML (T1G Pt) K) := has_of (ok_ml (T1G Pt) (k := 2) FMixLine M gDict hMixed) gMixLine kMixLine bMixLine (fun s us hl => match us, hl with | [_, _, _], _ => ⟨.of_eq rfl, .of_eq rfl⟩)
  have hLLine : Has l.prog w K mg base 4 "_law_line" ["_law_pot_here", "_law_signs"] (spLn (T1G Pt) K) := has_of (ok_ln (T1G Pt) (k := 3) FLLine M (hDraw.up (by omega)) (hPick.up (by omega)) (hMixed.up (by omega)) hMixLine) gLLine kLLine bLLine (fun s us hl => match us, hl with | [_, _], _ => ⟨.of_eq rfl, .of_eq rfl⟩)
  have hMissed : Has l.prog w K mg base 1 "_law_missed" ["_law_signs", "_law_rows_here", "_law_road", "_law_some"] (spMs K) := has_of (ok_ms (k := 0) FMissed M) gMissed kMissed bMissed (fun s us hl => match us, hl with | [_, _, _, _], _ => ⟨.of_eq rfl, .of_eq rfl⟩)
  have hLBehind : Has l.prog w K mg base 2 "_law_behind" ["_law_signs", "_law_rows_here", "_law_road", "_law_some", "_law_heard_as"] (spBh K) := has_of (ok_bh (k := 1) FLBehind M hMissed) gLBehind kLBehind bLBehind (fun s us hl => match us, hl with | [_, _, _, _, _], _ => ⟨.of_eq rfl, .of_eq rfl⟩)
  have hFewer : Has l.prog w K mg base 1 "_law_fewer" ["_law_rows_here", "_law_kinds_here"] spFw := has_of (ok_fw (k := 0) FFewer M) gFewer kFewer bFewer (fun s us hl => match us, hl with | [_, _], _ => ⟨.of_eq rfl, .of_eq rfl⟩)
  have hHeardR : Has l.prog w K mg base 3 "_law_heard_rows" ["_law_signs", "_law_model_here", "_law_road"] (spHR K) := has_of (ok_hr (k := 2) FHeardR M (hMissed.up (by omega)) hLBehind (hFewer.up (by omega))) gHeardR kHeardR bHeardR (fun s us hl => match us, hl with | [_, _, _], _ => ⟨.of_eq rfl, .of_eq rfl⟩)
  have hRight : Has l.prog w K mg base 13 "_law_right" ["_law_pot_here"] (spRt Pt) := has_of (ok_rt (k := 10) FRight M gDict cM iM cE SM (hPick.up (by omega)) (hModel.up (by omega)) (hLLine.up (by omega)) (hMixed.up (by omega)) (hHeardR.up (by omega)) hHeardP (hInit.up (by omega)) (HLetters.up (by omega)) (HRows.up (by omega)) (HKinds.up (by omega)) (HLeast.up (by omega)) (HReprR.up (by omega)) (HEq.up (by omega))) gRight kRight bRight (fun s us hl => match us, hl with | [_], _ => ⟨.of_eq rfl, .of_eq rfl⟩)
  exact ok_law (k := 13) FLaw M hRight (hPot.up (by omega))
end LK

open PySem PySem.W PyProof.Rows
set_option maxHeartbeats 0 in
theorem PySem.Challenge.cw_missedparts_k82_whole_heard_by_sets_of_p_holds : PySem.Challenge.rw_missedparts_k82_whole_heard_by_sets_of_p.Holds := by
  w_on; o_law; k_head; (case hw => w_witness2)
  k_fill
  refine LK.walkGTS (l := PySem.Challenge.rw_missedparts_k82_whole_heard_by_sets_of_p) (n := 63) (k := 14) (x := "_law_script") rfl (by decide) rfl ⟨rfl, by decide, by decide⟩ (by decide +kernel) (fun w h Y => PySem.W.km_in_of Y) ?F
  case F =>
    intro w mg fa h Y KX G hmg
    refine' LK.all_mk KX (PySem.W.km_tabs_of Y _ (List.mem_cons_self ..)) G hmg ?aIsInt ?lIsInt ?cIsInt ?kIsInt ?aIsText ?lIsText ?cIsText ?kIsText ?aIsOver ?lIsOver ?cIsOver ?kIsOver ?aAreLet ?lAreLet ?cAreLet ?kAreLet ?aNeedPl ?lNeedPl ?cNeedPl ?kNeedPl ?aBits ?lBits ?cBits ?kBits ?aMetG ?lMetG ?cMetG ?kMetG ?aLeastOf ?lLeastOf ?cLeastOf ?kLeastOf ?aAlike ?lAlike ?cAlike ?kAlike ?aNeedParts ?lNeedParts ?cNeedParts ?kNeedParts ?aIsRow ?lIsRow ?cIsRow ?kIsRow ?aIsPlace ?lIsPlace ?cIsPlace ?kIsPlace ?aMetFrom ?lMetFrom ?cMetFrom ?kMetFrom ?aNumFrom ?lNumFrom ?cNumFrom ?kNumFrom ?aHeardP ?lHeardP ?cHeardP ?kHeardP ?aIsLine ?lIsLine ?cIsLine ?kIsLine ?aHeardM ?lHeardM ?cHeardM ?kHeardM ?aHeardAs ?lHeardAs ?cHeardAs ?kHeardAs ?aAreHear ?lAreHear ?cAreHear ?kAreHear ?aNeedLine ?lNeedLine ?cNeedLine ?kNeedLine ?aPot ?lPot ?cPot ?kPot ?aDraw ?lDraw ?cDraw ?kDraw ?aPick ?lPick ?cPick ?kPick ?aMixed ?lMixed ?cMixed ?kMixed ?aLRows ?lLRows ?cLRows ?kLRows ?aLKinds ?lLKinds ?cLKinds ?kLKinds ?aMixLine ?lMixLine ?cMixLine ?kMixLine ?aLLine ?lLLine ?cLLine ?kLLine ?aMissed ?lMissed ?cMissed ?kMissed ?aLBehind ?lLBehind ?cLBehind ?kLBehind ?aModel ?lModel ?cModel ?kModel ?aFewer ?lFewer ?cFewer ?kFewer ?aHeardR ?lHeardR ?cHeardR ?kHeardR ?aRight ?lRight ?cRight ?kRight ?aLaw ?lLaw ?cLaw ?kLaw ?nM ?amKinds ?tmKinds ?lmKinds ?cmKinds ?kmKinds ?amRows ?tmRows ?lmRows ?cmRows ?kmRows ?amLeast ?tmLeast ?lmLeast ?cmLeast ?kmLeast ?amLen ?tmLen ?lmLen ?cmLen ?kmLen ?amEq ?tmEq ?lmEq ?cmEq ?kmEq ?amRepr ?tmRepr ?lmRepr ?cmRepr ?kmRepr ?amInit ?tmInit ?lmInit ?cmInit ?kmInit ?amLetters ?pget ?ptak ?prec ?lmLetters ?cmLetters ?kmLetters ?nN ?amNC ?tmNC ?lmNC ?cmNC ?kmNC ?bNC ?dNC ?eNC ?cpg ?chd ?cpo ?csa ?n_letters ?n_rows ?n_kinds ?mmk ?mkp ?ene ?eob ?ica ?icn ?ict ?rrd ?rga ?vat ?gS ?gM ?hC ?nP ?z_tuple ?z_zip ?z_set ?z_bool ?z_any ?z_enumerate ?z_ve ?z_re ?z_ae ?z_len ?z_isi ?z_all ?z_str ?z_list ?z_sorted ?z_range ?z_sum ?z_repr ?z_int ?z_abs ?z_max ?z_min ?z_divmod ?nK ?amKInit ?tmKInit ?lmKInit ?cmKInit ?kmKInit ?amKLed ?tmKLed ?lmKLed ?cmKLed ?kmKLed ?amKSome ?tmKSome ?lmKSome ?cmKSome ?kmKSome ?amKStay ?tmKStay ?lmKStay ?cmKStay ?kmKStay ?amKTake ?tmKTake ?lmKTake ?cmKTake ?kmKTake ?kpg ?khd ?kpo ?ksa ?k_last ?k_bits ?k_known ?kmk ?kkp ?gML ?z_dict
    (case aIsInt => k_is)
    (case lIsInt => k_is)
    (case cIsInt => k_is)
    (case kIsInt => k_is)
    (case aIsText => k_is)
    (case lIsText => k_is)
    (case cIsText => k_is)
    (case kIsText => k_is)
    (case aIsOver => k_is)
    (case lIsOver => k_is)
    (case cIsOver => k_is)
    (case kIsOver => k_is)
    (case aAreLet => k_is)
    (case lAreLet => k_is)
    (case cAreLet => k_is)
    (case kAreLet => k_is)
    (case aNeedPl => k_is)
    (case lNeedPl => k_is)
    (case cNeedPl => k_is)
    (case kNeedPl => k_is)
    (case aBits => k_is)
    (case lBits => k_is)
    (case cBits => k_is)
    (case kBits => k_is)
    (case aMetG => k_is)
    (case lMetG => k_is)
    (case cMetG => k_is)
    (case kMetG => k_is)
    (case aLeastOf => k_is)
    (case lLeastOf => k_is)
    (case cLeastOf => k_is)
    (case kLeastOf => k_is)
    (case aAlike => k_is)
    (case lAlike => k_is)
    (case cAlike => k_is)
    (case kAlike => k_is)
    (case aNeedParts => k_is)
    (case lNeedParts => k_is)
    (case cNeedParts => k_is)
    (case kNeedParts => k_is)
    (case aIsRow => k_is)
    (case lIsRow => k_is)
    (case cIsRow => k_is)
    (case kIsRow => k_is)
    (case aIsPlace => k_is)
    (case lIsPlace => k_is)
    (case cIsPlace => k_is)
    (case kIsPlace => k_is)
    (case aMetFrom => k_is)
    (case lMetFrom => k_is)
    (case cMetFrom => k_is)
    (case kMetFrom => k_is)
    (case aNumFrom => k_is)
    (case lNumFrom => k_is)
    (case cNumFrom => k_is)
    (case kNumFrom => k_is)
    (case aHeardP => k_is)
    (case lHeardP => k_is)
    (case cHeardP => k_is)
    (case kHeardP => k_is)
    (case aIsLine => k_is)
    (case lIsLine => k_is)
    (case cIsLine => k_is)
    (case kIsLine => k_is)
    (case aHeardM => k_is)
    (case lHeardM => k_is)
    (case cHeardM => k_is)
    (case kHeardM => k_is)
    (case aHeardAs => k_is)
    (case lHeardAs => k_is)
    (case cHeardAs => k_is)
    (case kHeardAs => k_is)
    (case aAreHear => k_is)
    (case lAreHear => k_is)
    (case cAreHear => k_is)
    (case kAreHear => k_is)
    (case aNeedLine => k_is)
    (case lNeedLine => k_is)
    (case cNeedLine => k_is)
    (case kNeedLine => k_is)
    (case aPot => k_is)
    (case lPot => k_is)
    (case cPot => k_is)
    (case kPot => k_is)
    (case aDraw => k_is)
    (case lDraw => k_is)
    (case cDraw => k_is)
    (case kDraw => k_is)
    (case aPick => k_is)
    (case lPick => k_is)
    (case cPick => k_is)
    (case kPick => k_is)
    (case aMixed => k_is)
    (case lMixed => k_is)
    (case cMixed => k_is)
    (case kMixed => k_is)
    (case aLRows => k_is)
    (case lLRows => k_is)
    (case cLRows => k_is)
    (case kLRows => k_is)
    (case aLKinds => k_is)
    (case lLKinds => k_is)
    (case cLKinds => k_is)
    (case kLKinds => k_is)
    (case aMixLine => k_is)
    (case lMixLine => k_is)
    (case cMixLine => k_is)
    (case kMixLine => k_is)
    (case aLLine => k_is)
    (case lLLine => k_is)
    (case cLLine => k_is)
    (case kLLine => k_is)
    (case aMissed => k_is)
    (case lMissed => k_is)
    (case cMissed => k_is)
    (case kMissed => k_is)
    (case aLBehind => k_is)
    (case lLBehind => k_is)
    (case cLBehind => k_is)
    (case kLBehind => k_is)
    (case aModel => k_is)
    (case lModel => k_is)
    (case cModel => k_is)
    (case kModel => k_is)
    (case aFewer => k_is)
    (case lFewer => k_is)
    (case cFewer => k_is)
    (case kFewer => k_is)
    (case aHeardR => k_is)
    (case lHeardR => k_is)
    (case cHeardR => k_is)
    (case kHeardR => k_is)
    (case aRight => k_is)
    (case lRight => k_is)
    (case cRight => k_is)
    (case kRight => k_is)
    (case aLaw => k_is)
    (case lLaw => k_is)
    (case cLaw => k_is)
    (case kLaw => k_is)
    (case nM => k_is)
    (case amKinds => k_is)
    (case tmKinds => k_is)
    (case lmKinds => k_is)
    (case cmKinds => k_is)
    (case kmKinds => k_is)
    (case amRows => k_is)
    (case tmRows => k_is)
    (case lmRows => k_is)
    (case cmRows => k_is)
    (case kmRows => k_is)
    (case amLeast => k_is)
    (case tmLeast => k_is)
    (case lmLeast => k_is)
    (case cmLeast => k_is)
    (case kmLeast => k_is)
    (case amLen => k_is)
    (case tmLen => k_is)
    (case lmLen => k_is)
    (case cmLen => k_is)
    (case kmLen => k_is)
    (case amEq => k_is)
    (case tmEq => k_is)
    (case lmEq => k_is)
    (case cmEq => k_is)
    (case kmEq => k_is)
    (case amRepr => k_is)
    (case tmRepr => k_is)
    (case lmRepr => k_is)
    (case cmRepr => k_is)
    (case kmRepr => k_is)
    (case amInit => k_is)
    (case tmInit => k_is)
    (case lmInit => k_is)
    (case cmInit => k_is)
    (case kmInit => k_is)
    (case amLetters => k_is)
    (case pget => k_is)
    (case ptak => k_is)
    (case prec => k_is)
    (case lmLetters => k_is)
    (case cmLetters => k_is)
    (case kmLetters => k_is)
    (case nN => k_is)
    (case amNC => k_is)
    (case tmNC => k_is)
    (case lmNC => k_is)
    (case cmNC => k_is)
    (case kmNC => k_is)
    (case bNC => first | rfl | kernel_rfl | k_is)
    (case dNC => first | rfl | kernel_rfl | k_is)
    (case eNC => first | rfl | kernel_rfl | k_is)
    (case cpg => first | rfl | kernel_rfl | k_is)
    (case chd => first | rfl | kernel_rfl | k_is)
    (case cpo => first | rfl | kernel_rfl | k_is)
    (case csa => first | rfl | kernel_rfl | k_is)
    (case n_letters => first | rfl | kernel_rfl | k_is)
    (case n_rows => first | rfl | kernel_rfl | k_is)
    (case n_kinds => first | rfl | kernel_rfl | k_is)
    (case mmk => first | rfl | kernel_rfl | k_is)
    (case mkp => first | rfl | kernel_rfl | k_is)
    (case ene => first | rfl | kernel_rfl | k_is)
    (case eob => first | rfl | kernel_rfl | k_is)
    (case ica => first | rfl | kernel_rfl | k_is)
    (case icn => first | rfl | kernel_rfl | k_is)
    (case ict => first | rfl | kernel_rfl | k_is)
    (case rrd => first | rfl | kernel_rfl | k_is)
    (case rga => first | rfl | kernel_rfl | k_is)
    (case vat => k_is)
    (case gS => k_is)
    (case gM => k_is)
    (case hC => first | rfl | kernel_rfl | k_is)
    (case nP => first | rfl | kernel_rfl | k_is)
    (case z_tuple => k_is)
    (case z_zip => k_is)
    (case z_set => k_is)
    (case z_bool => k_is)
    (case z_any => k_is)
    (case z_enumerate => k_is)
    (case z_ve => k_is)
    (case z_re => k_is)
    (case z_ae => k_is)
    (case z_len => k_is)
    (case z_isi => k_is)
    (case z_all => k_is)
    (case z_str => k_is)
    (case z_list => k_is)
    (case z_sorted => k_is)
    (case z_range => k_is)
    (case z_sum => k_is)
    (case z_repr => k_is)
    (case z_int => k_is)
    (case z_abs => k_is)
    (case z_max => k_is)
    (case z_min => k_is)
    (case z_divmod => k_is)
    (case nK => k_is)
    (case amKInit => k_is)
    (case tmKInit => k_is)
    (case lmKInit => k_is)
    (case cmKInit => k_is)
    (case kmKInit => k_is)
    (case amKLed => k_is)
    (case tmKLed => k_is)
    (case lmKLed => k_is)
    (case cmKLed => k_is)
    (case kmKLed => k_is)
    (case amKSome => k_is)
    (case tmKSome => k_is)
    (case lmKSome => k_is)
    (case cmKSome => k_is)
    (case kmKSome => k_is)
    (case amKStay => k_is)
    (case tmKStay => k_is)
    (case lmKStay => k_is)
    (case cmKStay => k_is)
    (case kmKStay => k_is)
    (case amKTake => k_is)
    (case tmKTake => k_is)
    (case lmKTake => k_is)
    (case cmKTake => k_is)
    (case kmKTake => k_is)
    (case kpg => first | rfl | kernel_rfl | k_is)
    (case khd => first | rfl | kernel_rfl | k_is)
    (case kpo => first | rfl | kernel_rfl | k_is)
    (case ksa => first | rfl | kernel_rfl | k_is)
    (case k_last => first | rfl | kernel_rfl | k_is)
    (case k_bits => first | rfl | kernel_rfl | k_is)
    (case k_known => first | rfl | kernel_rfl | k_is)
    (case kmk => first | rfl | kernel_rfl | k_is)
    (case kkp => first | rfl | kernel_rfl | k_is)
    (case gML => k_is)
    (case z_dict => k_is)
