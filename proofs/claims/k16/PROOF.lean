import PyProof.Rows.All
import Wide.All
import OpenK.AllK
import Wide.FinOn
import HandS.ForMost
import HandS.Defaults
import HandS.StrMore
import HandS.SortKw
import HandS.Conv
import HandS.Style
import HandS.Small
import HandS.TupLe
import HandS.IsInst
import HandS.More
import HandS.Lambda
import KE.SortKeyHeap
import KE.KLam
import HandS.Iter
import HandS.Comp
import HandS.Words
import KE.KDictList
import HandS.ListItems
import OpenK.KMore
import HandS.ExcInit
import HandS.ExcIs
import HandS.ExcField
import KE.KExcInit
import KE.KExcIs
import HandS.ExcOwn
import HandS.ExcValue
import HandS.Dict
import PyProof.RowDictHeap
import HandS.Text
import HandS.SlotsOwn
import HandS.Property
import HandS.ClsMeth
import HandS.FStr
import HandS.SetTxt0
import HandS.Set
import PyProof.Rows.SetFrom
import PyProof.StrLawsFrom
import PyProof.ListStr
import KE.GoesZip
import HandS.Zip
import KE.GoesMore
import HandS.TryMany
import HandS.Replace
import PyProof.Rows.StrLawsPart
import HandS.OwnEq
import PyProof.NeKinds
import PyProof.ReprReads
import PyProof.P3In
import PyProof.Rows.TupDisplay
import KE.KOpsOwn
import KE.KeyNested
import HandS.SetKeys
import HandS.TupLen
import OpenK.KMeth
import HandS.Deep
import KE.KUnpack
import PySem.Challenge.RW_missedparts_k16_whole_paired_machines
set_option Elab.async false
set_option linter.all false
set_option maxRecDepth 100000
set_option maxHeartbeats 4000000
/-! A promise of a def that is asked only where no repr of a container is under way (guards = []): the same as FnOk, one premise more. -/
namespace LK
open PySem PySem.Spec PyProof.Rows L2

structure FnG (P : Program) (w : World) (K : PySem.W.Frag) (mg : Str → Option Value) (base : Heap) (CX : CXT)
    (k : Nat) (f : Addr) (fd : FuncData) (ps : List Str) (sp : Sp) : Prop where
  len : ∀ vs H Q E, sp vs H Q E → vs.length = ps.length
  run : ∀ (A : Around), A.guards = some [] → ∀ (outer : List Env) (s : Shared) (H : Hp) (args : Args)
    (us : List Value) (vs : List V) (Q : VK) (E : XK), Room k A → Env0 P w K mg base A outer s H →
    BindsTo s fd args (ps.zip us) → Vals vs us → sp vs H Q E →
    codeAny (model P w) A (.call (.ref f) args) (CR CX outer P w H s Q E) s

section
variable {P : Program} {w : World} {K : PySem.W.Frag} {mg : Str → Option Value} {base : Heap} {CX : CXT}

theorem FnG.up {j k : Nat} {f : Addr} {fd : FuncData} {ps : List Str} {sp : Sp}
    (F : FnG P w K mg base CX j f fd ps sp) (h : j ≤ k) : FnG P w K mg base CX k f fd ps sp :=
  ⟨F.len, fun A g outer s H args us vs Q E r => F.run A g outer s H args us vs Q E (r.mono h)⟩

/-- THE RULE of a def's body where no repr runs around it -/
theorem fnG_of {k : Nat} {f : Addr} {nm q : Str} {pa : Arguments} {bd : List Stmt} {sc : Scope} {dV kV dc pm cd ct oc : Value}
    {an od : Option Addr} {sl : Array (Option Value)} {N ps : List Str} {sp : Sp}
    (lk : K.lookup f = some ⟨oc, od, .func (PySem.W.fnOf nm q pa bd sc dV kV dc pm an cd ct), sl⟩)
    (hc : PySem.W.codeIn K cd q = true) (S : FnScope N ps sc) (len : ∀ vs H Q E, sp vs H Q E → vs.length = ps.length)
    (hb : ∀ (A : Around), A.guards = some [] → ∀ (outer : List Env) (s : Shared) (H : Hp) (vs : List V) (Q : VK) (E : XK),
      Room k (A.deeper (envOfC q sc s.heap.objs.size f cd)) → sp vs H Q E →
      ∃ t, PSs (cxOf CX P w K mg base N q sc f cd A outer s H E) bd t ∧
        t { nx := fun _ H' => Q .non H', rt := Q } (start N vs) H) :
    FnG P w K mg base CX (k + 1) f (PySem.W.fnOf nm q pa bd sc dV kV dc pm an cd ct) ps sp where
  len := len
  run := by
    intro A hA outer s H args us vs Q E hr e0 bnd rel hs
    have inB : ∀ b o, base.get? b = some o → s.heap.get? b = some o := fun b o e => (e0.bs b o e).1
    have kin : K.In s.heap := e0.mod.kin.keeps inB
    have kd : ∀ y ∈ ps.zip us, sc.names.lookup y.1 = some .local ∨ (sc.names.lookup y.1 = some .cell ∧
        ((cellsFrom (s.heap.objs.size + 1) sc.names []).lookup y.1).isSome = true) := by
      intro y hy
      rcases S.par y.1 (List.of_mem_zip (a := y.1) (b := y.2) hy).1 with z | z
      · exact .inl z
      · exact .inr ⟨z, PySem.W.cellsFrom_some _ _ _ (.inl z)⟩
    refine codeAny_call_function hr.depth (kin _ _ lk) rfl S.co S.gen rfl (PySem.W.codeRec_of kin hc) (bnd _ _ _ _ ?_)
    refine wpAny_newFunctionEnv_cells S.kind kd ?_
    intro env he s1 inC
    subst he
    refine ⟨(e0.mod.nolimit.keeps inB).keeps inC.toInCall.keep, codeAny_func ?_⟩
    obtain ⟨t, ht, hq⟩ := hb A hA outer s H vs Q E (hr.deeper _) hs
    have I0 := inv_start (CX := CX) (mg := mg) (E := E) S hr.hd e0 (len _ _ _ _ hs) rel inC
    refine wpAny_mono (ht.run [] s1 (start N vs) H _ I0 hq) ?_ (fun _ _ z => z)
    intro fl s' z
    have fin : ∀ (σ' : L2.St) (H' : Hp) (v : V) (u : Value),
        Inv (cxOf CX P w K mg base N q sc f cd A outer s H E) [] σ' H' s' → L2.RelV v u → Q v H' → CE outer P w H s Q u s' :=
      fun _ H' v _ J rv y => ⟨v, H', J.os, J.bare, J.base, J.hok, rv, y⟩
    match fl, z with
    | .ret u, z => obtain ⟨v, σ', H', J, rv, y⟩ := z; exact fin σ' H' v u J rv y
    | .next, z => obtain ⟨σ', H', J, y⟩ := z; exact fin σ' H' V.non Value.none J rfl y
    | .brk, z => obtain ⟨_, _, _, y⟩ := z; exact y.elim
    | .cont, z => obtain ⟨_, _, _, y⟩ := z; exact y.elim
end

section
variable {P : Program} {w : World} {K : PySem.W.Frag} {mg : Str → Option Value} {base : Heap}
/-- .. for a def as the top has written it; no exception leaves it -/
theorem okG {x q : Str} {st : Stmt} {f : Addr} {fd : FuncData} {N ps : List Str} {k : Nat} {sp : Sp} (F : Fun K x q st f fd)
    (S : FnScope N ps (defScope st)) (len : ∀ vs H Q E, sp vs H Q E → vs.length = ps.length)
    (hb : ∀ (cd : Value) (A : Around), A.guards = some [] → ∀ (outer : List Env) (s : Shared) (H : Hp) (vs : List V) (Q : VK) (E : XK),
      Room k (A.deeper (envOfC q (defScope st) s.heap.objs.size f cd)) → sp vs H Q E →
      ∃ t, PSs (cxOf CX0 P w K mg base N q (defScope st) f cd A outer s H E).nox (defBody st) t ∧
        t { nx := fun _ H' => Q .non H', rt := Q } (start N vs) H) : FnG P w K mg base CX0 (k + 1) f fd ps sp := by
  obtain ⟨oc, od, kV, dc, pm, an, cd, ct, sl, rfl, lk, hc⟩ := F.ex
  refine fnG_of lk hc S len ?_
  intro A hA outer s H vs Q E hr hs
  obtain ⟨t, h, z⟩ := hb cd A hA outer s H vs Q E hr hs
  exact ⟨t, h.nox, z⟩
end

section
variable {X : Cx} {CX : CXT} {k : Nat} {f : Addr} {fd : FuncData} {ps ks : List Str} {sp : Sp} {E : XK} {x : Str} {p pos : Pos}
  {e : Expr} {es : List Expr} {kws : List Keyword} {t tk : TA}

theorem runG {pins : List (Addr × Obj)} {σ : L2.St} {H : Hp} {s : Shared} {Q : VK} {us ws : List Value} {kw : List (Str × Value)} {vs : List V}
    (F : FnG X.prog X.w X.K X.mg X.base CX k f fd ps sp) (hA : X.A.guards = some []) (hr : Room k X.A) (hx : Passes CX X E)
    (I : Inv X pins σ H s) (b : ws.length = ps.length → BindsTo s fd ⟨us, kw⟩ (ps.zip ws)) (r : L2.Vals vs ws) (h : sp vs H Q E) :
    wpAny (model X.prog X.w) X.A (call (.ref f) us kw) (EP X pins σ Q) X.xe s := by
  have hl : ws.length = ps.length := by rw [← r.length]; exact F.len _ _ _ _ h
  refine wpAny_call (codeAny_mono (F.run X.A hA X.stack s H ⟨us, kw⟩ ws vs Q E hr I.env0 (b hl) r h) ?_)
  intro r s' z
  match r, z with
  | .error e, z => exact hx pins σ H s e s' I z
  | .ok (.ret u), z => exact I.after z
  | .ok .next, z => exact z
  | .ok .brk, z => exact z
  | .ok .cont, z => exact z

/-- f(e, ..) -/
theorem pe_callG (F : FnG X.prog X.w X.K X.mg X.base CX k f fd ps sp) (hA : X.A.guards = some []) (hr : Room k X.A) (hg : Gl X x)
    (hm : X.mg x = some (.ref f)) (hk : PySem.W.keepIn X.K (.ref f) = true) (hb : Binds X.K fd ps []) (hx : Passes CX X E) (ha : PA X (e :: es) t)
    (hdb : (x == ("__debug__" : Str)) = false := by decide) (he : starEach (e :: es) X.env = (false, eval e X.env) :: starEach es X.env := by rfl)
    (hpl : (backTo pos (starEach es X.env)).any (·.1) = false := by rfl) :
    PE X (.Call (.Name x p) (e :: es) [] pos) (tCall sp [] E t) := by
  constructor
  intro pins s σ H Q I h
  refine wpAny_Call_Name_kw (ld_glob I hg hm ?_ hdb)
  refine PySem.W.callWith_K (h₀ := X.base) I.ok.mod.kin hk (thn (ha.run pos pins s σ H _ I h) ?_) he hpl
  intro us s1 z
  obtain ⟨vs, H1, I1, r1, q1⟩ := z
  have q : sp (vs ++ []) H1 Q E := q1
  rw [List.append_nil] at q
  refine ⟨I1.kIn, runG (ws := us) F hA hr hx I1 (fun hl => ?_) r1 q⟩
  have b := hb s1 us I1.kIn (by rw [List.append_nil]; exact hl)
  rw [List.append_nil] at b
  exact b
end

/-! ### the law's own call -/
theorem lawG {P : Program} {w : World} {K : PySem.W.Frag} {mg mb : Str → Option Value} {k : Nat} {fa a : Addr} {fd : FuncData} {x : Str} {sp : Sp} {s1 : Shared} {vs : List Value} {ns : List Int}
    (KX : K.In s1.heap) (g1 : s1.heap.Ns mainGlobals mg) (g2 : s1.heap.Ns builtinsNs mb) (g3 : ∀ x : Str, x ≠ "__name__" → mb x = bootBuiltins x)
    (lim : s1.heap.NoLimit) (gens : s1.gens = #[]) (ha : s1.heap.get? a = some { cls := .type "list", data := .seq vs.toArray })
    (hi : IntsAre vs ns) (hl : ns.length ≤ sizeLine) (hr : Room k callerA)
    (F : ∀ base : Heap, K.In base → base.Ns mainGlobals mg → FnG P w K mg base CX0 k fa fd [x] sp)
    (bnd : ∀ (s : Shared) (u : Value), BindsTo s fd ⟨[u], []⟩ [(x, u)])
    (hsp : ∀ H : Hp, Only H → SqL K H a (ns.map V.int) → sp [.ref a] H (fun v _ => v = .bl true) E0) :
    codeAny (model P w) callerA (.call (.ref fa) ⟨[.ref a], []⟩)
      (fun r s' => r = .ok (.ret (.bool true)) ∧ PySem.OldK s1.heap s'.heap ∧ s'.os = s1.os ∧ AllBare s'.gens) s1 := by
  have rv : L2.Vals (ns.map V.int) vs := vals_ints hi
  let scr : HO := .frz { cls := .type "list", data := .seq vs.toArray } (.lst (ns.map V.int))
  -- what is tracked: the script, unless it is an object of the module
  let H : Hp := fun b => if b = a ∧ K.lookup a = none then some scr else none
  have hH : ∀ b u, H b = some u → b = a ∧ K.lookup a = none ∧ u = scr := by
    intro b u e
    by_cases c : b = a ∧ K.lookup a = none
    · have e2 : some scr = some u := (if_pos c).symm.trans e
      exact ⟨c.1, c.2, (Option.some.inj e2).symm⟩
    · have e2 : (none : Option HO) = some u := (if_neg c).symm.trans e
      cases e2
  have sizes : (ns.map V.int).length ≤ sizeLine := by rw [List.length_map]; exact hl
  have only : Only H := fun b => by
    by_cases c : b = a ∧ K.lookup a = none
    · exact .inr ⟨_, _, if_pos c⟩
    · exact .inl (if_neg c)
  have okH : HOk P w H s1.heap := by
    intro b u e
    obtain ⟨rfl, _, rfl⟩ := hH b u e
    exact ⟨ha, sizes, vs, _, rv, ha⟩
  have sq : SqL K H a (ns.map V.int) := by
    cases e : K.lookup a with
    | none => exact .inl (.inr ⟨_, if_pos ⟨rfl, e⟩⟩)
    | some o =>
      have z := KX a o e
      rw [ha] at z; cases z
      exact .inr ⟨_, vs.toArray, _, e, rfl, rfl, rfl, by rw [List.size_toArray, ← rv.length]; exact sizes, by simpa using rv⟩
  have free : ∀ (b : Addr) (o : Obj), s1.heap.get? b = some o → (∀ es ep, o.data = .dict es ep → H b = none) := by
    intro b o e es ep d
    cases q : H b with
    | none => rfl
    | some u =>
      obtain ⟨rfl, _, _⟩ := hH b u q
      rw [ha] at e; cases e; cases d
  have ns_ : ∀ {b : Addr} {m : Str → Option Value}, s1.heap.Ns b m → (hidT s1.heap H).Ns b m := by
    intro b m z
    obtain ⟨o, es, ep, e, d, r⟩ := z
    exact ⟨o, es, ep, hidT_get e (free b o e es ep d), d, r⟩
  have kin : K.In (hidT s1.heap H) := by
    intro b o e
    refine hidT_get (KX b o e) ?_
    cases q : H b with
    | none => rfl
    | some u =>
      obtain ⟨rfl, n, _⟩ := hH b u q
      rw [n] at e; cases e
  have e0 : Env0 P w K mg (hidT s1.heap H) callerA [] s1 H :=
    ⟨rfl, ⟨kin, ns_ g1, ⟨mb, ns_ g2, g3⟩, (by obtain ⟨mc, p, q⟩ := lim; exact ⟨mc, ns_ p, q⟩)⟩, fun b o e => of_hidT e,
      Nat.le_of_eq (hidT_size _ _), trivial, (fun b hb => absurd (show b ∈ ([] : List Addr) from hb) (fun y => nomatch y)), okH, .of_eq gens⟩
  refine codeAny_mono ((F _ kin (ns_ g1)).run callerA rfl [] s1 H ⟨[.ref a], []⟩ [.ref a] [.ref a] _ _ hr e0 (bnd s1 (.ref a)) (.cons rfl .nil) (hsp H only sq)) ?_
  intro r s' z
  match r, z with
  | .error _, z => exact z.elim
  | .ok .next, z => exact z.elim
  | .ok .brk, z => exact z.elim
  | .ok .cont, z => exact z.elim
  | .ok (.ret u), z =>
    obtain ⟨v, H', os, bare, un, ok', rv', q⟩ := z
    obtain rfl : v = .bl true := q
    obtain rfl : u = Value.bool true := rv'
    refine ⟨rfl, PySem.OldK.of_keep fun b o e => ?_, os, bare⟩
    cases q : H b with
    | none => exact un.keep b o e q (fun y => absurd (show b ∈ ([] : List Addr) from y) (fun y => nomatch y)) (fun y => nomatch y)
    | some y =>
      have q2 := q
      obtain ⟨rfl, _, rfl⟩ := hH b y q
      have z2 := un.frzs _ _ _ q2
      rw [ha] at e; cases e
      exact (ok' _ _ z2).1

theorem walkG {l : PySem.W.OpenLaw} {n k : Nat} {q : Program} {loose : List Str} {XP : (Str → Option Value) → Heap → Prop} {YP : World → Heap → Prop} {d : DefRec} {K : Params → PySem.W.Frag} {sp : PySem.W.Frag → Sp} {x : Str}
    (hn : l.most = some n) (hn2 : n ≤ sizeLine) (hdf : d.params.defaults = []) (hr : Room k callerA) (hY : ∀ (w : World) (h : Heap), YP w h → (K w.params).In h)
    (F : ∀ (w : World) (mg : Str → Option Value) (fa : Addr) (h : Heap), (K w.params).In h → h.Ns mainGlobals mg → mg d.name = some (.ref fa) →
      ∃ fd : FuncData, (∀ (s : Shared) (u : Value), BindsTo s fd ⟨[u], []⟩ [(x, u)]) ∧
        ∀ base : Heap, (K w.params).In base → base.Ns mainGlobals mg → FnG l.prog w (K w.params) mg base CX0 k fa fd [x] (sp (K w.params)))
    (hsp : ∀ (K : PySem.W.Frag) (H : Hp) (a : Addr) (ns : List Int), ns.length ≤ n → Only H → SqL K H a (ns.map V.int) → sp K [.ref a] H (fun v _ => v = .bl true) E0) :
    PySem.W.WalkO q loose XP YP l.row.toRowW d [] (fun f vs => PySem.call f vs) := by
  refine Att.attach_call hn hdf ?_
  intro w s0 s1 mg mb fa o pm cd doc a vs ns G Y ho hd hcd hmg hobj hints hlen hg
  have kin := hY w _ Y
  obtain ⟨fd, hb, hF⟩ := F w mg fa _ kin G.T.g hmg
  exact lawG kin G.T.g G.T.b G.T.builtins G.T.nolimit hg hobj hints (Nat.le_trans hlen hn2) hr hF hb (fun H hO hS => hsp _ H a ns hlen hO hS)
end LK

/-! Readings that compute: by the shape of the values, texts by their codes. -/
namespace LK
open PySem PySem.Spec PyProof.Rows L2

/-- a text by its codes -/
def T (l : List Nat) : Str := ⟨l.toArray⟩
theorem T_inj {a b : List Nat} (h : T a = T b) : a = b := by
  have := congrArg (fun x => x.cps.toList) h
  exact this
theorem T_add (a b : List Nat) : T a ++ T b = T (a ++ b) := by
  show (⟨a.toArray ++ b.toArray⟩ : Str) = ⟨(a ++ b).toArray⟩
  simp
/-- the codes of a text -/
def cs (x : Str) : List Nat := x.cps.toList
theorem T_cs (x : Str) : T (cs x) = x := rfl
section
variable {X : Cx} {e a b : Expr} {t t' ta tb tc : TE} {pos : Pos}

theorem PE.imp (h : PE X e t) (w : ∀ σ H Q, t' σ H Q → t σ H Q) : PE X e t' :=
  ⟨fun pins s σ H Q I q => h.run pins s σ H Q I (w σ H Q q)⟩
theorem OpR.imp {f : Value → Value → Sem Value} {r r' : R2} (h : OpR X f r) (w : ∀ x y H Q, r' x y H Q → r x y H Q) : OpR X f r' :=
  fun pins s σ H x y v u Q I rx ry q => h pins s σ H x y v u Q I rx ry (w x y H Q q)
theorem CallR.imp {f : Value} {r r' : List V → Hp → VK → Prop} (h : CallR X f r) (w : ∀ vs H Q, r' vs H Q → r vs H Q) : CallR X f r' :=
  fun pins s σ H vs us Q I rv q => h pins s σ H vs us Q I rv (w vs H Q q)
theorem IxR.imp {r r' : R2} (h : IxR X r) (w : ∀ x y H Q, r' x y H Q → r x y H Q) : IxR X r' := by
  intro value slice pins s σ H x y v u Q I rx ry q hs
  exact h value slice pins s σ H x y v u Q I rx ry (w x y H Q q) hs

/-! names, constants -/
def uVar (i : Nat) : TE := fun σ H Q => match σ[i]? with | some (some v) => Q v H | _ => False
theorem uv (i : Nat) {x : Str} (hN : X.N[i]? = some x := by rfl)
    (hv : Vis X.env.scope x := by first | exact Or.inl rfl | exact Or.inr (Or.inl rfl) | exact Or.inr (Or.inr rfl))
    (hd : (x == ("__debug__" : Str)) = false := by decide) (hcd : (x == ("__classdict__" : Str)) = false := by decide) :
    PE X (.Name x pos) (uVar i) := by
  refine PE.imp (pe_var hN hv hd hcd) fun σ H Q h => ?_
  unfold uVar at h
  split at h
  · rename_i v e; exact ⟨v, e, h⟩
  · exact h.elim
theorem ustr (l : List Nat) {x : Str} {j : Nat} {pos : Pos} (h : x = T l := by decide +kernel) : PE X (.Constant (.str x) j pos) (tC (.str (T l))) := by
  subst h; exact pe_str

/-! operators -/
def rAddU : R2 := fun x y H Q => match x, y with
  | .int i, .int j => Q (.int (i + j)) H
  | .str a, .str b => (cs a).length + (cs b).length ≤ sizeLine ∧ Q (.str (T (cs a ++ cs b))) H
  | .ref l, .ref b => ∃ xs ys, H l = some (.lst xs) ∧ H b = some (.lst ys) ∧ xs.length + ys.length ≤ sizeLine ∧
      ∀ p, H p = none → Q (.ref p) (upd H p (.lst (xs ++ ys)))
  | _, _ => False
theorem o_add : OpR X (binaryOp .Add) rAddU := by
  refine OpR.imp (op_add.or (op_add_str.or op_cat)) fun x y H Q h => ?_
  unfold rAddU at h
  split at h
  · exact .inl ⟨_, _, rfl, rfl, h⟩
  · rename_i a b
    refine .inr (.inl ⟨a, b, rfl, rfl, h.1, ?_⟩)
    have e : a ++ b = T (cs a ++ cs b) := T_add (cs a) (cs b)
    rw [e]; exact h.2
  · rename_i l b
    obtain ⟨xs, ys, h1, h2, h3, h4⟩ := h
    exact .inr (.inr ⟨l, b, xs, ys, rfl, rfl, h1, h2, h3, h4⟩)
  · exact h.elim
def rSubU : R2 := fun x y H Q => match x, y with
  | .int i, .int j => Q (.int (i - j)) H
  | _, _ => False
theorem o_sub : OpR X (binaryOp .Sub) rSubU := by
  refine OpR.imp op_sub fun x y H Q h => ?_
  unfold rSubU at h
  split at h
  · exact ⟨_, _, rfl, rfl, h⟩
  · exact h.elim
theorem mul_codes (z : Str) (n : Int) : Txt.mul z n = T (List.replicate n.toNat (cs z)).flatten := by
  have fold : ∀ (k : Nat) (acc : Array Nat), (List.replicate k z.cps).foldl (· ++ ·) acc = acc ++ (List.replicate k (cs z)).flatten.toArray := by
    intro k
    induction k with
    | zero => intro acc; simp
    | succ k ih =>
      intro acc
      rw [List.replicate_succ, List.foldl_cons, ih, List.replicate_succ, List.flatten_cons]
      apply Array.ext'
      simp [cs]
  unfold Txt.mul
  split
  · rename_i h
    have : n.toNat = 0 := by omega
    rw [this]; rfl
  · split
    · rename_i h1 h2
      rw [Bool.or_eq_true, beq_iff_eq, beq_iff_eq] at h2
      rcases h2 with h2 | h2
      · subst h2
        show z = T ((List.replicate 1 (cs z)).flatten)
        simp [T_cs]
      · have e : cs z = [] := List.eq_nil_of_length_eq_zero h2
        have e2 : z = T [] := by rw [← T_cs z, e]
        rw [e, e2]
        congr 1
        induction n.toNat with
        | zero => rfl
        | succ k ih => rw [List.replicate_succ, List.flatten_cons, ← ih]; rfl
    · show (⟨(List.replicate n.toNat z.cps).foldl (· ++ ·) #[]⟩ : Str) = _
      rw [fold]
      simp [T]
theorem tooLong_small {k : Nat} (h : k ≤ 1000000) : PySem.Builtin.Str.tooLong k = false := by
  unfold PySem.Builtin.Str.tooLong
  simp
  have := sizeLine_eq
  omega
theorem mulOk_small {z : Str} {n : Int} (h1 : n < 2 ^ 62) (h0 : -(2 ^ 62) < n) (h : (cs z).length * n.toNat ≤ 1000000) : MulOk z n := by
  have hz : z.length = (cs z).length := rfl
  refine ⟨by simp; omega, fun hn hb => ?_, fun hn hb => ?_⟩
  · intro c
    have k0 : (0 : Int) < n := by omega
    have hc : (z.length : Int) * n ≤ 1000000 := by
      have e : ((z.length * n.toNat : Nat) : Int) = (z.length : Int) * n := by
        rw [Int.natCast_mul]; congr 1; omega
      rw [← e]; rw [hz]; omega
    have : (z.length : Int) ≤ (2 ^ 63 - 1) / n := by
      rw [Int.le_ediv_iff_mul_le k0]; omega
    omega
  · have : z.length * n.toNat ≤ 1000000 := h
    exact tooLong_small (by omega)
def rMulU : R2 := fun x y H Q => match x, y with
  | .int i, .int j => CMul i j ∧ Q (.int (i * j)) H
  | .str z, .int n => (n < 2 ^ 62 ∧ -(2 ^ 62) < n ∧ (cs z).length * n.toNat ≤ 1000000) ∧ Q (.str (T (List.replicate n.toNat (cs z)).flatten)) H
  | .ref l, .int k => ∃ xs, H l = some (.lst xs) ∧ -(2 ^ 63) ≤ k ∧ k < 2 ^ 63 ∧ xs.length * k.toNat ≤ sizeLine ∧
      ∀ p, H p = none → Q (.ref p) (upd H p (.lst (List.replicate k.toNat xs).flatten))
  | _, _ => False
theorem op_mul_str : OpR X (binaryOp .Mult) (fun x y H Q => ∃ z n, x = .str z ∧ y = .int n ∧ MulOk z n ∧ Q (.str (Txt.mul z n)) H) := by
  intro pins s σ H x y v u Q I rx ry h
  obtain ⟨z, n, rfl, rfl, ok, q⟩ := h
  obtain ⟨t, rfl⟩ := rx
  obtain ⟨t', rfl⟩ := ry
  exact SB.mul ok fun t' k => ⟨.str _, H, I.tok _, ⟨_, rfl⟩, q⟩
theorem o_mul : OpR X (binaryOp .Mult) rMulU := by
  refine OpR.imp (op_mul.or (op_mul_str.or op_rep)) fun x y H Q h => ?_
  unfold rMulU at h
  split at h
  · exact .inl ⟨_, _, rfl, rfl, h.1, h.2⟩
  · rename_i z n
    refine .inr (.inl ⟨z, n, rfl, rfl, mulOk_small h.1.1 h.1.2.1 h.1.2.2, ?_⟩)
    rw [mul_codes]; exact h.2
  · rename_i l k
    obtain ⟨xs, h1, h2, h3, h4, h5⟩ := h
    exact .inr (.inr ⟨l, k, xs, rfl, rfl, h1, h2, h3, h4, h5⟩)
  · exact h.elim
def rModU : R2 := fun x y H Q => match x, y with
  | .int i, .int j => 0 < j ∧ Q (.int (i % j)) H
  | _, _ => False
theorem o_mod : OpR X (binaryOp .Mod) rModU := by
  refine OpR.imp op_mod fun x y H Q h => ?_
  unfold rModU at h
  split at h
  · exact ⟨_, _, rfl, rfl, h.1, h.2⟩
  · exact h.elim
def rFdivU : R2 := fun x y H Q => match x, y with
  | .int i, .int j => CDiv i j ∧ Q (.int (i / j)) H
  | _, _ => False
theorem o_fdiv : OpR X (binaryOp .FloorDiv) rFdivU := by
  refine OpR.imp op_fdiv fun x y H Q h => ?_
  unfold rFdivU at h
  split at h
  · exact ⟨_, _, rfl, rfl, h.1, h.2⟩
  · exact h.elim
def rPowU : R2 := fun x y H Q => match x, y with
  | .int i, .int j => CPow i j ∧ Q (.int (i ^ j.toNat)) H
  | _, _ => False
theorem o_pow : OpR X (binaryOp .Pow) rPowU := by
  refine OpR.imp op_pow fun x y H Q h => ?_
  unfold rPowU at h
  split at h
  · exact ⟨_, _, rfl, rfl, h.1, h.2⟩
  · exact h.elim
/-! comparisons -/
def cmpU (fi : Int → Int → Bool) (fs : List Nat → List Nat → Bool) : R2 := fun x y H Q => match x, y with
  | .int i, .int j => Q (.bl (fi i j)) H
  | .str a, .str b => Q (.bl (fs (cs a) (cs b))) H
  | _, _ => False
theorem cmpU_of {f : Value → Value → Sem Value} {fi : Int → Int → Bool} {fs : List Nat → List Nat → Bool} {r1 r2 : R2} (h1 : OpR X f r1) (h2 : OpR X f r2)
    (w1 : ∀ i j H Q, Q (.bl (fi i j)) H → r1 (.int i) (.int j) H Q) (w2 : ∀ (a b : Str) H Q, Q (.bl (fs (cs a) (cs b))) H → r2 (.str a) (.str b) H Q) : OpR X f (cmpU fi fs) := by
  refine OpR.imp (h1.or h2) fun x y H Q h => ?_
  unfold cmpU at h
  split at h
  · exact .inl (w1 _ _ _ _ h)
  · exact .inr (w2 _ _ _ _ h)
  · exact h.elim
theorem o_lt : OpR X (compareOp .Lt) (cmpU (fun i j => decide (i < j)) fun a b => decide (a < b)) :=
  cmpU_of op_lt op_lt_str (fun i j H Q q => ⟨i, j, rfl, rfl, q⟩) fun a b H Q q => ⟨a, b, rfl, rfl, q⟩
theorem o_le : OpR X (compareOp .LtE) (cmpU (fun i j => decide (i ≤ j)) fun a b => !decide (b < a)) :=
  cmpU_of op_le op_le_str (fun i j H Q q => ⟨i, j, rfl, rfl, q⟩) fun a b H Q q => ⟨a, b, rfl, rfl, q⟩
theorem o_gt : OpR X (compareOp .Gt) (cmpU (fun i j => decide (j < i)) fun a b => decide (b < a)) :=
  cmpU_of op_gt op_gt_str (fun i j H Q q => ⟨i, j, rfl, rfl, q⟩) fun a b H Q q => ⟨a, b, rfl, rfl, q⟩
/-- == : scalars; lists and tuples of data by the data they hold -/
def eqU (K : PySem.W.Frag) (neg : Bool) : R2 := fun x y H Q => match x, y with
  | .int i, .int j => Q (.bl (if neg then !decide (i = j) else decide (i = j))) H
  | .str a, .str b => Q (.bl (if neg then !decide (cs a = cs b) else decide (cs a = cs b))) H
  | .bl i, .bl j => Q (.bl (if neg then !decide (i = j) else decide (i = j))) H
  | .non, .non => Q (.bl (!neg)) H
  | .non, .int _ => Q (.bl neg) H
  | .int _, .non => Q (.bl neg) H
  | .non, .str _ => Q (.bl neg) H
  | .str _, .non => Q (.bl neg) H
  | .ref a, .ref b => ∃ d e, Dp K H (.ref a) d ∧ Dp K H (.ref b) e ∧ SeqAt.shaped d = true ∧ SeqAt.shaped e = true ∧
      Q (.bl (if neg then !PyData.eqv d e else PyData.eqv d e)) H
  | _, _ => False
theorem dec_cs (a b : Str) : decide (V.str a = V.str b) = decide (cs a = cs b) := by
  congr 1
  apply propext
  constructor
  · intro h; injection h with h; rw [h]
  · intro h
    have : a = b := by rw [← T_cs a, ← T_cs b, h]
    rw [this]
theorem o_eq (hu : X.A.units + 64 < cLine) : OpR X (compareOp .Eq) (eqU X.K false) := by
  refine OpR.imp (op_eq.or (op_eqD hu)) fun x y H Q h => ?_
  unfold eqU at h
  split at h
  all_goals first
    | exact h.elim
    | (obtain ⟨d, e, h1, h2, h3, h4, h5⟩ := h; exact .inr ⟨d, e, h1, h2, h3, h4, h5⟩)
    | (refine .inl ⟨rfl, ?_⟩; first | (rw [dec_cs]; exact h) | (simpa using h))
theorem o_ne (hu : X.A.units + 64 < cLine) : OpR X (compareOp .NotEq) (eqU X.K true) := by
  refine OpR.imp (op_ne.or (op_neD hu)) fun x y H Q h => ?_
  unfold eqU at h
  split at h
  all_goals first
    | exact h.elim
    | (obtain ⟨d, e, h1, h2, h3, h4, h5⟩ := h; exact .inr ⟨d, e, h1, h2, h3, h4, h5⟩)
    | (refine .inl ⟨rfl, ?_⟩; first | (rw [dec_cs]; exact h) | (simpa using h))
/-- is None, is True -/
def isU (neg : Bool) : R2 := fun x y H Q => match x, y with
  | .bl i, .bl j => Q (.bl (if neg then !decide (i = j) else decide (i = j))) H
  | x, .non => Q (.bl (if neg then !decide (x = .non) else decide (x = .non))) H
  | _, _ => False
theorem o_is : OpR X (compareOp .Is) (isU false) := by
  refine OpR.imp (op_isBl.or op_isN) fun x y H Q h => ?_
  unfold isU at h
  split at h
  · exact .inl ⟨_, _, rfl, rfl, h⟩
  · exact .inr ⟨rfl, h⟩
  · exact h.elim
theorem o_isnot : OpR X (compareOp .IsNot) (isU true) := by
  refine OpR.imp (op_isnot_bl.or op_notN) fun x y H Q h => ?_
  unfold isU at h
  split at h
  · exact .inl ⟨_, _, rfl, rfl, h⟩
  · exact .inr ⟨rfl, h⟩
  · exact h.elim
end
end LK
namespace LK
open PySem PySem.Spec PyProof.Rows L2
/-! tests -/
section
variable {X : Cx} {e a b c : Expr} {t ta tb tc : TE} {pos : Pos} {u v : TT} {rest : List Expr}
def asB (Q : Bool → Hp → Prop) : VK := fun x H' => match x with | .bl k => Q k H' | _ => False
def uT (t : TE) : TT := fun σ H Q => t σ H (asB Q)
theorem asB_eq (Q : Bool → Hp → Prop) : asB Q = fun x H' => ∃ k, x = .bl k ∧ Q k H' := by
  funext x H'
  apply propext
  unfold asB
  constructor
  · intro h
    split at h
    · exact ⟨_, rfl, h⟩
    · exact h.elim
  · rintro ⟨k, rfl, h⟩
    exact h
theorem uT_eq (t : TE) : uT t = tB t := by
  funext σ H Q
  show t σ H (asB Q) = t σ H _
  rw [asB_eq]
theorem pt_u (h : PE X e t) (he : ∀ whole, isTrue e X.env whole = (do let v ← whole; standAt e.pos; holding [v] (truthy v)) := by intro _; rfl) : PT X e (uT t) := by
  rw [uT_eq]; exact pt_val h he
theorem pt_cu {op : CmpOp} {r : R2} (ho : OpR X (compareOp op) r) (ha : PE X a ta) (hb : PE X b tb) (hm : behindInMarks op b = false := by first | exact nomark _ | rfl) :
    PT X (.Compare a [op] [b] pos) (uT (tOp r ta tb)) := by
  rw [uT_eq]; exact pt_cmpR ho ha hb hm
theorem pe_cu {op : CmpOp} {r : R2} (ho : OpR X (compareOp op) r) (ha : PE X a ta) (hb : PE X b tb) (hm : behindInMarks op b = false := by first | exact nomark _ | rfl) :
    PE X (.Compare a [op] [b] pos) (tOp r ta tb) := pe_cmpR ho ha hb hm
/-- a comparison chain -/
def uChain (r r' : R2) (ta tb tc : TE) : TE := fun σ H Q => ta σ H fun x H1 => tb σ H1 fun y H2 => r x y H2 (asB fun k H3 =>
  (k = true → tc σ H3 fun w H4 => r' y w H4 Q) ∧ (k = false → Q (.bl false) H3))
theorem uChain_eq (r r' : R2) (ta tb tc : TE) : uChain r r' ta tb tc = tChain r r' ta tb tc := by
  funext σ H Q
  unfold uChain tChain
  congr 1; funext x H1; congr 1; funext y H2
  rw [asB_eq]
  congr 1; funext z H3
  apply propext
  constructor
  · rintro ⟨k, rfl, h1, h2⟩
    refine ⟨k, rfl, ?_⟩
    cases k with
    | true => exact h1 rfl
    | false => exact h2 rfl
  · rintro ⟨k, rfl, h⟩
    refine ⟨k, rfl, fun e => ?_, fun e => ?_⟩ <;> subst e <;> exact h
theorem pe_chainU {op op' : CmpOp} {r r' : R2} (ho : OpR X (compareOp op) r) (ho' : OpR X (compareOp op') r') (ha : PE X a ta) (hb : PE X b tb) (hc : PE X c tc)
    (h : PE X (.Compare a [op, op'] [b, c] pos) (tChain r r' ta tb tc)) : PE X (.Compare a [op, op'] [b, c] pos) (uChain r r' ta tb tc) := by
  rw [uChain_eq]; exact h
theorem pt_chainU {r r' : R2} {t2 : TE} (h : PT X e (tTest (tChain r r' ta tb tc))) : PT X e (uT (uChain r r' ta tb tc)) := by
  rw [uChain_eq, uT_eq]; exact h
/-- and, or, not, if -/
def Br (b : Bool) (A B : Prop) : Prop := (b = true → A) ∧ (b = false → B)
theorem br_eq (b : Bool) (A B : Prop) : Br b A B = (if b = true then A else B) := by
  apply propext
  cases b
  · exact ⟨fun h => h.2 rfl, fun h => ⟨fun e => Bool.noConfusion e, fun _ => h⟩⟩
  · exact ⟨fun h => h.1 rfl, fun h => ⟨fun _ => h, fun e => Bool.noConfusion e⟩⟩
theorem Br.yes {A B : Prop} (h : A) : Br true A B := ⟨fun _ => h, fun e => Bool.noConfusion e⟩
theorem Br.no {A B : Prop} (h : B) : Br false A B := ⟨fun e => Bool.noConfusion e, fun _ => h⟩
theorem Br.d {p A B : Prop} [Decidable p] (h1 : p → A) (h2 : ¬ p → B) : Br (decide p) A B :=
  ⟨fun e => h1 (of_decide_eq_true e), fun e => h2 (of_decide_eq_false e)⟩
theorem Br.nd {p A B : Prop} [Decidable p] (h1 : ¬ p → A) (h2 : p → B) : Br (!decide p) A B :=
  ⟨fun e => h1 (by simpa using e), fun e => h2 (by simpa using e)⟩
def uOr (t u : TT) : TT := fun σ H Q => t σ H fun k H1 => Br k (Q true H1) (u σ H1 Q)
theorem pw_orU (ha : PT X a u) (hb : PW X (.BoolOp .Or (b :: rest) pos) v) : PW X (.BoolOp .Or (a :: b :: rest) pos) (uOr u v) := by
  have e : uOr u v = tOr u v := by
    funext σ H Q; unfold uOr tOr; congr 1; funext k H1; exact br_eq _ _ _
  rw [e]; exact pw_or ha hb
def uAndV (ta tb : TE) : TE := fun σ H Q => ta σ H (asB fun k H1 => Br k (tb σ H1 Q) (Q (.bl false) H1))
def uOrV (ta tb : TE) : TE := fun σ H Q => ta σ H (asB fun k H1 => Br k (Q (.bl true) H1) (tb σ H1 Q))
def uNotV (ta : TE) : TE := fun σ H Q => ta σ H (asB fun k H1 => Q (.bl (!k)) H1)
theorem pe_andU (ha : PE X a ta) (hb : PE X (.BoolOp .And (b :: rest) pos) tb) : PE X (.BoolOp .And (a :: b :: rest) pos) (uAndV ta tb) := by
  have e : uAndV ta tb = tAndV ta tb := by
    funext σ H Q; unfold uAndV tAndV; rw [asB_eq]; congr 1; funext x H1
    apply propext
    constructor <;> rintro ⟨k, h1, h2⟩ <;> refine ⟨k, h1, ?_⟩
    · rw [br_eq] at h2; exact h2
    · rw [br_eq]; exact h2
  rw [e]; exact pe_and ha hb
theorem pe_orU (ha : PE X a ta) (hb : PE X (.BoolOp .Or (b :: rest) pos) tb) : PE X (.BoolOp .Or (a :: b :: rest) pos) (uOrV ta tb) := by
  have e : uOrV ta tb = tOrV ta tb := by
    funext σ H Q; unfold uOrV tOrV; rw [asB_eq]; congr 1; funext x H1
    apply propext
    constructor <;> rintro ⟨k, h1, h2⟩ <;> refine ⟨k, h1, ?_⟩
    · rw [br_eq] at h2; exact h2
    · rw [br_eq]; exact h2
  rw [e]; exact pe_or ha hb
theorem pe_notU (ha : PE X a ta) : PE X (.UnaryOp .Not a pos) (uNotV ta) := by
  have e : uNotV ta = tNotV ta := by
    funext σ H Q; unfold uNotV tNotV; rw [asB_eq]
  rw [e]; exact pe_not ha
def uIfE (t : TT) (ta tb : TE) : TE := fun σ H Q => t σ H fun k H1 => Br k (ta σ H1 Q) (tb σ H1 Q)
theorem pe_ifU {c : Expr} (hc : PT X c u) (ha : PE X a ta) (hb : PE X b tb) : PE X (.IfExp c a b pos) (uIfE u ta tb) := by
  have e : uIfE u ta tb = tIf u ta tb := by
    funext σ H Q; unfold uIfE tIf; congr 1; funext k H1; exact br_eq _ _ _
  rw [e]; exact pe_ifExp hc ha hb
def uIf (c : TT) (t u : TS) : TS := fun D σ H => c σ H fun k H1 => Br k (t D σ H1) (u D σ H1)
theorem ps_ifU {c : Expr} {a b : List Stmt} {tc : TT} {t u : TS} (hc : PT X c tc) (ha : PSs X a t) (hb : PSs X b u) : PS X (.If c a b pos) (uIf tc t u) := by
  have e : uIf tc t u = tIfS tc t u := by
    funext D σ H; unfold uIf tIfS; congr 1; funext k H1; exact br_eq _ _ _
  rw [e]; exact ps_if hc ha hb
end

/-! subscripts -/
section
variable {X : Cx} {e a b : Expr} {t ta tb : TE} {pos : Pos}
def ixU (K : PySem.W.Frag) : R2 := fun x y H Q => match x, y with
  | .ref p, .int i => ∃ xs v, (SqL K H p xs ∨ SqT K H p xs) ∧ atI xs i = some v ∧ Q v H
  | .str z, .int i => (cs z).length ≤ sizeLine ∧ ∃ c, atI (cs z) i = some c ∧ Q (.str (T [c])) H
  | _, _ => False
theorem ix_u : IxR X (ixU X.K) := by
  refine IxR.imp ix_seq fun x y H Q h => ?_
  unfold ixU at h
  split at h
  · obtain ⟨xs, v, h1 | h1, h2, h3⟩ := h
    · exact .inl ⟨_, xs, _, v, rfl, rfl, h1, h2, h3⟩
    · exact .inr (.inl ⟨_, xs, _, v, rfl, rfl, h1, h2, h3⟩)
  · obtain ⟨hz, c, h1, h2⟩ := h
    exact .inr (.inr ⟨_, _, c, rfl, rfl, hz, h1, h2⟩)
  · exact h.elim
theorem pe_ixU (ha : PE X a ta) (hb : PE X b tb) (hs : PlainIx b := by exact fun _ _ => rfl) : PE X (.Subscript a b pos) (tOp (ixU X.K) ta tb) := pe_ix ix_u ha hb hs
/-- x[i:j] of a text; of a list -/
def slU (K : PySem.W.Frag) : V → Option Int → Option Int → Hp → VK → Prop := fun x lo hi H Q => match x with
  | .str z => (cs z).length ≤ sizeLine ∧ Q (.str (T (((cs z).drop (HT.sIx (cs z).length 0 lo)).take (HT.sIx (cs z).length (cs z).length hi - HT.sIx (cs z).length 0 lo)))) H
  | .ref a => ∃ xs, SqL K H a xs ∧ ∀ p, H p = none → Q (.ref p) (upd H p (.lst (cutV xs lo hi)))
  | _ => False
theorem sl_u : SlR X (slU X.K) := by
  intro pins s σ H x v vl vu lo hi sl Q I rx hs pl pu h
  refine (sl_str.or sl_list) pins s σ H x v vl vu lo hi sl Q I rx hs pl pu ?_
  unfold slU at h
  split at h
  · exact .inl ⟨_, rfl, h.1, h.2⟩
  · obtain ⟨xs, h1, h2⟩ := h
    exact .inr ⟨_, xs, rfl, h1, h2⟩
  · exact h.elim
def uPart (t : TE) : TO := fun σ H Q => t σ H fun x H1 => match x with | .int i => Q (some i) H1 | _ => False
theorem po_u (h : PE X e t) : PO X (some e) (uPart t) := by
  have w : uPart t = tPart t := by
    funext σ H Q; unfold uPart tPart; congr 1; funext x H1
    apply propext
    constructor
    · intro h; split at h
      · exact ⟨_, rfl, h⟩
      · exact h.elim
    · rintro ⟨i, rfl, h⟩; exact h
  rw [w]; exact po_some h
end

/-! calls of built-ins -/
section
variable {X : Cx}
def lenU (K : PySem.W.Frag) : List V → Hp → VK → Prop := fun vs H Q => match vs with
  | [.str z] => (cs z).length ≤ sizeLine ∧ Q (.int (cs z).length) H
  | [.ref p] => (∃ xs, (SqL K H p xs ∨ SqT K H p xs) ∧ Q (.int xs.length) H) ∨ ∃ kvs, H p = some (.dK kvs) ∧ Q (.int kvs.length) H
  | _ => False
theorem c_len : CallR X (.builtin "len") (lenU X.K) := by
  refine CallR.imp (call_len_str.or (call_len_seq.or call_lenD)) fun vs H Q h => ?_
  unfold lenU at h
  split at h
  · exact .inl ⟨_, rfl, h.1, h.2⟩
  · rcases h with ⟨xs, h1, h2⟩ | ⟨kvs, h1, h2⟩
    · exact .inr (.inl ⟨_, xs, rfl, h1, h2⟩)
    · exact .inr (.inr ⟨_, kvs, rfl, h1, h2⟩)
  · exact h.elim
def intU : List V → Hp → VK → Prop := fun vs H Q => match vs with
  | [.int i] => Q (.int i) H
  | [.bl k] => Q (.int (if k then 1 else 0)) H
  | _ => False
theorem c_int : CallR X (.type "int") intU := by
  refine CallR.imp call_int1 fun vs H Q h => ?_
  unfold intU at h
  split at h
  · exact .inl ⟨_, rfl, h⟩
  · exact .inr ⟨_, rfl, h⟩
  · exact h.elim
def absU : List V → Hp → VK → Prop := fun vs H Q => match vs with
  | [.int i] => Q (.int i.natAbs) H
  | _ => False
theorem c_abs : CallR X (.builtin "abs") absU := by
  refine CallR.imp call_abs fun vs H Q h => ?_
  unfold absU at h
  split at h
  · rename_i i
    refine ⟨_, rfl, ?_⟩
    have e : (if i < 0 then -i else i) = (i.natAbs : Int) := by omega
    rw [e]; exact h
  · exact h.elim
def mm2U (f : Int → Int → Int) : List V → Hp → VK → Prop := fun vs H Q => match vs with
  | [.int i, .int j] => Q (.int (f i j)) H
  | _ => False
theorem c_max2 (hc : X.calm = true) : CallR X (.builtin "max") (mm2U max) := by
  refine CallR.imp (call_max2 hc) fun vs H Q h => ?_
  unfold mm2U at h
  split at h
  · rename_i i j
    refine ⟨_, _, rfl, ?_⟩
    have e : (if j > i then j else i) = max i j := by omega
    rw [e]; exact h
  · exact h.elim
theorem c_min2 (hc : X.calm = true) : CallR X (.builtin "min") (mm2U min) := by
  refine CallR.imp (call_min2 hc) fun vs H Q h => ?_
  unfold mm2U at h
  split at h
  · rename_i i j
    refine ⟨_, _, rfl, ?_⟩
    have e : (if j < i then j else i) = min i j := by omega
    rw [e]; exact h
  · exact h.elim
def divmodU : List V → Hp → VK → Prop := fun vs H Q => match vs with
  | [.int i, .int j] => CDiv i j ∧ ∀ p, H p = none → Q (.ref p) (upd H p (.tup [.int (i / j), .int (i % j)]))
  | _ => False
theorem c_divmod : CallR X (.builtin "divmod") divmodU := by
  refine CallR.imp call_divmod fun vs H Q h => ?_
  unfold divmodU at h
  split at h
  · exact ⟨_, _, rfl, h.1, h.2⟩
  · exact h.elim
def allU (K : PySem.W.Frag) (f : List Bool → Bool) : List V → Hp → VK → Prop := fun vs H Q => match vs with
  | [.ref a] => ∃ bs : List Bool, SqL K H a (bs.map V.bl) ∧ Q (.bl (f bs)) H
  | _ => False
theorem c_all (hc : X.calm = true) : CallR X (.builtin "all") (allU X.K fun bs => bs.all id) := by
  refine CallR.imp (cr_all hc) fun vs H Q h => ?_
  unfold allU at h
  split at h
  · obtain ⟨bs, h1, h2⟩ := h; exact ⟨_, bs, rfl, h1, h2⟩
  · exact h.elim
/-- list(a list, a tuple, a dict) -/
def listU (K : PySem.W.Frag) : List V → Hp → VK → Prop := fun vs H Q => match vs with
  | [.ref p] => (∃ ys, (SqL K H p ys ∨ SqT K H p ys) ∧ ∀ l, H l = none → Q (.ref l) (upd H l (.lst ys))) ∨
      ∃ kvs, H p = some (.dK kvs) ∧ ∀ l, H l = none → Q (.ref l) (upd H l (.lst (kvs.map fun kv => kV kv.1)))
  | _ => False
theorem c_list (hc : X.calm = true) : CallR X (.type "list") (listU X.K) := by
  refine CallR.imp (call_list_of.or (call_list_dK hc)) fun vs H Q h => ?_
  unfold listU at h
  split at h
  · rcases h with ⟨ys, h1, h2⟩ | ⟨kvs, h1, h2⟩
    · exact .inl ⟨_, ys, rfl, h1, h2⟩
    · exact .inr ⟨_, kvs, rfl, h1, h2⟩
  · exact h.elim
end

/-! own calls: the promise at the arguments -/
section
variable {X : Cx} {CX : CXT} {k : Nat} {f : Addr} {fd : FuncData} {ps ks : List Str} {sp : Sp} {E : XK} {x : Str} {p pos : Pos} {e : Expr} {es : List Expr} {t : TA}
def uCall (sp : Sp) (E : XK) (t : TA) : TE := fun σ H Q => t σ H fun vs H1 => sp vs H1 Q E
theorem uCall_eq (sp : Sp) (E : XK) (t : TA) : uCall sp E t = tCall sp [] E t := by
  funext σ H Q; unfold uCall tCall; congr 1; funext vs H1; rw [List.append_nil]
theorem pe_callUG (F : FnG X.prog X.w X.K X.mg X.base CX k f fd ps sp) (hA : X.A.guards = some []) (hr : Room k X.A) (hg : Gl X x) (hm : X.mg x = some (.ref f))
    (hk : PySem.W.keepIn X.K (.ref f) = true) (hb : Binds X.K fd ps []) (hx : Passes CX X E) (ha : PA X (e :: es) t)
    (hdb : (x == ("__debug__" : Str)) = false := by decide) (he : starEach (e :: es) X.env = (false, eval e X.env) :: starEach es X.env := by rfl)
    (hpl : (backTo pos (starEach es X.env)).any (·.1) = false := by rfl) : PE X (.Call (.Name x p) (e :: es) [] pos) (uCall sp E t) := by
  rw [uCall_eq]; exact pe_callG F hA hr hg hm hk hb hx ha hdb he hpl
end
end LK

/-! sorted of a dict's texts, of texts by key= -/
namespace LK
open PySem PySem.Spec PyProof.Rows L2
open PySem.W (EachIs dataLe AllAlike Sortable)

/-- a text's value -/
def RT (v : Value) (l : List Nat) : Prop := ∃ t, v = .str (T l) t
abbrev encT (l : List Nat) : PyData := .str (T l)
theorem alike_T (ks : List (List Nat)) : AllAlike (ks.map encT) := by
  intro d h1 d' h2
  obtain ⟨a, _, rfl⟩ := List.mem_map.mp h1
  obtain ⟨b, _, rfl⟩ := List.mem_map.mp h2
  rfl
theorem sortable_T (ks : List (List Nat)) : Sortable (ks.map encT) := by
  refine .inr fun d h1 => ?_
  obtain ⟨a, _, rfl⟩ := List.mem_map.mp h1
  exact ⟨(fun z => nomatch z), (fun xs z => nomatch z)⟩
theorem vals_RT : ∀ {vs : List Value} {ks : List (List Nat)}, EachIs RT vs ks → L2.Vals (ks.map fun l => V.str (T l)) vs
  | _, _, .nil => .nil
  | _, _, .cons h t => .cons h (vals_RT t)
theorem reads_RT {h : Heap} : ∀ {vs : List Value} {ks : List (List Nat)}, EachIs RT vs ks → EachIs (fun v l => ∃ as, Reads h v (encT l) as) vs ks
  | _, _, .nil => .nil
  | _, _, .cons ⟨t, e⟩ r => .cons ⟨[], by rw [e]; exact .str _ t⟩ (reads_RT r)

section
variable {X : Cx} {pins : List (Addr × Obj)} {σ : L2.St} {H : Hp} {s : Shared} {E : Value → Shared → Prop}
end
end LK

/-! key=len; key=lambda x: (len(x), x) -/
namespace LK
open PySem PySem.Spec PyProof.Rows L2 LamX
open PySem.W (EachIs dataLe AllAlike Sortable)

section
variable {X : Cx} {e : Expr} {t : TA} {p p2 kp pos : Pos}
end

section
variable {prog : Program} {w : World} {A : Around} {E : Value → Shared → Prop} {s : Shared}
end
end LK
namespace LK
open PySem PySem.Spec PyProof.Rows L2 LamX
open PySem.W (EachIs dataLe AllAlike Sortable)
section
variable {X : Cx} {e : Expr} {t : TA} {p p1 p2 p3 p4 p5 lp kp pos : Pos}
end
end LK

/-! Walks over values known beforehand: for, list comprehensions. -/
namespace LK
open PySem PySem.Spec PyProof.Rows L2
open PySem.W (EachIs)

/-- J tells the values xs one behind another as long as P holds of the heap -/
structure Wk (J : It) (xs : List V) (P : Hp → Prop) : Prop where
  go : ∀ i H, P H → i < xs.length → J.go i H
  yld : ∀ i H x H', P H → i < xs.length → J.yld i H x H' → H' = H ∧ xs[i]? = some x
  stop : ∀ i H, P H → xs.length ≤ i → J.stop i H
theorem wk_list {K : PySem.W.Frag} {a : Addr} {xs : List V} : Wk (Itl K a) xs (fun H => SqL K H a xs) :=
  ⟨fun i H h l => ⟨xs, xs[i], h, List.getElem?_eq_getElem l⟩, fun i H x H' h _ y => ⟨y.1, y.2 xs h⟩, fun i H h l => ⟨xs, h, l⟩⟩
theorem wk_tup {K : PySem.W.Frag} {a : Addr} {xs : List V} : Wk (Itt K a) xs (fun H => SqT K H a xs) :=
  ⟨fun i H h l => ⟨xs, xs[i], h, List.getElem?_eq_getElem l⟩, fun i H x H' h _ y => ⟨y.1, y.2 xs h⟩, fun i H h l => ⟨xs, h, l⟩⟩
abbrev lets (l : List Nat) : List V := l.map fun c => .str (T [c])
theorem wk_str (l : List Nat) : Wk (Its (T l)) (lets l) (fun _ => True) := by
  refine ⟨fun i H _ h => ?_, fun i H x H' _ _ y => ?_, fun i H _ h => ?_⟩
  · rw [List.length_map] at h; exact h
  · obtain ⟨e, c, hc, rfl⟩ := y
    refine ⟨e, ?_⟩
    have hc' : l[i]? = some c := by
      rw [← hc]
      show l[i]? = (l.toArray)[i]?
      exact List.getElem?_toArray.symm
    rw [List.getElem?_map, hc']; rfl
  · rw [List.length_map] at h; exact h
abbrev rng (lo : Int) (n : Nat) : List V := (List.range n).map fun (i : Nat) => V.int (lo + (i : Nat))
theorem wk_rng (lo : Int) (n : Nat) : Wk (Itr lo n) (rng lo n) (fun _ => True) := by
  refine ⟨fun i H _ h => ?_, fun i H x H' _ hi y => ?_, fun i H _ h => ?_⟩
  · rw [List.length_map, List.length_range] at h; exact h
  · rw [List.length_map, List.length_range] at hi
    obtain ⟨e, rfl⟩ := y
    refine ⟨e, ?_⟩
    rw [List.getElem?_map, List.getElem?_range hi]; rfl
  · rw [List.length_map, List.length_range] at h; exact h
theorem split_at {α : Type} {xs : List α} {i : Nat} {x : α} (h : xs[i]? = some x) : xs = xs.take i ++ x :: xs.drop (i + 1) ∧ xs.take (i + 1) = xs.take i ++ [x] := by
  have hi : i < xs.length := (List.getElem?_eq_some_iff.mp h).1
  have hx : xs[i] = x := (List.getElem?_eq_some_iff.mp h).2
  refine ⟨?_, ?_⟩
  · conv => lhs; rw [← List.take_append_drop i xs, List.drop_eq_getElem_cons hi, hx]
  · rw [List.take_add_one, h]; rfl

/-- for over known values: an invariant by what is gone through -/
theorem for_wk {J : It} {xs : List V} {P : Hp → Prop} (W : Wk J xs P) {g : TG} {tb : TS} {D : Ends} {σ : L2.St} {H : Hp} (Iv : List V → L2.St → Hp → Prop)
    (hP : ∀ pre σ H, Iv pre σ H → P H) (h0 : Iv [] σ H)
    (hs : ∀ pre x suf σ H, xs = pre ++ x :: suf → Iv pre σ H → g x σ H fun σ2 H2 => tb { D with nx := Iv (pre ++ [x]), ct := Iv (pre ++ [x]), bk := D.nx } σ2 H2)
    (he : ∀ σ H, Iv xs σ H → D.nx σ H) :
    ∃ W : Nat → Nat → L2.St → Hp → Prop, (∃ m, W 0 m σ H) ∧ ∀ i m σ H, W i m σ H → (J.stop i H ∧ D.nx σ H) ∨ (J.go i H ∧ ∃ N : L2.St → Hp → Prop, (∀ σ' H', N σ' H' → ∃ m', m' < m ∧ W (i + 1) m' σ' H') ∧
      ∀ x H', J.yld i H x H' → g x σ H' fun σ2 H2 => tb { D with nx := N, ct := N, bk := D.nx } σ2 H2) := by
  refine ⟨fun i m σ H => i + m = xs.length ∧ Iv (xs.take i) σ H, ⟨xs.length, by omega, h0⟩, fun i m σ H h => ?_⟩
  obtain ⟨em, iv⟩ := h
  by_cases hi : i < xs.length
  · have hx := List.getElem?_eq_getElem hi
    obtain ⟨e1, e2⟩ := split_at hx
    refine .inr ⟨W.go i H (hP _ _ _ iv) hi, Iv (xs.take i ++ [xs[i]]), fun σ' H' n => ⟨m - 1, by omega, by omega, by rw [e2]; exact n⟩, fun x H' y => ?_⟩
    obtain ⟨rfl, hx2⟩ := W.yld i H x H' (hP _ _ _ iv) hi y
    rw [hx] at hx2
    cases hx2
    exact hs _ _ _ _ _ e1 iv
  · have e : xs.take i = xs := List.take_of_length_le (by omega)
    rw [e] at iv
    exact .inl ⟨W.stop i H (hP _ _ _ iv) (by omega), he _ _ iv⟩

/-- a list comprehension over known values without if: the values ys that come of xs -/
theorem lc_wk {J : It} {xs : List V} {P : Hp → Prop} (W : Wk J xs P) {g : TG} {te : TE} {σ : L2.St} {H : Hp} {vs : List Nat} {Q : VK} {D : Addr} (R : List V → List V → Hp → Prop)
    (hP : ∀ pre acc H, R pre acc H → P H) (h0 : R [] [] (upd H D (.lst [])))
    (hs : ∀ pre acc x suf H, xs = pre ++ x :: suf → R pre acc H → g x (wipe σ vs) H fun σ2 H2 => wipe σ2 vs = wipe σ vs ∧ te σ2 H2 fun y H4 =>
      ∃ acc, H4 D = some (.lst acc) ∧ acc.length < sizeLine ∧ ∃ a, R (pre ++ [x]) a (upd H4 D (.lst (acc ++ [y]))))
    (he : ∀ acc H, R xs acc H → Q (.ref D) H) :
    ∃ W : Nat → Nat → Hp → Prop, (∃ m, W 0 m (upd H D (.lst []))) ∧ ∀ i m H, W i m H →
  (J.stop i H ∧ Q (.ref D) H) ∨ (J.go i H ∧ ∃ Nx : Hp → Prop, (∀ H', Nx H' → ∃ m', m' < m ∧ W (i + 1) m' H') ∧ ∀ x H', J.yld i H x H' → g x (wipe σ vs) H' fun σ2 H2 => wipe σ2 vs = wipe σ vs ∧ tYes σ2 H2 fun b H3 =>
    if b = true then te σ2 H3 fun y H4 => ∃ acc, H4 D = some (.lst acc) ∧ acc.length < sizeLine ∧ Nx (upd H4 D (.lst (acc ++ [y]))) else Nx H3) := by
  refine ⟨fun i m H => i + m = xs.length ∧ ∃ acc, R (xs.take i) acc H, ⟨xs.length, by omega, [], h0⟩, fun i m H h => ?_⟩
  obtain ⟨em, acc, iv⟩ := h
  by_cases hi : i < xs.length
  · have hx := List.getElem?_eq_getElem hi
    obtain ⟨e1, e2⟩ := split_at hx
    refine .inr ⟨W.go i H (hP _ _ _ iv) hi, fun H' => ∃ acc, R (xs.take i ++ [xs[i]]) acc H', fun H' n => ?_, fun x H' y => ?_⟩
    · obtain ⟨acc, n⟩ := n
      exact ⟨m - 1, by omega, by omega, acc, by rw [e2]; exact n⟩
    · obtain ⟨rfl, hx2⟩ := W.yld i H x H' (hP _ _ _ iv) hi y
      rw [hx] at hx2
      cases hx2
      exact hs _ _ _ _ _ e1 iv
  · have e : xs.take i = xs := List.take_of_length_le (by omega)
    rw [e] at iv
    exact .inl ⟨W.stop i H (hP _ _ _ iv) (by omega), he _ _ iv⟩

section
variable {K : PySem.W.Frag} {g : TG} {te : TE} {tb : TS} {σ : L2.St} {H H1 : Hp} {vs : List Nat} {Q : VK} {t : TE} {D : Ends}
/-- t tells v at once -/
def At (t : TE) (σ : L2.St) (H : Hp) (v : V) (H1 : Hp) : Prop := ∀ R : VK, R v H1 → t σ H R
theorem lc_str {l : List Nat} (h : At t σ H (.str (T l)) H1) (R : Addr → List V → List V → Hp → Prop)
    (h0 : ∀ D, H1 D = none → R D [] [] (upd H1 D (.lst [])))
    (hs : ∀ D, H1 D = none → ∀ pre acc c suf H, l = pre ++ c :: suf → R D (lets pre) acc H → g (.str (T [c])) (wipe σ vs) H fun σ2 H2 => wipe σ2 vs = wipe σ vs ∧ te σ2 H2 fun y H4 =>
      ∃ acc, H4 D = some (.lst acc) ∧ acc.length < sizeLine ∧ ∃ a, R D (lets (pre ++ [c])) a (upd H4 D (.lst (acc ++ [y]))))
    (he : ∀ D, H1 D = none → ∀ acc H, R D (lets l) acc H → Q (.ref D) H) : tLc (iStr t) g tYes te vs σ H Q := by
  refine h _ ⟨_, rfl, fun D nD => ?_⟩
  refine lc_wk (wk_str l) (fun pre acc H => R D pre acc H) (fun _ _ _ _ => trivial) (h0 D nD) (fun pre acc x suf H2 e r => ?_) (he D nD)
  obtain ⟨p, q, e1, e2, e3⟩ := List.map_eq_append_iff.mp e
  cases q with
  | nil => cases e3
  | cons c q =>
    obtain ⟨rfl, rfl⟩ := List.cons.inj e3
    subst e2
    have z := hs D nD p acc c q H2 e1 r
    simp only [lets, List.map_append, List.map_cons, List.map_nil] at z
    exact z
theorem lc_rng {t : TA} {n : Nat} (h : ∀ R : List V → Hp → Prop, R [.int n] H1 → t σ H R) (hn : n < 1000000) (R : Addr → Nat → List V → Hp → Prop)
    (h0 : ∀ D, H1 D = none → R D 0 [] (upd H1 D (.lst [])))
    (hs : ∀ D, H1 D = none → ∀ i acc H, i < n → R D i acc H → g (.int i) (wipe σ vs) H fun σ2 H2 => wipe σ2 vs = wipe σ vs ∧ te σ2 H2 fun y H4 =>
      ∃ acc, H4 D = some (.lst acc) ∧ acc.length < sizeLine ∧ ∃ a, R D (i + 1) a (upd H4 D (.lst (acc ++ [y]))))
    (he : ∀ D, H1 D = none → ∀ acc H, R D n acc H → Q (.ref D) H) : tLc (iRng1 t) g tYes te vs σ H Q := by
  refine h _ ⟨n, rfl, by omega, by omega, fun D nD => ?_⟩
  refine lc_wk (wk_rng 0 n) (fun pre acc H => R D pre.length acc H) (fun _ _ _ _ => trivial) (h0 D nD) (fun pre acc x suf H2 e r => ?_) (fun acc H r => he D nD acc H ?_)
  · have hl : pre.length < n := by
      have := congrArg List.length e
      simp at this; omega
    have hx : (rng 0 n)[pre.length]? = some x := by rw [e]; simp
    rw [List.getElem?_map, List.getElem?_range hl] at hx
    have hx := Option.some.inj hx
    simp only [Int.zero_add] at hx
    subst hx
    have z := hs D nD pre.length acc H2 hl r
    rw [List.length_append]
    exact z
  · rw [List.length_map, List.length_range] at r; exact r
theorem lc_list {a : Addr} {xs : List V} (h : At t σ H (.ref a) H1) (hx : SqL K H1 a xs) (R : Addr → List V → List V → Hp → Prop)
    (hP : ∀ D pre acc H, R D pre acc H → SqL K H a xs) (h0 : ∀ D, H1 D = none → R D [] [] (upd H1 D (.lst [])))
    (hs : ∀ D, H1 D = none → ∀ pre acc x suf H, xs = pre ++ x :: suf → R D pre acc H → g x (wipe σ vs) H fun σ2 H2 => wipe σ2 vs = wipe σ vs ∧ te σ2 H2 fun y H4 =>
      ∃ acc, H4 D = some (.lst acc) ∧ acc.length < sizeLine ∧ ∃ a, R D (pre ++ [x]) a (upd H4 D (.lst (acc ++ [y]))))
    (he : ∀ D, H1 D = none → ∀ acc H, R D xs acc H → Q (.ref D) H) : tLc (iList K t) g tYes te vs σ H Q :=
  h _ ⟨a, rfl, ⟨_, hx⟩, fun D nD => lc_wk wk_list (fun pre acc H => R D pre acc H) (hP D) (h0 D nD) (hs D nD) (he D nD)⟩

theorem for_str {l : List Nat} (h : At t σ H (.str (T l)) H1) (Iv : List Nat → L2.St → Hp → Prop) (h0 : Iv [] σ H1)
    (hs : ∀ pre c suf σ H, l = pre ++ c :: suf → Iv pre σ H → g (.str (T [c])) σ H fun σ2 H2 => tb { D with nx := Iv (pre ++ [c]), ct := Iv (pre ++ [c]), bk := D.nx } σ2 H2)
    (he : ∀ σ H, Iv l σ H → D.nx σ H) : tFor (iStr t) g tb D σ H := by
  refine h _ ⟨_, rfl, ?_⟩
  refine for_wk (wk_str l) (fun pre σ H => ∃ p, pre = lets p ∧ Iv p σ H) (fun _ _ _ _ => trivial) ⟨[], rfl, h0⟩ (fun pre x suf σ H2 e r => ?_) (fun σ H r => ?_)
  · obtain ⟨p', rfl, iv⟩ := r
    obtain ⟨p, q, e1, e2, e3⟩ := List.map_eq_append_iff.mp e
    obtain rfl : p = p' := by
      have inj : ∀ a b : Nat, V.str (T [a]) = V.str (T [b]) → a = b := fun a b z => by
        have z1 := T_inj (V.str.inj z)
        exact (List.cons.inj z1).1
      exact (List.map_inj_right inj).mp e2
    cases q with
    | nil => cases e3
    | cons c q =>
      obtain ⟨rfl, rfl⟩ := List.cons.inj e3
      have z := hs p c q σ H2 e1 iv
      have e4 : (fun (σ : L2.St) (H : Hp) => ∃ p_1, lets p ++ [V.str (T [c])] = lets p_1 ∧ Iv p_1 σ H) = Iv (p ++ [c]) := by
        funext σ H
        apply propext
        constructor
        · rintro ⟨p1, e, h⟩
          have e5 : lets (p ++ [c]) = lets p1 := by rw [← e]; simp [lets]
          have inj : ∀ a b : Nat, V.str (T [a]) = V.str (T [b]) → a = b := fun a b z => by
            have z1 := T_inj (V.str.inj z)
            exact (List.cons.inj z1).1
          rw [(List.map_inj_right inj).mp e5]; exact h
        · intro h; exact ⟨_, by simp [lets], h⟩
      rw [e4]
      exact z
  · obtain ⟨p, e, iv⟩ := r
    have inj : ∀ a b : Nat, V.str (T [a]) = V.str (T [b]) → a = b := fun a b z => by
      have z1 := T_inj (V.str.inj z)
      exact (List.cons.inj z1).1
    obtain rfl := (List.map_inj_right inj).mp e
    exact he σ H iv
theorem for_list {a : Addr} {xs : List V} (h : At t σ H (.ref a) H1) (hx : SqL K H1 a xs) (Iv : List V → L2.St → Hp → Prop) (hP : ∀ pre σ H, Iv pre σ H → SqL K H a xs) (h0 : Iv [] σ H1)
    (hs : ∀ pre x suf σ H, xs = pre ++ x :: suf → Iv pre σ H → g x σ H fun σ2 H2 => tb { D with nx := Iv (pre ++ [x]), ct := Iv (pre ++ [x]), bk := D.nx } σ2 H2)
    (he : ∀ σ H, Iv xs σ H → D.nx σ H) : tFor (iList K t) g tb D σ H :=
  h _ ⟨a, rfl, ⟨_, hx⟩, for_wk wk_list Iv hP h0 hs he⟩
/-- turns that are counted: J tells f i in turn i -/
theorem for_n {J : It} {n : Nat} {f : Nat → V} (W : Wk J ((List.range n).map f) fun _ => True) (Iv : Nat → L2.St → Hp → Prop) (h0 : Iv 0 σ H1)
    (hs : ∀ i σ H, i < n → Iv i σ H → g (f i) σ H fun σ2 H2 => tb { D with nx := Iv (i + 1), ct := Iv (i + 1), bk := D.nx } σ2 H2)
    (he : ∀ σ H, Iv n σ H → D.nx σ H) :
    ∃ W : Nat → Nat → L2.St → Hp → Prop, (∃ m, W 0 m σ H1) ∧ ∀ i m σ H, W i m σ H → (J.stop i H ∧ D.nx σ H) ∨ (J.go i H ∧ ∃ N : L2.St → Hp → Prop, (∀ σ' H', N σ' H' → ∃ m', m' < m ∧ W (i + 1) m' σ' H') ∧
      ∀ x H', J.yld i H x H' → g x σ H' fun σ2 H2 => tb { D with nx := N, ct := N, bk := D.nx } σ2 H2) := by
  refine for_wk W (fun pre σ H => Iv pre.length σ H) (fun _ _ _ _ => trivial) h0 (fun pre x suf σ H2 e r => ?_) (fun σ H r => he σ H ?_)
  · have hl : pre.length < n := by
      have := congrArg List.length e
      simp at this; omega
    have hx : ((List.range n).map f)[pre.length]? = some x := by rw [e]; simp
    rw [List.getElem?_map, List.getElem?_range hl] at hx
    have hx := Option.some.inj hx
    subst hx
    have z := hs pre.length σ H2 hl r
    rw [List.length_append]
    exact z
  · rw [List.length_map, List.length_range] at r; exact r
theorem for_rng {t : TA} {n : Nat} (h : ∀ R : List V → Hp → Prop, R [.int n] H1 → t σ H R) (hn : n < 1000000) (Iv : Nat → L2.St → Hp → Prop) (h0 : Iv 0 σ H1)
    (hs : ∀ i σ H, i < n → Iv i σ H → g (.int i) σ H fun σ2 H2 => tb { D with nx := Iv (i + 1), ct := Iv (i + 1), bk := D.nx } σ2 H2)
    (he : ∀ σ H, Iv n σ H → D.nx σ H) : tFor (iRng1 t) g tb D σ H := by
  refine h _ ⟨n, rfl, by omega, by omega, ?_⟩
  refine for_n (f := fun i => V.int (0 + (i : Nat))) (wk_rng 0 n) Iv h0 (fun i σ H hi iv => ?_) he
  rw [Int.zero_add]
  exact hs i σ H hi iv
end
end LK

/-! list(d.values()); text[::-1], text[::2] -/
namespace LK
open PySem PySem.Spec PyProof.Rows L2
section
variable {X : Cx} {e : Expr} {te : TE} {p apos cpos pos : Pos}
end

section
variable {X : Cx} {e es : Expr} {te : TE} {ts : TO} {p3 pos : Pos}
end

end LK

/-! Calls of own defs, by place and by name; repr of lists and tuples. -/
namespace LK
open PySem PySem.Spec PyProof.Rows L2

/-- a def of the module and what it promises -/
structure Has (P : Program) (w : World) (K : PySem.W.Frag) (mg : Str → Option Value) (base : Heap) (k : Nat) (x : Str) (ps : List Str) (sp : Sp) : Prop where
  ex : ∃ f fd, FnG P w K mg base CX0 k f fd ps sp ∧ mg x = some (.ref f) ∧ PySem.W.keepIn K (.ref f) = true ∧ Binds K fd ps [] ∧
    ∀ (s : Shared) (us : List Value), us.length = ps.length → BindsTo s fd ⟨[], ps.zip us⟩ (ps.zip us) ∧ BindsTo s fd ⟨[], (ps.zip us).reverse⟩ (ps.zip us)
theorem Has.up {P : Program} {w : World} {K : PySem.W.Frag} {mg : Str → Option Value} {base : Heap} {j k : Nat} {x : Str} {ps : List Str} {sp : Sp}
    (F : Has P w K mg base j x ps sp) (h : j ≤ k) : Has P w K mg base k x ps sp := by
  obtain ⟨f, fd, a, b⟩ := F.ex
  exact ⟨f, fd, a.up h, b⟩

section
variable {X : Cx} {k : Nat} {ps : List Str} {sp : Sp} {x : Str} {p pos : Pos} {e : Expr} {es : List Expr} {kws : List Keyword} {t tk : TA}
/-- f(e, ..) -/
theorem pe_callH (F : Has X.prog X.w X.K X.mg X.base k x ps sp) (hA : X.A.guards = some []) (hr : Room k X.A) (hg : Gl X x) (ha : PA X (e :: es) t)
    (hdb : (x == ("__debug__" : Str)) = false := by decide) (he : starEach (e :: es) X.env = (false, eval e X.env) :: starEach es X.env := by rfl)
    (hpl : (backTo pos (starEach es X.env)).any (·.1) = false := by rfl) : PE X (.Call (.Name x p) (e :: es) [] pos) (uCall sp E0 t) := by
  obtain ⟨f, fd, a, b, c, d, _⟩ := F.ex
  exact pe_callUG a hA hr hg b c d pass0 ha hdb he hpl
end

/-! ### repr -/
section
variable {X : Cx}
/-- data without dicts that is short enough to be shown -/
structure Shw (d : PyData) : Prop where
  sh : d.showable = true
  nd : d.hasDict → False
  dp : d.depth ≤ 3
  lf : d.leavesShort 13 = true
  wt : d.weight ≤ 2 ^ 20
end
end LK

/-! own exceptions over any built-in base, as values: stored into, made, read, asked for their class -/
namespace LK
open PySem PySem.Spec PyProof.Rows L2 Builtin Builtin.ObjectAttr
/-- what the written part says of an own exception class -/
structure ExcK (K : PySem.W.Frag) (C : Addr) (bmB : List Value) (newId : String) : Prop where
  init : PySem.W.excInitIn K C bmB newId = true
  over : PySem.W.excOver K C bmB = true
  sa : PySem.W.findIn K (.ref C) "__setattr__" = some (some (.builtin "object.__setattr__"))
  is : ExcC K C
  kC : PySem.W.keepIn K (.ref C) = true
section
variable {X : Cx} {pins : List (Addr × Obj)} {σ : L2.St} {H : Hp} {s : Shared} {a C dx : Addr} {f : Str} {y : V} {u : Value} {bmB : List Value} {B newId : String}
theorem ExcK.cd (T : ExcK X.K C bmB newId) : ∃ cd : ClassData, PySem.W.clsIn X.K C = some cd ∧ cd.hasDict = true := by
  obtain ⟨cd, h1, h2⟩ := PySem.W.any_some T.is.hd
  exact ⟨cd, h1, h2⟩
/-- an object is written and another one laid beside it, at once -/
theorem inv_two {h' : Heap} {t' : Nat} {oa q : Obj} {o od : HO} (I : Inv X pins σ H s) (mu : Mut (H a)) (ha : s.heap.get? a = some oa) (ha' : h'.get? a = some q)
    (keep : ∀ b v, b ≠ a → s.heap.get? b = some v → h'.get? b = some v) (nd : s.heap.objs.size ≤ dx) (ne : dx ≠ a)
    (hd : ∀ g : Heap, g.get? dx = h'.get? dx → ObjOk X.prog X.w (upd H dx od) g dx od) (hn : ObjOk X.prog X.w (upd (upd H dx od) a o) h' a o) :
    Inv X pins σ (upd (upd H dx od) a o) { s with heap := h', toks := t' } := by
  have hdn : H dx = none := I.hok.fresh nd
  have g1 : (h'.update a fun _ => oa).get? a = some oa := Heap.get?_update_self _ ha' (Heap.get?_some_iff.mp ha).2
  have g2 : ∀ b, b ≠ a → (h'.update a fun _ => oa).get? b = h'.get? b := fun b hb => Heap.get?_update_ne _ _ _ _ hb
  have I1 : Inv X pins σ (upd H dx od) { s with heap := h'.update a fun _ => oa, toks := t' } := I.laid (t' := t') (fun b v hv => by
    by_cases hb : b = a
    · subst hb
      rw [ha] at hv
      exact hv ▸ g1
    · rw [g2 b hb]; exact keep b v hb hv) nd (hd _ (g2 dx ne))
  exact I1.write (t' := t') (x := a) (e := a) (by rw [upd_ne ne.symm]; exact mu) (.inl rfl) (fun b v hb hv => by rw [g2 b hb] at hv; exact hv) ⟨_, ha'⟩ hn
/-- the first field -/
theorem stE_new (SF : StoreFacts B bmB "object.__setattr__" "object") (T : ExcK X.K C bmB newId) (I : Inv X pins σ H s) (e : H a = some (exo a C none)) (hno : PySem.W.takerIn X.K C f = some none) (ry : RelV y u)
    {Q : Unit → Shared → Prop} {E : Value → Shared → Prop} {A : Around}
    (h : ∀ dx s', H dx = none → dx ≠ a → Inv X pins σ (upd (upd H dx (exd dx [(f, y)])) a (exo a C (some dx))) s' → Q () s') : wpAny (model X.prog X.w) A (setAttr (.ref a) f u) Q E s := by
  obtain ⟨cd, hcd, hdct⟩ := T.cd
  obtain ⟨t1, ho⟩ := exo_at I.hok e
  have inst : PySem.W.InstAt s.heap a { cls := .ref C, data := .fields #[.ref t1, .none, .none, .none, .bool false, .none] } C none := ⟨ho, rfl, rfl, trivial⟩
  refine PySem.W.set_plain I.kIn inst T.sa (PySem.W.osa_openX SF I.kIn inst T.over hno fun b => ?_)
  have look : PySem.W.Looks (model X.prog X.w) s.heap (classData C) cd := PySem.W.looks_clsIn I.kIn hcd
  obtain ⟨heap0, gens0, dr0, tk0, os0⟩ := s
  obtain ⟨c1, c2, c3, c4, c5, c6, c7, c8, c9, c10, c11⟩ := cd
  dsimp only at hdct
  subst hdct
  have neA : a ≠ heap0.objs.size := Nat.ne_of_lt (Heap.lt_size ho)
  show wpAny _ _ (storeInOwnDict (.ref a) (.ref C) (.str f tk0) f u b) _ _ _
  unfold storeInOwnDict ownDictForStores
  repeat (first | with_reducible refine PySem.HandSPX.store_in_new ?_ ?_ | with_reducible refine wpAny_loadPart_at ho ?_ | with_reducible refine look.at ?_ | wp_step)
  · exact ⟨_, #[], _, (Heap.get?_update_ne _ _ _ _ neA.symm).trans (Heap.get?_push_at rfl rfl), rfl, fun _ z => absurd z (by simp), fun _ => rfl⟩
  · intro h2 tk2 n1 sb
    have ho2 : (heap0.push { cls := .type "dict", data := .dict #[] }).get? a = some { cls := .ref C, data := .fields #[.ref t1, .none, .none, .none, .bool false, .none] } := Heap.get?_push_of_some _ ho
    have fin : h2.get? a = some { cls := .ref C, dict := some heap0.objs.size, data := .fields #[.ref t1, .none, .none, .none, .bool false, .none] } := (sb.2 a neA).trans (Heap.get?_update_self _ ho2 rfl)
    refine h heap0.objs.size _ (I.hok.fresh (Nat.le_refl _)) neA.symm (inv_two I (by rw [e]; exact True.intro) ho fin (fun b v hb hv => ?_) (Nat.le_refl _) neA.symm (fun g hg => ?_) (exo_ok fin))
    · exact (sb.2 b (Nat.ne_of_lt (Heap.lt_size hv))).trans ((Heap.get?_update_ne _ _ _ _ hb).trans (Heap.get?_push_of_some _ hv))
    · exact exd_ok (n1.at fun o z => by rw [hg]; exact z) (relO_put (fs := []) ry fun _ => True.intro)
/-- a further field -/
theorem stE_old {fs : List (Str × V)} (SF : StoreFacts B bmB "object.__setattr__" "object") (T : ExcK X.K C bmB newId) (I : Inv X pins σ H s) (e : H a = some (exo a C (some dx))) (ed : H dx = some (exd dx fs)) (hl : fs.length ≤ 900)
    (hno : PySem.W.takerIn X.K C f = some none) (ry : RelV y u) {Q : Unit → Shared → Prop} {E : Value → Shared → Prop} {A : Around}
    (h : ∀ s', Inv X pins σ (upd H dx (exd dx ((f, y) :: fs))) s' → Q () s') : wpAny (model X.prog X.w) A (setAttr (.ref a) f u) Q E s := by
  obtain ⟨cd, hcd, hdct⟩ := T.cd
  obtain ⟨t1, ho⟩ := exo_at I.hok e
  obtain ⟨mA, nsD, rel⟩ := exd_at I.hok ed
  have inMA := within_of rel
  obtain ⟨oD, _, _, hoD, _, _⟩ := nsD.count inMA
  have inst : PySem.W.InstAt s.heap a { cls := .ref C, dict := some dx, data := .fields #[.ref t1, .none, .none, .none, .bool false, .none] } C (some oD) := ⟨ho, rfl, rfl, hoD⟩
  refine PySem.W.set_plain I.kIn inst T.sa (PySem.W.osa_openX SF I.kIn inst T.over hno fun b => ?_)
  have look : PySem.W.Looks (model X.prog X.w) s.heap (classData C) cd := PySem.W.looks_clsIn I.kIn hcd
  obtain ⟨heap0, gens0, dr0, tk0, os0⟩ := s
  obtain ⟨c1, c2, c3, c4, c5, c6, c7, c8, c9, c10, c11⟩ := cd
  dsimp only at hdct
  subst hdct
  show wpAny _ _ (storeInOwnDict (.ref a) (.ref C) (.str f tk0) f u b) _ _ _
  unfold storeInOwnDict ownDictForStores
  repeat (first | with_reducible refine PySem.OEX.store_in_old nsD inMA (by rw [List.length_map]; omega) ?_ | with_reducible refine wpAny_loadPart_at ho ?_ | with_reducible refine look.at ?_ | wp_step)
  intro h2 tk2 n1 sb
  refine h _ (I.write (t' := tk2) (x := dx) (e := dx) (by rw [ed]; exact True.intro) (.inl rfl) (fun b v hb hv => (sb.2 b hb).trans hv) ?_ (exd_ok n1 (relO_put ry rel)))
  obtain ⟨o, _, _, z, _⟩ := n1
  exact ⟨o, z⟩
end
section
variable {X : Cx} {to te : TE} {o e : Expr} {f : Str} {p' pos : Pos} {B : String}
/-- self.f = e, self an exception that is being made -/
def tStE (K : PySem.W.Frag) (bmB : List Value) (f : Str) (to te : TE) : TS := fun D σ H => te σ H fun y H1 => to σ H1 fun x H2 => match x with
  | .ref a => ∃ (C : Addr) (newId : String), ExcK K C bmB newId ∧ PySem.W.takerIn K C f = some none ∧
      ((H2 a = some (exo a C none) ∧ ∀ dx, H2 dx = none → dx ≠ a → D.nx σ (upd (upd H2 dx (exd dx [(f, y)])) a (exo a C (some dx)))) ∨
        ∃ (dx : Addr) (fs : List (Str × V)), H2 a = some (exo a C (some dx)) ∧ H2 dx = some (exd dx fs) ∧ fs.length ≤ 900 ∧ D.nx σ (upd H2 dx (exd dx ((f, y) :: fs))))
  | _ => False
theorem ps_stE {bmB : List Value} (SF : StoreFacts B bmB "object.__setattr__" "object") (ho : PE X o to) (he : PE X e te) (hs : swapsWith e (some (.Attribute o f p')) pos.line X.env = pure false := by rfl) :
    PS X (.Assign [.Attribute o f p'] e pos) (tStE X.K bmB f to te) := by
  refine ⟨fun pins s σ H D I h => ?_⟩
  refine plainObj_wpAny_Assign_Attribute (thn (he.run pins s σ H _ I h) fun v s1 q => ?_) hs
  obtain ⟨y, H1, I1, r1, q1⟩ := q
  refine thn (ho.run pins s1 σ H1 _ I1 q1) fun u s2 q => ?_
  obtain ⟨x, H2, I2, r2, q2⟩ := q
  cases x with
  | ref a =>
    obtain ⟨C, newId, T, hno, q2⟩ := q2
    obtain rfl : u = Value.ref a := r2
    rcases q2 with ⟨ea, q2⟩ | ⟨dx, fs, ea, ed, hl, q2⟩
    · exact stE_new SF T I2 ea hno r1 fun dx s' n ne J => ⟨σ, _, J, q2 dx n ne⟩
    · exact stE_old SF T I2 ea ed hl hno r1 fun s' J => ⟨σ, _, J, q2⟩
  | _ => exact q2.elim
end
section
variable {X : Cx} {x : Str} {C fI : Addr} {k : Nat} {fd : FuncData} {ps : List Str} {sp : Sp} {p pos : Pos} {e : Expr} {es : List Expr} {ta : TA} {B newId initId : String} {bmB : List Value}
theorem under_guards {A : Around} {us : List Value} {kw : List (Str × Value)} {C : Addr} (h : A.guards = some []) : (A.under (.builtin "type.__call__" ⟨.ref C :: us, kw⟩)).guards = some [] := by
  unfold Around.under
  dsimp only
  rw [h]
  first | rfl | decide +kernel | (simp [pushGuards])
end

/-! ### read, asked for the class -/
section
variable {X : Cx} {pins : List (Addr × Obj)} {σ : L2.St} {H : Hp} {s : Shared} {a C : Addr} {fs : List (Str × V)}
end

/-! ### made to be raised; made without fields -/
section
variable {X : Cx} {x : Str} {C fI : Addr} {k : Nat} {fd : FuncData} {ps : List Str} {sp : Sp} {p pos : Pos} {e : Expr} {es : List Expr} {ta : TA} {B newId initId : String} {bmB : List Value}
/-- C(e, ..) behind raise: what flies is the class with its fields -/
def tPmE (C : Addr) (sp : Sp) (ta : TA) : L2.St → Hp → XK → Prop := fun σ H Q => ta σ H fun vs H1 => vs.length ≤ 1000 ∧ ∀ a, H1 a = none → sp (.ref a :: vs) (upd H1 a (exo a C none))
  (fun v H2 => v = .non ∧ ∃ (d : Addr) (fs : List (Str × V)), H2 a = some (exo a C (some d)) ∧ H2 d = some (exd d fs) ∧ H1 d = none ∧ Q (.ref C) (some d) (upd (del H2 a) d (.xd fs))) E0
theorem pmk_mkE (FB : ExcBaseFacts B newId initId bmB) (T : ExcK X.K C bmB newId) (tyC : PySem.W.typeIn X.K (.ref C) = some (.type "type")) (iC : PySem.W.findIn X.K (.ref C) "__init__" = some (some (.ref fI))) (tI : PySem.W.typeIn X.K (.ref fI) = some (.type "function"))
    (F1 : FnG X.prog X.w X.K X.mg X.base CX0 k fI fd ps sp) (hA : X.A.guards = some []) (hr : Room (k + 1) X.A) (hb : Binds X.K fd ps []) (hg : Gl X x) (hm : X.mg x = some (.ref C)) (ha : PA X (e :: es) ta)
    (hdb : (x == ("__debug__" : Str)) = false := by decide) (he : starEach (e :: es) X.env = (false, eval e X.env) :: starEach es X.env := by rfl) (hpl : (backTo pos (starEach es X.env)).any (·.1) = false := by rfl) :
    PMk X (.Call (.Name x p) (e :: es) [] pos) (tPmE C sp ta) := by
  intro pins s σ H Q I h
  refine wpAny_Call_Name_kw (ld_glob I hg hm ?_ hdb)
  refine PySem.W.callWith_K (h₀ := X.base) I.ok.mod.kin T.kC (thn (ha.run pos pins s σ H _ I h) fun us s1 z => ?_) he hpl
  obtain ⟨vs, H1, I1, r1, hz, q⟩ := z
  refine ⟨I1.kIn, ?_⟩
  have hl : us.length ≤ sizeLine := by rw [← Paired.length r1, sizeLine_eq]; omega
  have len : us.length + 1 = ps.length := by
    have := F1.len _ _ _ _ (q _ (I1.hok.fresh (Nat.le_refl _)))
    rw [List.length_cons, Paired.length r1] at this
    exact this
  obtain ⟨nm, N, qn, bs, bm, hdct, sn, sub, ab, col, dd, k0, k1, k2, k3, k5, hC, hT⟩ := PySem.W.excInit_of I1.kIn T.init
  obtain ⟨heap0, gens0, dr0, tk0, os0⟩ := s1
  have up : heap0.objs.size ≤ heap0.objs.size + 1 := Nat.le_succ _
  have keep : ∀ b o, heap0.get? b = some o → ((heap0.push (PySem.W.kdv_tup us)).push (PySem.HandSPX.excO C heap0.objs.size)).get? b = some o := fun b o z => Heap.get?_push_of_some _ (Heap.get?_push_of_some _ z)
  have there : ((heap0.push (PySem.W.kdv_tup us)).push (PySem.HandSPX.excO C heap0.objs.size)).get? (heap0.objs.size + 1) = some (PySem.HandSPX.excO C heap0.objs.size) := by heap_get
  have J : Inv X pins σ (upd H1 (heap0.objs.size + 1) (exo (heap0.objs.size + 1) C none)) ⟨(heap0.push (PySem.W.kdv_tup us)).push (PySem.HandSPX.excO C heap0.objs.size), gens0, dr0, tk0, os0⟩ :=
    I1.laid (t' := tk0) (h' := (heap0.push (PySem.W.kdv_tup us)).push (PySem.HandSPX.excO C heap0.objs.size)) keep up (exo_ok there)
  have bnd : ∀ z : Value, BindsTo ⟨(heap0.push (PySem.W.kdv_tup us)).push (PySem.HandSPX.excO C heap0.objs.size), gens0, dr0, tk0, os0⟩ fd ⟨z :: us, []⟩ (ps.zip (z :: us)) := fun z => by
    have b := hb ⟨(heap0.push (PySem.W.kdv_tup us)).push (PySem.HandSPX.excO C heap0.objs.size), gens0, dr0, tk0, os0⟩ (z :: us) J.kIn (by rw [List.append_nil]; exact len)
    rw [List.append_nil] at b
    exact b
  refine wpAny_call (PySem.HandSPX.call_own FB hT hC (PySem.W.looks_findIn I1.kIn iC) (fun z => PySem.W.bind_fn I1.kIn z tI) hl (codeAny_mono (F1.run _ (under_guards hA) X.stack _ _ ⟨.ref (heap0.objs.size + 1) :: us, []⟩ (.ref (heap0.objs.size + 1) :: us) (.ref (heap0.objs.size + 1) :: vs) _ E0
    (hr.make C us []) (J.env0.make C us []) (bnd _) (.cons rfl r1) (q _ (I1.hok.fresh up))) fun r' s' z => ?_))
  match r', z with
  | .error er, z => exact pass0 pins σ _ _ er s' J z
  | .ok .next, z => exact z.elim
  | .ok .brk, z => exact z.elim
  | .ok .cont, z => exact z.elim
  | .ok (.ret u), z =>
    obtain ⟨v, H2, os2, bare2, un2, hok2, rv, ev, d, fs, ea, ed, hd1, q2⟩ := z
    subst ev
    obtain ⟨h2, g2, d2, t2, os'⟩ := s'
    exact ⟨rv, mk_end (raises_own T.is.hs tyC) I1 up keep un2 hok2 os2 bare2 ea ed hd1 q2⟩
end
end LK

/-! own exceptions made by names alone -/
namespace LK
open PySem PySem.Spec PyProof.Rows L2 Builtin Builtin.ObjectAttr PySem.HandSPX
section
variable {M : Model} {A : Around} {E : Value → Shared → Prop} {h : Heap} {g : Array GenState} {d : Drawn} {t : Nat} {os : OsState}
variable {nm q : Str} {C N : Addr} {bs bm bmB : List Value} {hdct : Bool} {sn : List Str} {sub : List Value} {ab : Bool} {col : Option Bool} {dd : Option Addr} {k0 k1 k2 k3 k5 : Option Value} {B newId initId : String}
variable {n0 : Str} {v0 : Value} {kr : List (Str × Value)}
end
section
variable {prog : Program} {w : World} {A : Around} {E : Value → Shared → Prop} {R : Result → Shared → Prop} {h : Heap} {g : Array GenState} {d : Drawn} {t : Nat} {os : OsState}
variable {nm q : Str} {C N : Addr} {bs bm bmB : List Value} {hdct : Bool} {sn : List Str} {sub : List Value} {ab : Bool} {col : Option Bool} {dd : Option Addr} {k0 k1 k2 k3 k5 : Option Value} {B newId initId : String}
variable {n0 : Str} {v0 : Value} {kr : List (Str × Value)}
end

section
variable {X : Cx} {x kn : Str} {kns : List Str} {C fI : Addr} {k : Nat} {fd : FuncData} {ps : List Str} {sp : Sp} {p pos : Pos} {kws : List Keyword} {tk : TA} {B newId initId : String} {bmB : List Value} {gU : List Value → List Value} {gV : List V → List V}
end
end LK

/-! repr of nested data, dicts among it -/
namespace LK
open PySem PySem.Spec PyProof.Rows L2
section
variable {X : Cx} {pins : List (Addr × Obj)} {σ : L2.St} {H : Hp} {s : Shared} {N : Addr → Prop}
end

section
variable {X : Cx}
end
end LK

/-! methods of own classes under guards; what an instance answers to len, in, ==, !=, repr -/
namespace LK
open PySem PySem.Spec PyProof.Rows L2 Builtin
/-- a method and what it promises; its values may come by place or by name -/
structure HasM (P : Program) (w : World) (K : PySem.W.Frag) (mg : Str → Option Value) (base : Heap) (k : Nat) (C : Addr) (m : Str) (ps : List Str) (sp : Sp) : Prop where
  ex : ∃ f fd, FnG P w K mg base CX0 k f fd (("self" : Str) :: ps) sp ∧ Meth K C m f ∧ Binds K fd (("self" : Str) :: ps) [] ∧
    ∀ (s : Shared) (z : Value) (us : List Value), us.length = ps.length → BindsTo s fd ⟨[z], ps.zip us⟩ ((("self" : Str) :: ps).zip (z :: us)) ∧ BindsTo s fd ⟨[z], (ps.zip us).reverse⟩ ((("self" : Str) :: ps).zip (z :: us))
theorem HasM.up {P : Program} {w : World} {K : PySem.W.Frag} {mg : Str → Option Value} {base : Heap} {j k : Nat} {C : Addr} {m : Str} {ps : List Str} {sp : Sp} (F : HasM P w K mg base j C m ps sp) (h : j ≤ k) : HasM P w K mg base k C m ps sp := by
  obtain ⟨f, fd, a, b⟩ := F.ex
  exact ⟨f, fd, a.up h, b⟩
section
variable {X : Cx} {k : Nat} {C : Addr} {ps : List Str} {sp : Sp} {m : Str} {apos pos : Pos} {e o : Expr} {es : List Expr} {kws : List Keyword} {ta : TE} {t tk : TA} {pins : List (Addr × Obj)} {σ : L2.St} {H : Hp} {s : Shared} {a : Addr}
def uMeth (C : Addr) (m : Str) (sp : Sp) (ta : TE) (t : TA) : TE := fun σ H Q => ta σ H fun x H1 => match x with
  | .ref a => ∃ dx fs, H1 a = some (.ins C dx fs) ∧ fs.lookup m = none ∧ t σ H1 fun vs H2 => sp (.ref a :: vs) H2 Q E0
  | _ => False
/-- o.m(e, ..) -/
theorem pe_mH {pl : Sem Bool} (F : HasM X.prog X.w X.K X.mg X.base k C m ps sp) (c : Cls X.K C) (hA : X.A.guards = some []) (hr : Room k X.A) (ho : PE X o ta) (ha : PA X (e :: es) t)
    (st : starEach (e :: es) X.env = (false, eval e X.env) :: starEach es X.env := by rfl) (hpl : (backTo pos (starEach es X.env)).any (·.1) = false := by rfl)
    (ht : eval (.Call (.Attribute o m apos) (e :: es) [] pos) X.env = (do
      let ov ← eval o X.env
      standAt apos.atName
      let (f, first) ← holding [ov] (getMethod ov m pl)
      callWith pos f first (backTo pos (starEach (e :: es) X.env)) (backToKw pos (keywordEach [] X.env))) := by rfl) :
    PE X (.Call (.Attribute o m apos) (e :: es) [] pos) (uMeth C m sp ta t) := by
  obtain ⟨f, fd, F, hm, hb, _⟩ := F.ex
  constructor
  intro pins s σ H Q I w
  refine PySem.W.methodCall_KW (pl := pl) (thn (ho.run pins s σ H _ I w) fun u s1 z => ?_) ht
  obtain ⟨x, H1, I1, rx, q⟩ := z
  cases x with
  | ref a =>
    obtain ⟨dx, fs, ea, l, q⟩ := q
    obtain rfl : u = Value.ref a := rx
    refine getmeth_ok I1 ea c hm l (PySem.W.callWith_K (first := [.ref a]) (h₀ := X.base) I.ok.mod.kin hm.kp (thn (ha.run pos pins s1 σ H1 _ I1 q) fun us s2 z => ?_) st hpl)
    obtain ⟨vs, H2, I2, r, q2⟩ := z
    refine ⟨I2.kIn, runG (us := .ref a :: us) (ws := .ref a :: us) (kw := []) (CX := CX0) (E := E0) F hA hr pass0 I2 (fun n => ?_) (vs := .ref a :: vs) (.cons rfl r) q2⟩
    have b := hb s2 (.ref a :: us) I2.kIn (by simpa using n)
    simpa using b
  | _ => exact q.elim
/-- o.m() -/
theorem pe_mH0 {pl : Sem Bool} (F : HasM X.prog X.w X.K X.mg X.base k C m [] sp) (c : Cls X.K C) (hA : X.A.guards = some []) (hr : Room k X.A) (ho : PE X o ta)
    (ht : eval (.Call (.Attribute o m apos) [] [] pos) X.env = (do
      let ov ← eval o X.env
      standAt apos.atName
      let (f, first) ← holding [ov] (getMethod ov m pl)
      callWith pos f first (backTo pos (starEach [] X.env)) (backToKw pos (keywordEach [] X.env))) := by rfl) :
    PE X (.Call (.Attribute o m apos) [] [] pos) (uMeth C m sp ta tNil) := by
  obtain ⟨f, fd, F, hm, hb, _⟩ := F.ex
  constructor
  intro pins s σ H Q I w
  refine PySem.W.methodCall_KW (pl := pl) (thn (ho.run pins s σ H _ I w) fun u s1 z => ?_) ht
  obtain ⟨x, H1, I1, rx, q⟩ := z
  cases x with
  | ref a =>
    obtain ⟨dx, fs, ea, l, q⟩ := q
    obtain rfl : u = Value.ref a := rx
    refine getmeth_ok I1 ea c hm l (PySem.W.callWith_K0 (first := [.ref a]) I1.kIn hm.kp ?_)
    refine runG (us := [.ref a]) (ws := [.ref a]) (kw := []) (CX := CX0) (E := E0) F hA hr pass0 I1 (fun n => ?_) (vs := [.ref a]) (.cons rfl .nil) q
    have b := hb s1 [.ref a] I1.kIn (by simpa using n)
    simpa using b
  | _ => exact q.elim
/-! ### what Python asks of an instance by itself -/
/-- a method called one deeper, by Python itself -/
theorem runG1 {f : Addr} {fd : FuncData} {Q : VK} {us : List Value} {vs : List V} (F : FnG X.prog X.w X.K X.mg X.base CX0 k f fd ps sp) (hA : X.A.guards = some []) (hr : Room (k + 1) X.A) (hb : Binds X.K fd ps []) (I : Inv X pins σ H s) (r : Vals vs us)
    (h : sp vs H Q E0) : wpAny (model X.prog X.w) X.A.in1 (call (.ref f) us) (EP X pins σ Q) X.xe s := by
  have n : us.length = ps.length := r.length ▸ F.len vs H Q E0 h
  have b := hb s us I.kIn (by simpa using n)
  simp only [List.append_nil] at b
  refine wpAny_call (codeAny_mono (F.run X.A.in1 hA X.stack s H ⟨us, []⟩ us vs Q E0 hr.in1 I.env0.in1 b r h) ?_)
  rintro (er | fl) s' z
  · exact pass0 pins σ H s er s' I z
  · cases fl
    case ret => exact I.after z
    all_goals exact z.elim
theorem inst_at {C dx : Addr} {fs : List (Str × V)} (I : Inv X pins σ H s) (e : H a = some (.ins C dx fs)) : ∃ (ox : Obj) (od : Option Obj), PySem.W.InstAt s.heap a ox C od := by
  obtain ⟨mA, O, _⟩ := ins_get I.hok e
  obtain ⟨od, J, _⟩ := O.look
  exact ⟨_, _, J⟩
end
end LK

/-! == and != of an instance whose class has an __eq__ of its own, beside any value -/
namespace LK
open PySem PySem.Spec PyProof.Rows L2 Builtin
/-- what != asks of the class -/
structure EqC (K : PySem.W.Frag) (C : Addr) : Prop where
  ne : PySem.W.findIn K (.ref C) "__ne__" = some (some (.builtin "object.__ne__"))
  ob : PySem.W.mroIn K C (.type "object") = some true
section
variable {prog : Program} {w : World} {A : Around} {E : Value → Shared → Prop} {s : Shared} {K : PySem.W.Frag} {x C f : Addr} {ox : Obj} {od : Option Obj} {u t : Value}
/-- the type's answer to __ne__ is object's own: it asks __eq__ and turns the answer -/
theorem tryNe (X : K.In s.heap) (J : PySem.W.InstAt s.heap x ox C od) (c : EqC K C) (hs : PySem.W.findIn K (.ref C) "__eq__" = some (some (.ref f))) (hf : PySem.W.isFn K (.ref f) = true) (hu : A.in1.units < cLine) {Q : Option Value → Shared → Prop}
    (h : wpAny (model prog w) A.in1 (call (.ref f) [.ref x, u]) (fun v s' => ∃ b, v = .bool b ∧ Q (some (.bool (!b))) s') E s) : wpAny (model prog w) A (tryCompare (.ref x) "__ne__" u) Q E s := by
  have body : wpAny (model prog w) A (call (.builtin "object.__ne__") [.ref x, u]) (fun v s' => ∃ b, v = .bool (!b) ∧ Q (some (.bool (!b))) s') E s := by
    refine wpAny_call (codeAny_call_builtin F.cmp_object.ne.plain F.cmpEntry_ne (PySem.W.check_slot F.cmpKind_ne F.cmpSplit_ne (J.type.andThen (PySem.W.looks_mroIn X c.ob)) (F.cmpArgs_ne _ _) ?_))
    unfold Builtin.«object.__ne__»
    refine wpAny_bind (m := slotArgs "__ne__" 1 _) (wpAny_pure (wpAny_bind (wpAny_cRoomFor hu ?_)))
    refine wpAny_bind (m := callSpecialIfBound? (.ref x) "__eq__" [u]) (PySem.W.ifBound_K X J hs hf (wpAny_mono h ?_ fun _ _ z => z))
    rintro v s' ⟨b, rfl, q⟩
    exact wpAny_bind (wpAny_truthy_bool (wpAny_pure ⟨b, rfl, q⟩))
  have go : wpAny (model prog w) A (call (.builtin "object.__ne__") ([.ref x] ++ [u]) >>= fun v => pure (some v)) (fun r s' => ∃ b, r = some (.bool (!b)) ∧ Q (some (.bool (!b))) s') E s :=
    wpAny_bind (wpAny_mono body (fun _ _ ⟨b, e, q⟩ => wpAny_pure ⟨b, by rw [e], q⟩) fun _ _ z => z)
  unfold tryCompare
  refine wpAny_bind (m := callSpecialIfBound? (.ref x) "__ne__" [u]) (wpAny_mono (Q := fun r s' => ∃ b, r = some (.bool (!b)) ∧ Q (some (.bool (!b))) s') ?_ (fun r s' ⟨b, e, q⟩ => by subst e; exact wpAny_pure q) fun _ _ z => z)
  simp only [callSpecialIfBound?, bindSpecialIfBound?]
  refine wpAny_holding (wpAny_bind (wpAny_bind (wpAny_bind (J.type.here ((PySem.W.looks_findIn X c.ne).here (wpAny_bind (wpAny_askSetting (wpAny_ite ?_))))))))
  have bnd : ∀ {R : Value × List Value → Shared → Prop} {E' : Value → Shared → Prop}, R (.builtin "object.__ne__", [.ref x]) s → wpAny (model prog w) A (bindSpecial (.builtin "object.__ne__") (.ref x)) R E' s := fun q => wpAny_of_eq (F.cmp_object.ne.bind _) q
  split
  · exact wpAny_bind (bnd (wpAny_pure go))
  · exact wpAny_tryCatch (wpAny_bind (bnd (wpAny_pure go)))
theorem rcNe (X : K.In s.heap) (J : PySem.W.InstAt s.heap x ox C od) (c : EqC K C) (hs : PySem.W.findIn K (.ref C) "__eq__" = some (some (.ref f))) (hf : PySem.W.isFn K (.ref f) = true) (hu : A.in1.units < cLine)
    (hb : PySem.W.Looks (model prog w) s.heap (typeOf u) t) (hn : PySem.W.notFirst K C t = true) {Q : Value → Shared → Prop}
    (h : wpAny (model prog w) A.in1 (call (.ref f) [.ref x, u]) (fun v s' => ∃ b, v = .bool b ∧ Q (.bool (!b)) s') E s) : wpAny (model prog w) A (richCompare .NotEq (.ref x) u) Q E s := by
  have hu0 : A.units < cLine := Nat.lt_of_succ_lt (show A.units + 1 < cLine from hu)
  have one : ∀ {R : Option Value → Shared → Prop}, (∀ (b : Bool) s', Q (.bool (!b)) s' → R (some (.bool (!b))) s') → wpAny (model prog w) A (tryCompare (.ref x) "__ne__" u) R E s := fun k =>
    tryNe X J c hs hf hu (wpAny_mono h (fun _ _ ⟨b, e, q⟩ => ⟨b, e, k b _ q⟩) fun _ _ z => z)
  unfold richCompare
  rw [oneThing_ref]
  refine wpAny_holding (wpAny_bind (wpAny_cRoomFor hu0 ?_))
  refine wpAny_bind (J.type.here (wpAny_bind (hb.here ?_)))
  by_cases e : (Value.ref C != t) = true
  · have su : PySem.W.subIn K t (.ref C) = some false := by
      rcases Bool.or_eq_true_iff.mp hn with z | z
      · rw [beq_iff_eq.mp z] at e
        simp at e
      · exact beq_iff_eq.mp z
    rw [if_pos e]
    refine wpAny_bind ((PySem.W.looks_subIn X su).here ?_)
    simp only [Bool.false_eq_true, if_false]
    exact wpAny_bind (one fun b s' q => wpAny_pure q)
  · rw [if_neg e]
    refine wpAny_bind (wpAny_pure ?_)
    simp only [Bool.false_eq_true, if_false]
    exact wpAny_bind (one fun b s' q => wpAny_pure q)
end
section
variable {X : Cx} {k : Nat} {C : Addr} {sp : Sp} {p : Str}
/-- o == y, o != y -/
def eqI (K : PySem.W.Frag) (C : Addr) (sp : Sp) (neg : Bool) : R2 := fun x y H Q => match x with
  | .ref a => ∃ dx fs t, H a = some (.ins C dx fs) ∧ TyX K H y t ∧ PySem.W.notFirst K C t = true ∧ sp [.ref a, y] H (fun v H' => ∃ b : Bool, v = .bl b ∧ Q (.bl (if neg then !b else b)) H') E0
  | _ => False
theorem o_eqI (F : HasM X.prog X.w X.K X.mg X.base k C "__eq__" [p] sp) (hA : X.A.guards = some []) (hr : Room k X.A) : OpR X (compareOp .Eq) (eqI X.K C sp false) := by
  intro pins s σ H x y v u Q I rx ry h
  unfold eqI at h
  split at h
  · rename_i a
    obtain ⟨dx, fs, t, ea, ty, hn, q⟩ := h
    obtain ⟨f, fd, F, hm, hb, _⟩ := F.ex
    obtain rfl : v = Value.ref a := rx
    obtain ⟨ox, od, J⟩ := inst_at I ea
    obtain ⟨m', hF⟩ := I.fr
    obtain ⟨P, Z, hp, _⟩ := kit_of I ry ty
    refine PySem.W.cmp_K (op := .Eq) (tb := t) hr.units0 hF I.ok.mod.kin J (Z.ty _ _ I.kIn hp) hn hm.at_ hm.fn (wpAny_mono (runG (us := [.ref a, u]) (ws := [.ref a, u]) (kw := []) (CX := CX0) (E := E0) F hA hr pass0 I (fun n => ?_) (vs := [.ref a, y]) (.cons rfl (.cons ry .nil)) q) ?_ fun _ _ z => z)
    · have b := hb s [.ref a, u] I.kIn (by simpa using n)
      simpa using b
    · rintro r s' ⟨z, H', I', rz, b, rfl, q'⟩
      obtain rfl : r = Value.bool b := rz
      exact ⟨.bl b, H', I', rfl, q'⟩
  · exact h.elim
theorem o_neI (F : HasM X.prog X.w X.K X.mg X.base k C "__eq__" [p] sp) (c : EqC X.K C) (hA : X.A.guards = some []) (hr : Room (k + 1) X.A) : OpR X (compareOp .NotEq) (eqI X.K C sp true) := by
  intro pins s σ H x y v u Q I rx ry h
  unfold eqI at h
  split at h
  · rename_i a
    obtain ⟨dx, fs, t, ea, ty, hn, q⟩ := h
    obtain ⟨f, fd, F, hm, hb, _⟩ := F.ex
    obtain rfl : v = Value.ref a := rx
    obtain ⟨ox, od, J⟩ := inst_at I ea
    obtain ⟨P, Z, hp, _⟩ := kit_of I ry ty
    refine rcNe I.kIn J c hm.at_ hm.fn (hr.in1).units0 (Z.ty _ _ I.kIn hp) hn (wpAny_mono (runG1 (us := [.ref a, u]) (vs := [.ref a, y]) F hA hr hb I (.cons rfl (.cons ry .nil)) q) ?_ fun _ _ z => z)
    rintro r s' ⟨z, H', I', rz, b, rfl, q'⟩
    exact ⟨b, rz, .bl (!b), H', I', rfl, q'⟩
  · exact h.elim
end
end LK

/-! {x!r} of nested data in an f-string; repr of an instance -/
namespace LK
open PySem PySem.Spec PyProof.Rows L2 Builtin
section
variable {X : Cx} {e : Expr} {te : TE} {pos : Pos} {k : Nat} {C : Addr} {sp : Sp}
/-- repr(o) -/
def reprI (C : Addr) (sp : Sp) : List V → Hp → VK → Prop := fun vs H Q => match vs with
  | [.ref a] => ∃ dx fs, H a = some (.ins C dx fs) ∧ sp [.ref a] H (fun v H' => ∃ y : Str, v = .str y ∧ Q (.str y) H') E0
  | _ => False
theorem c_reprI (F : HasM X.prog X.w X.K X.mg X.base k C "__repr__" [] sp) (hA : X.A.guards = some []) (hr : Room (k + 1) X.A) : CallR X (.builtin "repr") (reprI C sp) := by
  intro pins s σ H xs us Q I r h
  unfold reprI at h
  split at h
  · rename_i a
    obtain ⟨dx, fs, ea, q⟩ := h
    obtain ⟨f, fd, F, hm, hb, _⟩ := F.ex
    obtain ⟨u, rfl, ru⟩ := vals1 r
    obtain rfl : u = Value.ref a := ru
    obtain ⟨ox, od, J⟩ := inst_at I ea
    obtain ⟨m', hF⟩ := I.fr
    refine PySem.W.repr_K (hr.in1).units0 hF I.ok.mod.kin J hm.at_ hm.fn (wpAny_mono (runG1 (us := [.ref a]) (vs := [.ref a]) F hA hr hb I (.cons rfl .nil) q) ?_ fun _ _ z => z)
    rintro v s' ⟨z, H', I', rz, y, rfl, q'⟩
    obtain ⟨t, rfl⟩ := rz
    exact ⟨.str y, H', I', ⟨t, rfl⟩, q'⟩
  · exact h.elim
end
end LK

/-! set(text), sorted of it -/
namespace LK
open PySem PySem.Spec PyProof.Rows L2 PySem.Froz
open PySem.W (EachIs dataLe AllAlike Sortable)
/-- D holds the signs of l; its slots rise; what the order rests on -/
structure SgD (P : Program) (w : World) (D : SD) (l : List Nat) : Prop where
  tx : TxOk P w D (l.map sing)
  ris : Ris D.2.2.place.toList
  led : w.params.followText "set-order" = true ∨ D.2.2.led = true
section
variable {P : Program} {w : World}
theorem tail_ris {ep : Nat} {es1 : Array (Int × Value)} {t2 : SetTable} {wd : Bool} (r : Ris t2.place.toList) : Ris (tailTx ep es1 t2 wd).2.2.place.toList := by
  unfold tailTx; split
  · exact relayAll_ris _ _ _
  · exact r
theorem tail_led {ep : Nat} {es1 : Array (Int × Value)} {t2 : SetTable} {wd : Bool} : (tailTx ep es1 t2 wd).2.2.led = t2.led := by
  unfold tailTx; split
  · exact relayAll_led _ _ _
  · rfl
theorem SgD.add {D : SD} {l : List Nat} (S : SgD P w D l) (c : Nat) (tk : Tok) : SgD P w (addTx (hashStr w (sing c)) (.str (sing c) tk) D) (c :: l) := by
  refine ⟨add_ok tk S.tx, tail_ris ?_, ?_⟩
  · have r := layNew_ris D.2.2 D.1 (hashStr w (sing c)) (.str (sing c) tk) S.ris
    split <;> exact r
  · rcases S.led with h | h
    · exact .inl h
    · refine .inr (tail_led.trans ?_)
      have r : (layNew D.2.2 D.1 (hashStr w (sing c)) (.str (sing c) tk)).2.1.led = true := (layNew_led D.2.2 D.1 _ _).trans h
      split <;> exact r
theorem SgD.run : ∀ (cs : List Nat) (tk : Tok) (D : SD) (l : List Nat), SgD P w D l → SgD P w (runD w cs tk D) (cs.reverse ++ l)
  | [], _, _, _, S => S
  | c :: cs, tk, D, l, S => by
    have r := SgD.run cs (tk + 2) _ (c :: l) (S.add c tk)
    rw [List.reverse_cons, List.append_assoc]
    exact r
/-- what is known of the set of the signs of l that lies at a -/
def SgSet (P : Program) (w : World) (a : Addr) (l : List Nat) (h : Heap) : Prop := ∃ D : SD, h.get? a = some (sObj "set" D) ∧ SgD P w D l
def SetS (P : Program) (w : World) (a : Addr) (l : List Nat) : HO := .ext (SgSet P w a l)
theorem setS_ok {H : Hp} {h : Heap} {a : Addr} {l : List Nat} (S : SgSet P w a l h) : ObjOk P w H h a (SetS P w a l) := by
  obtain ⟨D, e, g⟩ := S
  exact ⟨⟨D, e, g⟩, ⟨_, e⟩, fun h1 h2 ⟨D', e', g'⟩ k => ⟨D', k _ e', g'⟩⟩

variable {A : Around} {E : Value → Shared → Prop} {s : Shared}
abbrev set0 (w : World) : Obj := sObj "set" (#[], 0, .fresh 0 0 (!w.params.followText "set-order"))
theorem new_set1 (a : Value) {R : Value → Shared → Prop} (h : R (.ref s.heap.objs.size) { s with heap := s.heap.push (set0 w) }) :
    codeAny (model P w) A (.call (.builtin "set.__new__") ⟨[.type "set", a], []⟩) (wants R E) s := by
  refine codeAny_of_tree (show wpAny _ A.in1 (checkBuiltinCall "set.__new__" ⟨[.type "set", a], []⟩ >>= fun _ => again (.builtin "set.__new__" ⟨[.type "set", a], []⟩)) _ _ s from ?_)
  refine wpAny_bind (wpAny_of_eq (F.newCall_set_1 a) (wpAny_pure ⟨plainId_quiet F.plain_set_new _, codeAny_builtin F.entry_set_new ?_⟩))
  have hsub := sub_set_self
  rw [Around.under_plainId F.plain_set_new _]; unfold Builtin.«set.__new__» Builtin.Frozenset.newClass
  obtain ⟨hp, g, d, tk, os⟩ := s; dsimp only
  wp_walk
  refine wpAny_askSetting (wpAny_pure ?_); dsimp only; simp only [newObj]
  exact wpAny_bind (wpAny_alloc (wpAny_pure (wpAny_pure h)))
theorem init_text {Q : Value → Shared → Prop} (hh : A.handled = none) (x : Str) (t : Tok) (ha : x.cps.all (· < 128) = true) (nd : x.cps.toList.Nodup) (hl : x.cps.toList.length < scanBound)
    (hQ : ∀ h' tk, (∀ b o, s.heap.get? b = some o → h'.get? b = some o) → SgSet P w s.heap.objs.size x.cps.toList.reverse h' → Q (.ref s.heap.objs.size) { s with heap := h', toks := tk }) :
    wpAny (model P w) A.in1.in1 (Builtin.«set.__init__» ⟨[.ref s.heap.objs.size, .str x t], []⟩)
      (fun fin s' => match fin with | .done f => wants (fun r s₂ => r = .none ∧ Q (.ref s.heap.objs.size) s₂) E (.ok f) s' | .again c' => c'.quiet = true ∧ codeAny (model P w) A.in1 c' (wants (fun r s₂ => r = .none ∧ Q (.ref s.heap.objs.size) s₂) E) s')
      (fun e s' => wants (fun r s₂ => r = .none ∧ Q (.ref s.heap.objs.size) s₂) E (.error e) s') { s with heap := s.heap.push (set0 w) } := by
  have hS : (s.heap.push (set0 w)).get? s.heap.objs.size = some (set0 w) := Heap.get?_push_size _ rfl
  have f1 := PySem.F.sub_str_set
  have f2 := PySem.F.sub_str_frozenset
  have f3 : (Value.type "str" == Value.type "dict") = false := by decide
  unfold Builtin.«set.__init__» noKeywords Builtin.Frozenset.updateFrom
  generalize hPI : pyIter = PI
  wp_walk
  subst hPI
  refine wpAny_pyIter_ascii ha ?_
  refine wpAny_bind (wpAny_runValue ?_)
  have hz : (s.heap.push (set0 w)).objs.size = s.heap.objs.size + 1 := size_push' _ _
  have S0 : SgD P w (#[], 0, .fresh 0 0 (!w.params.followText "set-order")) [] := ⟨TxOk.nil rfl, List.Pairwise.nil, by
    show _ ∨ (!w.params.followText "set-order") = true
    cases w.params.followText "set-order" <;> simp⟩
  have ne : s.heap.objs.size ≠ (s.heap.push (set0 w)).objs.size := by rw [hz]; omega
  refine code_update (P := P) (w := w) (T := "set") (x := x) (u := t) ne (by exact hh) x.cps.toList 0 _ [] _ rfl (Heap.get?_push_of_some _ hS) (Heap.get?_push_size _ rfl) S0.tx (fun _ _ z => nomatch z) nd (by show 0 + x.cps.toList.length < scanBound; omega) ?_
  have R := S0.run x.cps.toList s.toks
  rw [List.append_nil] at R
  show wpAny _ _ _ _ _ _
  refine wpAny_pure ?_
  show wpAny _ _ (ret Value.none) _ _ _
  refine wpAny_pure ⟨rfl, hQ _ _ (fun b o e => ?_) ⟨_, ?_, R⟩⟩
  · have lt := Heap.lt_size e
    refine Heap.get?_push_of_some _ (Heap.get?_push_of_some _ ?_)
    unfold two
    have n2 : s.heap.objs.size ≠ b := Nat.ne_of_gt lt
    have n1 : (s.heap.push (set0 w)).objs.size ≠ b := by rw [hz]; exact Nat.ne_of_gt (Nat.lt_succ_of_lt lt)
    refine PySem.Heap.get?_update_of_ne _ n1 (PySem.Heap.get?_update_of_ne _ n2 ?_)
    exact Heap.get?_push_of_some _ (Heap.get?_push_of_some _ e)
  · refine Heap.get?_push_of_some _ (Heap.get?_push_of_some _ ?_)
    unfold two
    refine PySem.Heap.get?_update_of_ne _ (Ne.symm ne) (get_upd _ (Heap.get?_push_of_some _ hS) rfl)
theorem set_of_text {Q : Value → Shared → Prop} (hh : A.handled = none) (x : Str) (t : Tok) (ha : x.cps.all (· < 128) = true) (nd : x.cps.toList.Nodup) (hl : x.cps.toList.length < scanBound)
    (hQ : ∀ h' tk, (∀ b o, s.heap.get? b = some o → h'.get? b = some o) → SgSet P w s.heap.objs.size x.cps.toList.reverse h' → Q (.ref s.heap.objs.size) { s with heap := h', toks := tk }) :
    wpAny (model P w) A (call (.type "set") [.str x t]) Q E s := by
  obtain ⟨c0, tl0, m0⟩ := F.called_set.mro
  have m1 := F.called_set.made; have m2 := F.called_set.sub; have m3 := F.called_set.notType; have m4 := F.called_set.canCreate
  have m5 := F.typeCall_set_1 (.str x t)
  refine wpAny_call (codeAny_of_tree (show wpAny _ _ (callAny (.type "set") _) _ _ _ from wpAny_pure ⟨Code.quiet_builtin _ (by decide +kernel), codeAny_builtin F.entry_type_call ?_⟩))
  rw [Around.under_plain (weight_type_call_type "set" [.str x t] []) rfl]
  repeat (any_goals (first | assumption | wp_step))
  refine codeAny_mono (new_set1 (.str x t) (E := E) (R := fun obj s₁ => obj = .ref s.heap.objs.size ∧ s₁ = { s with heap := s.heap.push (set0 w) }) ⟨rfl, rfl⟩) fun r s₁ hr => ?_
  match r, hr with
  | .error e, hr => exact hr
  | .ok .next, hr => exact hr.elim
  | .ok .brk, hr => exact hr.elim
  | .ok .cont, hr => exact hr.elim
  | .ok (.ret obj), hr =>
    obtain ⟨rfl, rfl⟩ := hr
    have hS : (s.heap.push (set0 w)).get? s.heap.objs.size = some (set0 w) := Heap.get?_push_size _ rfl
    have hT : Shared.TypeIs { s with heap := s.heap.push (set0 w) } (.ref s.heap.objs.size) "set" := ⟨_, hS, rfl⟩
    have m6 := F.called_set.init.lookup; have m7 := F.called_set.init.bind (.ref s.heap.objs.size)
    repeat (any_goals (first | assumption | wp_step))
    refine codeAny_mono (codeAny_call_builtin (R := wants (fun r s₂ => r = .none ∧ Q (.ref s.heap.objs.size) s₂) E) F.called_set.init.plain F.entry_set_init (check_set_init_1 hT (init_text hh x t ha nd hl hQ))) fun r₂ s₂ hr₂ => ?_
    match r₂, hr₂ with
    | .error e, hr₂ => exact hr₂
    | .ok .next, hr₂ => exact hr₂.elim
    | .ok .brk, hr₂ => exact hr₂.elim
    | .ok .cont, hr₂ => exact hr₂.elim
    | .ok (.ret r), hr₂ =>
      obtain ⟨rfl, hq⟩ := hr₂
      repeat (any_goals (first | assumption | wp_step))
end
end LK

/-! texts, their parts -/
namespace LK
open PySem PySem.Spec PyProof.Rows L2
open scoped List

end LK
namespace LK
open PySem PySem.Spec PyProof.Rows L2
open scoped List
/-! ### all parts -/
end LK
namespace LK
open PySem PySem.Spec PyProof.Rows L2
open scoped List
open PySem.W (dataLe sortLe sortLe_total keyToks)
/-! ### the two ways to sort -/
abbrev tl (a b : List Nat) : Bool := itemOrd.blt (.inr a) (.inr b)
theorem leT_eq (a b : List Nat) : dataLe false encT a b = !tl b a := by
  show (!(lexLt itemOrd [.inr b] [.inr a])) = _
  show (!(tl b a || (!tl a b && false))) = _
  simp
theorem leT_anti {a b : List Nat} (h1 : dataLe false encT a b = true) (h2 : dataLe false encT b a = true) : a = b := by
  rw [leT_eq, Bool.not_eq_true'] at h1 h2
  have := itemOrd.total (.inr a) (.inr b) h2 h1
  exact Sum.inr.inj this
theorem srt (k : List Nat → PyData) (ks : List (List Nat)) : (ks.mergeSort (dataLe false k)).Pairwise fun a b => dataLe false k a b = true :=
  List.pairwise_mergeSort (fun a b c => (sortLe_total (listOrd itemOrd) false fun b => keyToks (k b)).trans a b c) (fun a b => by
    have := (sortLe_total (listOrd itemOrd) false fun b => keyToks (k b)).total a b
    rw [Bool.or_eq_true]; exact this) ks
end LK

namespace LK
open PySem PySem.Spec PyProof.Rows L2 PySem.Froz
open PySem.W (EachIs dataLe AllAlike Sortable)
/-! ### texts of one sign, sorted -/
theorem perm_of {α : Type} [BEq α] [LawfulBEq α] : ∀ {l ks : List α}, l.Nodup → (∀ x, x ∈ l → x ∈ ks) → ks.length = l.length → ks.Perm l
  | [], ks, _, _, h => by rw [List.length_eq_zero_iff.mp h]
  | x :: l, ks, nd, sub, h => by
    obtain ⟨n1, n2⟩ := List.nodup_cons.mp nd
    have hx := sub x (by simp)
    refine (List.perm_cons_erase hx).trans (.cons x (perm_of n2 (fun y hy => ?_) ?_))
    · have ne : y ≠ x := fun e => n1 (e ▸ hy)
      exact (List.mem_erase_of_ne ne).mpr (sub y (by simp [hy]))
    · rw [List.length_erase_of_mem hx, h]; rfl
theorem sorted_eq {ks l : List (List Nat)} (h : ks.Perm l) (s : l.Pairwise fun a b => dataLe false encT a b = true) (asy : ∀ a b, dataLe false encT a b = true → dataLe false encT b a = true → a = b) : ks.mergeSort (dataLe false encT) = l :=
  List.Perm.eq_of_pairwise (fun a b _ _ => asy a b) (srt encT ks) s ((List.mergeSort_perm _ _).trans h)
section
variable {X : Cx}
def Ris1 (l : List Nat) : Prop := l.Pairwise (· < ·)
/-- set(text) -/
def setT (P : Program) (w : World) : List V → Hp → VK → Prop := fun vs H Q => match vs with
  | [.str z] => Ris1 (cs z) ∧ (∀ c ∈ cs z, c < 128) ∧ (cs z).length ≤ 100 ∧ ∀ p, H p = none → Q (.ref p) (upd H p (SetS P w p (cs z).reverse))
  | _ => False
theorem c_setT (hc : X.calm = true) : CallR X (.type "set") (setT X.prog X.w) := by
  intro pins s σ H xs us Q I r h
  unfold setT at h
  split at h
  · rename_i z
    obtain ⟨hr, ha, hl, q⟩ := h
    obtain ⟨u, rfl, t, rfl⟩ := vals1 r
    have asc : z.cps.all (· < 128) = true := by
      rw [← Array.all_toList, List.all_eq_true]
      intro c hc
      exact decide_eq_true (ha c hc)
    refine set_of_text (I.ok.hd hc) z t asc (hr.imp fun h => Nat.ne_of_lt h) (by have := hl; show (cs z).length < scanBound; unfold scanBound; omega) fun h' tk keep S => ?_
    exact ⟨.ref s.heap.objs.size, upd H s.heap.objs.size (SetS X.prog X.w s.heap.objs.size (cs z).reverse), I.laid (t' := tk) keep (Nat.le_refl _) (setS_ok S), rfl, q _ (I.hok.fresh (Nat.le_refl _))⟩
  · exact h.elim
/-- the keys of the set's elements -/
theorem keys_perm {P : Program} {w : World} {D : SD} {l : List Nat} (S : SgD P w D l) (nd : l.Nodup) : ∃ ks : List (List Nat), ks.Perm (l.map fun c => [c]) ∧ EachIs RT (D.1.toList.map (·.2)) ks := by
  have key : ∀ es : List (Int × Value), (∀ e ∈ es, ∃ k, (strKind P w).is k e.2 = true) → ∃ ks : List (List Nat), EachIs RT (es.map (·.2)) ks ∧ ∀ k, (∃ e ∈ es, (strKind P w).is k e.2 = true) → cs k ∈ ks := by
    intro es
    induction es with
    | nil => exact fun _ => ⟨[], .nil, fun k ⟨e, z, _⟩ => nomatch z⟩
    | cons e es ih =>
      intro h
      obtain ⟨ks, e1, e2⟩ := ih fun x hx => h x (by simp [hx])
      obtain ⟨k, hk⟩ := h e (by simp)
      obtain ⟨t, ev⟩ := Value.isStrOf_shape (show Value.isStrOf k e.2 = true from hk)
      refine ⟨cs k :: ks, .cons ⟨t, ev⟩ e1, ?_⟩
      rintro k' ⟨e', he, hk'⟩
      rcases List.mem_cons.mp he with rfl | he
      · rw [(strKind P w).inj _ k' k hk' hk]; simp
      · exact List.mem_cons_of_mem _ (e2 k' ⟨e', he, hk'⟩)
  obtain ⟨ks, e1, e2⟩ := key D.1.toList fun e he => ⟨_, (S.tx.el e he).1.choose_spec.1⟩
  refine ⟨ks, perm_of ?_ ?_ ?_, e1⟩
  · refine List.Pairwise.map _ (fun a b h e => h (List.cons.inj e).1) nd
  · intro x hx
    obtain ⟨c, hc, rfl⟩ := List.mem_map.mp hx
    exact e2 (sing c) ((S.tx.mem _).mp (List.mem_map.mpr ⟨c, hc, rfl⟩))
  · rw [← e1.length, List.length_map, Array.length_toList, List.length_map]
    have := S.tx.sz
    rw [List.length_map] at this
    exact this
theorem le_sing {a b : Nat} (h : a < b) : dataLe false encT [a] [b] = true := by
  rw [leT_eq]
  show (!decide ([b] < [a])) = true
  have n : ¬ [b] < [a] := fun z => by
    rcases List.cons_lt_cons_iff.mp z with z | ⟨_, z⟩
    · omega
    · exact absurd z (List.lt_irrefl _)
  rw [decide_eq_false n]; rfl
theorem each_perm {α β : Type} {R : α → β → Prop} : ∀ {vs us : List α} {ks : List β}, EachIs R us ks → vs.Perm us → ∃ ks', ks'.Perm ks ∧ EachIs R vs ks' := by
  intro vs us ks e p
  induction p generalizing ks with
  | nil => exact ⟨ks, .refl _, e⟩
  | cons x _ ih => cases e with | cons h t => obtain ⟨k', p', e'⟩ := ih t; exact ⟨_ :: k', p'.cons _, .cons h e'⟩
  | swap x y l => cases e with | cons h t => cases t with | cons h2 t => exact ⟨_, .swap _ _ _, .cons h2 (.cons h t)⟩
  | trans _ _ ih1 ih2 =>
    obtain ⟨k1, p1, e1⟩ := ih2 e
    obtain ⟨k2, p2, e2⟩ := ih1 e1
    exact ⟨k2, p2.trans p1, e2⟩
/-- sorted(a set of signs) -/
def sortedS (P : Program) (w : World) : List V → Hp → VK → Prop := fun vs H Q => match vs with
  | [.ref a] => ∃ l, H a = some (SetS P w a l.reverse) ∧ Ris1 l ∧ l.length ≤ 100 ∧ ∀ p, H p = none → Q (.ref p) (upd H p (.lst (lets l)))
  | _ => False
theorem c_sortedS (hc : X.calm = true) (hu : X.A.units + 64 < cLine) : CallR X (.builtin "sorted") (sortedS X.prog X.w) := by
  intro pins s σ H xs us Q I r h
  unfold sortedS at h
  split at h
  · rename_i a
    obtain ⟨l, hd, hr, hl, q⟩ := h
    obtain ⟨u, rfl, ru⟩ := vals1 r
    obtain rfl : u = Value.ref a := ru
    obtain ⟨D, ho, S⟩ := (I.hok a _ hd).1
    have nd : l.reverse.Nodup := (List.pairwise_reverse.mpr (hr.imp fun h => Nat.ne_of_gt h))
    obtain ⟨ks, pk, ek⟩ := keys_perm S nd
    have sz : D.1.size = l.length := by have := S.tx.sz; rw [List.length_map, List.length_reverse] at this; exact this
    refine call_function_entry_kw kind_sorted plain_sorted entry_sorted (args_sorted1 _) ?_
    unfold Builtin.«sorted»
    refine wpAny_bind (m := checkCount "sorted" 1 1 _) (wpAny_pure ?_)
    refine wpAny_bind (collect_set (A := X.A.in1) (I.ok.hd hc) ⟨_, ho, rfl, rfl⟩ S.tx.fit (by rw [sz]; unfold scanBound; omega) S.ris S.led fun s1 vs k1 hz1 g1 o1 pm => ?_)
    have hvl : vs.length = l.length := by rw [pm.length_eq, List.length_map, Array.length_toList]; exact sz
    -- the values as they came, by their texts
    have ev : ∃ ks', ks'.Perm (l.map fun c => [c]) ∧ EachIs RT vs ks' := by
      obtain ⟨ks', p1, e1⟩ := each_perm ek pm
      refine ⟨ks', p1.trans (pk.trans ?_), e1⟩
      exact (List.reverse_perm l).map _
    obtain ⟨ks', p', e⟩ := ev
    have hz : ks'.length ≤ sizeLine := by rw [← e.length, hvl, sizeLine_eq]; omega
    refine wpAny_bind (wpAny_newList ?_ (by rw [hvl, sizeLine_eq]; omega))
    have hoL : (s1.heap.push (seqObj "list" vs.toArray 0)).get? s1.heap.objs.size = some (seqObj "list" vs.toArray 0) := Heap.get?_push_size _ rfl
    have St := PySem.W.SortsAt.data (prog := X.prog) (w := X.w) (A := X.A.in1.in1) (s := { s1 with heap := PySem.W.sortingHeap (s1.heap.push (seqObj "list" vs.toArray 0)) s1.heap.objs.size vs })
      (PySem.W.each_map (R := fun v d => ∃ as, Reads _ v d as) encT (reads_RT e)) (alike_T ks') (sortable_T ks')
      (PySem.W.bound_map (A := X.A.in1.in1) fun l _ => by show X.A.units + 1 + 1 + 0 < cLine; omega)
    refine wpAny_bind (wpAny_holding (wpAny_call_entry_kw slot_list_sort ⟨_, hoL, rfl⟩ entry_list_sort ?body (args_list_sort _)))
    refine PySem.W.list_sort_vals (s := { s1 with heap := s1.heap.push (seqObj "list" vs.toArray 0) }) hoL St (by rw [e.length]; exact hz) ⟨_, rfl, wpAny_pure ⟨_, rfl, ?_⟩⟩
    obtain ⟨c, hc'⟩ := PyProof.Rows.sortedHeap_at (vs := vs) (out := (PySem.W.sortVals (PySem.W.dataKind (PySem.W.sortingHeap (s1.heap.push (seqObj "list" vs.toArray 0)) s1.heap.objs.size vs) (ks'.map encT)) false vs vs).toArray) hoL
    have ro := PySem.W.sortVals_data (h' := PySem.W.sortingHeap (s1.heap.push (seqObj "list" vs.toArray 0)) s1.heap.objs.size vs) (R := RT) false e (reads_RT e) (alike_T ks')
    rw [sorted_eq p' (List.Pairwise.map _ (fun a b h => le_sing h) hr) (fun a b => leT_anti)] at ro
    have hn : H s1.heap.objs.size = none := I.hok.fresh hz1
    have keep : ∀ b o, s.heap.get? b = some o → (PyProof.Rows.sortedHeap (s1.heap.push (seqObj "list" vs.toArray 0)) s1.heap.objs.size vs (PySem.W.sortVals (PySem.W.dataKind (PySem.W.sortingHeap (s1.heap.push (seqObj "list" vs.toArray 0)) s1.heap.objs.size vs) (ks'.map encT)) false vs vs).toArray).get? b = some o := fun b o hb => by
      have z := k1 b o hb
      have lt := Heap.lt_size z
      rw [PyProof.Rows.sortedHeap_old (Nat.ne_of_lt lt) (by rw [size_push']; exact Nat.lt_succ_of_lt lt)]
      exact Heap.get?_push_of_some _ z
    have J : Inv X pins σ (upd H s1.heap.objs.size (.lst (lets l))) { s with heap := PyProof.Rows.sortedHeap (s1.heap.push (seqObj "list" vs.toArray 0)) s1.heap.objs.size vs (PySem.W.sortVals (PySem.W.dataKind (PySem.W.sortingHeap (s1.heap.push (seqObj "list" vs.toArray 0)) s1.heap.objs.size vs) (ks'.map encT)) false vs vs).toArray, gens := s1.gens, drawn := s1.drawn, toks := s1.toks } :=
      I.call (ch := []) (Un.laid keep hz1 hn) (I.hok.laid keep hz1 ⟨by rw [List.length_map, sizeLine_eq]; omega, _, c, (by
        have v := vals_RT ro
        rw [List.map_map] at v
        exact v), hc'⟩) (by show AllBare s1.gens; rw [g1]; exact I.bare) (fun _ z => nomatch z)
    obtain ⟨hp1, ge1, dr1, tk1, os1⟩ := s1
    cases o1
    exact ⟨.ref _, _, J, rfl, q _ hn⟩
  · exact h.elim
end
end LK

/-! list(text) -/
namespace LK
open PySem PySem.Spec PyProof.Rows L2
section
variable {X : Cx}
/-- list(text): its signs -/
def listT : List V → Hp → VK → Prop := fun vs H Q => match vs with
  | [.str z] => (cs z).length ≤ sizeLine ∧ ∀ p, H p = none → Q (.ref p) (upd H p (.lst (lets (cs z))))
  | _ => False
theorem c_listT (hc : X.calm = true) : CallR X (.type "list") listT := by
  intro pins s σ H xs us Q I r h
  unfold listT at h
  split at h
  · rename_i z
    obtain ⟨hz, q⟩ := h
    obtain ⟨u, rfl, t, rfl⟩ := vals1 r
    refine PySem.call_list_str (I.ok.hd hc) z t (fun h' tk acc c' hk e hi => ?_) hz
    refine ⟨.ref s.heap.objs.size, upd H s.heap.objs.size (.lst (lets (cs z))), I.laid hk (Nat.le_refl _) ⟨by rw [List.length_map]; exact hz, acc.toList, c', ?_, by rw [Array.toArray_toList]; exact e⟩, rfl, q _ (I.hok.fresh (Nat.le_refl _))⟩
    refine vals_of_idx _ _ (by rw [List.length_map, Array.length_toList]; exact hi.1) fun j u hj => ?_
    obtain ⟨c, t', hc, rfl⟩ := hi.2 j u (by rw [← Array.getElem?_toList]; exact hj)
    refine ⟨.str (T [c]), ?_, ⟨t', rfl⟩⟩
    rw [List.getElem?_map]
    have : (cs z)[j]? = some c := by rw [← hc]; exact Array.getElem?_toList
    rw [this]; rfl
  · exact h.elim
end
end LK

/-! for c, y in zip(text, list) -/
namespace LK
open PySem PySem.Spec PyProof.Rows L2
section
variable {prog : Program} {w : World} {A : Around} {E : Value → Shared → Prop} {s : Shared}
end
end LK

namespace LK
open PySem PySem.Spec PyProof.Rows L2
section
variable {prog : Program} {w : World} {A : Around} {E : Value → Shared → Prop} {s : Shared}
end
end LK

/-! for i, x in enumerate(tuple) -/
namespace LK
open PySem PySem.Spec PyProof.Rows L2
open AutoSeq1 (wpAny_loadPart')
/-- what the tuple at a holds, each item beside its number in a new pair -/
def ItET (K : PySem.W.Frag) (a : Addr) : It where
  go := fun i H => ∃ xs x, SqT K H a xs ∧ xs[i]? = some x
  yld := fun i H v H' => ∃ T x, v = .ref T ∧ H T = none ∧ H' = upd H T (.tup [.int (i : Nat), x]) ∧ ∀ xs, SqT K H a xs → xs[i]? = some x
  stop := fun i H => ∃ xs, SqT K H a xs ∧ i = xs.length
theorem turn_enumT {P : Program} {w : World} {K : PySem.W.Frag} {elts : List Expr} {kk : Nat} {tpos : Pos} {a e it : Addr} (ne : e ≠ it) (n1 : e ≠ a) (n2 : a ≠ it) :
    Turn P w K (.Tuple elts kk tpos) (ItET K a) [e, it] e (fun i h => (∃ old, IsEnum h e it ((i : Nat) : Int) old) ∧ h.IsTupleIter it a i) where
  mem := by simp
  obj := fun i h st c hc => by
    obtain ⟨⟨old, he⟩, o, ho, _, hd⟩ := st
    simp only [List.mem_cons, List.not_mem_nil, or_false] at hc
    rcases hc with rfl | rfl
    · exact ⟨_, he, fun v q => nomatch q⟩
    · exact ⟨o, ho, fun v q => by rw [hd] at q; cases q⟩
  keep := fun i h h' st k => by
    obtain ⟨⟨old, he⟩, hi⟩ := st
    exact ⟨⟨old, k e (by simp) _ he⟩, hi.at fun o q => k it (by simp) o q⟩
  item := by
    intro X hP hw hK hc i pins s σ H E I hf st ⟨xs, x, hq, hx⟩
    subst hP hw hK
    obtain ⟨⟨old, he⟩, hit⟩ := st
    obtain ⟨its, rv, p, _⟩ := I.tuple hq
    obtain ⟨u, hu, ru⟩ := rv.get hx
    have hii : i < its.toArray.size := by
      have := (List.getElem?_eq_some_iff.mp hu).1
      simpa using this
    have hh : X.A.in1.handled = none := I.ok.hd hc
    have el := Heap.lt_size he
    have il : it < s.heap.objs.size := by obtain ⟨_, q, _⟩ := hit; exact Heap.lt_size q
    refine wpAny_pyNext_enum_itemD (Draws.tuple hh it a n2 its.toArray) he ⟨hit, p⟩ hii ne (by simp [ne, n1]) fun y h' tk hy ho hst hT hsz hk => ?_
    have ey : y = u := by
      have z : its[i]? = some y := by simpa using hy
      rw [hu] at z; exact (Option.some.inj z).symm
    subst ey
    refine ⟨_, rfl, wpAny_letOwnedTupleGo_enum (s := { s with heap := h', toks := tk + 1 }) ho fun h'' he' sb => ?_⟩
    have hT2 : h''.get? s.heap.objs.size = some { cls := .type "tuple", data := .seq #[.int i tk, y] } := (sb.2 _ (Nat.ne_of_gt el)).trans hT
    have new : ObjOk X.prog X.w (upd H s.heap.objs.size (.tup [.int (i : Nat), x])) h'' s.heap.objs.size (.tup [.int (i : Nat), x]) :=
      ⟨by show 2 ≤ sizeLine; decide, [.int i tk, y], .cons ⟨_, rfl⟩ (.cons ru .nil), ⟨_, hT2, rfl, _, rfl⟩⟩
    have far : ∀ d o, d ∉ [e, it] → s.heap.get? d = some o → h''.get? d = some o := fun d o nd q => by
      simp only [List.mem_cons, List.not_mem_nil, or_false, not_or] at nd
      exact (sb.2 d nd.1).trans (hk d o nd.1 nd.2 q)
    refine ⟨.ref s.heap.objs.size, _, I.turnedNew (t' := tk + 1) (ch := [e, it]) far hf (Nat.le_refl _) new, rfl, ⟨_, x, rfl, I.hok.fresh (Nat.le_refl _), rfl, fun l hl => by rw [I.tuple_inj hl hq]; exact hx⟩, ⟨⟨y, ?_⟩, hst.1.at fun o q => (sb.2 it ne.symm).trans q⟩, fun d hd => ?_⟩
    · rw [show ((i + 1 : Nat) : Int) = (i : Int) + 1 by omega]; exact he'
    · have lt : d < s.heap.objs.size := by
        simp only [List.mem_cons, List.not_mem_nil, or_false] at hd
        rcases hd with rfl | rfl
        · exact el
        · exact il
      rw [upd_ne (Nat.ne_of_lt lt)]; exact (hf d hd).1
  done := by
    intro X hP hw hK hc i pins s σ H E I hf st ⟨xs, hq, hl⟩
    subst hP hw hK
    obtain ⟨⟨old, he⟩, hit⟩ := st
    obtain ⟨its, rv, p, _⟩ := I.tuple hq
    obtain ⟨f0, f1, f2, f3, f4, f5⟩ := hf it (by simp)
    have l1 := rv.length
    have e2 : i = its.toArray.size := by rw [List.size_toArray]; omega
    have hh : X.A.in1.handled = none := I.ok.hd hc
    subst e2
    exact wpAny_pyNext_enum_endD (Draws.tuple hh it a n2 its.toArray) he ⟨hit, p⟩ fun h' eb => ⟨rfl, I.turned (t' := s.toks) (fun b o hb q => eb b o hb q) f0 f1 f3 f4 f5⟩
  self := fun A i s Q E st h => by obtain ⟨⟨_, he⟩, _⟩ := st; exact wpAny_pyIter_enum he h
theorem new_enumT (l : Addr) (items : Array Value) (n : Nat) (dct : Option Addr) (sl : Array (Option Value)) :
    Meets (Builtin.«enumerate.__new__» ⟨[.type "enumerate", .ref l], []⟩) (fun _ R s => s.heap.get? l = some { cls := .type "tuple", dict := dct, data := .seq items n, slots := sl } ∧
      R (.ok (.ret (.ref (s.heap.push { cls := .type "tuple_iterator", data := .fields #[.ref l, .int 0 0] }).objs.size)))
        { s with heap := (s.heap.push { cls := .type "tuple_iterator", data := .fields #[.ref l, .int 0 0] }).push { cls := .type "enumerate", data := .fields #[.none, .bool false, .ref s.heap.objs.size, rawInt 0, .none, .none] } }) :=
  .of_wp fun prog w A R s h => by
    obtain ⟨hp, g, d, tk, os⟩ := s; obtain ⟨hl, h⟩ := h
    have hsub := sub_enumerate
    have hL : Heap.IsTuple (Shared.heap ⟨hp, g, d, tk, os⟩) l items := ⟨_, hl, rfl, n, rfl⟩
    wp_walk using wpAny_loadPart' hl
    refine wpAny_stack_any fun st => wpAny_pure ?_
    split
    · rename_i c _ _ _ _ _
      cases (c == Value.type "enumerate") <;> (wp_walk using wpAny_loadPart' hl, wpAny_pyIter_tuple hL; exact ⟨_, rfl, h⟩)
    · wp_walk using wpAny_loadPart' hl, wpAny_pyIter_tuple hL
      exact ⟨_, rfl, h⟩
end LK

/-! walks over a list or a tuple -/
namespace LK
open PySem PySem.Spec PyProof.Rows L2
/-- the values of the list (tp = false) or of the tuple at a -/
def SqB (K : PySem.W.Frag) (tp : Bool) (H : Hp) (a : Addr) (xs : List V) : Prop := match tp with | true => SqT K H a xs | false => SqL K H a xs
def ItB (K : PySem.W.Frag) (tp : Bool) (a : Addr) : It := match tp with | true => Itt K a | false => Itl K a
def ItEB (K : PySem.W.Frag) (tp : Bool) (a : Addr) : It := match tp with | true => ItET K a | false => Ite K a
theorem wk_sq {K : PySem.W.Frag} {tp : Bool} {a : Addr} {xs : List V} : Wk (ItB K tp a) xs (fun H => SqB K tp H a xs) := by
  cases tp
  · exact wk_list
  · exact wk_tup
section
variable {X : Cx} {tg e : Expr} {te : TE} {p pos tpos : Pos} {elts : List Expr} {kk : Nat} {ta : TA}
def iSq (K : PySem.W.Frag) (te : TE) : TI := fun σ H R => te σ H fun x H1 => match x with
  | .ref a => ∃ tp xs, SqB K tp H1 a xs ∧ R (ItB K tp a) H1
  | _ => False
theorem pi_sq (he : PE X e te) : PI X tg e (iSq X.K te) := by
  refine ⟨fun pins s σ H R I h => thn (he.run pins s σ H _ I h) fun v s1 z => ?_⟩
  obtain ⟨x, H1, I1, r1, q⟩ := z
  cases x with
  | ref a =>
    obtain ⟨tp, xs, hx, q⟩ := q
    obtain rfl : v = Value.ref a := r1
    cases tp
    · obtain ⟨its, rv, p, _⟩ := I1.list hx
      exact wpAny_pyIter_list p.isList (pi_one (tk := s1.toks) I1 _ (turn_list a _) ⟨_, Heap.get?_push_size _ rfl, rfl, rfl⟩ q)
    · obtain ⟨its, rv, p, _⟩ := I1.tuple hx
      exact wpAny_pyIter_tuple p (pi_one (tk := s1.toks) I1 _ (turn_tuple a _) ⟨_, Heap.get?_push_size _ rfl, rfl, rfl⟩ q)
  | _ => exact q.elim
theorem call_enumT {A : Around} {E : Value → Shared → Prop} {prog : Program} {w : World} {s : Shared} {l : Addr} {items : Array Value} {Q : Value → Shared → Prop} (hL : s.heap.IsTuple l items)
    (h : ∀ h', IsEnum h' (s.heap.objs.size + 1) s.heap.objs.size 0 .none → h'.IsTupleIter s.heap.objs.size l 0 → (∀ b o, s.heap.get? b = some o → h'.get? b = some o) → Q (.ref (s.heap.objs.size + 1)) { s with heap := h' }) :
    wpAny (model prog w) A (call (.type "enumerate") [.ref l]) Q E s := by
  obtain ⟨⟨c, dct, dt, sl⟩, hl, hc, n, hd⟩ := hL
  obtain rfl : c = .type "tuple" := hc
  obtain rfl : dt = .seq items n := hd
  refine callType_new F.called_enumerate (by decide) (F.typeCall_enumerate_1 _) (F.newCall_enumerate_1 _) (fun obj => F.args_object_init_2 obj _) F.entry_enumerate_new (new_enumT l items n dct sl) ⟨hl, ?_⟩
  have hz : (s.heap.push { cls := .type "tuple_iterator", data := .fields #[.ref l, .int 0 0] }).objs.size = s.heap.objs.size + 1 := Heap.size_push ..
  have he : IsEnum ((s.heap.push { cls := .type "tuple_iterator", data := .fields #[.ref l, .int 0 0] }).push { cls := .type "enumerate", data := .fields #[.none, .bool false, .ref s.heap.objs.size, rawInt 0, .none, .none] }) (s.heap.objs.size + 1) s.heap.objs.size 0 .none :=
    hz ▸ Heap.get?_push_size _ rfl
  show _ ∧ _
  rw [hz]
  exact ⟨⟨_, he, rfl⟩, h _ he ⟨_, Heap.get?_push_of_some _ (Heap.get?_push_size _ rfl), rfl, rfl⟩ fun b o x => Heap.get?_push_of_some _ (Heap.get?_push_of_some _ x)⟩
def iEnumB (K : PySem.W.Frag) (ta : TA) : TI := fun σ H R => ta σ H fun vs H1 => match vs with
  | [.ref a] => ∃ tp xs, SqB K tp H1 a xs ∧ R (ItEB K tp a) H1
  | _ => False
theorem pi_enumB (hg : Gl X "enumerate") (hm : X.mg "enumerate" = none) (ha : PA X [e] ta) (hs : starEach [e] X.env = [(false, eval e X.env)] := by rfl) :
    PI X (.Tuple elts kk tpos) (.Call (.Name "enumerate" p) [e] [] pos) (iEnumB X.K ta) := by
  refine ⟨fun pins s σ H R I h => Call_ (ld_blt I hg hm boot_enumerate (PyProof.Rows.callWith_type1 (thn (ha.run pos pins s σ H _ I h) fun us s1 z => ?_) hs rfl))⟩
  obtain ⟨vs, H1, I1, r1, q1⟩ := z
  have key : ∃ a, vs = [.ref a] ∧ ∃ tp xs, SqB X.K tp H1 a xs ∧ R (ItEB X.K tp a) H1 := by
    split at q1
    · exact ⟨_, rfl, q1⟩
    · exact q1.elim
  obtain ⟨a, rfl, tp, xs, hx, q⟩ := key
  obtain ⟨u, rfl, ru⟩ := vals1 r1
  obtain rfl : u = Value.ref a := ru
  have fp : ∀ b ∈ [s1.heap.objs.size + 1, s1.heap.objs.size], FpOk X pins H1 b := fun b hb => by
    have hle : s1.heap.objs.size ≤ b := by
      simp only [List.mem_cons, List.not_mem_nil, or_false] at hb
      rcases hb with z | z <;> rw [z]
      · exact Nat.le_add_right _ _
      · exact Nat.le_refl _
    exact I1.fpOk hle (I1.hok.fresh hle)
  cases tp
  · obtain ⟨its, rv, p', _⟩ := I1.list hx
    refine call_enumerate_list p'.isList fun h' he hit _ hk => wpAny_pyIter_enum he ?_
    exact ⟨s1.heap.objs.size + 1, _, _, _, H1, rfl, I1.kept (t' := s1.toks) hk, turn_enum a (s1.heap.objs.size + 1) s1.heap.objs.size, ⟨⟨.none, he⟩, hit, Nat.succ_ne_self _⟩, fp, q⟩
  · obtain ⟨its, rv, p', _⟩ := I1.tuple hx
    have lt : a < s1.heap.objs.size := by obtain ⟨_, q, _⟩ := id p'; exact Heap.lt_size q
    refine call_enumT (show s1.heap.IsTuple a its.toArray from p') fun h' he hit hk => wpAny_pyIter_enum he ?_
    exact ⟨s1.heap.objs.size + 1, _, _, _, H1, rfl, I1.kept (t' := s1.toks) hk, turn_enumT (Nat.succ_ne_self _) (Nat.ne_of_gt (Nat.lt_succ_of_lt lt)) (Nat.ne_of_lt lt), ⟨⟨.none, he⟩, hit⟩, fp, q⟩
end
section
variable {K : PySem.W.Frag} {g : TG} {te : TE} {tb : TS} {σ : L2.St} {H H1 : Hp} {vs : List Nat} {Q : VK} {t : TE} {ta : TA} {D : Ends} {tp : Bool}
theorem for_sq {a : Addr} {xs : List V} (h : At t σ H (.ref a) H1) (hx : SqB K tp H1 a xs) (Iv : List V → L2.St → Hp → Prop) (hP : ∀ pre σ H, Iv pre σ H → SqB K tp H a xs) (h0 : Iv [] σ H1)
    (hs : ∀ pre x suf σ H, xs = pre ++ x :: suf → Iv pre σ H → g x σ H fun σ2 H2 => tb { D with nx := Iv (pre ++ [x]), ct := Iv (pre ++ [x]), bk := D.nx } σ2 H2)
    (he : ∀ σ H, Iv xs σ H → D.nx σ H) : tFor (iSq K t) g tb D σ H :=
  h _ ⟨tp, xs, hx, for_wk wk_sq Iv hP h0 hs he⟩
theorem lc_sq {a : Addr} {xs : List V} (h : At t σ H (.ref a) H1) (hx : SqB K tp H1 a xs) (R : Addr → List V → List V → Hp → Prop)
    (hP : ∀ D pre acc H, R D pre acc H → SqB K tp H a xs) (h0 : ∀ D, H1 D = none → R D [] [] (upd H1 D (.lst [])))
    (hs : ∀ D, H1 D = none → ∀ pre acc x suf H, xs = pre ++ x :: suf → R D pre acc H → g x (wipe σ vs) H fun σ2 H2 => wipe σ2 vs = wipe σ vs ∧ te σ2 H2 fun y H4 =>
      ∃ acc, H4 D = some (.lst acc) ∧ acc.length < sizeLine ∧ ∃ a, R D (pre ++ [x]) a (upd H4 D (.lst (acc ++ [y]))))
    (he : ∀ D, H1 D = none → ∀ acc H, R D xs acc H → Q (.ref D) H) : tLc (iSq K t) g tYes te vs σ H Q :=
  h _ ⟨tp, xs, hx, fun D nD => lc_wk wk_sq (fun pre acc H => R D pre acc H) (hP D) (h0 D nD) (hs D nD) (he D nD)⟩
/-- enumerate of a list or a tuple -/
theorem for_enB {a : Addr} {xs : List V} (h : ∀ R : List V → Hp → Prop, R [.ref a] H1 → ta σ H R) (hx : SqB K tp H1 a xs) (Iv : Nat → L2.St → Hp → Prop) (hP : ∀ i σ H, Iv i σ H → SqB K tp H a xs) (h0 : Iv 0 σ H1)
    (hs : ∀ (i : Nat) x p σ H, xs[i]? = some x → Iv i σ H → H p = none → g (.ref p) σ (upd H p (.tup [.int (i : Nat), x])) fun σ2 H2 => tb { D with nx := Iv (i + 1), ct := Iv (i + 1), bk := D.nx } σ2 H2)
    (he : ∀ σ H, Iv xs.length σ H → D.nx σ H) : tFor (iEnumB K ta) g tb D σ H := by
  refine h _ ⟨tp, xs, hx, ?_⟩
  refine ⟨fun i m σ H => m = xs.length - i ∧ i ≤ xs.length ∧ Iv i σ H, ⟨xs.length, rfl, Nat.zero_le _, h0⟩, ?_⟩
  rintro i m σ H ⟨rfl, hi, iv⟩
  have q := hP i σ H iv
  by_cases lt : i < xs.length
  · have hxi : xs[i]? = some xs[i] := List.getElem?_eq_getElem lt
    refine .inr ⟨?_, Iv (i + 1), fun σ' H' z => ⟨xs.length - (i + 1), by omega, rfl, lt, z⟩, ?_⟩
    · cases tp
      · exact ⟨xs, _, q, hxi⟩
      · exact ⟨xs, _, q, hxi⟩
    · intro v H' y
      have key : ∃ T x, v = .ref T ∧ H T = none ∧ H' = upd H T (.tup [.int (i : Nat), x]) ∧ xs[i]? = some x := by
        cases tp
        · obtain ⟨T, x, e1, e2, e3, e4⟩ := y; exact ⟨T, x, e1, e2, e3, e4 xs q⟩
        · obtain ⟨T, x, e1, e2, e3, e4⟩ := y; exact ⟨T, x, e1, e2, e3, e4 xs q⟩
      obtain ⟨T, x, rfl, hT, rfl, e⟩ := key
      exact hs i x T σ H e iv hT
  · have e : i = xs.length := by omega
    subst e
    refine .inl ⟨?_, he σ H iv⟩
    cases tp
    · exact ⟨xs, q, Nat.le_refl _⟩
    · exact ⟨xs, q, rfl⟩
end
end LK

/-! instances made, by place and by names the other way round; the fields that are read and written -/
namespace LK
open PySem PySem.Spec PyProof.Rows L2 Builtin
/-- a class that is called: its __init__ keeps sp -/
structure HasI (P : Program) (w : World) (K : PySem.W.Frag) (mg : Str → Option Value) (base : Heap) (k : Nat) (x : Str) (C : Addr) (ps : List Str) (sp : Sp) : Prop where
  ex : ∃ f fd, FnG P w K mg base CX0 k f fd (("self" : Str) :: ps) sp ∧ Mk K C f ∧ Binds K fd (("self" : Str) :: ps) [] ∧ mg x = some (.ref C) ∧
    ∀ (s : Shared) (z : Value) (us : List Value), us.length = ps.length → BindsTo s fd ⟨[z], (ps.zip us).reverse⟩ ((("self" : Str) :: ps).zip (z :: us))
theorem HasI.up {P : Program} {w : World} {K : PySem.W.Frag} {mg : Str → Option Value} {base : Heap} {j k : Nat} {x : Str} {C : Addr} {ps : List Str} {sp : Sp} (F : HasI P w K mg base j x C ps sp) (h : j ≤ k) : HasI P w K mg base k x C ps sp := by
  obtain ⟨f, fd, a, b⟩ := F.ex
  exact ⟨f, fd, a.up h, b⟩
section
variable {X : Cx} {k : Nat} {C : Addr} {x : Str} {ps : List Str} {sp : Sp} {p pos : Pos} {e : Expr} {es : List Expr} {kws : List Keyword} {t tk : TA}
theorem mkI_run {pins : List (Addr × Obj)} {σ : L2.St} {H : Hp} {s : Shared} {Q : VK} {f : Addr} {fd : FuncData} {us ws : List Value} {kw : List (Str × Value)} {vs : List V} (M : Mk X.K C f) (F : FnG X.prog X.w X.K X.mg X.base CX0 k f fd (("self" : Str) :: ps) sp)
    (hA : X.A.guards = some []) (hr : Room (k + 1) X.A) (I : Inv X pins σ H s) (r : Vals vs ws) (n : ws.length = ps.length)
    (b : ∀ s' : Shared, X.K.In s'.heap → ∀ z : Value, BindsTo s' fd ⟨z :: us, kw⟩ ((("self" : Str) :: ps).zip (z :: ws)))
    (h : ∀ a d, H a = none → H d = none → d ≠ a → sp (.ref a :: vs) (upd (upd H d (.own a)) a (.ins C d [])) (fun v H2 => v = .non ∧ Q (.ref a) H2) E0) :
    wpAny (model X.prog X.w) X.A (call (.ref C) us kw) (EP X pins σ Q) X.xe s := by
  have q := h (s.heap.objs.size + 1) s.heap.objs.size (I.hok.fresh (Nat.le_succ _)) (I.hok.fresh (Nat.le_refl _)) (Nat.ne_of_lt (Nat.lt_succ_self _))
  have I2 := Inv.made (C := C) I
  refine wpAny_call (make_map (f := f) I.kIn M.makes M.init (beq_iff_eq.mp M.fn) (codeAny_mono (F.run _ (under_guards hA) X.stack _ _ ⟨.ref (s.heap.objs.size + 1) :: us, kw⟩ (.ref (s.heap.objs.size + 1) :: ws) (.ref (s.heap.objs.size + 1) :: vs) _ E0
    (hr.make C us kw) (I2.env0.make C us kw) (b _ I2.kIn _) (.cons rfl r) q) fun r' s' z => ?_))
  match r', z with
  | .error er, z => exact pass0 pins σ _ _ er s' I2 z
  | .ok .next, z => exact z.elim
  | .ok .brk, z => exact z.elim
  | .ok .cont, z => exact z.elim
  | .ok (.ret u), z =>
    obtain ⟨v, H2, J2, rv, ev, q⟩ := I2.after z
    subst ev
    exact ⟨rv, .ref _, H2, J2, rfl, q⟩
/-- the new instance, and what its __init__ does -/
def mkSp (C : Addr) (sp : Sp) (vs : List V) (H : Hp) (Q : VK) : Prop := ∀ a d, H a = none → H d = none → d ≠ a → sp (.ref a :: vs) (upd (upd H d (.own a)) a (.ins C d [])) (fun v H2 => v = .non ∧ Q (.ref a) H2) E0
/-- C(e, ..) -/
theorem pe_mkI (F : HasI X.prog X.w X.K X.mg X.base k x C ps sp) (hA : X.A.guards = some []) (hr : Room (k + 1) X.A) (hg : Gl X x) (ha : PA X (e :: es) t)
    (hdb : (x == ("__debug__" : Str)) = false := by decide) (he : starEach (e :: es) X.env = (false, eval e X.env) :: starEach es X.env := by rfl) (hpl : (backTo pos (starEach es X.env)).any (·.1) = false := by rfl) :
    PE X (.Call (.Name x p) (e :: es) [] pos) (fun σ H Q => t σ H fun vs H1 => vs.length = ps.length ∧ mkSp C sp vs H1 Q) := by
  obtain ⟨f, fd, F, M, hb, hm, _⟩ := F.ex
  refine ⟨fun pins s σ H Q I h => ?_⟩
  refine wpAny_Call_Name_kw (ld_glob I hg hm ?_ hdb)
  refine PySem.W.callWith_K (h₀ := X.base) I.ok.mod.kin M.kp (thn (ha.run pos pins s σ H _ I h) fun us s1 z => ?_) he hpl
  obtain ⟨vs, H1, I1, r1, n, q⟩ := z
  have l : us.length = ps.length := r1.length ▸ n
  refine ⟨I1.kIn, mkI_run (us := us) (ws := us) (kw := []) M F hA hr I1 r1 l (fun s' X' z => ?_) q⟩
  have b := hb s' (z :: us) X' (by simp [l])
  simpa using b
/-! ### fields -/
def uFld (K : PySem.W.Frag) (f : Str) (ta : TE) : TE := fun σ H Q => ta σ H fun x H1 => match x with
  | .ref a => ∃ C dx fs v, H1 a = some (.ins C dx fs) ∧ Cls K C ∧ NoAttr K C f ∧ fs.lookup f = some v ∧ Q v H1
  | _ => False
theorem pe_fldU {f : Str} {ta : TE} (he : PE X e ta) (hb : attributeBase e f X.env (eval e X.env) = eval e X.env := by rfl) : PE X (.Attribute e f pos) (uFld X.K f ta) := by
  refine PE.imp (pe_fld he hb) fun σ H Q h => ?_
  unfold uFld at h
  unfold tFld
  have e : (fun x H1 => match x with | .ref a => ∃ C dx fs v, H1 a = some (HO.ins C dx fs) ∧ Cls X.K C ∧ NoAttr X.K C f ∧ fs.lookup f = some v ∧ Q v H1 | _ => False) =
      (fun x H1 => ∃ a C dx fs v, x = V.ref a ∧ H1 a = some (HO.ins C dx fs) ∧ Cls X.K C ∧ NoAttr X.K C f ∧ fs.lookup f = some v ∧ Q v H1) := by
    funext x H1
    apply propext
    constructor
    · intro h
      split at h
      · obtain ⟨C, dx, fs, v, h⟩ := h; exact ⟨_, C, dx, fs, v, rfl, h⟩
      · exact h.elim
    · rintro ⟨a, C, dx, fs, v, rfl, h⟩; exact ⟨C, dx, fs, v, h⟩
  rw [e] at h
  exact h
end
end LK

/-! places that are come to, least texts to them -/
namespace LK
abbrev Rows := List (List Nat)
def gls (R : Rows) (p : Nat) : List Nat := R.getD p []
def add1 (f : List Nat) (g : Nat) : List Nat := if g ∈ f then f else f ++ [g]
def adds (f gs : List Nat) : List Nat := gs.foldl add1 f
/-- what is found behind i places gone on with -/
def fnd (R : Rows) (s : Nat) : Nat → List Nat
  | 0 => [s]
  | i + 1 => match (fnd R s i)[i]? with
    | some p => adds (fnd R s i) (gls R p)
    | none => fnd R s i
def met (R : Rows) (s : Nat) : List Nat := fnd R s R.length
/-- each row leads to places that are there -/
structure RowsOk (R : Rows) (m : Nat) : Prop where
  len : ∀ r ∈ R, r.length = m
  lt : ∀ r ∈ R, ∀ g ∈ r, g < R.length
theorem add1_pre {f : List Nat} {g : Nat} : f <+: add1 f g := by
  unfold add1; split
  · exact List.prefix_refl _
  · exact List.prefix_append _ _
theorem adds_pre {gs : List Nat} : ∀ {f : List Nat}, f <+: adds f gs := by
  induction gs with
  | nil => exact List.prefix_refl _
  | cons g gs ih => exact add1_pre.trans ih
theorem mem_add1 {f : List Nat} {g x : Nat} : x ∈ add1 f g ↔ x ∈ f ∨ x = g := by
  unfold add1; split
  · rename_i h
    exact ⟨.inl, fun z => z.elim id fun e => e ▸ h⟩
  · simp
theorem mem_adds {gs : List Nat} {x : Nat} : ∀ {f : List Nat}, x ∈ adds f gs ↔ x ∈ f ∨ x ∈ gs := by
  induction gs with
  | nil => simp [adds]
  | cons g gs ih =>
    intro f
    show x ∈ adds (add1 f g) gs ↔ _
    rw [ih, mem_add1, List.mem_cons, or_assoc]
theorem nd_add1 {f : List Nat} {g : Nat} (h : f.Nodup) : (add1 f g).Nodup := by
  unfold add1; split
  · exact h
  · rename_i n
    exact List.nodup_append.mpr ⟨h, by simp, fun a ha b hb e => n (by simp at hb; rw [← hb, ← e]; exact ha)⟩
theorem nd_adds {gs : List Nat} : ∀ {f : List Nat}, f.Nodup → (adds f gs).Nodup := by
  induction gs with
  | nil => exact fun h => h
  | cons g gs ih => exact fun h => ih (nd_add1 h)
section
variable {R : Rows} {s : Nat}
theorem fnd_pre1 (i : Nat) : fnd R s i <+: fnd R s (i + 1) := by
  show _ <+: (match (fnd R s i)[i]? with | some p => adds (fnd R s i) (gls R p) | none => fnd R s i)
  split
  · exact adds_pre
  · exact List.prefix_refl _
theorem fnd_pre {i j : Nat} (h : i ≤ j) : fnd R s i <+: fnd R s j := by
  induction j with
  | zero => obtain rfl : i = 0 := by omega
            exact List.prefix_refl _
  | succ j ih =>
    by_cases e : i = j + 1
    · rw [e]; exact List.prefix_refl _
    · exact (ih (by omega)).trans (fnd_pre1 j)
theorem fnd_step {i p : Nat} (h : (fnd R s i)[i]? = some p) : fnd R s (i + 1) = adds (fnd R s i) (gls R p) := by
  show (match (fnd R s i)[i]? with | some p => adds (fnd R s i) (gls R p) | none => fnd R s i) = _
  rw [h]
theorem fnd_stop {i : Nat} (h : (fnd R s i).length ≤ i) : ∀ j, i ≤ j → fnd R s j = fnd R s i := by
  intro j hj
  induction j with
  | zero => obtain rfl : i = 0 := by omega
            rfl
  | succ j ih =>
    by_cases e : i = j + 1
    · rw [e]
    · have ij := ih (by omega)
      have n : (fnd R s j)[j]? = none := by rw [ij]; exact List.getElem?_eq_none (by omega)
      show (match (fnd R s j)[j]? with | some p => adds (fnd R s j) (gls R p) | none => fnd R s j) = _
      rw [n]; exact ij
theorem fnd_nd : ∀ i, (fnd R s i).Nodup
  | 0 => by simp [fnd]
  | i + 1 => by
    have ih := fnd_nd i
    show List.Nodup (match (fnd R s i)[i]? with | some p => adds (fnd R s i) (gls R p) | none => fnd R s i)
    split
    · exact nd_adds ih
    · exact ih
theorem fnd_head (i : Nat) : s ∈ fnd R s i := (fnd_pre (Nat.zero_le i)).subset (by simp [fnd])
theorem gls_lt {m p g : Nat} (ok : RowsOk R m) (h : g ∈ gls R p) : g < R.length := by
  unfold gls at h
  rw [List.getD_eq_getElem?_getD] at h
  cases e : R[p]? with
  | none => rw [e] at h; cases h
  | some r => rw [e] at h; exact ok.lt r (List.mem_of_getElem? e) g h
theorem fnd_lt {m : Nat} (ok : RowsOk R m) (hs : s < R.length) : ∀ i, ∀ x ∈ fnd R s i, x < R.length
  | 0, x, h => by simp [fnd] at h; omega
  | i + 1, x, h => by
    have ih := fnd_lt ok hs i
    have h : x ∈ (match (fnd R s i)[i]? with | some p => adds (fnd R s i) (gls R p) | none => fnd R s i) := h
    split at h
    · rcases mem_adds.mp h with h | h
      · exact ih x h
      · exact gls_lt ok h
    · exact ih x h
theorem len_le_of_lt {l : List Nat} {n : Nat} (nd : l.Nodup) (h : ∀ x ∈ l, x < n) : l.length ≤ n := by
  have := List.Nodup.length_le_of_subset nd (l₂ := List.range n) fun x hx => List.mem_range.mpr (h x hx)
  rwa [List.length_range] at this
theorem fnd_len {m : Nat} (ok : RowsOk R m) (hs : s < R.length) (i : Nat) : (fnd R s i).length ≤ R.length := len_le_of_lt (fnd_nd i) (fnd_lt ok hs i)
/-- a walk that has come to its end has met all -/
theorem fnd_met {m i : Nat} (ok : RowsOk R m) (hs : s < R.length) (h : (fnd R s i).length ≤ i) : fnd R s i = met R s := by
  have l := fnd_len ok hs i
  by_cases e : i ≤ R.length
  · exact (fnd_stop h R.length e).symm
  · have l2 := fnd_len ok hs R.length
    exact fnd_stop l2 i (by omega)
theorem fnd_more {i : Nat} (h : i < (fnd R s R.length).length) (hi : i ≤ R.length) : i < (fnd R s i).length := by
  refine Nat.lt_of_not_le fun z => ?_
  rw [fnd_stop z R.length hi] at h
  omega
theorem met_closed {m p g : Nat} (ok : RowsOk R m) (hs : s < R.length) (hp : p ∈ met R s) (hg : g ∈ gls R p) : g ∈ met R s := by
  obtain ⟨k, hk⟩ := List.mem_iff_getElem?.mp hp
  have lk : k < (met R s).length := (List.getElem?_eq_some_iff.mp hk).1
  have ln := fnd_len ok hs R.length
  have lk2 : k < R.length := Nat.lt_of_lt_of_le lk ln
  have l1 := fnd_more lk (by omega)
  have e : (fnd R s k)[k]? = some p := by
    obtain ⟨t, et⟩ := fnd_pre (R := R) (s := s) (i := k) (j := R.length) (by omega)
    have hk2 : (fnd R s R.length)[k]? = some p := hk
    rw [← et, List.getElem?_append_left l1] at hk2
    exact hk2
  refine (fnd_pre (i := k + 1) (j := R.length) lk2).subset ?_
  rw [fnd_step e]
  exact mem_adds.mpr (.inr hg)
inductive Reach (R : Rows) (s : Nat) : Nat → Prop
  | here : Reach R s s
  | on {p g : Nat} : Reach R s p → g ∈ gls R p → Reach R s g
theorem reach_fnd : ∀ i, ∀ x ∈ fnd R s i, Reach R s x
  | 0, x, h => by simp [fnd] at h; rw [h]; exact .here
  | i + 1, x, h => by
    have ih := reach_fnd i
    have h : x ∈ (match (fnd R s i)[i]? with | some p => adds (fnd R s i) (gls R p) | none => fnd R s i) := h
    split at h
    · rename_i p e
      rcases mem_adds.mp h with h | h
      · exact ih x h
      · exact .on (ih p (List.mem_of_getElem? e)) h
    · exact ih x h
theorem mem_met {m x : Nat} (ok : RowsOk R m) (hs : s < R.length) : x ∈ met R s ↔ Reach R s x := by
  refine ⟨reach_fnd _ x, fun h => ?_⟩
  induction h with
  | here => exact fnd_head _
  | on _ hg ih => exact met_closed ok hs ih hg
/-- all places are come to -/
def Whole (R : Rows) : Prop := ∀ x, x < R.length → x ∈ met R 0
end
end LK

namespace LK
/-! ### other numbers for the places -/
def rn (R : Rows) (L : List Nat) : Rows := L.map fun p => (gls R p).map fun g => L.idxOf g
section
variable {R : Rows} {s m : Nat} {L : List Nat}
theorem rn_len : (rn R L).length = L.length := by simp [rn]
theorem rn_gls {x p : Nat} (h : L[x]? = some p) : gls (rn R L) x = (gls R p).map fun g => L.idxOf g := by
  unfold gls rn
  rw [List.getD_eq_getElem?_getD, List.getElem?_map, h]; rfl
theorem gls_len (ok : RowsOk R m) {p : Nat} (h : p < R.length) : (gls R p).length = m := by
  unfold gls
  rw [List.getD_eq_getElem?_getD, List.getElem?_eq_getElem h]
  exact ok.len _ (List.getElem_mem h)
theorem idx_get {p : Nat} (h : p ∈ L) : L[L.idxOf p]? = some p := by
  have lt := List.idxOf_lt_length_iff.mpr h
  rw [List.getElem?_eq_getElem lt, List.getElem_idxOf lt]
theorem rn_ok (ok : RowsOk R m) (hs : s < R.length) (h : ∀ x, x ∈ L ↔ x ∈ met R s) : RowsOk (rn R L) m := by
  constructor
  · intro r hr
    obtain ⟨p, hp, rfl⟩ := List.mem_map.mp hr
    rw [List.length_map]
    exact gls_len ok (fnd_lt ok hs _ p ((h p).mp hp))
  · intro r hr g hg
    obtain ⟨p, hp, rfl⟩ := List.mem_map.mp hr
    obtain ⟨q, hq, rfl⟩ := List.mem_map.mp hg
    rw [rn_len]
    exact List.idxOf_lt_length_iff.mpr ((h q).mpr (met_closed ok hs ((h p).mp hp) hq))
theorem rn_whole (ok : RowsOk R m) (hs : s < R.length) (nd : L.Nodup) (h : ∀ x, x ∈ L ↔ x ∈ met R s) (h0 : L[0]? = some s) : Whole (rn R L) := by
  intro x hx
  rw [rn_len] at hx
  have ok2 := rn_ok ok hs h
  have l0 : 0 < (rn R L).length := by rw [rn_len]; omega
  have key : ∀ p, Reach R s p → Reach (rn R L) 0 (L.idxOf p) := by
    intro p hp
    induction hp with
    | here =>
      have e : L.idxOf s = 0 := by
        cases L with
        | nil => cases h0
        | cons y L => simp at h0; rw [h0]; simp
      rw [e]; exact .here
    | on hp hg ih =>
      rename_i p g
      have hm : p ∈ L := (h p).mpr ((mem_met ok hs).mpr hp)
      refine .on ih ?_
      rw [rn_gls (idx_get hm)]
      exact List.mem_map.mpr ⟨g, hg, rfl⟩
  have hm := List.getElem_mem hx
  have r := key L[x] ((mem_met ok hs).mp ((h _).mp hm))
  rw [nd.idxOf_getElem] at r
  exact (mem_met ok2 l0).mpr r
theorem met_nd : (met R s).Nodup := fnd_nd _
theorem met_zero : (met R s)[0]? = some s := by
  obtain ⟨t, e⟩ := fnd_pre (R := R) (s := s) (Nat.zero_le R.length)
  show (fnd R s R.length)[0]? = _
  rw [← e]; rfl
end
/-! ### least texts -/
section
variable {R : Rows} {s : Nat} {S : List Nat}
/-! ### they rise -/
end
end LK

/-! what any law's proof wants -/
namespace LK
open PySem PySem.Spec PyProof.Rows L2 LamX
open scoped List
theorem Room.u1 {k : Nat} {A : Around} (r : Room k A) : A.units + 1 < cLine := by have := r.un; omega
theorem Room.u64 {k : Nat} {A : Around} (r : Room k A) : A.units + 64 < cLine := by have := r.un; omega
/-- names of built-ins that the module leaves as they are -/
structure Mx (mg : Str → Option Value) : Prop where
  tuple : mg "tuple" = none
  zip : mg "zip" = none
  set : mg "set" = none
  bool : mg "bool" = none
  any : mg "any" = none
  enumerate : mg "enumerate" = none
  ve : mg "ValueError" = none
  re : mg "RuntimeError" = none
  ae : mg "ArithmeticError" = none
  len : mg "len" = none
  isi : mg "isinstance" = none
  all : mg "all" = none
  str : mg "str" = none
  list : mg "list" = none
  sorted : mg "sorted" = none
  range : mg "range" = none
  sum : mg "sum" = none
  repr : mg "repr" = none
  int : mg "int" = none
  abs : mg "abs" = none
  max : mg "max" = none
  min : mg "min" = none
  divmod : mg "divmod" = none

theorem b_tuple : bootBuiltins "tuple" = some (.type "tuple") := by decide +kernel
theorem b_set : bootBuiltins "set" = some (.type "set") := by decide +kernel
theorem b_bool : bootBuiltins "bool" = some (.type "bool") := by decide +kernel
theorem b_len : bootBuiltins "len" = some (.builtin "len") := by decide +kernel
theorem b_isi : bootBuiltins "isinstance" = some (.builtin "isinstance") := by decide +kernel
theorem b_all : bootBuiltins "all" = some (.builtin "all") := by decide +kernel
theorem b_str : bootBuiltins "str" = some (.type "str") := by decide +kernel
theorem b_list : bootBuiltins "list" = some (.type "list") := by decide +kernel
theorem b_sorted : bootBuiltins "sorted" = some (.builtin "sorted") := by decide +kernel
theorem b_repr : bootBuiltins "repr" = some (.builtin "repr") := by decide +kernel
theorem b_int : bootBuiltins "int" = some (.type "int") := by decide +kernel
theorem b_abs : bootBuiltins "abs" = some (.builtin "abs") := by decide +kernel
theorem b_max : bootBuiltins "max" = some (.builtin "max") := by decide +kernel
theorem b_min : bootBuiltins "min" = some (.builtin "min") := by decide +kernel
theorem b_divmod : bootBuiltins "divmod" = some (.builtin "divmod") := by decide +kernel

/-! ### heaps -/
/-- all stays but what S names and the tables; what is told of the tables stays true -/
structure Ex (TT : List (Addr × Str)) (S : Addr → Prop) (H H' : Hp) : Prop where
  keep : ∀ b o, ¬ S b → H b = some o → (∀ ps, o ≠ .tbl ps) → H' b = some o
  tabs : Tabs TT H → Tabs TT H'
abbrev no : Addr → Prop := fun _ => False
abbrev at1 (p : Addr) : Addr → Prop := fun b => b = p
section
variable {TT : List (Addr × Str)} {S : Addr → Prop} {H H1 H2 : Hp}
theorem Ex.trans (a : Ex TT S H H1) (b : Ex TT S H1 H2) : Ex TT S H H2 := ⟨fun c o n h m => b.keep c o n (a.keep c o n h m) m, fun t => b.tabs (a.tabs t)⟩
theorem Ex.same (e : Same H H1) : Ex TT S H H1 := ⟨fun b o _ h _ => e b o h, fun t => t.ext e⟩
theorem same_upd {p : Addr} {o : HO} (h : H p = none) : Same H (upd H p o) := fun b x e => by
  rw [upd_ne (ne_of_none e h)]; exact e
theorem Ex.new {p : Addr} {o : HO} (h : H p = none) : Ex TT S H (upd H p o) := .same (same_upd h)
theorem Ex.lst {a : Addr} {xs : List V} (e : Ex TT S H H1) (n : ¬ S a) (h : H a = some (.lst xs)) : H1 a = some (.lst xs) := e.keep a _ n h fun ps z => nomatch z
theorem Ex.sq {K : PySem.W.Frag} {a : Addr} {xs : List V} (e : Ex TT S H H1) (n : ¬ S a) (h : SqL K H a xs) : SqL K H1 a xs := by
  rcases h with (h | ⟨o, h⟩) | h
  · exact .inl (.inl (e.keep _ _ n h fun ps z => nomatch z))
  · exact .inl (.inr ⟨o, e.keep _ _ n h fun ps z => nomatch z⟩)
  · exact .inr h
/-- a list, dict, ... of one's own is written -/
theorem Ex.write {p : Addr} {o o' : HO} (hS : S p) (h : H p = some o) (n : ∀ ps, o ≠ .tbl ps) (n2 : ∀ c q, o ≠ CodeO c q) : Ex TT S H (upd H p o') := by
  refine ⟨fun b u nb hb _ => ?_, fun t x hx => ?_⟩
  · have : b ≠ p := fun e => nb (e ▸ hS)
    rw [upd_ne this]; exact hb
  · obtain ⟨ps, h1, h2, h3⟩ := t x hx
    refine ⟨ps, ?_, h2, fun pos cv hc => ?_⟩
    · have : x.1 ≠ p := fun e => by rw [e, h] at h1; exact n _ (Option.some.inj h1)
      rw [upd_ne this]; exact h1
    · obtain ⟨c, e1, e2⟩ := h3 pos cv hc
      refine ⟨c, e1, ?_⟩
      have : c ≠ p := fun e => by rw [e, h] at e2; exact n2 _ _ (by rw [Option.some.inj e2])
      rw [upd_ne this]; exact e2
end

section
variable {X : Cx} {e : Expr} {t : TE} {K : PySem.W.Frag} {g : TG} {tb : TS} {D : Ends} {σ : L2.St} {H : Hp}
/-- a reading closed upwards -/
def cl (t : TE) : TE := fun σ H Q => ∃ Q0 : VK, t σ H Q0 ∧ ∀ v H', Q0 v H' → Q v H'
theorem pe_cl (h : PE X e t) : PE X e (cl t) := by
  refine ⟨fun pins s σ H Q I z => ?_⟩
  obtain ⟨Q0, h0, m⟩ := z
  refine wpAny_mono (h.run pins s σ H Q0 I h0) (fun v s' q => ?_) (fun _ _ z => z)
  obtain ⟨x, H', I', r, q⟩ := q
  exact ⟨x, H', I', r, m _ _ q⟩
end
theorem same_upd2 {H H1 : Hp} {p : Addr} {o : HO} (e : Same H H1) (h : H p = none) : Same H (upd H1 p o) := fun b x z => by
  rw [upd_ne (ne_of_none z h)]; exact e b x z

def New (H : Hp) (p : Addr) : Prop := ∀ b o, H b = some o → (∀ ps, o ≠ .tbl ps) → b ≠ p
def Pot (H : Hp) (p : Addr) : Prop := ∃ i j : Int, 0 ≤ i ∧ 0 ≤ j ∧ j < 2 ^ 32 ∧ H p = some (.lst [.int i, .int j])
section
variable {TT : List (Addr × Str)} {S : Addr → Prop} {H H1 : Hp}
theorem Pot.put {H : Hp} {p D : Addr} {o : HO} (h : Pot H p) (ne : p ≠ D) : Pot (upd H D o) p := by
  obtain ⟨i, j, a, b, c, d⟩ := h
  exact ⟨i, j, a, b, c, by rw [upd_ne ne]; exact d⟩
theorem Pot.ne {H : Hp} {p D : Addr} (h : Pot H p) (n : H D = none) : p ≠ D := by
  obtain ⟨i, j, a, b, c, d⟩ := h
  exact ne_of_none d n
theorem Pot.ex {p : Addr} (h : Pot H p) (e : Ex TT no H H1) : Pot H1 p := by
  obtain ⟨i, j, a, b, c, d⟩ := h
  exact ⟨i, j, a, b, c, e.lst (fun z => z) d⟩
end
section
variable {g : TG} {te : TE} {σ : L2.St} {H : Hp} {vs : List Nat} {Q : VK} {t : TE}
end
section
variable {TT : List (Addr × Str)} {S : Addr → Prop} {H H1 : Hp}
theorem Ex.putN {D : Addr} {o o' : HO} (e : Ex TT S H H1) (n : New H D) (h : H1 D = some o) (n1 : ∀ ps, o ≠ .tbl ps) (n2 : ∀ c q, o ≠ CodeO c q) : Ex TT S H (upd H1 D o') :=
  ⟨fun b u nb hb m => by
    have : b ≠ D := n b u hb m
    rw [upd_ne this]; exact e.keep b u nb hb m, fun t => (Ex.write (TT := TT) (S := at1 D) rfl h n1 n2).tabs (e.tabs t)⟩
end
theorem has_of {P : Program} {w : World} {K : PySem.W.Frag} {mg : Str → Option Value} {base : Heap} {k : Nat} {f : Addr} {fd : FuncData} {x : Str} {ps : List Str} {sp : Sp} (F : FnG P w K mg base CX0 k f fd ps sp) (hm : mg x = some (.ref f))
    (kp : PySem.W.keepIn K (.ref f) = true) (b : Binds K fd ps []) (bk : ∀ (s : Shared) (us : List Value), us.length = ps.length → BindsTo s fd ⟨[], ps.zip us⟩ (ps.zip us) ∧ BindsTo s fd ⟨[], (ps.zip us).reverse⟩ (ps.zip us)) : Has P w K mg base k x ps sp :=
  ⟨f, fd, F, hm, kp, b, bk⟩
section
def clT (t : TT) : TT := fun σ H Q => ∃ Q0 : Bool → Hp → Prop, t σ H Q0 ∧ ∀ v H', Q0 v H' → Q v H'
theorem pt_cl {X : Cx} {e : Expr} {t : TT} (h : PT X e t) : PT X e (clT t) := by
  refine ⟨fun pins s σ H Q I z => ?_⟩
  obtain ⟨Q0, h0, m⟩ := z
  refine wpAny_mono (h.run pins s σ H Q0 I h0) (fun v s' q => ?_) (fun _ _ z => z)
  obtain ⟨H', I', q⟩ := q
  exact ⟨H', I', m _ _ q⟩
end
/-! ### data that is shown -/
theorem dpAll_bl {K : PySem.W.Frag} {H : Hp} : ∀ ls : List Bool, DpAll K H (ls.map V.bl) (ls.map PyData.bool)
  | [] => .nil
  | l :: ls => .cons (.bl _) (dpAll_bl ls)
end LK

/-! the program's statements, by their names -/
namespace LK
open PySem PySem.Spec PyProof.Rows L2 LamX
def topM (i : Nat) : Stmt := PySem.Challenge.pw_missedparts_k16_whole_paired_machines.main.body.getD i (.Pass ⟨0, 0, 0, 0⟩)
/-- the i-th statement within the class -/
def inCls (st : Stmt) (i : Nat) : Stmt := match st with
  | .ClassDef (body := b) .. => b.getD i (.Pass ⟨0, 0, 0, 0⟩)
  | _ => .Pass ⟨0, 0, 0, 0⟩
abbrev sIsInt : Stmt := topM 4
abbrev sIsText : Stmt := topM 5
abbrev sIsOver : Stmt := topM 6
abbrev sAreLet : Stmt := topM 7
abbrev sMach : Stmt := topM 23
abbrev sInit : Stmt := inCls sMach 1
abbrev sLetters : Stmt := inCls sMach 3
abbrev sRows : Stmt := inCls sMach 4
abbrev sKinds : Stmt := inCls sMach 5
abbrev sTakes : Stmt := inCls sMach 8
abbrev sNumbered : Stmt := inCls sMach 12
abbrev sLeast : Stmt := inCls sMach 13
abbrev sEq : Stmt := inCls sMach 16
abbrev sRepr : Stmt := inCls sMach 17
abbrev sAnd : Stmt := inCls sMach 18
abbrev sOr : Stmt := inCls sMach 19
abbrev sSub : Stmt := inCls sMach 20
abbrev sInv : Stmt := inCls sMach 21
abbrev sLed : Stmt := inCls sMach 23
abbrev sIsSame : Stmt := topM 24
abbrev sParting : Stmt := topM 25
abbrev sFirstWith : Stmt := topM 26
abbrev sNeedText : Stmt := topM 27
abbrev sSameLet : Stmt := topM 28
abbrev sLeastOf : Stmt := topM 29
abbrev sAlike : Stmt := topM 30
abbrev sNeedParts : Stmt := topM 31
abbrev sIsRow : Stmt := topM 32
abbrev sIsPlace : Stmt := topM 33
abbrev sMetFrom : Stmt := topM 34
abbrev sNumFrom : Stmt := topM 35
abbrev sPaired : Stmt := topM 36
abbrev sKindsOf : Stmt := topM 37
abbrev sPot : Stmt := topM 39
abbrev sDraw : Stmt := topM 40
abbrev sPick : Stmt := topM 41
abbrev sLMet : Stmt := topM 42
abbrev sMixed : Stmt := topM 43
abbrev sSheet : Stmt := topM 44
abbrev sTexts : Stmt := topM 46
abbrev sLPairs : Stmt := topM 47
abbrev sDue : Stmt := topM 48
abbrev sLAnd : Stmt := topM 49
abbrev sLOr : Stmt := topM 50
abbrev sLLess : Stmt := topM 51
abbrev sTwoR : Stmt := topM 52
abbrev sRules : Stmt := topM 53
abbrev sContr : Stmt := topM 54
abbrev sRing : Stmt := topM 55
abbrev sRight : Stmt := topM 56
abbrev sLaw : Stmt := topM 57
end LK

/-! k14: the defs of missedparts.basics -/
namespace LK
open PySem PySem.Spec PyProof.Rows L2 LamX
open scoped List
abbrev smalls : List Nat := cs "abcdefghijklmnopqrstuvwxyz"
def Small (l : List Nat) : Prop := ∀ c ∈ l, c ∈ smalls
theorem Small.asc {l : List Nat} (h : Small l) : ∀ c ∈ l, c < 128 := fun c hc => by
  have k : ∀ d ∈ smalls, d < 128 := by decide +kernel
  exact k c (h c hc)
/-- the letters of a machine -/
structure LetOk (S : List Nat) : Prop where
  up : Ris1 S
  sm : Small S
  lo : 1 ≤ S.length
  hi : S.length ≤ 3
abbrev iv (row : List Nat) : List V := row.map fun (g : Nat) => V.int (g : Int)
section
variable {X : Cx} {a b c : Expr} {ta tb tc : TE} {pos : Pos}
theorem pt_ch {op op' : CmpOp} {r r' : R2} (ho : OpR X (compareOp op) r) (ho' : OpR X (compareOp op') r') (ha : PE X a ta) (hb : PE X b tb) (hc : PE X c tc)
    (hm : lastMarks [op, op'] [b, c] = false := by with_unfolding_all rfl) : PT X (.Compare a [op, op'] [b, c] pos) (uT (uChain r r' ta tb tc)) := pt_chainU (t2 := ta) (pt_chain ho ho' ha hb hc hm)
theorem pe_ch {op op' : CmpOp} {r r' : R2} (ho : OpR X (compareOp op) r) (ho' : OpR X (compareOp op') r') (ha : PE X a ta) (hb : PE X b tb) (hc : PE X c tc)
    (hm : lastMarks [op, op'] [b, c] = false := by with_unfolding_all rfl) : PE X (.Compare a [op, op'] [b, c] pos) (uChain r r' ta tb tc) := pe_chainU ho ho' ha hb hc (pe_chain ho ho' ha hb hc hm)
end
section
variable {P : Program} {w : World} {K : PySem.W.Frag} {mg : Str → Option Value} {base : Heap}
theorem scIsInt : FnScope ["value"] ["value"] (defScope sIsInt) := ⟨rfl, rfl, rfl, by decide +kernel, rfl, by decide +kernel, by decide +kernel⟩
def spIsInt : Sp := fun vs H Q _ => ∃ i, vs = [.int i] ∧ Q (.bl true) H
theorem ok_isInt {f : Addr} {fd : FuncData} {k : Nat} (F : Fun K "is_integer" "is_integer" sIsInt f fd) (M : Mx mg) : FnG P w K mg base CX0 (k + 1) f fd ["value"] spIsInt := by
  refine okG F scIsInt (fun vs H Q E h => ?_) (fun cdv A hA outer s H vs Q E hr h => ?_)
  · obtain ⟨i, rfl, _⟩ := h; rfl
  · obtain ⟨i, rfl, q⟩ := h
    refine ⟨_, pss_one (ps_ret (pe_andU (pe_callB call_isi (by rfl) M.isi b_isi (pa_cons (uv 0) (pa_cons (pe_bltn (by rfl) M.int b_int (v := .ty "int") (by rfl)) pa_nil)))
      (pe_one (pe_notU (pe_callB call_isi (by rfl) M.isi b_isi (pa_cons (uv 0) (pa_cons (pe_bltn (by rfl) M.bool b_bool (v := .ty "bool") (by rfl)) pa_nil))))))), ?_⟩
    refine ⟨_, _, _, _, true, rfl, .ty _, .base (.int _), rfl, .yes ?_⟩
    exact ⟨_, _, _, _, false, rfl, .ty _, .base (.int _), rfl, q⟩
theorem scIsText : FnScope ["value", "letter"] ["value"] (defScope sIsText) := ⟨rfl, rfl, rfl, by decide +kernel, rfl, by decide +kernel, by decide +kernel⟩
def spIsText : Sp := fun vs H Q _ => ∃ l, vs = [.str (T l)] ∧ Small l ∧ l.length ≤ 1000000 ∧ ∀ H', Same H H' → Q (.bl true) H'
theorem ok_isText {f : Addr} {fd : FuncData} {k : Nat} {tS : Tok} (F : Fun K "is_text" "is_text" sIsText f fd) (M : Mx mg) (gS : mg "SMALL_LETTERS" = some (.str "abcdefghijklmnopqrstuvwxyz" tS)) :
    FnG P w K mg base CX0 (k + 1) f fd ["value"] spIsText := by
  refine okG F scIsText (fun vs H Q E h => ?_) (fun cdv A hA outer s H vs Q E hr h => ?_)
  · obtain ⟨l, rfl, _⟩ := h; rfl
  · obtain ⟨l, rfl, hs, hl, q⟩ := h
    refine ⟨_, pss_one (ps_ret (pe_andU (pe_callB call_isi (by rfl) M.isi b_isi (pa_cons (uv 0) (pa_cons (pe_bltn (by rfl) M.str b_str (v := .ty "str") (by rfl)) pa_nil)))
      (pe_one (pe_callB (c_all rfl) (by rfl) M.all b_all (pa_cons (pe_lc (own := [("letter", 1)]) (g := gName 1) (tt := tYes) rfl scIsText.nd (pi_str (uv 0)) (blkOk_by (N := ["value", "letter"]) (sc := defScope sIsText) (by decide +kernel))
        (fun _ _ _ _ _ => pg_name (i := 1) scIsText.nd rfl (Or.inl rfl)) (fun _ _ _ _ _ => pts_nil)
        (fun _ _ _ _ _ => pe_cmpR op_in_sign (uv 1) (pe_glob (v := .str "abcdefghijklmnopqrstuvwxyz") (by rfl) gS ⟨tS, rfl⟩) (by rfl))) pa_nil))))), ?_⟩
    refine ⟨_, _, _, _, true, rfl, .ty _, .base (.str _), rfl, .yes ?_⟩
    dsimp only [tCB, tCons]
    refine lc_str (l := l) (H1 := H) (by exact fun _ h => h) (fun D pre acc H1 => H1 = upd H D (.lst acc) ∧ acc = (pre.map fun _ => true).map V.bl) (fun D nD => ⟨rfl, rfl⟩) (fun D nD pre acc c suf H1 e r => ?_) (fun D nD acc H1 r => ?_)
    · obtain ⟨rfl, rfl⟩ := r
      refine ⟨rfl, c, _, rfl, rfl, _, upd_same, ?_, _, upd_upd, ?_⟩
      · have : pre.length < l.length := by rw [e]; simp
        rw [List.length_map, List.length_map, List.length_map]
        have := sizeLine_eq; omega
      · have hc : c ∈ smalls := hs c (by rw [e]; simp)
        have hd : decide (c ∈ (Str.ofString "abcdefghijklmnopqrstuvwxyz").cps.toList) = true := decide_eq_true hc
        rw [hd]
        simp [lets]
    · obtain ⟨rfl, rfl⟩ := r
      refine ⟨_, .inl (.inl upd_same), ?_⟩
      have : (((lets l).map fun _ => true).all id) = true := by simp
      show Q (.bl (((lets l).map fun _ => true).all id)) _
      rw [this]
      exact q _ (same_upd nD)
theorem scIsOver : FnScope ["value", "letters", "letter"] ["value", "letters"] (defScope sIsOver) := ⟨rfl, rfl, rfl, by decide +kernel, rfl, by decide +kernel, by decide +kernel⟩
/-- a text: whether its signs are of the letters; anything else: False -/
def spIsOver (K : PySem.W.Frag) : Sp := fun vs H Q _ => ∃ S x, vs = [x, .str (T S)] ∧
  ((∃ l, x = .str (T l) ∧ l.length ≤ 1000000 ∧ ∀ H', Same H H' → Q (.bl (decide (∀ c ∈ l, c ∈ S))) H') ∨ ∃ t, TyX K H x t ∧ PySem.W.kitOne K t (.type "str") = some false ∧ Q (.bl false) H)
theorem ok_isOver {f : Addr} {fd : FuncData} {k : Nat} (F : Fun K "is_over" "is_over" sIsOver f fd) (M : Mx mg) : FnG P w K mg base CX0 (k + 1) f fd ["value", "letters"] (spIsOver K) := by
  refine okG F scIsOver (fun vs H Q E h => ?_) (fun cdv A hA outer s H vs Q E hr h => ?_)
  · obtain ⟨S, x, rfl, _⟩ := h; rfl
  · obtain ⟨S, x, rfl, q⟩ := h
    refine ⟨_, pss_one (ps_ret (pe_andU (pe_callB call_isi (by rfl) M.isi b_isi (pa_cons (uv 0) (pa_cons (pe_bltn (by rfl) M.str b_str (v := .ty "str") (by rfl)) pa_nil)))
      (pe_one (pe_callB (c_all rfl) (by rfl) M.all b_all (pa_cons (pe_lc (own := [("letter", 2)]) (g := gName 2) (tt := tYes) rfl scIsOver.nd (pi_str (uv 0)) (blkOk_by (N := ["value", "letters", "letter"]) (sc := defScope sIsOver) (by decide +kernel))
        (fun _ _ _ _ _ => pg_name (i := 2) scIsOver.nd rfl (Or.inl rfl)) (fun _ _ _ _ _ => pts_nil)
        (fun _ _ _ _ _ => pe_cmpR op_in_sign (uv 2) (uv 1) (by rfl))) pa_nil))))), ?_⟩
    rcases q with ⟨l, rfl, hl, q⟩ | ⟨t, ty, hk, q⟩
    · refine ⟨_, _, _, _, true, rfl, .ty _, .base (.str _), rfl, .yes ?_⟩
      dsimp only [tCB, tCons]
      refine lc_str (l := l) (H1 := H) (by exact fun _ h => h) (fun D pre acc H1 => ∃ p, pre = lets p ∧ H1 = upd H D (.lst acc) ∧ acc = (p.map fun c => decide (c ∈ S)).map V.bl) (fun D nD => ⟨[], rfl, rfl, rfl⟩) (fun D nD pre acc c suf H1 e r => ?_) (fun D nD acc H1 r => ?_)
      · obtain ⟨p, ep, rfl, rfl⟩ := r
        refine ⟨rfl, c, _, rfl, rfl, _, upd_same, ?_, _, p ++ [c], ?_, upd_upd, ?_⟩
        · have : p.length = pre.length := by have := congrArg List.length ep; simpa using this.symm
          have : pre.length < l.length := by rw [e]; simp
          rw [List.length_map, List.length_map]
          have := sizeLine_eq; omega
        · rw [show lets (pre ++ [c]) = lets pre ++ [.str (T [c])] by simp [lets], ep]; simp [lets]
        · rw [List.map_append, List.map_append]; rfl
      · obtain ⟨p, ep, rfl, rfl⟩ := r
        refine ⟨_, .inl (.inl upd_same), ?_⟩
        have inj : ∀ a b : Nat, V.str (T [a]) = V.str (T [b]) → a = b := fun a b z => by
          have z1 := T_inj (V.str.inj z)
          exact (List.cons.inj z1).1
        obtain rfl : l = p := (List.map_inj_right inj).mp ep
        have e2 : ((l.map fun c => decide (c ∈ S)).all id) = decide (∀ c ∈ l, c ∈ S) := by
          rw [List.all_map, Bool.eq_iff_iff, List.all_eq_true]
          simp
        show Q (.bl ((l.map fun c => decide (c ∈ S)).all id)) _
        rw [e2]
        exact q _ (same_upd nD)
    · exact ⟨_, _, _, _, false, rfl, .ty _, ty, hk, .no q⟩
end
end LK

/-! lists of texts, of numbers, of truth values, rows of numbers: compared -/
namespace LK
open PySem PySem.Spec PyProof.Rows L2 LamX
open scoped List
/-- data that == takes, of a small depth -/
structure Flat (n : Nat) (d : PyData) : Prop where
  lay : d.canLay0 = true
  dp : d.depth ≤ n
theorem flat_int (i : Int) : Flat 0 (.int i) := ⟨rfl, Nat.le_refl _⟩
theorem flat_bl (b : Bool) : Flat 0 (.bool b) := ⟨rfl, Nat.le_refl _⟩
theorem flat_str {l : List Nat} (h : ∀ c ∈ l, c < 0x110000) : Flat 0 (.str (T l)) := ⟨by
  show (T l).cps.all _ = true
  rw [← Array.all_toList, List.all_eq_true]
  exact fun c hc => decide_eq_true (h c hc), Nat.le_refl _⟩
theorem flat_all {n : Nat} : ∀ {ds : List PyData}, (∀ d ∈ ds, Flat n d) → PyData.canLayAll0 ds = true ∧ PyData.depthAll ds ≤ n
  | [], _ => ⟨rfl, Nat.zero_le _⟩
  | d :: ds, h => by
    obtain ⟨a, b⟩ := flat_all fun x hx => h x (List.mem_cons_of_mem _ hx)
    have c := h d (by simp)
    exact ⟨by rw [PyData.canLayAll0, c.lay, a]; rfl, by rw [PyData.depthAll]; exact Nat.max_le.mpr ⟨c.dp, b⟩⟩
theorem flat_list {n : Nat} {ds : List PyData} (h : ∀ d ∈ ds, Flat n d) : Flat (n + 1) (.list ds) := by
  obtain ⟨a, b⟩ := flat_all h
  exact ⟨by rw [PyData.canLay0]; exact a, by rw [PyData.depth]; omega⟩
theorem flat_tup {n : Nat} {ds : List PyData} (h : ∀ d ∈ ds, Flat n d) : Flat (n + 1) (.tuple ds) := by
  obtain ⟨a, b⟩ := flat_all h
  exact ⟨by rw [PyData.canLay0]; exact a, by rw [PyData.depth]; omega⟩
theorem Flat.shaped {n : Nat} {d : PyData} (h : Flat n d) (hn : n ≤ 64) : SeqAt.shaped d = true := by
  show (d.canLay0 && decide (d.depth ≤ 64)) = true
  rw [h.lay, decide_eq_true (Nat.le_trans h.dp hn)]; rfl
/-- equal data answers True -/
theorem eqv_all_iff {α : Type} {f : α → PyData} (hf : ∀ a b, PyData.eqv (f a) (f b) = true ↔ a = b) : ∀ {as bs : List α}, PyData.eqvAll (as.map f) (bs.map f) = true ↔ as = bs
  | [], [] => by simp [PyData.eqvAll]
  | [], _ :: _ => by simp [PyData.eqvAll]
  | _ :: _, [] => by simp [PyData.eqvAll]
  | a :: as, b :: bs => by
    show (PyData.eqv (f a) (f b) && PyData.eqvAll (as.map f) (bs.map f)) = true ↔ _
    rw [Bool.and_eq_true, hf, eqv_all_iff hf, List.cons.injEq]
abbrev encR (r : List Nat) : PyData := .list (r.map fun (g : Nat) => .int (g : Int))
abbrev encRs (R : List (List Nat)) : PyData := .list (R.map encR)
abbrev encB (k : List Bool) : PyData := .list (k.map .bool)
abbrev encTs (ls : List (List Nat)) : PyData := .list (ls.map encT)
theorem eqv_row {a b : List Nat} : PyData.eqv (encR a) (encR b) = true ↔ a = b := by
  show PyData.eqvAll _ _ = true ↔ _
  refine eqv_all_iff (f := fun (g : Nat) => PyData.int (g : Int)) fun x y => ?_
  show ((x : Int) == (y : Int)) = true ↔ _
  rw [beq_iff_eq]; omega
theorem eqv_rows {a b : List (List Nat)} : PyData.eqv (encRs a) (encRs b) = true ↔ a = b := by
  show PyData.eqvAll _ _ = true ↔ _
  exact eqv_all_iff (f := encR) fun x y => eqv_row
theorem eqv_kinds {a b : List Bool} : PyData.eqv (encB a) (encB b) = true ↔ a = b := by
  show PyData.eqvAll _ _ = true ↔ _
  refine eqv_all_iff (f := PyData.bool) fun x y => ?_
  show (x == y) = true ↔ _
  rw [beq_iff_eq]
theorem eqv_strs {a b : List (List Nat)} : PyData.eqv (encTs a) (encTs b) = true ↔ a = b := by
  show PyData.eqvAll _ _ = true ↔ _
  refine eqv_all_iff (f := encT) fun x y => ?_
  show (T x == T y) = true ↔ _
  rw [beq_iff_eq]
  exact ⟨T_inj, fun e => by rw [e]⟩
theorem flat_rows (R : List (List Nat)) : Flat 2 (encRs R) := flat_list fun d hd => by
  obtain ⟨r, _, rfl⟩ := List.mem_map.mp hd
  exact flat_list fun d hd => by
    obtain ⟨g, _, rfl⟩ := List.mem_map.mp hd
    exact flat_int _
theorem flat_kinds (k : List Bool) : Flat 1 (encB k) := flat_list fun d hd => by
  obtain ⟨g, _, rfl⟩ := List.mem_map.mp hd
  exact flat_bl _
theorem flat_strs {ls : List (List Nat)} (h : ∀ l ∈ ls, ∀ c ∈ l, c < 0x110000) : Flat 1 (encTs ls) := flat_list fun d hd => by
  obtain ⟨g, hg, rfl⟩ := List.mem_map.mp hd
  exact flat_str (h g hg)
section
variable {K : PySem.W.Frag} {H : Hp}
theorem dp_lst {a : Addr} {xs : List V} {ds : List PyData} (h : SqL K H a xs) (e : DpAll K H xs ds) : Dp K H (.ref a) (.list ds) := .lst h e
theorem dpAll_lets (l : List Nat) : DpAll K H (lets l) ((l.map fun c => [c]).map encT) := by
  induction l with
  | nil => exact .nil
  | cons c l ih => exact .cons (.str _) ih
end
end LK

namespace LK
open PySem PySem.Spec PyProof.Rows L2 LamX
open scoped List
section
variable {P : Program} {w : World} {K : PySem.W.Frag} {mg : Str → Option Value} {base : Heap}
theorem scAreLet : FnScope ["value"] ["value"] (defScope sAreLet) := ⟨rfl, rfl, rfl, by decide +kernel, rfl, by decide +kernel, by decide +kernel⟩
def spAreLet : Sp := fun vs H Q _ => ∃ S, vs = [.str (T S)] ∧ LetOk S ∧ ∀ H', Same H H' → Q (.bl true) H'
theorem ok_areLet {f : Addr} {fd : FuncData} {k : Nat} {t3 : Tok} (F : Fun K "are_letters" "are_letters" sAreLet f fd) (M : Mx mg) (gM : mg "MOST_LETTERS" = some (.int 3 t3)) (HT : Has P w K mg base k "is_text" ["value"] spIsText) :
    FnG P w K mg base CX0 (k + 1) f fd ["value"] spAreLet := by
  refine okG F scAreLet (fun vs H Q E h => ?_) (fun cdv A hA outer s H vs Q E hr h => ?_)
  · obtain ⟨i, rfl, _⟩ := h; rfl
  · obtain ⟨S, rfl, ok, q⟩ := h
    refine ⟨_, pss_cons (ps_ifU (PW.pt (pw_orU (pt_not (pt_u (pe_callH HT hA hr (by rfl) (pa_cons (uv 0) pa_nil)))) (pw_or1 (pt_not (pt_ch o_le o_le pe_int (pe_callB c_len (by rfl) M.len b_len (pa_cons (uv 0) pa_nil)) (pe_glob (v := .int 3) (by rfl) gM ⟨t3, rfl⟩))))))
        (pss_one (ps_ret pe_bl)) pss_nil)
      (pss_one (ps_ret (pe_cu (o_eq hr.units) (pe_callTy (c_listT rfl) (by rfl) M.list b_list (pa_cons (uv 0) pa_nil))
        (pe_callB (c_sortedS rfl hr.units) (by rfl) M.sorted b_sorted (pa_cons (pe_callTy (c_setT rfl) (by rfl) M.set b_set (pa_cons (uv 0) pa_nil)) pa_nil))))), ?_⟩
    have hi := ok.hi
    have lo := ok.lo
    refine ⟨S, rfl, ok.sm, by omega, fun H1 e1 => .no ⟨by show S.length ≤ sizeLine; rw [sizeLine_eq]; omega, ?_⟩⟩
    have c1 : decide ((1 : Int) ≤ (S.length : Int)) = true := decide_eq_true (by omega)
    have c2 : decide ((S.length : Int) ≤ 3) = true := decide_eq_true (by omega)
    refine ⟨fun _ => .nd (fun z => (z (by show (S.length : Int) ≤ 3; omega)).elim) fun _ => ?_, fun z => ?_⟩
    case refine_2 =>
      have z : decide ((1 : Int) ≤ (S.length : Int)) = false := z
      rw [c1] at z; cases z
    refine ⟨by show S.length ≤ sizeLine; rw [sizeLine_eq]; omega, fun p np => ?_⟩
    refine ⟨ok.up, ok.sm.asc, by show S.length ≤ 100; omega, fun p2 np2 => ?_⟩
    have n2 : p ≠ p2 := ne_of_none upd_same np2
    refine ⟨S, upd_same, ok.up, by omega, fun p3 np3 => ?_⟩
    have n3 : p ≠ p3 := fun z => by rw [← z, upd_ne n2, upd_same] at np3; cases np3
    have l1 : SqL K (upd (upd (upd H1 p (.lst (lets (cs (T S))))) p2 (SetS P w p2 (cs (T S)).reverse)) p3 (.lst (lets S))) p (lets S) := .inl (.inl (by rw [upd_ne n3, upd_ne n2]; exact upd_same))
    have l2 : SqL K (upd (upd (upd H1 p (.lst (lets (cs (T S))))) p2 (SetS P w p2 (cs (T S)).reverse)) p3 (.lst (lets S))) p3 (lets S) := .inl (.inl upd_same)
    have sh : SeqAt.shaped (encTs (S.map fun c => [c])) = true := (flat_strs fun l hl c hc => by
      obtain ⟨d, hd, rfl⟩ := List.mem_map.mp hl
      have := ok.sm.asc d hd
      simp at hc
      omega).shaped (by decide)
    refine ⟨_, _, dp_lst l1 (dpAll_lets S), dp_lst l2 (dpAll_lets S), sh, sh, ?_⟩
    have ev : PyData.eqv (encTs (S.map fun c => [c])) (encTs (S.map fun c => [c])) = true := eqv_strs.mpr rfl
    show Q (.bl (PyData.eqv (encTs (S.map fun c => [c])) (encTs (S.map fun c => [c])))) _
    rw [ev]
    refine q _ (e1.trans ?_)
    exact ((same_upd np).trans (same_upd np2)).trans (same_upd np3)
end
end LK

namespace LK
open PySem PySem.Spec PyProof.Rows L2 LamX
open scoped List
theorem ty_sq {K : PySem.W.Frag} {tp : Bool} {H : Hp} {a : Addr} {xs : List V} (h : SqB K tp H a xs) : TyX K H (.ref a) (.type (if tp then "tuple" else "list")) := by
  cases tp
  · rcases h with (h | ⟨o, h⟩) | ⟨o, is, n, h1, h2, h3, _⟩
    · exact .base (.lst h)
    · exact .base (.frz h)
    · exact .kList h1 h2
  · rcases h with (h | ⟨o, h⟩) | ⟨o, is, n, h1, h2, h3, _⟩
    · exact .base (.tup h)
    · exact .fTuple h
    · exact .kTuple h1 h2
theorem SqB.ext {K : PySem.W.Frag} {tp : Bool} {H H' : Hp} {a : Addr} {xs : List V} (h : SqB K tp H a xs) (e : Same H H') : SqB K tp H' a xs := by
  cases tp
  · rcases h with (h | ⟨o, h⟩) | h
    · exact .inl (.inl (e _ _ h))
    · exact .inl (.inr ⟨o, e _ _ h⟩)
    · exact .inr h
  · rcases h with (h | ⟨o, h⟩) | h
    · exact .inl (.inl (e _ _ h))
    · exact .inl (.inr ⟨o, e _ _ h⟩)
    · exact .inr h
theorem SqB.or {K : PySem.W.Frag} {tp : Bool} {H : Hp} {a : Addr} {xs : List V} (h : SqB K tp H a xs) : SqL K H a xs ∨ SqT K H a xs := by
  cases tp
  · exact .inl h
  · exact .inr h
section
variable {P : Program} {w : World} {K : PySem.W.Frag} {mg : Str → Option Value} {base : Heap}
theorem scNeedText : FnScope ["value", "letters"] ["value", "letters"] (defScope sNeedText) := ⟨rfl, rfl, rfl, by decide +kernel, rfl, by decide +kernel, by decide +kernel⟩
def spNeedText : Sp := fun vs H Q _ => ∃ S l, vs = [.str (T l), .str (T S)] ∧ (∀ c ∈ l, c ∈ S) ∧ l.length ≤ 1000000 ∧ ∀ H', Same H H' → Q .non H'
theorem ok_needText {f : Addr} {fd : FuncData} {k : Nat} (F : Fun K "need_text" "need_text" sNeedText f fd) (HO : Has P w K mg base k "is_over" ["value", "letters"] (spIsOver K)) :
    FnG P w K mg base CX0 (k + 1) f fd ["value", "letters"] spNeedText := by
  refine okG F scNeedText (fun vs H Q E h => ?_) (fun cdv A hA outer s H vs Q E hr h => ?_)
  · obtain ⟨S, l, rfl, _⟩ := h; rfl
  · obtain ⟨S, l, rfl, hs, hl, q⟩ := h
    refine ⟨_, pss_one (ps_ifU (pt_not (pt_u (pe_callH HO hA hr (by rfl) (pa_cons (uv 0) (pa_cons (uv 1) pa_nil))))) (pss_one ps_never) pss_nil), ?_⟩
    refine ⟨S, _, rfl, .inl ⟨l, rfl, hl, fun H' e => ?_⟩⟩
    exact .nd (fun z => (z hs).elim) fun _ => q H' e
theorem scIsPlace : FnScope ["value", "many"] ["value", "many"] (defScope sIsPlace) := ⟨rfl, rfl, rfl, by decide +kernel, rfl, by decide +kernel, by decide +kernel⟩
def spIsPlace : Sp := fun vs H Q _ => ∃ (g n : Nat), vs = [.int g, .int n] ∧ g < n ∧ Q (.bl true) H
theorem ok_isPlace {f : Addr} {fd : FuncData} {k : Nat} (F : Fun K "is_place" "is_place" sIsPlace f fd) (HI : Has P w K mg base k "is_integer" ["value"] spIsInt) :
    FnG P w K mg base CX0 (k + 1) f fd ["value", "many"] spIsPlace := by
  refine okG F scIsPlace (fun vs H Q E h => ?_) (fun cdv A hA outer s H vs Q E hr h => ?_)
  · obtain ⟨g, n, rfl, _⟩ := h; rfl
  · obtain ⟨g, n, rfl, hg, q⟩ := h
    refine ⟨_, pss_one (ps_ret (pe_andU (pe_callH HI hA hr (by rfl) (pa_cons (uv 0) pa_nil)) (pe_one (pe_ch o_le o_lt pe_int (uv 0) (uv 1))))), ?_⟩
    refine ⟨_, rfl, .yes ⟨fun _ => ?_, fun z => ?_⟩⟩
    · have e : decide ((g : Int) < (n : Int)) = true := decide_eq_true (by omega)
      show Q (.bl (decide ((g : Int) < (n : Int)))) H
      rw [e]; exact q
    · have z : decide ((0 : Int) ≤ (g : Int)) = false := z
      rw [decide_eq_true (by omega)] at z; cases z
theorem scIsRow : FnScope ["value", "many_letters", "many_places", "goal"] ["value", "many_letters", "many_places"] (defScope sIsRow) := ⟨rfl, rfl, rfl, by decide +kernel, rfl, by decide +kernel, by decide +kernel⟩
def spIsRow (K : PySem.W.Frag) : Sp := fun vs H Q _ => ∃ (a : Addr) (n m : Nat) (row : List Nat) (tp : Bool), vs = [.ref a, .int m, .int n] ∧ SqB K tp H a (iv row) ∧ row.length = m ∧ m ≤ 100 ∧ (∀ g ∈ row, g < n) ∧ ∀ H', Same H H' → Q (.bl true) H'
theorem ok_isRow {f : Addr} {fd : FuncData} {k : Nat} (F : Fun K "_is_row" "_is_row" sIsRow f fd) (M : Mx mg) (HP : Has P w K mg base k "is_place" ["value", "many"] spIsPlace) :
    FnG P w K mg base CX0 (k + 1) f fd ["value", "many_letters", "many_places"] (spIsRow K) := by
  refine okG F scIsRow (fun vs H Q E h => ?_) (fun cdv A hA outer s H vs Q E hr h => ?_)
  · obtain ⟨a, n, m, row, tp, rfl, _⟩ := h; rfl
  · obtain ⟨a, n, m, row, tp, rfl, hs, hm, hm2, hg, q⟩ := h
    refine ⟨_, pss_cons (ps_ifU (PW.pt (pw_orU (pt_not (pt_u (pe_callB call_isiT (by rfl) M.isi b_isi (pa_cons (uv 0) (pa_cons (pe_tup (pa_cons (pe_bltn (by rfl) M.list b_list (v := .ty "list") (by rfl)) (pa_cons (pe_bltn (by rfl) M.tuple b_tuple (v := .ty "tuple") (by rfl)) pa_nil))) pa_nil)))))
          (pw_or1 (pt_cu (o_ne hr.units) (pe_callB c_len (by rfl) M.len b_len (pa_cons (uv 0) pa_nil)) (uv 1)))))
        (pss_one (ps_ret pe_bl)) pss_nil)
      (pss_one (ps_ret (pe_callB (c_all rfl) (by rfl) M.all b_all (pa_cons (pe_lc (own := [("goal", 3)]) (g := gName 3) (tt := tYes) rfl scIsRow.nd (pi_sq (uv 0)) (blkOk_by (N := ["value", "many_letters", "many_places", "goal"]) (sc := defScope sIsRow) (by decide +kernel))
        (fun _ _ _ _ _ => pg_name (i := 3) scIsRow.nd rfl (Or.inl rfl)) (fun _ _ _ _ _ => pts_nil)
        (fun _ _ _ _ _ => pe_callH HP hA hr (by rfl) (pa_cons (uv 3) (pa_cons (uv 2) pa_nil)))) pa_nil)))), ?_⟩
    refine ⟨by show 2 ≤ sizeLine; decide, fun p np => ?_⟩
    have hs1 : SqB K tp (upd H p (.tup [.ty "list", .ty "tuple"])) a (iv row) := hs.ext (same_upd np)
    refine ⟨_, p, _, _, [.type "list", .type "tuple"], true, rfl, upd_same, .cons (.ty _) (.cons (.ty _) .nil), ty_sq hs1, ?_, .no ?_⟩
    · cases tp
      · rfl
      · rfl
    refine .inl ⟨iv row, hs1.or, ?_⟩
    have e : decide (((iv row).length : Int) = (m : Int)) = true := decide_eq_true (by rw [List.length_map]; omega)
    show Br (!decide (((iv row).length : Int) = (m : Int))) _ _
    rw [e]
    refine .no ?_
    dsimp only [tNext, tRet, tCB, tCons]
    refine lc_sq (K := K) (t := uVar 0) (a := a) (xs := iv row) (tp := tp) (H1 := upd H p (.tup [.ty "list", .ty "tuple"])) (by exact fun _ h => h) hs1 (fun D pre acc H1 => H1 = upd (upd H p (.tup [.ty "list", .ty "tuple"])) D (.lst acc) ∧ acc = (pre.map fun _ => true).map V.bl ∧ upd H p (.tup [.ty "list", .ty "tuple"]) D = none)
      (fun D pre acc H1 r => by obtain ⟨rfl, _, n⟩ := r; exact hs1.ext (same_upd n)) (fun D nD => ⟨rfl, rfl, nD⟩) (fun D nD pre acc x suf H1 e r => ?_) (fun D nD acc H1 r => ?_)
    · obtain ⟨rfl, rfl, _⟩ := r
      obtain ⟨p1, q1, e1, e2, e3⟩ := List.map_eq_append_iff.mp e
      obtain ⟨g, q2, e4, e5, e6⟩ := List.map_eq_cons_iff.mp e3
      subst e5
      refine ⟨rfl, g, n, rfl, hg g (by rw [e1, e4]; simp), _, upd_same, ?_, _, upd_upd, ?_, nD⟩
      · have l1 : pre.length < (iv row).length := by rw [e]; simp
        rw [List.length_map] at l1
        rw [List.length_map, List.length_map]
        have := sizeLine_eq; omega
      · rw [List.map_append, List.map_append]; rfl
    · obtain ⟨rfl, rfl, _⟩ := r
      refine ⟨_, .inl (.inl upd_same), ?_⟩
      have e : (((iv row).map fun _ => true).all id) = true := by simp
      show Q (.bl (((iv row).map fun _ => true).all id)) _
      rw [e]
      exact q _ ((same_upd np).trans (same_upd nD))
end
end LK

namespace LK
open PySem PySem.Spec PyProof.Rows L2 LamX ClX
open scoped List
/-- rows as they are passed: a list or tuple of lists or tuples -/
def RowsAt (K : PySem.W.Frag) (H : Hp) (a : Addr) (R : Rows) : Prop := ∃ (tp : Bool) (rs : List Addr), SqB K tp H a (rs.map V.ref) ∧ rs.length = R.length ∧ ∀ i p, rs[i]? = some p → ∃ t2, SqB K t2 H p (iv (gls R i))
def KindsAt (K : PySem.W.Frag) (H : Hp) (a : Addr) (Kd : List Bool) : Prop := ∃ tp : Bool, SqB K tp H a (Kd.map V.bl)
theorem RowsAt.ext {K : PySem.W.Frag} {H H' : Hp} {a : Addr} {R : Rows} (h : RowsAt K H a R) (e : Same H H') : RowsAt K H' a R := by
  obtain ⟨tp, rs, h1, h2, h3⟩ := h
  exact ⟨tp, rs, h1.ext e, h2, fun i p hp => by
    obtain ⟨t2, h⟩ := h3 i p hp
    exact ⟨t2, h.ext e⟩⟩
theorem KindsAt.ext {K : PySem.W.Frag} {H H' : Hp} {a : Addr} {Kd : List Bool} (h : KindsAt K H a Kd) (e : Same H H') : KindsAt K H' a Kd := by
  obtain ⟨tp, h⟩ := h; exact ⟨tp, h.ext e⟩
/-- a right sheet -/
structure ShOk (S : List Nat) (R : Rows) (Kd : List Bool) : Prop where
  let_ : LetOk S
  rows : RowsOk R S.length
  lo : 1 ≤ R.length
  hi : R.length ≤ 40
  kinds : Kd.length = R.length
section
variable {P : Program} {w : World} {K : PySem.W.Frag} {mg : Str → Option Value} {base : Heap}
theorem scNeedParts : FnScope ["letters", "rows", "kinds", "position", "row", "kind"] ["letters", "rows", "kinds"] (defScope sNeedParts) := ⟨rfl, rfl, rfl, by decide +kernel, rfl, by decide +kernel, by decide +kernel⟩
def spNeedParts (K : PySem.W.Frag) : Sp := fun vs H Q _ => ∃ (r k : Addr) (S : List Nat) (R : Rows) (Kd : List Bool), vs = [.str (T S), .ref r, .ref k] ∧ ShOk S R Kd ∧ RowsAt K H r R ∧ KindsAt K H k Kd ∧ ∀ H', Same H H' → Q .non H'
theorem ok_needParts {f CM : Addr} {mc u : Value} {fd : FuncData} {k : Nat} (F : Fun K "_need_parts" "_need_parts" sNeedParts f fd) (M : Mx mg) (HL : Has P w K mg base k "are_letters" ["value"] spAreLet)
    (HR : Has P w K mg base k "_is_row" ["value", "many_letters", "many_places"] (spIsRow K)) (gM : mg "Machine" = some (.ref CM)) (cr : CRead K CM mc) (cv : CVal K CM mc "MOST_PLACES" (.int 40) u) :
    FnG P w K mg base CX0 (k + 1) f fd ["letters", "rows", "kinds"] (spNeedParts K) := by
  refine okG F scNeedParts (fun vs H Q E h => ?_) (fun cdv A hA outer s H vs Q E hr h => ?_)
  · obtain ⟨r, k, S, R, Kd, rfl, _⟩ := h; rfl
  · obtain ⟨r, k, S, R, Kd, rfl, ok, hR, hK, q⟩ := h
    have nd := scNeedParts.nd
    refine ⟨_, pss_cons (ps_ifU (pt_not (pt_u (pe_callH HL hA hr (by rfl) (pa_cons (uv 0) pa_nil)))) (pss_one ps_never) pss_nil)
      (pss_cons (ps_ifU (PW.pt (pw_orU (pt_not (pt_u (pe_callB call_isiT (by rfl) M.isi b_isi (pa_cons (uv 1) (pa_cons (pe_tup (pa_cons (pe_bltn (by rfl) M.list b_list (v := .ty "list") (by rfl)) (pa_cons (pe_bltn (by rfl) M.tuple b_tuple (v := .ty "tuple") (by rfl)) pa_nil))) pa_nil)))))
          (pw_or1 (pt_cu (o_eq hr.units) (pe_callB c_len (by rfl) M.len b_len (pa_cons (uv 1) pa_nil)) pe_int)))) (pss_one ps_never) pss_nil)
      (pss_cons (ps_for PassesOwn.never rfl (pi_enumB (by rfl) M.enumerate (pa_cons (uv 1) pa_nil)) (pg_tup rfl (pgs_cons (pg_name (i := 3) nd rfl (.inl rfl)) (pgs_cons (pg_name (i := 4) nd rfl (.inl rfl)) pgs_nil)))
        (pss_one (ps_ifU (pt_not (pt_u (pe_callH HR hA hr (by rfl) (pa_cons (uv 4) (pa_cons (pe_callB c_len (by rfl) M.len b_len (pa_cons (uv 0) pa_nil)) (pa_cons (pe_callB c_len (by rfl) M.len b_len (pa_cons (uv 1) pa_nil)) pa_nil)))))) (pss_one ps_never) pss_nil)))
      (pss_cons (ps_ifU (PW.pt (pw_orU (pt_not (pt_u (pe_callB call_isiT (by rfl) M.isi b_isi (pa_cons (uv 2) (pa_cons (pe_tup (pa_cons (pe_bltn (by rfl) M.list b_list (v := .ty "list") (by rfl)) (pa_cons (pe_bltn (by rfl) M.tuple b_tuple (v := .ty "tuple") (by rfl)) pa_nil))) pa_nil)))))
          (pw_or1 (pt_cu (o_ne hr.units) (pe_callB c_len (by rfl) M.len b_len (pa_cons (uv 2) pa_nil)) (pe_callB c_len (by rfl) M.len b_len (pa_cons (uv 1) pa_nil)))))) (pss_one ps_never) pss_nil)
      (pss_cons (ps_for PassesOwn.never rfl (pi_enumB (by rfl) M.enumerate (pa_cons (uv 2) pa_nil)) (pg_tup rfl (pgs_cons (pg_name (i := 3) nd rfl (.inl rfl)) (pgs_cons (pg_name (i := 5) nd rfl (.inl rfl)) pgs_nil)))
        (pss_one (ps_ifU (pt_not (pt_u (pe_callB call_isi (by rfl) M.isi b_isi (pa_cons (uv 5) (pa_cons (pe_bltn (by rfl) M.bool b_bool (v := .ty "bool") (by rfl)) pa_nil))))) (pss_one ps_never) pss_nil)))
      (pss_one (ps_ifU (pt_cu o_gt (pe_callB c_len (by rfl) M.len b_len (pa_cons (uv 1) pa_nil)) (pe_cval (pe_glob (v := .ref CM) (by rfl) gM rfl))) (pss_one ps_never) pss_nil)))))), ?_⟩
    have lo := ok.lo
    have hi := ok.hi
    have sl := sizeLine_eq
    refine ⟨S, rfl, ok.let_, fun H1 e1 => .no ?_⟩
    refine ⟨by show 2 ≤ sizeLine; decide, fun p np => ?_⟩
    have e2 := e1.trans (same_upd (o := .tup [.ty "list", .ty "tuple"]) np)
    obtain ⟨tp, rs, hs, hl, hrow⟩ := hR.ext e2
    refine ⟨_, p, _, _, [.type "list", .type "tuple"], true, rfl, upd_same, .cons (.ty _) (.cons (.ty _) .nil), ty_sq hs, by cases tp <;> rfl, .no ?_⟩
    refine .inl ⟨rs.map V.ref, hs.or, ?_⟩
    have n0 : decide (((rs.map V.ref).length : Int) = 0) = false := decide_eq_false (by rw [List.length_map]; omega)
    show Br (decide (((rs.map V.ref).length : Int) = 0)) _ _
    rw [n0]
    refine .no ?_
    dsimp only [tNext, tSeq]
    have look : ∀ {H2 : Hp}, Same (upd H1 p (.tup [.ty "list", .ty "tuple"])) H2 → SqB K tp H2 r (rs.map V.ref) ∧ ∀ i q, rs[i]? = some q → ∃ t2, SqB K t2 H2 q (iv (gls R i)) := fun e => ⟨hs.ext e, fun i q hq => by
      obtain ⟨t2, h⟩ := hrow i q hq
      exact ⟨t2, h.ext e⟩⟩
    generalize upd H1 p (.tup [.ty "list", .ty "tuple"]) = Ha at e2 hs hrow look
    refine for_enB (K := K) (tp := tp) (a := r) (xs := rs.map V.ref) (H1 := Ha) (by exact fun _ h => h) hs (fun i σ H2 => Same Ha H2 ∧ ∃ y3 y4, σ = [some (.str (T S)), some (.ref r), some (.ref k), y3, y4, none]) (fun i σ H2 iv => (look iv.1).1) ⟨Same.refl _, none, none, rfl⟩ (fun i x p2 σ H2 hx iv np2 => ?_) (fun σ H2 iv => ?_)
    · obtain ⟨e3, y3, y4, rfl⟩ := iv
      rw [List.getElem?_map] at hx
      obtain ⟨q2, hq2, rfl⟩ := Option.map_eq_some_iff.mp hx
      have e4 := e3.trans (same_upd (o := .tup [.int (i : Nat), .ref q2]) np2)
      obtain ⟨hs3, hrow3⟩ := look e4
      obtain ⟨t2, hq3⟩ := hrow3 i q2 hq2
      have li : i < R.length := by
        have := (List.getElem?_eq_some_iff.mp hq2).1
        omega
      refine ⟨p2, _, rfl, .inl (.inl upd_same), rfl, _, _, rfl, _, _, rfl, rfl, ?_⟩
      refine ⟨by show S.length ≤ sizeLine; have := ok.let_.hi; omega, .inl ⟨rs.map V.ref, hs3.or, ?_⟩⟩
      have e5 : (rs.map V.ref).length = R.length := by rw [List.length_map, hl]
      refine ⟨q2, (rs.map V.ref).length, S.length, gls R i, t2, rfl, hq3, gls_len ok.rows li, by have := ok.let_.hi; omega, fun g hg => by rw [e5]; exact gls_lt ok.rows hg, fun H3 e6 => .no ?_⟩
      exact ⟨e4.trans e6, _, _, rfl⟩
    obtain ⟨e3, y3, y4, rfl⟩ := iv
    refine ⟨by show 2 ≤ sizeLine; decide, fun p2 np2 => ?_⟩
    have e4 := e3.trans (same_upd (o := .tup [.ty "list", .ty "tuple"]) np2)
    obtain ⟨tk, hk⟩ := hK.ext (e2.trans e4)
    refine ⟨_, p2, _, _, [.type "list", .type "tuple"], true, rfl, upd_same, .cons (.ty _) (.cons (.ty _) .nil), ty_sq hk, by cases tk <;> rfl, .no ?_⟩
    have e5 : (rs.map V.ref).length = R.length := by rw [List.length_map, hl]
    refine .inl ⟨Kd.map V.bl, hk.or, .inl ⟨rs.map V.ref, (look e4).1.or, ?_⟩⟩
    have n1 : decide (((Kd.map V.bl).length : Int) = ((rs.map V.ref).length : Int)) = true := decide_eq_true (by rw [e5, List.length_map, ok.kinds])
    show Br (!decide (((Kd.map V.bl).length : Int) = ((rs.map V.ref).length : Int))) _ _
    rw [n1]
    refine .no ?_
    generalize upd H2 p2 (.tup [.ty "list", .ty "tuple"]) = Hb at e4 hk
    dsimp only [tNext, tSeq]
    refine for_enB (K := K) (tp := tk) (a := k) (xs := Kd.map V.bl) (H1 := Hb) (by exact fun _ h => h) hk (fun i σ H2 => Same Hb H2 ∧ ∃ y3 y4 y5, σ = [some (.str (T S)), some (.ref r), some (.ref k), y3, y4, y5]) (fun i σ H2 iv => hk.ext iv.1) ⟨Same.refl _, _, _, _, rfl⟩ (fun i x p3 σ H3 hx iv np3 => ?_) (fun σ H3 iv => ?_)
    · obtain ⟨e6, y3, y4, y5, rfl⟩ := iv
      rw [List.getElem?_map] at hx
      obtain ⟨b, _, rfl⟩ := Option.map_eq_some_iff.mp hx
      refine ⟨p3, _, rfl, .inl (.inl upd_same), rfl, _, _, rfl, _, _, rfl, rfl, ?_⟩
      refine ⟨_, _, _, _, true, rfl, .ty _, .base (.bl _), rfl, .no ?_⟩
      exact ⟨e6.trans (same_upd np3), _, _, _, rfl⟩
    obtain ⟨e6, y3, y4, y5, rfl⟩ := iv
    refine .inl ⟨rs.map V.ref, (look (e4.trans e6)).1.or, ?_⟩
    refine ⟨CM, mc, _, u, rfl, cr, cv, ?_⟩
    have n2 : decide ((40 : Int) < ((rs.map V.ref).length : Int)) = false := decide_eq_false (by rw [e5]; omega)
    show Br (decide ((40 : Int) < ((rs.map V.ref).length : Int))) _ _
    rw [n2]
    exact .no (q H3 (e2.trans (e4.trans e6)))
end
end LK

/-! dicts with whole numbers as keys -/
namespace LK
open PySem PySem.Spec PyProof.Rows L2 LamX
open scoped List
abbrev kI (g : Nat) : Key := .inl (g : Int)
abbrev kmp (ps : List (Nat × V)) : List (Key × V) := ps.map fun p => (kI p.1, p.2)
theorem kI_iff {a b : Nat} : kI a = kI b ↔ a = b := ⟨fun h => by have := Sum.inl.inj h; omega, fun h => h ▸ rfl⟩
theorem val_kmp (g : Nat) : ∀ ps : List (Nat × V), valV (kmp ps) (kI g) = ps.lookup g
  | [] => rfl
  | (a, v) :: ps => by
    have ih := val_kmp g ps
    by_cases e : a = g
    · subst e
      rw [List.lookup_cons_self]
      exact valV_pos (p := (kI a, v)) rfl
    · rw [List.lookup_cons]
      have : (g == a) = false := by simpa using fun z => e z.symm
      rw [this]
      exact (valV_neg (p := (kI a, v)) fun z => e (kI_iff.mp z)).trans ih
theorem look_none {ps : List (Nat × V)} {g : Nat} : ps.lookup g = none ↔ g ∉ ps.map (·.1) := by
  induction ps with
  | nil => simp
  | cons p ps ih =>
    rw [List.lookup_cons, List.map_cons, List.mem_cons]
    by_cases e : g = p.1
    · subst e; simp
    · have : (g == p.1) = false := by simpa using e
      rw [this]
      simp [ih, e]
theorem look_isSome {ps : List (Nat × V)} {g : Nat} : (ps.lookup g).isSome = decide (g ∈ ps.map (·.1)) := by
  by_cases h : g ∈ ps.map (·.1)
  · rw [decide_eq_true h]
    cases e : ps.lookup g with
    | none => exact absurd h (look_none.mp e)
    | some v => rfl
  · rw [decide_eq_false h, look_none.mpr h]; rfl
theorem put_kmp {ps : List (Nat × V)} {g : Nat} (v : V) (h : g ∉ ps.map (·.1)) : putK (kmp ps) (kI g) v = kmp (ps ++ [(g, v)]) := by
  rw [putK_new v (by rw [val_kmp]; exact look_none.mpr h), kmp, kmp, List.map_append]; rfl
/-- places by the numbers under which they were met -/
def nums (f : List Nat) : List (Nat × V) := f.zipIdx.map fun p => (p.1, V.int (p.2 : Nat))
theorem nums_keys (f : List Nat) : (nums f).map (·.1) = f := by
  unfold nums
  rw [List.map_map]
  show f.zipIdx.map Prod.fst = f
  exact List.zipIdx_map_fst 0 f
theorem nums_len (f : List Nat) : (nums f).length = f.length := by simp [nums]
theorem nums_app (f : List Nat) (g : Nat) : nums (f ++ [g]) = nums f ++ [(g, V.int (f.length : Nat))] := by
  unfold nums
  rw [List.zipIdx_append, List.map_append]
  simp
theorem nums_look {f : List Nat} {g : Nat} (nd : f.Nodup) (h : g ∈ f) : (nums f).lookup g = some (.int (f.idxOf g : Nat)) := by
  have key : ∀ (f : List Nat) (k : Nat), g ∈ f → ((f.zipIdx k).map fun p => (p.1, V.int (p.2 : Nat))).lookup g = some (.int ((k + f.idxOf g : Nat) : Int)) := by
    intro f
    induction f with
    | nil => intro k h; cases h
    | cons a f ih =>
      intro k h
      rw [List.zipIdx_cons, List.map_cons]
      by_cases e : g = a
      · subst e; rw [List.lookup_cons_self]; simp
      · rw [List.lookup_cons]
        have : (g == a) = false := by simpa using e
        rw [this]
        have hm : g ∈ f := (List.mem_cons.mp h).resolve_left e
        have := ih (k + 1) hm
        have e2 : (a :: f).idxOf g = f.idxOf g + 1 := by
          rw [List.idxOf_cons]
          have : (a == g) = false := by simpa using fun z => e z.symm
          rw [this]; rfl
        rw [this, e2]
        show some (V.int ((k + 1 + f.idxOf g : Nat) : Int)) = some (V.int ((k + (f.idxOf g + 1) : Nat) : Int))
        rw [show k + 1 + f.idxOf g = k + (f.idxOf g + 1) by omega]
  have := key f 0 h
  rw [Nat.zero_add] at this
  exact this
/-- a loop with while, its turns numbered down -/
theorem wh {c : TT} {tb : TS} {D : Ends} {σ : L2.St} {H : Hp} (W : Nat → L2.St → Hp → Prop) {m0 : Nat} (h0 : W m0 σ H)
    (hs : ∀ m σ H, W m σ H → c σ H fun b H1 => if b = true then tb { D with nx := fun σ' H' => ∃ m', m' < m ∧ W m' σ' H', ct := fun σ' H' => ∃ m', m' < m ∧ W m' σ' H', bk := D.nx } σ H1 else D.nx σ H1)
    (mono : ∀ σ H Q Q', (∀ b H1, Q b H1 → Q' b H1) → c σ H Q → c σ H Q') : tWhile c tb D σ H := by
  refine ⟨W, ⟨m0, h0⟩, fun m σ H w => mono σ H _ _ (fun b H1 q => ?_) (hs m σ H w)⟩
  cases b with
  | true => exact ⟨_, fun σ' H' z => z, q⟩
  | false => exact q
end LK

namespace LK
open PySem PySem.Spec PyProof.Rows L2 LamX ClX
open scoped List
theorem iv_app (a b : List Nat) : iv (a ++ b) = iv a ++ iv b := List.map_append
theorem iv_inj {a b : List Nat} (h : iv a = iv b) : a = b := (List.map_inj_right fun x y z => by have := V.int.inj z; omega).mp h
theorem adds_app {f gs : List Nat} {g : Nat} : adds f (gs ++ [g]) = add1 (adds f gs) g := by unfold adds; rw [List.foldl_append]; rfl
theorem adds_len {R : Rows} {m s i p : Nat} {gs rest : List Nat} (ok : RowsOk R m) (hs : s < R.length) (e : gls R p = gs ++ rest) : (adds (fnd R s i) gs).length ≤ R.length :=
  len_le_of_lt (nd_adds (fnd_nd i)) fun x hx => by
    rcases mem_adds.mp hx with h | h
    · exact fnd_lt ok hs i x h
    · exact gls_lt ok (p := p) (by rw [e]; simp [h])
section
variable {P : Program} {w : World} {K : PySem.W.Frag} {mg : Str → Option Value} {base : Heap}
theorem scMetFrom : FnScope ["rows", "start", "numbers", "row", "longer", "place", "goal"] ["rows", "start"] (defScope sMetFrom) := ⟨rfl, rfl, rfl, by decide +kernel, rfl, by decide +kernel, by decide +kernel⟩
def spMetFrom (K : PySem.W.Frag) : Sp := fun vs H Q _ => ∃ (r : Addr) (s m : Nat) (R : Rows), vs = [.ref r, .int s] ∧ RowsAt K H r R ∧ RowsOk R m ∧ s < R.length ∧ R.length ≤ 1000 ∧
  ∀ H' D, Same H H' → H D = none → H' D = some (.dK (kmp (nums (met R s)))) → Q (.ref D) H'
theorem ok_metFrom {f : Addr} {fd : FuncData} {k : Nat} (F : Fun K "_met_from" "_met_from" sMetFrom f fd) (M : Mx mg) : FnG P w K mg base CX0 (k + 1) f fd ["rows", "start"] (spMetFrom K) := by
  refine okG F scMetFrom (fun vs H Q E h => ?_) (fun cdv A hA outer s H vs Q E hr h => ?_)
  · obtain ⟨r, s0, m, R, rfl, _⟩ := h; rfl
  · obtain ⟨r, s0, m, R, rfl, hR, ok, hs, hn, q⟩ := h
    have nd := scMetFrom.nd
    have sl := sizeLine_eq
    refine ⟨_, pss_cons (ps_set (i := 2) nd rfl (.inl rfl) (pe_disp (pps_cons (uv 1) pe_int pps_nil) (by rfl) (by rfl) (fun z => by cases z) (by decide)))
      (pss_cons (ps_set (i := 3) nd rfl (.inl rfl) (pe_lst (pa_cons (uv 1) pa_nil)))
      (pss_cons (ps_while PassesOwn.never (pt_truth (uv 3) (by intro _; rfl))
        (pss_cons (ps_set (i := 4) nd rfl (.inl rfl) (pe_lst pa_nil))
        (pss_cons (ps_for PassesOwn.never rfl (pi_list (uv 3)) (pg_name (i := 5) nd rfl (.inl rfl))
          (pss_one (ps_for PassesOwn.never rfl (pi_sq (pe_ixU (uv 0) (uv 5))) (pg_name (i := 6) nd rfl (.inl rfl))
            (pss_one (ps_ifU (pt_cmp (pc_dnotin (Room.u1 hr) (uv 6) (uv 2)))
              (pss_cons (ps_dput (Room.u1 hr) (uv 2) (uv 6) (pe_callB c_len (by rfl) M.len b_len (pa_cons (uv 2) pa_nil)) rfl)
              (pss_one (ps_expr (pe_bm PySem.F.plainAttrs_list PySem.F.slot_list_append PySem.F.type_list_append mt_append (uv 4) (pa_cons (uv 6) pa_nil))))) pss_nil)))))
        (pss_one (ps_set (i := 3) nd rfl (.inl rfl) (uv 4))))))
      (pss_one (ps_ret (uv 2))))), ?_⟩
    obtain ⟨tp, rs, hs', hl', hrow'⟩ := hR
    intro D nD
    refine ⟨upd_same, [(kI s0, .int 0)], rfl, by show 1 ≤ 15; omega, ?_⟩
    refine ⟨by show 1 ≤ sizeLine; omega, fun L nL => ?_⟩
    have eD : upd (upd H D (.dK [])) D (.dK (mergeK [] [(kI s0, V.int 0)])) = upd H D (.dK (kmp (nums (fnd R s0 0)))) := by rw [upd_upd]; rfl
    rw [eD] at nL ⊢
    have hLD : L ≠ D := fun e => by rw [e, upd_same] at nL; cases nL
    have sD : Same H (upd H D (.dK (kmp (nums (fnd R s0 0))))) := same_upd nD
    have nLH : H L = none := Same.free sD nL
    dsimp only [tSeq, tAsg, gName]
    show tWhile _ _ _ _ _
    refine wh (m0 := R.length) (fun mm σ H2 => ∃ i L y4 y5 y6, mm = R.length - i ∧ i ≤ (fnd R s0 i).length ∧ Same H H2 ∧ H2 D = some (.dK (kmp (nums (fnd R s0 i)))) ∧ H2 L = some (.lst (iv ((fnd R s0 i).drop i))) ∧ H L = none ∧ L ≠ D ∧
      σ = [some (.ref r), some (.int s0), some (.ref D), some (.ref L), y4, y5, y6]) ⟨0, L, none, none, none, rfl, Nat.zero_le _, same_upd2 sD nLH, by rw [upd_ne hLD.symm]; exact upd_same, upd_same, nLH, hLD, rfl⟩ (fun mm σ H2 iv2 => ?_) (fun σ H Q Q' hm h => ?_)
    case refine_2 =>
      simp only [uVar] at h ⊢
      split at h
      · obtain ⟨kk, a, b⟩ := h; exact ⟨kk, a, hm _ _ b⟩
      · exact h.elim
    clear nL hLD sD nLH eD L
    obtain ⟨i, L, y4, y5, y6, rfl, hi, e2, hD, hL, nL, hLD, rfl⟩ := iv2
    have hf := fnd_len ok hs i
    generalize hfe : fnd R s0 i = fi at hi hD hL hf
    by_cases hlt : fi.length ≤ i
    · have e3 : fi.drop i = [] := List.drop_eq_nil_iff.mpr hlt
      refine ⟨false, .inl ⟨_, .inl (.inl hL), by rw [e3]; rfl⟩, ?_⟩
      have em : fi = met R s0 := by rw [← hfe]; exact fnd_met ok hs (by rw [hfe]; exact hlt)
      rw [em] at hD
      show (if false = true then _ else _)
      rw [if_neg Bool.false_ne_true]
      exact q _ _ e2 nD hD
    have e3 : (!(iv (fi.drop i)).isEmpty) = true := by
      have : fi.drop i ≠ [] := fun z => hlt (List.drop_eq_nil_iff.mp z)
      cases h : fi.drop i with
      | nil => exact absurd h this
      | cons _ _ => rfl
    refine ⟨true, .inl ⟨_, .inl (.inl hL), e3.symm⟩, ?_⟩
    show (if true = true then _ else _)
    rw [if_pos rfl]
    refine ⟨by show 0 ≤ sizeLine; omega, fun B nB => ?_⟩
    have hBD : B ≠ D := fun e => by rw [e, hD] at nB; cases nB
    have hBL : B ≠ L := fun e => by rw [e, hL] at nB; cases nB
    have nBH : H B = none := Same.free e2 nB
    dsimp only [tNext, tSeq]
    refine for_list (K := K) (a := L) (xs := iv (fi.drop i)) (H1 := upd H2 B (.lst [])) (by exact fun _ h => h) (.inl (.inl (by rw [upd_ne hBL.symm]; exact hL))) (fun pre σ H3 => ∃ j y5 y6, pre = iv ((fi.drop i).take j) ∧ j ≤ (fi.drop i).length ∧ Same H H3 ∧
        H3 D = some (.dK (kmp (nums (fnd R s0 (i + j))))) ∧ H3 L = some (.lst (iv (fi.drop i))) ∧ H3 B = some (.lst (iv ((fnd R s0 (i + j)).drop fi.length))) ∧ σ = [some (.ref r), some (.int s0), some (.ref D), some (.ref L), some (.ref B), y5, y6])
      (fun pre σ H3 h => ?_) ⟨0, y5, y6, rfl, Nat.zero_le _, same_upd2 e2 nBH, ?_, ?_, ?_, rfl⟩ (fun pre x suf σ H3 ex h => ?_) (fun σ H3 h => ?_)
    · obtain ⟨_, _, _, _, _, _, _, h, _⟩ := h; exact .inl (.inl h)
    · rw [upd_ne hBD.symm]; show _ = some (HO.dK (kmp (nums (fnd R s0 (i + 0))))); rw [Nat.add_zero, hfe]; exact hD
    · rw [upd_ne hBL.symm]; exact hL
    · rw [upd_same, Nat.add_zero, hfe, List.drop_length]; rfl
    · obtain ⟨j, y5, y6, rfl, hj, e4, hD4, hL4, hB4, rfl⟩ := h
      have lj : (iv ((fi.drop i).take j)).length = j := by rw [List.length_map, List.length_take]; omega
      have hj2 : j < (fi.drop i).length := by
        have := congrArg List.length ex
        rw [List.length_append, lj, List.length_map, List.length_cons] at this
        omega
      have hx : (iv (fi.drop i))[j]? = some x := by
        rw [ex, List.getElem?_append_right (by omega), lj, Nat.sub_self]; rfl
      rw [List.getElem?_map, List.getElem?_eq_getElem hj2] at hx
      have hx := (Option.some.inj hx).symm
      subst hx
      have hp0 : fi[i + j]? = some (fi.drop i)[j] := by rw [← List.getElem?_drop]; exact List.getElem?_eq_getElem hj2
      generalize (fi.drop i)[j] = p at hp0 ex ⊢
      have hp : (fnd R s0 (i + j))[i + j]? = some p := by
        obtain ⟨t, et⟩ := fnd_pre (R := R) (s := s0) (i := i) (j := i + j) (by omega)
        rw [← et, hfe, List.getElem?_append_left (List.getElem?_eq_some_iff.mp hp0).1]; exact hp0
      have plt : p < R.length := fnd_lt ok hs (i + j) p (List.mem_of_getElem? hp)
      have hqa : rs[p]? = some rs[p] := List.getElem?_eq_getElem (by omega)
      generalize rs[p] = qa at hqa
      obtain ⟨t2, hq⟩ := hrow' p qa hqa
      have fl : fi.length ≤ (fnd R s0 (i + j)).length := by
        have := (fnd_pre (R := R) (s := s0) (i := i) (j := i + j) (by omega)).length_le
        rw [hfe] at this; exact this
      show tFor (iSq K (tOp (ixU K) (uVar 0) (uVar 5))) _ _ _ _ _
      refine for_sq (K := K) (tp := t2) (a := qa) (xs := iv (gls R p)) (H1 := H3) (fun R' hR' => ⟨rs.map V.ref, .ref qa, (hs'.ext e4).or, atI_nat (by rw [List.getElem?_map, hqa]; rfl), hR'⟩) (hq.ext e4)
        (fun pre2 σ H4 => ∃ gs rest y6, gls R p = gs ++ rest ∧ pre2 = iv gs ∧ Same H H4 ∧ H4 D = some (.dK (kmp (nums (adds (fnd R s0 (i + j)) gs)))) ∧ H4 L = some (.lst (iv (fi.drop i))) ∧ H4 B = some (.lst (iv ((adds (fnd R s0 (i + j)) gs).drop fi.length))) ∧
          σ = [some (.ref r), some (.int s0), some (.ref D), some (.ref L), some (.ref B), some (.int p), y6])
        (fun pre2 σ H4 h => by obtain ⟨_, _, _, _, _, h, _⟩ := h; exact hq.ext h) ⟨[], gls R p, y6, rfl, rfl, e4, hD4, hL4, hB4, rfl⟩ (fun pre2 x2 suf2 σ H4 ex2 h => ?_) (fun σ H4 h => ?_)
      · obtain ⟨gs, rest, y6, eg, rfl, e5, hD5, hL5, hB5, rfl⟩ := h
        have er : iv rest = x2 :: suf2 := by
          have e7 : iv gs ++ iv rest = iv gs ++ x2 :: suf2 := by rw [← ex2, eg, iv_app]
          exact List.append_cancel_left e7
        obtain ⟨g, rest', rfl, rfl, rfl⟩ := List.map_eq_cons_iff.mp er
        have cl := adds_len (i := i + j) ok hs eg
        have cl2 : fi.length ≤ (adds (fnd R s0 (i + j)) gs).length := Nat.le_trans fl adds_pre.length_le
        have eg2 : gls R p = (gs ++ [g]) ++ rest' := by rw [eg]; simp
        have ea := adds_app (f := fnd R s0 (i + j)) (gs := gs) (g := g)
        generalize adds (fnd R s0 (i + j)) gs = cur at hD5 hB5 cl cl2 ea
        refine ⟨D, _, rfl, DGet.k (k := kI g) hD5, _, rfl, ?_⟩
        rw [val_kmp, look_isSome, nums_keys]
        refine .nd (fun hg => ?_) (fun hg => ?_)
        · have ec : add1 cur g = cur ++ [g] := if_neg hg
          have lk : (kmp (nums cur)).length = cur.length := by rw [List.length_map, nums_len]
          have ep : putK (kmp (nums cur)) (kI g) (.int ((kmp (nums cur)).length : Nat)) = kmp (nums (cur ++ [g])) := by
            rw [put_kmp _ (by rw [nums_keys]; exact hg), nums_app, lk]
          refine .inr ⟨_, hD5, D, _, rfl, DPut.k (k := kI g) hD5 (by rw [lk]; omega), ?_⟩
          rw [ep]
          have hB6 : (upd H4 D (.dK (kmp (nums (cur ++ [g]))))) B = some (.lst (iv (cur.drop fi.length))) := by rw [upd_ne hBD]; exact hB5
          refine ⟨.inl ⟨rfl, _, .inl (.inl hB6)⟩, B, _, _, rfl, rfl, hB6, by rw [List.length_map, List.length_drop]; omega, ?_⟩
          refine ⟨gs ++ [g], rest', _, eg2, by rw [iv_app]; rfl, same_upd2 (same_upd2 e5 nD) nBH, ?_, ?_, ?_, rfl⟩
          · rw [upd_ne hBD.symm, upd_same, ea, ec]
          · rw [upd_ne hBL.symm, upd_ne hLD]; exact hL5
          · rw [upd_same, ea, ec, List.drop_append_of_le_length cl2, iv_app]; rfl
        · have ec : add1 cur g = cur := if_pos hg
          exact ⟨gs ++ [g], rest', _, eg2, by rw [iv_app]; rfl, e5, by rw [ea, ec]; exact hD5, hL5, by rw [ea, ec]; exact hB5, rfl⟩
      · obtain ⟨gs, rest, y6, eg, e6, e5, hD5, hL5, hB5, rfl⟩ := h
        obtain rfl := iv_inj e6
        have es := fnd_step hp
        rw [← es] at hD5 hB5
        refine ⟨j + 1, _, _, ?_, hj2, e5, hD5, hL5, hB5, rfl⟩
        have : (fi.drop i).take (j + 1) = (fi.drop i).take j ++ [p] := by
          rw [List.take_add_one, show (fi.drop i)[j]? = some p by rw [List.getElem?_drop]; exact hp0]; rfl
        rw [this, iv_app]; rfl
    · obtain ⟨j, y5, y6, ej, hj, e4, hD4, hL4, hB4, rfl⟩ := h
      have ej := iv_inj ej
      have lj : j = (fi.drop i).length := by
        have := congrArg List.length ej
        rw [List.length_take] at this
        omega
      have ij : i + j = fi.length := by rw [lj, List.length_drop]; omega
      rw [ij] at hD4 hB4
      have fl : fi.length ≤ (fnd R s0 fi.length).length := by
        have := (fnd_pre (R := R) (s := s0) (i := i) (j := fi.length) (by omega)).length_le
        rw [hfe] at this; exact this
      exact ⟨R.length - fi.length, by omega, fi.length, B, _, _, _, rfl, fl, e4, hD4, hB4, nBH, hBD, rfl⟩
end
end LK

/-! comprehensions with if -/
namespace LK
open PySem PySem.Spec PyProof.Rows L2 LamX
open scoped List
theorem lc_wkF {J : It} {xs : List V} {P : Hp → Prop} (W : Wk J xs P) {g : TG} {tt : TT} {te : TE} {σ : L2.St} {H : Hp} {vs : List Nat} {Q : VK} {D : Addr} (R : List V → List V → Hp → Prop)
    (hP : ∀ pre acc H, R pre acc H → P H) (h0 : R [] [] (upd H D (.lst [])))
    (hs : ∀ pre acc x suf H, xs = pre ++ x :: suf → R pre acc H → g x (wipe σ vs) H fun σ2 H2 => wipe σ2 vs = wipe σ vs ∧ tt σ2 H2 fun b H3 => if b = true then te σ2 H3 fun y H4 =>
      ∃ acc, H4 D = some (.lst acc) ∧ acc.length < sizeLine ∧ ∃ a, R (pre ++ [x]) a (upd H4 D (.lst (acc ++ [y]))) else ∃ a, R (pre ++ [x]) a H3)
    (he : ∀ acc H, R xs acc H → Q (.ref D) H) :
    ∃ W : Nat → Nat → Hp → Prop, (∃ m, W 0 m (upd H D (.lst []))) ∧ ∀ i m H, W i m H →
  (J.stop i H ∧ Q (.ref D) H) ∨ (J.go i H ∧ ∃ Nx : Hp → Prop, (∀ H', Nx H' → ∃ m', m' < m ∧ W (i + 1) m' H') ∧ ∀ x H', J.yld i H x H' → g x (wipe σ vs) H' fun σ2 H2 => wipe σ2 vs = wipe σ vs ∧ tt σ2 H2 fun b H3 =>
    if b = true then te σ2 H3 fun y H4 => ∃ acc, H4 D = some (.lst acc) ∧ acc.length < sizeLine ∧ Nx (upd H4 D (.lst (acc ++ [y]))) else Nx H3) := by
  refine ⟨fun i m H => i + m = xs.length ∧ ∃ acc, R (xs.take i) acc H, ⟨xs.length, by omega, [], h0⟩, fun i m H h => ?_⟩
  obtain ⟨em, acc, iv⟩ := h
  by_cases hi : i < xs.length
  · have hx := List.getElem?_eq_getElem hi
    obtain ⟨e1, e2⟩ := split_at hx
    refine .inr ⟨W.go i H (hP _ _ _ iv) hi, fun H' => ∃ acc, R (xs.take i ++ [xs[i]]) acc H', fun H' n => ?_, fun x H' y => ?_⟩
    · obtain ⟨acc, n⟩ := n
      exact ⟨m - 1, by omega, by omega, acc, by rw [e2]; exact n⟩
    · obtain ⟨rfl, hx2⟩ := W.yld i H x H' (hP _ _ _ iv) hi y
      rw [hx] at hx2
      cases hx2
      exact hs _ _ _ _ _ e1 iv
  · have e : xs.take i = xs := List.take_of_length_le (by omega)
    rw [e] at iv
    exact .inl ⟨W.stop i H (hP _ _ _ iv) (by omega), he _ _ iv⟩
section
variable {K : PySem.W.Frag} {g : TG} {tt : TT} {te : TE} {σ : L2.St} {H H1 : Hp} {vs : List Nat} {Q : VK} {t : TA}
theorem lc_rngF {n : Nat} (h : ∀ R : List V → Hp → Prop, R [.int n] H1 → t σ H R) (hn : n < 1000000) (R : Addr → Nat → List V → Hp → Prop)
    (h0 : ∀ D, H1 D = none → R D 0 [] (upd H1 D (.lst [])))
    (hs : ∀ D, H1 D = none → ∀ i acc H, i < n → R D i acc H → g (.int i) (wipe σ vs) H fun σ2 H2 => wipe σ2 vs = wipe σ vs ∧ tt σ2 H2 fun b H3 => if b = true then te σ2 H3 fun y H4 =>
      ∃ acc, H4 D = some (.lst acc) ∧ acc.length < sizeLine ∧ ∃ a, R D (i + 1) a (upd H4 D (.lst (acc ++ [y]))) else ∃ a, R D (i + 1) a H3)
    (he : ∀ D, H1 D = none → ∀ acc H, R D n acc H → Q (.ref D) H) : tLc (iRng1 t) g tt te vs σ H Q := by
  refine h _ ⟨n, rfl, by omega, by omega, fun D nD => ?_⟩
  refine lc_wkF (wk_rng 0 n) (fun pre acc H => R D pre.length acc H) (fun _ _ _ _ => trivial) (h0 D nD) (fun pre acc x suf H2 e r => ?_) (fun acc H r => he D nD acc H ?_)
  · have hl : pre.length < n := by
      have := congrArg List.length e
      simp at this; omega
    have hx : (rng 0 n)[pre.length]? = some x := by rw [e]; simp
    rw [List.getElem?_map, List.getElem?_range hl] at hx
    have hx := Option.some.inj hx
    simp only [Int.zero_add] at hx
    subst hx
    have z := hs D nD pre.length acc H2 hl r
    rw [List.length_append]
    exact z
  · rw [List.length_map, List.length_range] at r; exact r
end
end LK

/-! own errors with one field: made, raised, caught; defs that raise; for any law -/
namespace LK
open PySem PySem.Spec PyProof.Rows L2 LamX
open scoped List
section
variable {P : Program} {w : World} {K : PySem.W.Frag} {mg : Str → Option Value} {base : Heap}
/-- self.f = y for each field: the exception gets its dict -/
def spI (C : Addr) (fs : List Str) : Sp := fun vs H Q _ => ∃ (a : Addr) (ys : List V), vs = .ref a :: ys ∧ ys.length = fs.length ∧ H a = some (exo a C none) ∧
  ∀ d H', H d = none → d ≠ a → H' a = some (exo a C (some d)) → H' d = some (exd d (fs.zip ys).reverse) → (∀ b, b ≠ a → b ≠ d → H' b = H b) → Q .non H'
theorem ok_init1 {q fn : Str} {st : Stmt} {f : Addr} {fd : FuncData} {k : Nat} {C : Addr} {bmB : List Value} {B newId : String} {p1 p2 p3 p4 : Pos} (SF : StoreFacts B bmB "object.__setattr__" "object") (F : Fun K "__init__" q st f fd) (S : FnScope ["self", fn] ["self", fn] (defScope st))
    (body : defBody st = [.Assign [.Attribute (.Name "self" p1) fn p2] (.Name fn p3) p4]) (v0 : Vis (defScope st) "self") (v1 : Vis (defScope st) fn) (d1 : (fn == ("__debug__" : Str)) = false) (c1 : (fn == ("__classdict__" : Str)) = false)
    (sw : ∀ env : Env, env.scope = defScope st → swapsWith (.Name fn p3) (some (.Attribute (.Name "self" p1) fn p2)) p4.line env = pure false) (T : ExcK K C bmB newId) (hno : PySem.W.takerIn K C fn = some none) :
    FnG P w K mg base CX0 (k + 1) f fd ["self", fn] (spI C [fn]) := by
  refine okG F S (fun vs H Q E h => ?_) (fun cdv A hA outer s H vs Q E hr h => ?_)
  · obtain ⟨a, ys, rfl, hl, _⟩ := h
    rw [List.length_cons, hl]; rfl
  · obtain ⟨a, ys, rfl, hl, ha, qq⟩ := h
    match ys, hl with
    | [y], _ =>
      rw [body]
      refine ⟨_, pss_one (ps_stE SF (uv 0 rfl v0) (uv 1 rfl v1 d1 c1) (sw _ rfl)), ?_⟩
      refine ⟨C, newId, T, hno, .inl ⟨ha, fun d nd ne => ?_⟩⟩
      exact qq d _ nd ne upd_same (by rw [upd_ne ne, upd_same]; rfl) (fun b h1 h2 => by rw [upd_ne h1, upd_ne h2])
end
/-- an own error class of the module: its fields, how it is made -/
structure HasC (P : Program) (w : World) (K : PySem.W.Frag) (mg : Str → Option Value) (base : Heap) (k : Nat) (x : Str) (C : Addr) (fs : List Str) : Prop where
  ex : ∃ (B newId initId : String) (bmB : List Value) (fI : Addr) (fd : FuncData), ExcBaseFacts B newId initId bmB ∧ ExcK K C bmB newId ∧ PySem.W.typeIn K (.ref C) = some (.type "type") ∧ PySem.W.findIn K (.ref C) "__init__" = some (some (.ref fI)) ∧
    PySem.W.typeIn K (.ref fI) = some (.type "function") ∧ FnG P w K mg base CX0 k fI fd (("self" : Str) :: fs) (spI C fs) ∧ Binds K fd (("self" : Str) :: fs) [] ∧
    (∀ (s : Shared) (z : Value) (ws : List Value), ws.length = fs.length → BindsTo s fd ⟨[z], fs.zip ws⟩ ((("self" : Str) :: fs).zip (z :: ws)) ∧ BindsTo s fd ⟨[z], (fs.zip ws).reverse⟩ ((("self" : Str) :: fs).zip (z :: ws)))
  mgC : mg x = some (.ref C)
theorem HasC.up {P : Program} {w : World} {K : PySem.W.Frag} {mg : Str → Option Value} {base : Heap} {j k : Nat} {x : Str} {C : Addr} {fs : List Str} (F : HasC P w K mg base j x C fs) (h : j ≤ k) : HasC P w K mg base k x C fs := by
  obtain ⟨B, newId, initId, bmB, fI, fd, a, b, c, d, e, f, g⟩ := F.ex
  exact ⟨⟨B, newId, initId, bmB, fI, fd, a, b, c, d, e, f.up h, g⟩, F.mgC⟩
section
variable {X : Cx} {x : Str} {C : Addr} {k : Nat} {fs : List Str} {p pos : Pos} {e : Expr} {es : List Expr} {ta : TA}
theorem pmk_new (F : HasC X.prog X.w X.K X.mg X.base k x C fs) (hA : X.A.guards = some []) (hr : Room (k + 1) X.A) (hg : Gl X x) (ha : PA X (e :: es) ta)
    (hdb : (x == ("__debug__" : Str)) = false := by decide) (he : starEach (e :: es) X.env = (false, eval e X.env) :: starEach es X.env := by rfl) (hpl : (backTo pos (starEach es X.env)).any (·.1) = false := by rfl) :
    PMk X (.Call (.Name x p) (e :: es) [] pos) (tPmE C (spI C fs) ta) := by
  obtain ⟨B, newId, initId, bmB, fI, fd, FB, T, ty, iC, tI, F1, hb, _⟩ := F.ex
  exact pmk_mkE (pos := pos) (p := p) FB T ty iC tI F1 hA hr hb hg F.mgC ha hdb he hpl
/-- the reading of a new error behind raise: all else stays, the fields lie in a new dict -/
theorem pm_end {vs : List V} {H1 : Hp} {Q : XK} (hl : vs.length = fs.length) (q : ∀ d H', Same H1 H' → H1 d = none → H' d = some (HO.xd (fs.zip vs).reverse) → Q (.ref C) (some d) H') (a : Addr) (na : H1 a = none) :
    spI C fs (.ref a :: vs) (upd H1 a (exo a C none)) (fun v H2 => v = .non ∧ ∃ d gs, H2 a = some (exo a C (some d)) ∧ H2 d = some (exd d gs) ∧ H1 d = none ∧ Q (.ref C) (some d) (upd (del H2 a) d (HO.xd gs))) E0 := by
  refine ⟨a, vs, rfl, hl, upd_same, fun d H' nd ne ha hd rest => ⟨rfl, d, _, ha, hd, ?_, ?_⟩⟩
  · rw [upd_ne ne] at nd; exact nd
  · have nd1 : H1 d = none := by rw [upd_ne ne] at nd; exact nd
    refine q d _ (fun b o hb => ?_) nd1 upd_same
    have na' : b ≠ a := ne_of_none hb na
    have nd' : b ≠ d := ne_of_none hb nd1
    rw [upd_ne nd', show del H' a b = H' b from if_neg na', rest b na' nd', upd_ne na']
    exact hb
end
section
variable {X : Cx} {pins pn' : List (Addr × Obj)} {σ : L2.St} {H : Hp} {a : Addr} {cls : Value} {d : Option Addr} {B : Heap} {sI s : Shared} {D : Ends}
end
section
variable {X : Cx} {CX : CXT} {k : Nat} {f C : Addr} {fd : FuncData} {ps : List Str} {sp : Sp} {E : L2.St → XK} {x : Str} {p pos : Pos} {e : Expr} {es : List Expr} {t : TA}
end
section
variable {P : Program} {w : World} {K : PySem.W.Frag} {mg : Str → Option Value} {base : Heap}
/-- a def that raises -/
theorem okGX {x q : Str} {st : Stmt} {f : Addr} {fd : FuncData} {N ps : List Str} {k : Nat} {sp : Sp} (F : Fun K x q st f fd)
    (S : FnScope N ps (defScope st)) (len : ∀ vs H Q E, sp vs H Q E → vs.length = ps.length)
    (hb : ∀ (cd : Value) (A : Around), A.guards = some [] → ∀ (outer : List Env) (s : Shared) (H : Hp) (vs : List V) (Q : VK) (E : XK),
      Room k (A.deeper (envOfC q (defScope st) s.heap.objs.size f cd)) → sp vs H Q E →
      ∃ t, PSs (cxOf (CX P w) P w K mg base N q (defScope st) f cd A outer s H E) (defBody st) t ∧
        t { nx := fun _ H' => Q .non H', rt := Q } (start N vs) H) : FnG P w K mg base (CX P w) (k + 1) f fd ps sp := by
  obtain ⟨oc, od, kV, dc, pm, an, cd, ct, sl, rfl, lk, hc⟩ := F.ex
  refine fnG_of lk hc S len ?_
  intro A hA outer s H vs Q E hr hs
  exact hb cd A hA outer s H vs Q E hr hs
end
section
variable {P : Program} {w : World} {K : PySem.W.Frag} {mg : Str → Option Value} {base : Heap}
/-- where no error is wanted none leaves -/
theorem FnG.ox {k : Nat} {f : Addr} {fd : FuncData} {ps : List Str} {sp sp' : Sp} (F : FnG P w K mg base (CX P w) k f fd ps sp) (h : ∀ vs H Q E, sp' vs H Q E → sp vs H Q E0) : FnG P w K mg base CX0 k f fd ps sp' where
  len := fun vs H Q E q => F.len _ _ _ _ (h _ _ _ _ q)
  run := fun A hA outer s H args us vs Q E hr e b v q => codeAny_mono (F.run A hA outer s H args us vs Q E0 hr e b v (h _ _ _ _ q)) (fun r s' z => by
    cases r with
    | ok fl => cases fl <;> exact z
    | error e => obtain ⟨_, _, _, _, _, _, _, _, _, _, _, _, z⟩ := z; exact z.elim)
/-- a class whose __init__ may raise -/
structure HasIX (P : Program) (w : World) (K : PySem.W.Frag) (mg : Str → Option Value) (base : Heap) (k : Nat) (x : Str) (C : Addr) (ps : List Str) (sp : Sp) : Prop where
  ex : ∃ f fd, FnG P w K mg base (CX P w) k f fd (("self" : Str) :: ps) sp ∧ Mk K C f ∧ Binds K fd (("self" : Str) :: ps) [] ∧ mg x = some (.ref C) ∧
    ∀ (s : Shared) (z : Value) (us : List Value), us.length = ps.length → BindsTo s fd ⟨[z], (ps.zip us).reverse⟩ ((("self" : Str) :: ps).zip (z :: us))
theorem HasIX.calm {k : Nat} {x : Str} {C : Addr} {ps : List Str} {sp sp' : Sp} (F : HasIX P w K mg base k x C ps sp) (h : ∀ vs H Q E, sp' vs H Q E → sp vs H Q E0) : HasI P w K mg base k x C ps sp' := by
  obtain ⟨f, fd, a, b⟩ := F.ex
  exact ⟨f, fd, a.ox h, b⟩
end
section
variable {X : Cx} {k : Nat} {C : Addr} {x : Str} {ps : List Str} {sp : Sp} {p pos : Pos} {e : Expr} {es : List Expr} {t : TA} {E : L2.St → XK}
end
end LK

namespace LK
open PySem PySem.Spec PyProof.Rows L2 LamX ClX
open scoped List
/-- what is kept of the class: its fields are its own -/
structure ClsM (K : PySem.W.Frag) (C : Addr) : Prop where
  cls : Cls K C
  nL : NoAttr K C "_letters"
  nR : NoAttr K C "_rows"
  nK : NoAttr K C "_kinds"
abbrev mf1 (S : List Nat) : List (Str × V) := [("_letters", .str (T S))]
abbrev mf2 (S : List Nat) (r : Addr) : List (Str × V) := [("_letters", .str (T S)), ("_rows", .ref r)]
abbrev mf3 (S : List Nat) (r k : Addr) : List (Str × V) := [("_letters", .str (T S)), ("_rows", .ref r), ("_kinds", .ref k)]
/-- a: a machine with these letters, rows, kinds, in lists of its own -/
def Mach (C : Addr) (H : Hp) (a : Addr) (S : List Nat) (R : Rows) (Kd : List Bool) : Prop := ∃ (dx r k : Addr) (rs : List Addr), H a = some (.ins C dx (mf3 S r k)) ∧
  H r = some (.lst (rs.map V.ref)) ∧ rs.length = R.length ∧ (∀ i p, rs[i]? = some p → H p = some (.lst (iv (gls R i)))) ∧ H k = some (.lst (Kd.map V.bl))
theorem Mach.ext {C : Addr} {H H' : Hp} {a : Addr} {S : List Nat} {R : Rows} {Kd : List Bool} (h : Mach C H a S R Kd) (e : Same H H') : Mach C H' a S R Kd := by
  obtain ⟨dx, r, k, rs, h1, h2, h3, h4, h5⟩ := h
  exact ⟨dx, r, k, rs, e _ _ h1, e _ _ h2, h3, fun i p hp => e _ _ (h4 i p hp), e _ _ h5⟩
/-- .. in lists that are new beside H0 -/
def MachN (C : Addr) (H0 H : Hp) (a : Addr) (S : List Nat) (R : Rows) (Kd : List Bool) : Prop := ∃ (dx r k : Addr) (rs : List Addr), H a = some (.ins C dx (mf3 S r k)) ∧
  H r = some (.lst (rs.map V.ref)) ∧ rs.length = R.length ∧ (∀ i p, rs[i]? = some p → H p = some (.lst (iv (gls R i))) ∧ H0 p = none) ∧ H k = some (.lst (Kd.map V.bl)) ∧ H0 r = none ∧ H0 k = none
theorem MachN.m {C : Addr} {H0 H : Hp} {a : Addr} {S : List Nat} {R : Rows} {Kd : List Bool} (h : MachN C H0 H a S R Kd) : Mach C H a S R Kd := by
  obtain ⟨dx, r, k, rs, h1, h2, h3, h4, h5, _⟩ := h
  exact ⟨dx, r, k, rs, h1, h2, h3, fun i p hp => (h4 i p hp).1, h5⟩
theorem MachN.of {C : Addr} {H0 H1 H : Hp} {a : Addr} {S : List Nat} {R : Rows} {Kd : List Bool} (h : MachN C H1 H a S R Kd) (e : Same H0 H1) : MachN C H0 H a S R Kd := by
  obtain ⟨dx, r, k, rs, h1, h2, h3, h4, h5, h6, h7⟩ := h
  have fr : ∀ b, H1 b = none → H0 b = none := fun b n => by
    cases hb : H0 b with
    | none => rfl
    | some o => rw [e b o hb] at n; cases n
  exact ⟨dx, r, k, rs, h1, h2, h3, fun i p hp => ⟨(h4 i p hp).1, fr _ (h4 i p hp).2⟩, h5, fr _ h6, fr _ h7⟩
/-- all stays but what stands at a -/
def But (a : Addr) (H H' : Hp) : Prop := ∀ b o, b ≠ a → H b = some o → H' b = some o
theorem But.of {a : Addr} {H H' : Hp} (e : Same H H') : But a H H' := fun b o _ h => e b o h
theorem But.trans {a : Addr} {H H' H'' : Hp} (e : But a H H') (e2 : But a H' H'') : But a H H'' := fun b o n h => e2 b o n (e b o n h)
theorem But.at {a : Addr} {H : Hp} {o : HO} : But a H (upd H a o) := fun b u n h => by rw [upd_ne n]; exact h
theorem But.put {a p : Addr} {H H' : Hp} {o : HO} (e : But a H H') (n : H p = none) : But a H (upd H' p o) := fun b u nb h => by
  rw [upd_ne (ne_of_none h n)]; exact e b u nb h
theorem SqB.but {K : PySem.W.Frag} {tp : Bool} {a C dx x : Addr} {fs : List (Str × V)} {H H' : Hp} {xs : List V} (h : SqB K tp H x xs) (e : But a H H') (ha : H a = some (.ins C dx fs)) : SqB K tp H' x xs := by
  have ne : ∀ o, H x = some o → (∀ C dx fs, o ≠ .ins C dx fs) → x ≠ a := fun o ho n z => by
    rw [z, ha] at ho; exact n _ _ _ (Option.some.inj ho).symm
  cases tp
  · rcases h with (h | ⟨o, h⟩) | h
    · exact .inl (.inl (e _ _ (ne _ h fun _ _ _ z => nomatch z) h))
    · exact .inl (.inr ⟨o, e _ _ (ne _ h fun _ _ _ z => nomatch z) h⟩)
    · exact .inr h
  · rcases h with (h | ⟨o, h⟩) | h
    · exact .inl (.inl (e _ _ (ne _ h fun _ _ _ z => nomatch z) h))
    · exact .inl (.inr ⟨o, e _ _ (ne _ h fun _ _ _ z => nomatch z) h⟩)
    · exact .inr h
section
variable {P : Program} {w : World} {K : PySem.W.Frag} {mg : Str → Option Value} {base : Heap}
theorem scInit : FnScope ["self", "letters", "rows", "kinds", "met", "missing", "place", "row"] ["self", "letters", "rows", "kinds"] (defScope sInit) := ⟨rfl, rfl, rfl, by decide +kernel, rfl, by decide +kernel, by decide +kernel⟩
def spInit (K : PySem.W.Frag) (C : Addr) : Sp := fun vs H Q _ => ∃ (a dx r k : Addr) (S : List Nat) (R : Rows) (Kd : List Bool), vs = [.ref a, .str (T S), .ref r, .ref k] ∧ ShOk S R Kd ∧ Whole R ∧ RowsAt K H r R ∧ KindsAt K H k Kd ∧ H a = some (.ins C dx []) ∧
  ∀ H', (∀ b o, b ≠ a → H b = some o → H' b = some o) → MachN C H H' a S R Kd → Q .non H'
/-- .. and if some places are not come to -/
def spInitX (K : PySem.W.Frag) (C cN : Addr) : Sp := fun vs H Q E => ∃ (a dx r k : Addr) (S : List Nat) (R : Rows) (Kd : List Bool), vs = [.ref a, .str (T S), .ref r, .ref k] ∧ ShOk S R Kd ∧ RowsAt K H r R ∧ KindsAt K H k Kd ∧ H a = some (.ins C dx []) ∧
  (Whole R → ∀ H', (∀ b o, b ≠ a → H b = some o → H' b = some o) → MachN C H H' a S R Kd → Q .non H') ∧ (¬ Whole R → ∀ (c : Nat) d H', c < R.length → c ∉ met R 0 → (∀ x, x < c → x ∈ met R 0) → Same H H' → H' d = some (HO.xd [("place", .int (c : Nat))]) → E (.ref cN) (some d) H')
theorem spInit_X {K : PySem.W.Frag} {C cN : Addr} (vs : List V) (H : Hp) (Q : VK) (E : XK) (h : spInit K C vs H Q E) : spInitX K C cN vs H Q E0 := by
  obtain ⟨a, dx, r, k, S, R, Kd, e, ok, wh, hR, hK, ha, q⟩ := h
  exact ⟨a, dx, r, k, S, R, Kd, e, ok, hR, hK, ha, fun _ => q, fun n => absurd wh n⟩
theorem iv_len (l : List Nat) : (iv l).length = l.length := List.length_map _
theorem miss_nil {R : Rows} : ((List.range R.length).filter fun x => !decide (x ∈ met R 0)) = [] ↔ Whole R := by
  rw [List.filter_eq_nil_iff]
  constructor
  · intro h x hx
    have := h x (List.mem_range.mpr hx)
    simpa using this
  · intro h x hx
    have := h x (List.mem_range.mp hx)
    simpa using this
theorem first_miss {n c : Nat} {p : Nat → Bool} {l : List Nat} (h : (List.range n).filter p = c :: l) : c < n ∧ p c = true ∧ ∀ x, x < c → p x = false := by
  obtain ⟨l1, l2, e, h1, h2, _⟩ := List.filter_eq_cons_iff.mp h
  have g : (List.range n)[l1.length]? = some c := by rw [e, List.getElem?_append_right (Nat.le_refl _), Nat.sub_self]; rfl
  have lt : l1.length < n := by have := (List.getElem?_eq_some_iff.mp g).1; rwa [List.length_range] at this
  rw [List.getElem?_range lt] at g
  have ec : l1.length = c := Option.some.inj g
  refine ⟨by omega, h2, fun x hx => ?_⟩
  have gx : (List.range n)[x]? = some x := List.getElem?_range (by omega)
  rw [e, List.getElem?_append_left (by omega)] at gx
  have := h1 x (List.mem_of_getElem? gx)
  simpa using this
theorem ok_initX {f C cN : Addr} {fd : FuncData} {k : Nat} (F : Fun K "__init__" "Machine.__init__" sInit f fd) (M : Mx mg) (cM : ClsM K C) (HN : Has P w K mg base (k + 1) "_need_parts" ["letters", "rows", "kinds"] (spNeedParts K))
    (HM : Has P w K mg base (k + 1) "_met_from" ["rows", "start"] (spMetFrom K)) (HC : HasC P w K mg base k "NotComeTo" cN ["place"]) : FnG P w K mg base (CX P w) (k + 2) f fd ["self", "letters", "rows", "kinds"] (spInitX K C cN) := by
  refine okGX F scInit (fun vs H Q E h => ?_) (fun cdv A hA outer s H vs Q E hr h => ?_)
  · obtain ⟨a, dx, r, k, S, R, Kd, rfl, _⟩ := h; rfl
  · obtain ⟨a, dx, r, k, S, R, Kd, rfl, ok, hR, hK, ha, q, qx⟩ := h
    have nd := scInit.nd
    have sl := sizeLine_eq
    have hi := ok.hi
    refine ⟨_, pss_cons (ps_expr (pe_callH HN hA hr (by rfl) (pa_cons (uv 1) (pa_cons (uv 2) (pa_cons (uv 3) pa_nil)))))
      (pss_cons (ps_set (i := 4) nd rfl (.inr rfl) (pe_callH HM hA hr (by rfl) (pa_cons (uv 2) (pa_cons pe_int pa_nil))))
      (pss_cons (ps_setLc (i := 5) (own := [("place", 6)]) (g := gName 6) (by rfl) nd rfl rfl (sw_true rfl rfl rfl (by decide +kernel)) (pi_range1 (by rfl) M.range (pa_cons (pe_callB c_len (by rfl) M.len b_len (pa_cons (uv 2) pa_nil)) pa_nil))
        (blkOk_by (N := ["self", "letters", "rows", "kinds", "met", "missing", "place", "row"]) (sc := defScope sInit) (by decide +kernel))
        (fun _ _ _ _ _ => pg_name (i := 6) nd rfl (Or.inl rfl)) (fun _ _ _ _ _ => pts_one (pt_cmp (pc_dnotin (Room.u1 hr) (uv 6) (uv 4)))) (fun _ _ _ _ _ => uv 6))
      (pss_cons (ps_ifU (pt_truth (uv 5) (by intro _; rfl)) (pss_one (ps_raise rfl (takes_of rfl rfl rfl rfl) (pmk_new HC hA hr (by rfl) (pa_cons (pe_ixU (uv 5) pe_int) pa_nil)))) pss_nil)
      (pss_cons (ps_fld (uv 0) (uv 1) (by rfl))
      (pss_cons (ps_fld (uv 0) (pe_lc (own := [("row", 7)]) (g := gName 7) (tt := tYes) rfl nd (pi_sq (uv 2)) (blkOk_by (N := ["self", "letters", "rows", "kinds", "met", "missing", "place", "row"]) (sc := defScope sInit) (by decide +kernel))
        (fun _ _ _ _ _ => pg_name (i := 7) nd rfl (Or.inl rfl)) (fun _ _ _ _ _ => pts_nil) (fun _ _ _ _ _ => pe_callTy (r := listU K) (c_list rfl) (by rfl) M.list b_list (pa_cons (uv 7) pa_nil))) (by rfl))
      (pss_one (ps_fld (uv 0) (pe_callTy (c_list rfl) (by rfl) M.list b_list (pa_cons (uv 3) pa_nil)) (by rfl)))))))), ?_⟩
    refine ⟨r, k, S, R, Kd, rfl, ok, hR, hK, fun H1 e1 => ?_⟩
    refine ⟨r, 0, S.length, R, rfl, hR.ext e1, ok.rows, by have := ok.lo; omega, by omega, fun H2 D e2 nD hD => ?_⟩
    have e3 := e1.trans e2
    obtain ⟨tp, rs, hs', hl', hrow'⟩ := hR
    obtain ⟨tk, hk'⟩ := hK
    have lr : (rs.map V.ref).length = R.length := by rw [List.length_map, hl']
    dsimp only [tSeq, tAsg, gName]
    have nLen : ∀ i, ((List.range i).filter fun x => !decide (x ∈ met R 0)).length ≤ i := fun i => by
      have := List.length_filter_le (fun x => !decide (x ∈ met R 0)) (List.range i)
      rw [List.length_range] at this; exact this
    refine lc_rngF (n := (rs.map V.ref).length) (H1 := H2) (fun R' h => .inl ⟨rs.map V.ref, (hs'.ext e3).or, h⟩) (by omega) (fun D2 i acc H3 => H3 = upd H2 D2 (.lst (iv ((List.range i).filter fun x => !decide (x ∈ met R 0))))) (fun D2 n2 => rfl) (fun D2 n2 i acc H3 hi2 h => ?_) (fun D2 n2 acc H3 h => ?_)
    · subst h
      have ne : D ≠ D2 := ne_of_none hD n2
      refine ⟨rfl, D, _, rfl, DGet.k (k := kI i) (by rw [upd_ne ne]; exact hD), _, rfl, ?_⟩
      rw [val_kmp, look_isSome, nums_keys]
      by_cases hm : i ∈ met R 0
      · rw [decide_eq_true hm]
        simp only [Bool.not_true, Bool.false_eq_true, if_false]
        refine ⟨[], ?_⟩
        rw [List.range_succ, List.filter_append, show [i].filter (fun x => !decide (x ∈ met R 0)) = [] by simp [hm], List.append_nil]
      · rw [decide_eq_false hm]
        simp only [Bool.not_false, if_true]
        refine ⟨_, upd_same, by rw [iv_len]; have := nLen i; omega, [], ?_⟩
        rw [List.range_succ, List.filter_append, show [i].filter (fun x => !decide (x ∈ met R 0)) = [i] by simp [hm], iv_app, upd_upd]
        rfl
    subst h
    rw [lr] at *
    by_cases wh : Whole R
    case neg =>
      have hne : ((List.range R.length).filter fun x => !decide (x ∈ met R 0)) ≠ [] := fun z => wh (miss_nil.mp z)
      obtain ⟨c, l, el⟩ := List.exists_cons_of_ne_nil hne
      rw [el]
      have e4 : Same H (upd H2 D2 (.lst (iv (c :: l)))) := same_upd2 e3 (Same.free e3 n2)
      refine ⟨true, .inl ⟨_, .inl (.inl upd_same), rfl⟩, .yes ?_⟩
      refine ⟨iv (c :: l), .int (c : Nat), .inl (.inl (.inl upd_same)), atI_nat (xs := iv (c :: l)) (j := 0) (v := V.int (c : Nat)) rfl, ?_⟩
      obtain ⟨c1, c2, c3⟩ := first_miss el
      exact ⟨by show 1 ≤ 1000; omega, fun a' na => pm_end (vs := [.int (c : Nat)]) (fs := ["place"]) rfl (fun d H' e nd hd => qx wh c d H' c1 (by simpa using c2) (fun x hx => by simpa using c3 x hx) (e4.trans e) hd) a' na⟩
    have q := q wh
    rw [miss_nil.mpr wh]
    refine ⟨false, .inl ⟨[], .inl (.inl upd_same), rfl⟩, .no ?_⟩
    have e4 : Same H (upd H2 D2 (.lst (iv []))) := same_upd2 e3 (Same.free e3 n2)
    generalize upd H2 D2 (.lst (iv [])) = H3 at e4
    refine ⟨a, C, dx, [], rfl, e4 _ _ ha, cM.cls, cM.nL, by show 0 < 1000; omega, ?_⟩
    have b4 : But a H (upd H3 a (.ins C dx (putF "_letters" (.str (T S)) []))) := (But.of e4).trans .at
    have h4 : (upd H3 a (.ins C dx (putF "_letters" (.str (T S)) []))) a = some (.ins C dx (mf1 S)) := upd_same
    have ex : ∀ b, H b ≠ none → (upd H3 a (.ins C dx (putF "_letters" (.str (T S)) []))) b ≠ none := fun b hb z => by
      by_cases e : b = a
      · subst e; rw [h4] at z; cases z
      · cases h : H b with
        | none => exact hb h
        | some o => rw [b4 b o e h] at z; cases z
    generalize upd H3 a (.ins C dx (putF "_letters" (.str (T S)) [])) = H4 at b4 h4 ex
    have fr : ∀ b, H4 b = none → H b = none := fun b z => Classical.byContradiction fun n => ex b n z
    dsimp only [tSeq, sFld]
    refine lc_sq (K := K) (tp := tp) (a := r) (xs := rs.map V.ref) (H1 := H4) (by exact fun _ h => h) (hs'.but b4 ha) (fun D3 pre acc H5 => ∃ ls : List Addr, pre = (rs.take ls.length).map V.ref ∧ ls.length ≤ rs.length ∧ acc = ls.map V.ref ∧ But a H H5 ∧
        H5 a = some (.ins C dx (mf1 S)) ∧ H5 D3 = some (.lst (ls.map V.ref)) ∧ ∀ i p, ls[i]? = some p → H5 p = some (.lst (iv (gls R i))) ∧ p ≠ D3 ∧ p ≠ a ∧ H p = none)
      (fun D3 pre acc H5 h => by obtain ⟨_, _, _, _, h, _⟩ := h; exact hs'.but h ha) (fun D3 n3 => ⟨[], rfl, Nat.zero_le _, rfl, b4.put (fr _ n3), by rw [upd_ne (ne_of_none h4 n3)]; exact h4, upd_same, fun i p z => nomatch z⟩)
      (fun D3 n3 pre acc x suf H5 ex2 h => ?_) (fun D3 n3 acc H5 h => ?_)
    · obtain ⟨ls, rfl, ll, rfl, b5, h5, hd5, hl5⟩ := h
      have l1 : ((rs.take ls.length).map V.ref).length = ls.length := by rw [List.length_map, List.length_take]; omega
      have l2 : ls.length < rs.length := by
        have := congrArg List.length ex2
        rw [List.length_append, l1, List.length_map, List.length_cons] at this
        omega
      have hx : (rs.map V.ref)[ls.length]? = some x := by rw [ex2, List.getElem?_append_right (by omega), l1, Nat.sub_self]; rfl
      rw [List.getElem?_map] at hx
      obtain ⟨qa, hqa, rfl⟩ := Option.map_eq_some_iff.mp hx
      obtain ⟨t2, hq⟩ := hrow' _ qa hqa
      refine ⟨rfl, .inl ⟨iv (gls R ls.length), (hq.but b5 ha).or, fun l nl => ?_⟩⟩
      have n1 : l ≠ a := fun z => by rw [z, h5] at nl; cases nl
      have n2 : l ≠ D3 := fun z => by rw [z, hd5] at nl; cases nl
      have nlH : H l = none := Classical.byContradiction fun n => by
        cases h : H l with
        | none => exact n h
        | some o => rw [b5 l o n1 h] at nl; cases nl
      refine ⟨ls.map V.ref, by rw [upd_ne n2.symm]; exact hd5, by rw [List.length_map]; omega, _, ls ++ [l], ?_, by rw [List.length_append]; exact l2, rfl, (b5.put nlH).put (fr _ n3), ?_, by rw [upd_same, List.map_append]; rfl, fun i p hp => ?_⟩
      · rw [List.length_append]
        show _ = (rs.take (ls.length + 1)).map V.ref
        rw [List.take_add_one, hqa, List.map_append]; rfl
      · have n3' : a ≠ D3 := ne_of_none h4 n3
        rw [upd_ne n3', upd_ne n1.symm]; exact h5
      · rcases Nat.lt_or_ge i ls.length with hlt | hge
        · rw [List.getElem?_append_left hlt] at hp
          obtain ⟨g1, g2, g3, g0⟩ := hl5 i p hp
          have n4 : p ≠ l := fun z => by rw [z, nl] at g1; cases g1
          exact ⟨by rw [upd_ne g2, upd_ne n4]; exact g1, g2, g3, g0⟩
        · rw [List.getElem?_append_right hge] at hp
          have e6 : i - ls.length = 0 := by
            have := (List.getElem?_eq_some_iff.mp hp).1
            simp at this; omega
          rw [e6] at hp
          have : l = p := by simpa using hp
          subst this
          have : i = ls.length := by omega
          subst this
          exact ⟨by rw [upd_ne n2]; exact upd_same, n2, n1, nlH⟩
    obtain ⟨ls, el, ll, rfl, b5, h5, hd5, hl5⟩ := h
    have lls : ls.length = rs.length := by
      have := congrArg List.length el
      rw [List.length_map, List.length_map, List.length_take] at this
      omega
    refine ⟨a, C, dx, (mf1 S), rfl, h5, cM.cls, cM.nR, by show 1 < 1000; omega, ?_⟩
    have e6 : putF "_rows" (.ref D3) (mf1 S) = (mf2 S D3) := rfl
    rw [e6]
    have b6 : But a H (upd H5 a (.ins C dx (mf2 S D3))) := b5.trans .at
    refine .inl ⟨Kd.map V.bl, (hk'.but b6 ha).or, fun l nl => ?_⟩
    have n3' : D3 ≠ a := fun z => by rw [z, h5] at hd5; cases hd5
    have nla : l ≠ a := fun z => by rw [z, upd_same] at nl; cases nl
    have nld : l ≠ D3 := fun z => by rw [z, upd_ne n3', hd5] at nl; cases nl
    refine ⟨a, C, dx, (mf2 S D3), rfl, by rw [upd_ne nla.symm]; exact upd_same, cM.cls, cM.nK, by show 2 < 1000; omega, ?_⟩
    have e7 : putF "_kinds" (.ref l) (mf2 S D3) = (mf3 S D3 l) := rfl
    rw [e7]
    have nlH : H l = none := Classical.byContradiction fun n => by
      cases h : H l with
      | none => exact n h
      | some o => rw [b6 l o nla h] at nl; cases nl
    refine q _ ((b6.put nlH).trans .at) ⟨dx, D3, l, ls, upd_same, ?_, by omega, fun i p hp => ?_, ?_, fr _ n3, nlH⟩
    · rw [upd_ne n3', upd_ne nld.symm, upd_ne n3']; exact hd5
    · obtain ⟨g1, g2, g3, g0⟩ := hl5 i p hp
      have n4 : p ≠ l := fun z => by rw [z] at g1 g3; rw [upd_ne g3, g1] at nl; cases nl
      exact ⟨by rw [upd_ne g3, upd_ne n4, upd_ne g3]; exact g1, g0⟩
    · rw [upd_ne nla]; exact upd_same
end
end LK

namespace LK
open PySem PySem.Spec PyProof.Rows L2 LamX ClX
open scoped List
theorem occ_idx {S : List Nat} {c : Nat} (nd : S.Nodup) (h : c ∈ S) : ∃ rest, Builtin.Str.occurrences (T S) (T [c]) 0 (T S).length 1 = S.idxOf c :: rest := by
  have f := PySem.StrLaws.found_one (T S) c
  cases e : Builtin.Str.occurrences (T S) (T [c]) 0 (T S).length 1 with
  | nil =>
    have e' : Builtin.Str.occurrences (T S) ⟨#[c]⟩ 0 (T S).length 1 = [] := e
    rw [e', show decide (c ∈ (T S).cps.toList) = true from decide_eq_true h] at f
    cases f
  | cons i rest =>
    refine ⟨rest, ?_⟩
    have g := (PySem.StrLaws.subAt_one (T S) c i).mp (PySem.StrLaws.occ_spec (T S) (T [c]) 0 (T S).length 1 i (by rw [e]; simp))
    have g : S[i]? = some c := g
    obtain ⟨hi, hc⟩ := List.getElem?_eq_some_iff.mp g
    rw [← hc, nd.idxOf_getElem]
/-- where a text leads -/
def led (S : List Nat) (R : Rows) (p : Nat) (l : List Nat) : Nat := l.foldl (fun p c => (gls R p).getD (S.idxOf c) 0) p
theorem led_snoc {S : List Nat} {R : Rows} {p c : Nat} {l : List Nat} : led S R p (l ++ [c]) = (gls R (led S R p l)).getD (S.idxOf c) 0 := by unfold led; rw [List.foldl_append]; rfl
theorem led_lt {S : List Nat} {R : Rows} {p : Nat} (ok : RowsOk R S.length) (hp : p < R.length) : ∀ l : List Nat, (∀ c ∈ l, c ∈ S) → led S R p l < R.length := by
  intro l
  induction l generalizing p with
  | nil => exact fun _ => hp
  | cons c l ih =>
    intro h
    have lt : S.idxOf c < (gls R p).length := by rw [gls_len ok hp]; exact List.idxOf_lt_length_iff.mpr (h c (by simp))
    refine ih (p := (gls R p).getD (S.idxOf c) 0) ?_ fun d hd => h d (by simp [hd])
    rw [List.getD_eq_getElem?_getD, List.getElem?_eq_getElem lt]
    exact gls_lt ok (List.getElem_mem lt)
theorem Ris1.nodup {S : List Nat} (h : Ris1 S) : S.Nodup := h.imp fun z => Nat.ne_of_lt z
section
variable {P : Program} {w : World} {K : PySem.W.Frag} {mg : Str → Option Value} {base : Heap} {C : Addr}
theorem scKinds : FnScope ["self"] ["self"] (defScope sKinds) := ⟨rfl, rfl, rfl, by decide +kernel, rfl, by decide +kernel, by decide +kernel⟩
def spKinds (C : Addr) : Sp := fun vs H Q _ => ∃ (a : Addr) (S : List Nat) (R : Rows) (Kd : List Bool), vs = [.ref a] ∧ Mach C H a S R Kd ∧ ∀ p, H p = none → Q (.ref p) (upd H p (.lst (Kd.map V.bl)))
theorem ok_kinds {f : Addr} {fd : FuncData} {k : Nat} (F : Fun K "kinds" "Machine.kinds" sKinds f fd) (M : Mx mg) (cM : ClsM K C) : FnG P w K mg base CX0 (k + 1) f fd ["self"] (spKinds C) := by
  refine okG F scKinds (fun vs H Q E h => ?_) (fun cdv A hA outer s H vs Q E hr h => ?_)
  · obtain ⟨a, S, R, Kd, rfl, _⟩ := h; rfl
  · obtain ⟨a, S, R, Kd, rfl, ⟨dx, r, kk, rs, h1, h2, h3, h4, h5⟩, q⟩ := h
    refine ⟨_, pss_one (ps_ret (pe_callTy (c_list rfl) (by rfl) M.list b_list (pa_cons (pe_fldU (uv 0)) pa_nil))), ?_⟩
    exact ⟨C, dx, _, .ref kk, h1, cM.cls, cM.nK, rfl, .inl ⟨Kd.map V.bl, .inl (.inl (.inl h5)), q⟩⟩
theorem scLed : FnScope ["self", "place", "text", "letter"] ["self", "place", "text"] (defScope sLed) := ⟨rfl, rfl, rfl, by decide +kernel, rfl, by decide +kernel, by decide +kernel⟩
def spLed (C : Addr) : Sp := fun vs H Q _ => ∃ (a : Addr) (p : Nat) (l S : List Nat) (R : Rows) (Kd : List Bool), vs = [.ref a, .int p, .str (T l)] ∧ Mach C H a S R Kd ∧ S.Nodup ∧ RowsOk R S.length ∧ p < R.length ∧ (∀ c ∈ l, c ∈ S) ∧ Q (.int (led S R p l : Nat)) H
theorem ok_led {f : Addr} {fd : FuncData} {k : Nat} (F : Fun K "_led" "Machine._led" sLed f fd) (M : Mx mg) (cM : ClsM K C) : FnG P w K mg base CX0 (k + 1) f fd ["self", "place", "text"] (spLed C) := by
  refine okG F scLed (fun vs H Q E h => ?_) (fun cdv A hA outer s H vs Q E hr h => ?_)
  · obtain ⟨a, p, l, S, R, Kd, rfl, _⟩ := h; rfl
  · obtain ⟨a, p, l, S, R, Kd, rfl, ⟨dx, r, kk, rs, h1, h2, h3, h4, h5⟩, ndS, ok, hp, hl, q⟩ := h
    have nd := scLed.nd
    refine ⟨_, pss_cons (ps_for PassesOwn.never rfl (pi_str (uv 2)) (pg_name (i := 3) nd rfl (.inl rfl))
        (pss_one (ps_set (i := 1) nd rfl (.inl rfl) (pe_ixU (pe_ixU (pe_fldU (uv 0)) (uv 1)) (pe_bm PySem.F.plainAttrs_str PySem.F.slot_str_index PySem.F.type_str_index mt_sindex (pe_fldU (uv 0)) (pa_cons (uv 3) pa_nil))))))
      (pss_one (ps_ret (uv 1))), ?_⟩
    dsimp only [tSeq, tAsg, gName]
    refine for_str (l := l) (H1 := H) (by exact fun _ h => h) (fun pre σ H2 => H2 = H ∧ ∃ y3, σ = [some (.ref a), some (.int (led S R p pre : Nat)), some (.str (T l)), y3]) ⟨rfl, none, rfl⟩ (fun pre c suf σ H2 e iv => ?_) (fun σ H2 iv => ?_)
    · obtain ⟨rfl, y3, rfl⟩ := iv
      have hpre : ∀ d ∈ pre, d ∈ S := fun d hd => hl d (by rw [e]; simp [hd])
      have hc : c ∈ S := hl c (by rw [e]; simp)
      have lt := led_lt ok hp pre hpre
      obtain ⟨rest, ho⟩ := occ_idx ndS hc
      have lt2 : S.idxOf c < (gls R (led S R p pre)).length := by rw [gls_len ok lt]; exact List.idxOf_lt_length_iff.mpr hc
      have hq : rs[led S R p pre]? = some rs[led S R p pre] := List.getElem?_eq_getElem (by omega)
      have hrow := h4 _ _ hq
      refine ⟨C, dx, _, .ref r, h1, cM.cls, cM.nR, rfl, rs.map V.ref, .ref rs[led S R p pre], .inl (.inl (.inl h2)), atI_nat (by rw [List.getElem?_map, hq]; rfl), ?_⟩
      refine ⟨C, dx, _, .str (T S), h1, cM.cls, cM.nL, rfl, rfl, T S, T [c], S.idxOf c, rest, rfl, rfl, ho, ?_⟩
      refine ⟨iv (gls R (led S R p pre)), .int ((gls R (led S R p pre)).getD (S.idxOf c) 0 : Nat), .inl (.inl (.inl hrow)), atI_nat (by rw [List.getElem?_map, List.getElem?_eq_getElem lt2, List.getD_eq_getElem?_getD, List.getElem?_eq_getElem lt2]; rfl), ?_⟩
      exact ⟨rfl, _, by rw [led_snoc]; rfl⟩
    · obtain ⟨rfl, y3, rfl⟩ := iv
      exact q
end
end LK

namespace LK
open PySem PySem.Spec PyProof.Rows L2 LamX ClX
open scoped List
/-- no field of a machine has the name of a method -/
theorem mf_none {S : List Nat} {r k : Addr} {m : Str} (h1 : (m == ("_letters" : Str)) = false) (h2 : (m == ("_rows" : Str)) = false) (h3 : (m == ("_kinds" : Str)) = false) : (mf3 S r k).lookup m = none := by
  show List.lookup m [_, _, _] = none
  rw [List.lookup_cons, h1]
  show List.lookup m [_, _] = none
  rw [List.lookup_cons, h2]
  show List.lookup m [_] = none
  rw [List.lookup_cons, h3]; rfl
section
variable {P : Program} {w : World} {K : PySem.W.Frag} {mg : Str → Option Value} {base : Heap} {C : Addr}
/-- the letters are unlike, the rows lead to places that are there -/
structure MOk (S : List Nat) (R : Rows) (Kd : List Bool) : Prop where
  nd : S.Nodup
  rows : RowsOk R S.length
  kinds : Kd.length = R.length
  lo : 1 ≤ R.length
theorem scTakes : FnScope ["self", "text"] ["self", "text"] (defScope sTakes) := ⟨rfl, rfl, rfl, by decide +kernel, rfl, by decide +kernel, by decide +kernel⟩
def spTakes (C : Addr) : Sp := fun vs H Q _ => ∃ (a : Addr) (l S : List Nat) (R : Rows) (Kd : List Bool), vs = [.ref a, .str (T l)] ∧ Mach C H a S R Kd ∧ MOk S R Kd ∧ (∀ c ∈ l, c ∈ S) ∧ l.length ≤ 1000000 ∧ ∀ H', Same H H' → Q (.bl (Kd.getD (led S R 0 l) false)) H'
theorem ok_takes {f : Addr} {fd : FuncData} {k : Nat} (F : Fun K "takes" "Machine.takes" sTakes f fd) (M : Mx mg) (cM : ClsM K C) (HL : HasM P w K mg base k C "_led" ["place", "text"] (spLed C))
    (HT : Has P w K mg base k "need_text" ["value", "letters"] spNeedText) : FnG P w K mg base CX0 (k + 1) f fd ["self", "text"] (spTakes C) := by
  refine okG F scTakes (fun vs H Q E h => ?_) (fun cdv A hA outer s H vs Q E hr h => ?_)
  · obtain ⟨a, c, S, R, Kd, rfl, _⟩ := h; rfl
  · obtain ⟨a, l, S, R, Kd, rfl, mm, ok, hl, hz, q⟩ := h
    refine ⟨_, pss_cons (ps_expr (pe_callH HT hA hr (by rfl) (pa_cons (uv 1) (pa_cons (pe_fldU (uv 0)) pa_nil))))
      (pss_one (ps_ret (pe_ixU (pe_fldU (uv 0)) (pe_mH HL cM.cls hA hr (uv 0) (pa_cons pe_int (pa_cons (uv 1) pa_nil)))))), ?_⟩
    obtain ⟨dx, r, kk, rs, h1, h2, h3, h4, h5⟩ := id mm
    refine ⟨C, dx, _, .str (T S), h1, cM.cls, cM.nL, rfl, S, l, rfl, hl, hz, fun H1 e1 => ?_⟩
    refine ⟨C, dx, _, .ref kk, e1 _ _ h1, cM.cls, cM.nK, rfl, ?_⟩
    have lo := ok.lo
    have lt := led_lt (p := 0) ok.rows (by omega) l hl
    have hk : Kd[led S R 0 l]? = some (Kd.getD (led S R 0 l) false) := by
      rw [List.getD_eq_getElem?_getD, List.getElem?_eq_getElem (by rw [ok.kinds]; exact lt)]; rfl
    refine ⟨dx, _, e1 _ _ h1, mf_none (by decide +kernel) (by decide +kernel) (by decide +kernel), a, 0, l, S, R, Kd, rfl, mm.ext e1, ok.nd, ok.rows, by omega, hl, ?_⟩
    exact ⟨Kd.map V.bl, .bl (Kd.getD (led S R 0 l) false), .inl (.inl (.inl (e1 _ _ h5))), atI_nat (by rw [List.getElem?_map, hk]; rfl), q H1 e1⟩
theorem scRows : FnScope ["self", "row"] ["self"] (defScope sRows) := ⟨rfl, rfl, rfl, by decide +kernel, rfl, by decide +kernel, by decide +kernel⟩
/-- new lists all through -/
def spRows (C : Addr) : Sp := fun vs H Q _ => ∃ (a : Addr) (S : List Nat) (R : Rows) (Kd : List Bool), vs = [.ref a] ∧ Mach C H a S R Kd ∧ R.length ≤ 1000 ∧ ∀ (H' : Hp) (p : Addr) (ls : List Addr), Same H H' → H p = none → H' p = some (.lst (ls.map V.ref)) → ls.length = R.length →
  (∀ i q, ls[i]? = some q → H q = none ∧ q ≠ p ∧ H' q = some (.lst (iv (gls R i)))) → ls.Nodup → Q (.ref p) H'
theorem ok_rows {f : Addr} {fd : FuncData} {k : Nat} (F : Fun K "rows" "Machine.rows" sRows f fd) (M : Mx mg) (cM : ClsM K C) : FnG P w K mg base CX0 (k + 1) f fd ["self"] (spRows C) := by
  refine okG F scRows (fun vs H Q E h => ?_) (fun cdv A hA outer s H vs Q E hr h => ?_)
  · obtain ⟨a, S, R, Kd, rfl, _⟩ := h; rfl
  · obtain ⟨a, S, R, Kd, rfl, ⟨dx, r, kk, rs, h1, h2, h3, h4, h5⟩, hz, q⟩ := h
    have nd := scRows.nd
    have sl := sizeLine_eq
    refine ⟨_, pss_one (ps_ret (pe_lc (own := [("row", 1)]) (g := gName 1) (tt := tYes) rfl nd (pi_list (pe_fldU (uv 0))) (blkOk_by (N := ["self", "row"]) (sc := defScope sRows) (by decide +kernel))
        (fun _ _ _ _ _ => pg_name (i := 1) nd rfl (Or.inl rfl)) (fun _ _ _ _ _ => pts_nil) (fun _ _ _ _ _ => pe_callTy (r := listU K) (c_list rfl) (by rfl) M.list b_list (pa_cons (uv 1) pa_nil)))), ?_⟩
    dsimp only [tRet]
    refine lc_list (K := K) (t := uFld K "_rows" (uVar 0)) (a := r) (xs := rs.map V.ref) (H1 := H) (fun R' h => ⟨C, dx, _, .ref r, h1, cM.cls, cM.nR, rfl, h⟩) (.inl (.inl h2)) (fun D pre acc H5 => ∃ ls : List Addr, pre = (rs.take ls.length).map V.ref ∧ ls.length ≤ rs.length ∧ acc = ls.map V.ref ∧ Same H H5 ∧
        H5 D = some (.lst (ls.map V.ref)) ∧ (∀ i p, ls[i]? = some p → H p = none ∧ p ≠ D ∧ H5 p = some (.lst (iv (gls R i)))) ∧ ls.Nodup)
      (fun D pre acc H5 h => by obtain ⟨_, _, _, _, h, _⟩ := h; exact .inl (.inl (h _ _ h2))) (fun D nD => ⟨[], rfl, Nat.zero_le _, rfl, same_upd nD, upd_same, (fun i p z => nomatch z), List.Pairwise.nil⟩)
      (fun D nD pre acc x suf H5 ex2 h => ?_) (fun D nD acc H5 h => ?_)
    · obtain ⟨ls, rfl, ll, rfl, b5, hd5, hl5, ndl⟩ := h
      have l1 : ((rs.take ls.length).map V.ref).length = ls.length := by rw [List.length_map, List.length_take]; omega
      have l2 : ls.length < rs.length := by
        have := congrArg List.length ex2
        rw [List.length_append, l1, List.length_map, List.length_cons] at this
        omega
      have hx : (rs.map V.ref)[ls.length]? = some x := by rw [ex2, List.getElem?_append_right (by omega), l1, Nat.sub_self]; rfl
      rw [List.getElem?_map] at hx
      obtain ⟨qa, hqa, rfl⟩ := Option.map_eq_some_iff.mp hx
      refine ⟨rfl, .inl ⟨iv (gls R ls.length), .inl (.inl (.inl (b5 _ _ (h4 _ _ hqa)))), fun l nl => ?_⟩⟩
      have n2 : l ≠ D := fun z => by rw [z, hd5] at nl; cases nl
      have nlH := Same.free b5 nl
      refine ⟨ls.map V.ref, by rw [upd_ne n2.symm]; exact hd5, by rw [List.length_map]; omega, _, ls ++ [l], ?_, by rw [List.length_append]; exact l2, rfl, same_upd2 (same_upd2 b5 nlH) nD, by rw [upd_same, List.map_append]; rfl, fun i p hp => ?_, ?_⟩
      · rw [List.length_append]
        show _ = (rs.take (ls.length + 1)).map V.ref
        rw [List.take_add_one, hqa, List.map_append]; rfl
      · rcases Nat.lt_or_ge i ls.length with hlt | hge
        · rw [List.getElem?_append_left hlt] at hp
          obtain ⟨g1, g2, g3⟩ := hl5 i p hp
          have n4 : p ≠ l := fun z => by rw [z, nl] at g3; cases g3
          exact ⟨g1, g2, by rw [upd_ne g2, upd_ne n4]; exact g3⟩
        · rw [List.getElem?_append_right hge] at hp
          have e6 : i - ls.length = 0 := by
            have := (List.getElem?_eq_some_iff.mp hp).1
            simp at this; omega
          rw [e6] at hp
          have : l = p := by simpa using hp
          subst this
          have : i = ls.length := by omega
          subst this
          exact ⟨nlH, n2, by rw [upd_ne n2]; exact upd_same⟩
      · refine List.nodup_append.mpr ⟨ndl, by simp, fun x hx y hy e => ?_⟩
        simp at hy; subst hy; subst e
        obtain ⟨i, hi⟩ := List.mem_iff_getElem?.mp hx
        have := (hl5 i x hi).2.2
        rw [nl] at this; cases this
    · obtain ⟨ls, el, ll, rfl, b5, hd5, hl5, ndl⟩ := h
      have lls : ls.length = rs.length := by
        have := congrArg List.length el
        rw [List.length_map, List.length_map, List.length_take] at this
        omega
      exact q _ D ls b5 nD hd5 (by omega) hl5 ndl
end
end LK

/-! least texts: lengths, look-ups -/
namespace LK
open PySem PySem.Spec PyProof.Rows L2 LamX
open scoped List
section
variable {R : Rows} {s : Nat} {S : List Nat}
end
end LK

namespace LK
open PySem PySem.Spec PyProof.Rows L2 LamX ClX
open scoped List
/-- the machine's own rows: lists of a list -/
def RowsL (H : Hp) (r : Addr) (R : Rows) : Prop := ∃ rs : List Addr, H r = some (.lst (rs.map V.ref)) ∧ rs.length = R.length ∧ ∀ i p, rs[i]? = some p → H p = some (.lst (iv (gls R i)))
theorem RowsL.ext {H H' : Hp} {r : Addr} {R : Rows} (h : RowsL H r R) (e : Same H H') : RowsL H' r R := by
  obtain ⟨rs, h1, h2, h3⟩ := h
  exact ⟨rs, e _ _ h1, h2, fun i p hp => e _ _ (h3 i p hp)⟩
end LK

/-! walks over a dict's keys in a comprehension; what comes of known values -/
namespace LK
open PySem PySem.Spec PyProof.Rows L2 LamX
open scoped List
theorem wk_keys {d : Addr} {o : Obj} {kvs : List (Key × V)} : Wk (Itk d o kvs) (kvs.map fun kv => kV kv.1) (fun H => H d = some (.frz o (.dK kvs))) := by
  refine ⟨fun i H h l => ⟨h, by rw [List.length_map] at l; exact l⟩, fun i H x H' h _ y => ?_, fun i H h l => ⟨h, by rw [List.length_map] at l; exact l⟩⟩
  obtain ⟨e, k, v, hk, rfl⟩ := y
  exact ⟨e, by rw [List.getElem?_map, hk]; rfl⟩
/-! the same rules, K said by itself: within a comprehension -/
section
variable {X : Cx} {K : PySem.W.Frag} {a b e tg : Expr} {ta tb te : TE} {pos : Pos}
theorem pe_ixK (hK : X.K = K) (ha : PE X a ta) (hb : PE X b tb) (hs : PlainIx b := by exact fun _ _ => rfl) : PE X (.Subscript a b pos) (tOp (ixU K) ta tb) := hK ▸ pe_ixU ha hb hs
theorem pi_sqK (hK : X.K = K) (he : PE X e te) : PI X tg e (iSq K te) := hK ▸ pi_sq he
theorem pi_listK (hK : X.K = K) (he : PE X e te) : PI X tg e (iList K te) := hK ▸ pi_list he
end
/-- a comprehension within a comprehension: its free names are cells or free names of the outer one -/
theorem relook {env : Env} {x : Str} : ∀ {names : List (Str × NameKind)}, (names.lookup x = some .cell ∨ names.lookup x = some .free) →
    ((names.map fun (n, k) => if (k == NameKind.free && env.scope.kind == .function && env.kindOf n == some .cell) then (n, NameKind.cell) else (n, k)).lookup x = some .cell ∨
      (names.map fun (n, k) => if (k == NameKind.free && env.scope.kind == .function && env.kindOf n == some .cell) then (n, NameKind.cell) else (n, k)).lookup x = some .free)
  | [], h => by rcases h with h | h <;> cases h
  | (n, k) :: r, h => by
    have ih := relook (env := env) (names := r) (x := x)
    simp only [List.map_cons]
    by_cases e : x = n
    · subst e
      rw [List.lookup_cons_self] at h
      by_cases c : (k == NameKind.free && env.scope.kind == .function && env.kindOf x == some .cell) = true
      · rw [if_pos c, List.lookup_cons_self]; exact .inl rfl
      · rw [if_neg c, List.lookup_cons_self]; exact h
    · have ne : (x == n) = false := by simpa using e
      rw [List.lookup_cons, ne] at h
      by_cases c : (k == NameKind.free && env.scope.kind == .function && env.kindOf n == some .cell) = true
      · rw [if_pos c, List.lookup_cons, ne]; exact ih h
      · rw [if_neg c, List.lookup_cons, ne]; exact ih h
theorem blkOk_in {env : Env} {N : List Str} {sc scope : Scope} {own : List (Str × Nat)} (h : blkC N sc scope own = true) : BlkOk N (relabel sc env) scope own :=
  let b := blkOk_by h
  ⟨b.kind, b.uniq, b.ix, fun y hy e => relook (b.free y hy e), b.own⟩
section
variable {K : PySem.W.Frag} {g : TG} {te : TE} {σ : L2.St} {H H1 : Hp} {vs : List Nat} {Q : VK} {t : TE}
/-- a comprehension over the keys of a locked dict: y i comes of the i-th key; all else stays -/
theorem lc_keys {d : Addr} {o : Obj} {kvs : List (Key × V)} (h : At t σ H (.ref d) H1) (hd : H1 d = some (.frz o (.dK kvs))) (R : Addr → List V → List V → Hp → Prop)
    (hP : ∀ D pre acc H, R D pre acc H → H d = some (.frz o (.dK kvs))) (h0 : ∀ D, H1 D = none → R D [] [] (upd H1 D (.lst [])))
    (hs : ∀ D, H1 D = none → ∀ pre acc x suf H, (kvs.map fun kv => kV kv.1) = pre ++ x :: suf → R D pre acc H → g x (wipe σ vs) H fun σ2 H2 => wipe σ2 vs = wipe σ vs ∧ te σ2 H2 fun y H4 =>
      ∃ acc, H4 D = some (.lst acc) ∧ acc.length < sizeLine ∧ ∃ a, R D (pre ++ [x]) a (upd H4 D (.lst (acc ++ [y]))))
    (he : ∀ D, H1 D = none → ∀ acc H, R D (kvs.map fun kv => kV kv.1) acc H → Q (.ref D) H) : tLc (iKeys t) g tYes te vs σ H Q :=
  h _ ⟨d, o, rfl, .inl ⟨kvs, hd, fun D nD => lc_wk wk_keys (fun pre acc H => R D pre acc H) (hP D) (h0 D nD) (hs D nD) (he D nD)⟩⟩
end
theorem keys_nums (f : List Nat) : ((kmp (nums f)).map fun kv => kV kv.1) = iv f := by
  unfold kmp
  rw [List.map_map]
  have : ((fun kv : Key × V => kV kv.1) ∘ fun p : Nat × V => (kI p.1, p.2)) = (fun g : Nat => V.int (g : Int)) ∘ Prod.fst := rfl
  rw [this, ← List.map_map, nums_keys]
theorem split_iv {f : List Nat} {pre suf : List V} {x : V} (h : iv f = pre ++ x :: suf) : ∃ p g q, f = p ++ g :: q ∧ pre = iv p ∧ x = .int (g : Nat) := by
  obtain ⟨p, q, e1, e2, e3⟩ := List.map_eq_append_iff.mp h
  obtain ⟨g, q', rfl, rfl, _⟩ := List.map_eq_cons_iff.mp e3
  exact ⟨p, g, q', e1, e2.symm, rfl⟩
end LK

namespace LK
open PySem PySem.Spec PyProof.Rows L2 LamX ClX
open scoped List
theorem nil_none {α : Type} {i : Nat} {q : α} (h : ([] : List α)[i]? = some q) : False := by rw [List.getElem?_nil] at h; cases h
section
variable {P : Program} {w : World} {K : PySem.W.Frag} {mg : Str → Option Value} {base : Heap} {C : Addr}
abbrev scN1 : Scope := { kind := .function, names := [(".0", .local), ("place", .local), ("numbers", .free), ("rows", .free)], isGenerator := false, isCoroutine := false }
theorem scNumFrom : FnScope ["letters", "rows", "kinds", "start", "numbers", "made", "place", "goal"] ["letters", "rows", "kinds", "start"] (defScope sNumFrom) := ⟨rfl, rfl, rfl, by decide +kernel, rfl, by decide +kernel, by decide +kernel⟩
/-- a new machine: the places that are come to from s, numbered as come to -/
def spNumFrom (K : PySem.W.Frag) (C : Addr) : Sp := fun vs H Q _ => ∃ (r k : Addr) (s : Nat) (S : List Nat) (R : Rows) (Kd : List Bool), vs = [.str (T S), .ref r, .ref k, .int s] ∧ ShOk S R Kd ∧ s < R.length ∧ RowsAt K H r R ∧ KindsAt K H k Kd ∧
  ∀ H' a, Same H H' → H a = none → MachN C H H' a S (rn R (met R s)) ((met R s).map fun p => Kd.getD p false) → Q (.ref a) H'
theorem ok_numFrom {f : Addr} {fd : FuncData} {k : Nat} (F : Fun K "_numbered_from" "_numbered_from" sNumFrom f fd) (M : Mx mg) (HM : Has P w K mg base (k + 1) "_met_from" ["rows", "start"] (spMetFrom K))
    (HI : HasI P w K mg base k "Machine" C ["letters", "rows", "kinds"] (spInit K C)) : FnG P w K mg base CX0 (k + 2) f fd ["letters", "rows", "kinds", "start"] (spNumFrom K C) := by
  refine okG F scNumFrom (fun vs H Q E h => ?_) (fun cdv A hA outer s H vs Q E hr h => ?_)
  · obtain ⟨r, k, s0, S, R, Kd, rfl, _⟩ := h; rfl
  · obtain ⟨r, k, s0, S, R, Kd, rfl, ok, hs, hRA, ⟨tk, hk⟩, q⟩ := h
    obtain ⟨tp, rs, hs', hl', hrow'⟩ := id hRA
    have nd := scNumFrom.nd
    have sl := sizeLine_eq
    refine ⟨_, pss_cons (ps_set (i := 4) nd rfl (.inr rfl) (pe_callH HM hA hr (by rfl) (pa_cons (uv 1) (pa_cons (uv 3) pa_nil))))
      (pss_cons (ps_lock (ps_setLc (i := 5) (own := [("place", 6)]) (g := gName 6) (by rfl) nd rfl rfl (sw_true rfl rfl rfl (by decide +kernel)) (pi_keys (uv 4))
        (blkOk_by (N := ["letters", "rows", "kinds", "start", "numbers", "made", "place", "goal"]) (sc := defScope sNumFrom) (by decide +kernel))
        (fun _ _ _ _ _ => pg_name (i := 6) nd rfl (Or.inl rfl)) (fun _ _ _ _ _ => pts_nil)
        (fun _ _ _ _ _ => pe_lc (own := [("goal", 7)]) (g := gName 7) (tt := tYes) rfl nd (pi_sqK (K := K) rfl (pe_ixK (K := K) rfl (uv 1) (uv 6))) (blkOk_in (N := ["letters", "rows", "kinds", "start", "numbers", "made", "place", "goal"]) (sc := scN1) (by decide +kernel))
          (fun _ _ _ _ _ => pg_name (i := 7) nd rfl (Or.inl rfl)) (fun _ _ _ _ _ => pts_nil)
          (fun _ _ _ _ _ => pe_dget (Room.u1 hr) (uv 4) (uv 7) (fun _ _ => rfl)))))
      (pss_one (ps_ret (pe_mkI HI hA hr (by rfl) (pa_cons (uv 0) (pa_cons (uv 5) (pa_cons (pe_lock (pe_lc (own := [("place", 6)]) (g := gName 6) (tt := tYes) rfl nd (pi_keys (uv 4)) (blkOk_by (N := ["letters", "rows", "kinds", "start", "numbers", "made", "place", "goal"]) (sc := defScope sNumFrom) (by decide +kernel))
          (fun _ _ _ _ _ => pg_name (i := 6) nd rfl (Or.inl rfl)) (fun _ _ _ _ _ => pts_nil)
          (fun _ _ _ _ _ => pe_ixK (K := K) rfl (uv 2) (uv 6)))) pa_nil))))))), ?_⟩
    have hi := ok.hi
    refine ⟨r, s0, S.length, R, rfl, hRA, ok.rows, hs, by omega, fun H1 D e1 nD hD => ?_⟩
    have hclo := fun (p g : Nat) => met_closed (p := p) (g := g) ok.rows hs
    have hltL : ∀ x ∈ met R s0, x < R.length := fnd_lt ok.rows hs _
    have ndL : (met R s0).Nodup := met_nd
    have lenL : (met R s0).length ≤ R.length := fnd_len ok.rows hs _
    have rnok := rn_ok (L := met R s0) ok.rows hs (fun x => Iff.rfl)
    have rnwh := rn_whole (L := met R s0) ok.rows hs ndL (fun x => Iff.rfl) met_zero
    have s0L : s0 ∈ met R s0 := fnd_head _
    generalize met R s0 = L at hD hclo hltL ndL lenL rnok rnwh s0L q
    refine ⟨D, _, hD, trivial, fun od => ?_⟩
    have e2 : Same H (upd H1 D (.frz od (.dK (kmp (nums L))))) := same_upd2 e1 nD
    have hD2 : (upd H1 D (.frz od (.dK (kmp (nums L))))) D = some (.frz od (.dK (kmp (nums L)))) := upd_same
    generalize upd H1 D (.frz od (.dK (kmp (nums L)))) = H2 at e2 hD2
    dsimp only [tAsg]
    refine lc_keys (d := D) (o := od) (kvs := kmp (nums L)) (H1 := H2) (by exact fun _ h => h) hD2 (fun B pre acc H3 => ∃ (ps : List Nat) (ls : List Addr), pre = iv ps ∧ ps.length = ls.length ∧ acc = ls.map V.ref ∧ Same H H3 ∧ H3 D = some (.frz od (.dK (kmp (nums L)))) ∧ H3 B = some (.lst (ls.map V.ref)) ∧ ls.length ≤ L.length ∧
        ∀ i q p, ls[i]? = some q → ps[i]? = some p → q ≠ B ∧ q ≠ D ∧ H3 q = some (.lst (iv ((gls R p).map fun g => L.idxOf g))))
      (fun B pre acc H3 h => by obtain ⟨_, _, _, _, _, _, h, _⟩ := h; exact h) (fun B nB => ⟨[], [], rfl, rfl, rfl, same_upd2 e2 (Same.free e2 nB), by rw [upd_ne (ne_of_none hD2 nB)]; exact hD2, upd_same, Nat.zero_le _, fun i q p z _ => (nil_none z).elim⟩)
      (fun B nB pre acc x suf H3 ex h => ?_) (fun B nB acc H3 h => ?_)
    · obtain ⟨ps, ls, rfl, lps, rfl, e3, hD3, hB3, ll, hls⟩ := h
      rw [keys_nums] at ex
      obtain ⟨p0, g, q0, eL, ep, rfl⟩ := split_iv ex
      obtain rfl := iv_inj ep
      have nBH : H B = none := Same.free e2 nB
      have hBD : B ≠ D := fun z => by rw [z, hD3] at hB3; cases hB3
      have gL : g ∈ L := by rw [eL]; simp
      have lps2 : ps.length + 1 ≤ L.length := by rw [eL]; simp
      obtain ⟨qa, hqa⟩ : ∃ qa, rs[g]? = some qa := ⟨_, List.getElem?_eq_getElem (by rw [hl']; exact hltL g gL)⟩
      obtain ⟨t2, hq2⟩ := hrow' g qa hqa
      have hrq := hq2.ext e3
      refine ⟨rfl, ?_⟩
      refine lc_sq (K := K) (tp := t2) (a := qa) (xs := iv (gls R g)) (H1 := H3) (fun R' hR' => ⟨rs.map V.ref, .ref qa, (hs'.ext e3).or, atI_nat (by rw [List.getElem?_map, hqa]; rfl), hR'⟩) hrq
        (fun B2 pre2 acc2 H4 => H3 B2 = none ∧ H4 = upd H3 B2 (.lst acc2) ∧ ∃ gs, pre2 = iv gs ∧ acc2 = iv (gs.map fun g => L.idxOf g)) (fun B2 pre2 acc2 H4 h => ?_) (fun B2 nB2 => ⟨nB2, rfl, [], rfl, rfl⟩) (fun B2 nB2 pre2 acc2 x2 suf2 H4 ex2 h => ?_) (fun B2 nB2 acc2 H4 h => ?_)
      · obtain ⟨n, rfl, _⟩ := h
        exact hrq.ext (same_upd n)
      · obtain ⟨_, rfl, gs, rfl, rfl⟩ := h
        obtain ⟨p1, g2, q1, eg, ep1, rfl⟩ := split_iv ex2
        obtain rfl := iv_inj ep1
        have g2L : g2 ∈ L := hclo g g2 gL (by rw [eg]; simp)
        have lg := gls_len ok.rows (hltL g gL)
        have l3 := ok.let_.hi
        have lg2 : gs.length ≤ 3 := by
          have := congrArg List.length eg
          rw [List.length_append, List.length_cons] at this
          omega
        have nDB : D ≠ B2 := ne_of_none hD3 nB2
        have dg : DGet (upd H3 B2 (.lst (iv (gs.map fun g => L.idxOf g)))) D (.int g2) (some (.int (L.idxOf g2 : Nat))) :=
          .inl ⟨kmp (nums L), kI g2, .inr ⟨od, by rw [upd_ne nDB]; exact hD3⟩, rfl, by rw [val_kmp, nums_look ndL g2L]⟩
        refine ⟨rfl, D, .int (L.idxOf g2 : Nat), rfl, dg, _, upd_same, by rw [List.length_map, List.length_map]; omega, _, nB2, upd_upd, gs ++ [g2], by rw [iv_app]; rfl, by rw [List.map_append, iv_app]; rfl⟩
      · obtain ⟨_, rfl, gs, eg, rfl⟩ := h
        obtain rfl := iv_inj eg
        have nB2B : B ≠ B2 := ne_of_none hB3 nB2
        have nDB : D ≠ B2 := ne_of_none hD3 nB2
        have nB2H : H B2 = none := Same.free e3 nB2
        refine ⟨ls.map V.ref, by rw [upd_ne nB2B]; exact hB3, by rw [List.length_map]; omega, _, ps ++ [g], ls ++ [B2], by rw [iv_app]; rfl, by rw [List.length_append, List.length_append, lps]; rfl, rfl, same_upd2 (same_upd2 e3 nB2H) nBH, ?_, by rw [upd_same, List.map_append]; rfl, by rw [List.length_append, ← lps]; exact lps2, fun i q p hq hp => ?_⟩
        · rw [upd_ne hBD.symm, upd_ne nDB]; exact hD3
        · rcases Nat.lt_or_ge i ls.length with hlt | hge
          · rw [List.getElem?_append_left hlt] at hq
            rw [List.getElem?_append_left (by omega)] at hp
            obtain ⟨a1, a2, a3⟩ := hls i q p hq hp
            exact ⟨a1, a2, by rw [upd_ne a1, upd_ne (ne_of_none a3 nB2)]; exact a3⟩
          · rw [List.getElem?_append_right hge] at hq
            rw [List.getElem?_append_right (by omega)] at hp
            have e6 : i - ls.length = 0 := by
              have := (List.getElem?_eq_some_iff.mp hq).1
              simp at this; omega
            rw [e6] at hq
            rw [show i - ps.length = 0 by omega] at hp
            have : B2 = q := by simpa using hq
            subst this
            have : g = p := by simpa using hp
            subst this
            exact ⟨nB2B.symm, nDB.symm, by rw [upd_ne nB2B.symm]; exact upd_same⟩
    · obtain ⟨ps, ls, ep, lps, rfl, e3, hD3, hB3, ll, hls⟩ := h
      rw [keys_nums] at ep
      obtain rfl := iv_inj ep
      refine ⟨hD3, ?_⟩
      have nBH : H B = none := Same.free e2 nB
      have hBD : B ≠ D := fun z => by rw [z, hD3] at hB3; cases hB3
      -- the dict is free again
      have e4 : Same H (upd H3 D (.dK (kmp (nums L)))) := same_upd2 e3 nD
      have hD4 : (upd H3 D (.dK (kmp (nums L)))) D = some (.dK (kmp (nums L))) := upd_same
      have hB4 : (upd H3 D (.dK (kmp (nums L)))) B = some (.lst (ls.map V.ref)) := by rw [upd_ne hBD]; exact hB3
      have hls4 : ∀ i q p, ls[i]? = some q → L[i]? = some p → (upd H3 D (.dK (kmp (nums L)))) q = some (.lst (iv ((gls R p).map fun g => L.idxOf g))) := fun i q p hq hp => by
        obtain ⟨a1, a2, a3⟩ := hls i q p hq hp
        rw [upd_ne a2]; exact a3
      generalize upd H3 D (.dK (kmp (nums L))) = H4 at e4 hD4 hB4 hls4
      refine ⟨D, _, hD4, trivial, fun od2 => ?_⟩
      have e5 : Same H (upd H4 D (.frz od2 (.dK (kmp (nums L))))) := same_upd2 e4 nD
      have hD5 : (upd H4 D (.frz od2 (.dK (kmp (nums L))))) D = some (.frz od2 (.dK (kmp (nums L)))) := upd_same
      refine lc_keys (d := D) (o := od2) (kvs := kmp (nums L)) (H1 := upd H4 D (.frz od2 (.dK (kmp (nums L))))) (by exact fun _ h => h) hD5
        (fun B2 pre acc H6 => (upd H4 D (.frz od2 (.dK (kmp (nums L))))) B2 = none ∧ H6 = upd (upd H4 D (.frz od2 (.dK (kmp (nums L))))) B2 (.lst acc) ∧ ∃ ps, pre = iv ps ∧ acc = (ps.map fun p => Kd.getD p false).map V.bl)
        (fun B2 pre acc H6 h => ?_) (fun B2 nB2 => ⟨nB2, rfl, [], rfl, rfl⟩) (fun B2 nB2 pre acc x suf H6 ex h => ?_) (fun B2 nB2 acc H6 h => ?_)
      · obtain ⟨n, rfl, _⟩ := h
        rw [upd_ne (ne_of_none hD5 n)]; exact hD5
      · obtain ⟨_, rfl, ps, rfl, rfl⟩ := h
        rw [keys_nums] at ex
        obtain ⟨p0, g, q0, eL, ep, rfl⟩ := split_iv ex
        obtain rfl := iv_inj ep
        have gL : g ∈ L := by rw [eL]; simp
        have lps2 : ps.length + 1 ≤ L.length := by rw [eL]; simp
        have hk6 : SqB K tk (upd (upd H4 D (.frz od2 (.dK (kmp (nums L))))) B2 (.lst ((ps.map fun p => Kd.getD p false).map V.bl))) k (Kd.map V.bl) := hk.ext (same_upd2 e5 (Same.free e5 nB2))
        have hkd : Kd[g]? = some (Kd.getD g false) := by
          rw [List.getD_eq_getElem?_getD, List.getElem?_eq_getElem (by rw [ok.kinds]; exact hltL g gL)]; rfl
        refine ⟨rfl, Kd.map V.bl, .bl (Kd.getD g false), hk6.or, atI_nat (by rw [List.getElem?_map, hkd]; rfl), ?_⟩
        exact ⟨_, upd_same, by rw [List.length_map, List.length_map]; omega, _, nB2, upd_upd, ps ++ [g], by rw [iv_app]; rfl, by rw [List.map_append, List.map_append]; rfl⟩
      · obtain ⟨_, rfl, ps, ep2, rfl⟩ := h
        rw [keys_nums] at ep2
        obtain rfl := iv_inj ep2
        have nDB2 : D ≠ B2 := ne_of_none hD5 nB2
        have nB2H : H B2 = none := Same.free e5 nB2
        have h4B2 : H4 B2 = none := by rw [upd_ne nDB2.symm] at nB2; exact nB2
        have nBB2 : B ≠ B2 := ne_of_none hB4 h4B2
        refine ⟨by rw [upd_ne nDB2]; exact hD5, rfl, ?_⟩
        have e7 : Same H (upd (upd (upd H4 D (.frz od2 (.dK (kmp (nums L))))) B2 (.lst ((L.map fun p => Kd.getD p false).map V.bl))) D (.dK (kmp (nums L)))) := same_upd2 (same_upd2 e5 nB2H) nD
        have hB7 : (upd (upd (upd H4 D (.frz od2 (.dK (kmp (nums L))))) B2 (.lst ((L.map fun p => Kd.getD p false).map V.bl))) D (.dK (kmp (nums L)))) B = some (.lst (ls.map V.ref)) := by
          rw [upd_ne hBD, upd_ne nBB2, upd_ne hBD]; exact hB4
        have hB27 : (upd (upd (upd H4 D (.frz od2 (.dK (kmp (nums L))))) B2 (.lst ((L.map fun p => Kd.getD p false).map V.bl))) D (.dK (kmp (nums L)))) B2 = some (.lst ((L.map fun p => Kd.getD p false).map V.bl)) := by
          rw [upd_ne nDB2.symm]; exact upd_same
        have hls7 : ∀ i q p, ls[i]? = some q → L[i]? = some p → (upd (upd (upd H4 D (.frz od2 (.dK (kmp (nums L))))) B2 (.lst ((L.map fun p => Kd.getD p false).map V.bl))) D (.dK (kmp (nums L)))) q = some (.lst (iv ((gls R p).map fun g => L.idxOf g))) := fun i q p hq hp => by
          have a := hls4 i q p hq hp
          have a2 : q ≠ D := fun z => by rw [z, hD4] at a; cases a
          rw [upd_ne a2, upd_ne (ne_of_none a h4B2), upd_ne a2]; exact a
        generalize upd (upd (upd H4 D (.frz od2 (.dK (kmp (nums L))))) B2 (.lst ((L.map fun p => Kd.getD p false).map V.bl))) D (.dK (kmp (nums L))) = H8 at e7 hB7 hB27 hls7
        intro a d na nd2 nad
        have naH := Same.free e7 na
        have e9 : Same H8 (upd (upd H8 d (.own a)) a (.ins C d [])) := (same_upd nd2).trans (same_upd (by rw [upd_ne nad.symm]; exact na))
        have l0 : 1 ≤ L.length := by
          cases L with
          | nil => cases s0L
          | cons _ _ => simp
        refine ⟨a, d, B, B2, S, rn R L, L.map fun p => Kd.getD p false, rfl, ⟨ok.let_, rnok, by rw [rn_len]; exact l0, by rw [rn_len]; omega, by rw [List.length_map, rn_len]⟩, rnwh, ⟨false, ls, .inl (.inl (e9 _ _ hB7)), by rw [rn_len]; exact lps.symm, fun i q hq => ?_⟩, ⟨false, .inl (.inl (e9 _ _ hB27))⟩, upd_same, fun H' but mach => ?_⟩
        · have li : i < L.length := by
            have := (List.getElem?_eq_some_iff.mp hq).1
            omega
          have hp : L[i]? = some L[i] := List.getElem?_eq_getElem li
          refine ⟨false, .inl (.inl ?_)⟩
          rw [rn_gls hp]
          exact e9 _ _ (hls7 i q _ hq hp)
        · refine ⟨rfl, q H' a (fun b o hb => ?_) naH (mach.of (e7.trans e9))⟩
          have nba : b ≠ a := ne_of_none hb naH
          exact but b o nba (e9 _ _ (e7 _ _ hb))
end
end LK

namespace LK
open PySem PySem.Spec PyProof.Rows L2 LamX ClX
open scoped List
section
variable {P : Program} {w : World} {K : PySem.W.Frag} {mg : Str → Option Value} {base : Heap} {C : Addr}
theorem ShOk.mok {S : List Nat} {R : Rows} {Kd : List Bool} (h : ShOk S R Kd) : MOk S R Kd := ⟨h.let_.up.nodup, h.rows, h.kinds, h.lo⟩
theorem scNumbered : FnScope ["self"] ["self"] (defScope sNumbered) := ⟨rfl, rfl, rfl, by decide +kernel, rfl, by decide +kernel, by decide +kernel⟩
def spNumbered (C : Addr) : Sp := fun vs H Q _ => ∃ (a : Addr) (S : List Nat) (R : Rows) (Kd : List Bool), vs = [.ref a] ∧ Mach C H a S R Kd ∧ ShOk S R Kd ∧
  ∀ H' b, Same H H' → H b = none → Mach C H' b S (rn R (met R 0)) ((met R 0).map fun p => Kd.getD p false) → Q (.ref b) H'
theorem ok_numbered {f : Addr} {fd : FuncData} {k : Nat} (F : Fun K "numbered" "Machine.numbered" sNumbered f fd) (M : Mx mg) (cM : ClsM K C) (HN : Has P w K mg base k "_numbered_from" ["letters", "rows", "kinds", "start"] (spNumFrom K C)) :
    FnG P w K mg base CX0 (k + 1) f fd ["self"] (spNumbered C) := by
  refine okG F scNumbered (fun vs H Q E h => ?_) (fun cdv A hA outer s H vs Q E hr h => ?_)
  · obtain ⟨a, S, R, Kd, rfl, _⟩ := h; rfl
  · obtain ⟨a, S, R, Kd, rfl, mm, ok, q⟩ := h
    refine ⟨_, pss_one (ps_ret (pe_callH HN hA hr (by rfl) (pa_cons (pe_fldU (uv 0)) (pa_cons (pe_fldU (uv 0)) (pa_cons (pe_fldU (uv 0)) (pa_cons pe_int pa_nil)))))), ?_⟩
    obtain ⟨dx, r, kk, rs, h1, h2, h3, h4, h5⟩ := id mm
    exact ⟨C, dx, _, .str (T S), h1, cM.cls, cM.nL, rfl, C, dx, _, .ref r, h1, cM.cls, cM.nR, rfl, C, dx, _, .ref kk, h1, cM.cls, cM.nK, rfl, r, kk, 0, S, R, Kd, rfl, ok, by have := ok.lo; omega, ⟨false, rs, .inl (.inl h2), h3, fun i p hp => ⟨false, .inl (.inl (h4 i p hp))⟩⟩, ⟨false, .inl (.inl h5)⟩, fun H' b e na m => q H' b e na m.m⟩
end
end LK

namespace LK
open PySem PySem.Spec PyProof.Rows L2 LamX ClX
open scoped List
/-- what isinstance asks of the class -/
structure IsM (K : PySem.W.Frag) (C : Addr) : Prop where
  ty : ∀ (H : Hp) (a dx : Addr) (fs : List (Str × V)), H a = some (.ins C dx fs) → fs.lookup ("__class__" : Str) = none → TyX K H (.ref a) (.ref C)
  yes : PySem.W.kitOne K (.ref C) (.ref C) = some true
/-- a property and its promise -/
structure HasP (P : Program) (w : World) (K : PySem.W.Frag) (mg : Str → Option Value) (base : Heap) (k : Nat) (C : Addr) (f : Str) (sp : Sp) : Prop where
  ex : ∃ p g fd, PropOf K C f p g ∧ FnOk P w K mg base CX0 k g fd ["self"] sp ∧ Binds K fd ["self"] []
theorem pe_propH {X : Cx} {k : Nat} {C : Addr} {f : Str} {sp : Sp} {e : Expr} {ta : TE} {pos : Pos} (F : HasP X.prog X.w X.K X.mg X.base k C f sp) (c : Cls X.K C) (hr : Room (k + 1) X.A) (he : PE X e ta)
    (hab : attributeBase e f X.env (eval e X.env) = eval e X.env := by rfl) : PE X (.Attribute e f pos) (tProp C sp [] E0 ta) := by
  obtain ⟨p, g, fd, hp, F, hb⟩ := F.ex
  exact pe_prop he c hp F hr hb .nil pass0 hab
theorem dpAll_rows {K : PySem.W.Frag} {H : Hp} : ∀ {rs : List Addr} {R : Rows}, rs.length = R.length → (∀ i p, rs[i]? = some p → H p = some (.lst (iv (gls R i)))) → DpAll K H (rs.map V.ref) (R.map encR)
  | [], [], _, _ => .nil
  | [], _ :: _, h, _ => by cases h
  | _ :: _, [], h, _ => by cases h
  | p :: rs, r :: R, h, hr => by
    refine .cons (.lst (.inl (.inl (hr 0 p rfl))) ?_) (dpAll_rows (by simpa using h) fun i q hq => hr (i + 1) q hq)
    show DpAll K H (iv r) (r.map fun (g : Nat) => .int (g : Int))
    induction r with
    | nil => exact .nil
    | cons g r ih => exact .cons (.int _) (dpAll_ints r)
where dpAll_ints {K : PySem.W.Frag} {H : Hp} : ∀ r : List Nat, DpAll K H (iv r) (r.map fun (g : Nat) => .int (g : Int))
  | [] => .nil
  | g :: r => .cons (.int _) (dpAll_ints r)
theorem dp_rows {K : PySem.W.Frag} {H : Hp} {r : Addr} {R : Rows} (h : RowsL H r R) : Dp K H (.ref r) (encRs R) := by
  obtain ⟨rs, h1, h2, h3⟩ := h
  exact .lst (.inl (.inl h1)) (dpAll_rows h2 h3)
theorem dp_kinds {K : PySem.W.Frag} {H : Hp} {k : Addr} {Kd : List Bool} (h : H k = some (.lst (Kd.map V.bl))) : Dp K H (.ref k) (encB Kd) := .lst (.inl (.inl h)) (dpAll_bl Kd)
theorem eqv_rowsB {a b : Rows} : PyData.eqv (encRs a) (encRs b) = decide (a = b) := by rw [Bool.eq_iff_iff, eqv_rows, decide_eq_true_eq]
theorem eqv_kindsB {a b : List Bool} : PyData.eqv (encB a) (encB b) = decide (a = b) := by rw [Bool.eq_iff_iff, eqv_kinds, decide_eq_true_eq]
section
variable {P : Program} {w : World} {K : PySem.W.Frag} {mg : Str → Option Value} {base : Heap} {C : Addr}
theorem scEq : FnScope ["self", "other"] ["self", "other"] (defScope sEq) := ⟨rfl, rfl, rfl, by decide +kernel, rfl, by decide +kernel, by decide +kernel⟩
/-- is it a machine with the same parts -/
def spEq (K : PySem.W.Frag) (C : Addr) : Sp := fun vs H Q _ => ∃ (a : Addr) (y : V) (S : List Nat) (R : Rows) (Kd : List Bool), vs = [.ref a, y] ∧ Mach C H a S R Kd ∧ R.length ≤ 1000 ∧
  ((∃ (b : Addr) (S' : List Nat) (R' : Rows) (Kd' : List Bool), y = .ref b ∧ Mach C H b S' R' Kd' ∧ R'.length ≤ 1000 ∧ ∀ H', Same H H' → Q (.bl (decide (S = S' ∧ R = R' ∧ Kd = Kd'))) H') ∨
    ∃ t, TyX K H y t ∧ PySem.W.kitOne K t (.ref C) = some false ∧ Q (.bl false) H)
theorem ok_eq {f : Addr} {fd : FuncData} {k : Nat} (F : Fun K "__eq__" "Machine.__eq__" sEq f fd) (M : Mx mg) (cM : ClsM K C) (iM : IsM K C) (gM : mg "Machine" = some (.ref C)) (HL : HasP P w K mg base k C "letters" (getSp C "_letters")) (HR : HasM P w K mg base (k + 1) C "rows" [] (spRows C)) (HK : HasM P w K mg base (k + 1) C "kinds" [] (spKinds C)) :
    FnG P w K mg base CX0 (k + 2) f fd ["self", "other"] (spEq K C) := by
  refine okG F scEq (fun vs H Q E h => ?_) (fun cdv A hA outer s H vs Q E hr h => ?_)
  · obtain ⟨a, x, S, R, Kd, rfl, _⟩ := h; rfl
  · obtain ⟨a, y, S, R, Kd, rfl, mm, hz, q⟩ := h
    refine ⟨_, pss_one (ps_ret (pe_andU (pe_callB call_isi (by rfl) M.isi b_isi (pa_cons (uv 1) (pa_cons (pe_glob (v := .ref C) (by rfl) gM rfl) pa_nil)))
      (pe_andU (pe_cu (o_eq hr.units) (pe_fldU (uv 0)) (pe_propH HL cM.cls hr (uv 1)))
      (pe_andU (pe_cu (o_eq hr.units) (pe_fldU (uv 0)) (pe_mH0 HR cM.cls hA hr (uv 1)))
      (pe_one (pe_cu (o_eq hr.units) (pe_fldU (uv 0)) (pe_mH0 HK cM.cls hA hr (uv 1)))))))), ?_⟩
    obtain ⟨dx, r, kk, rs, h1, h2, h3, h4, h5⟩ := id mm
    rcases q with ⟨b, S', R', Kd', rfl, mb, hz', q⟩ | ⟨t, ty, hk, q⟩
    · obtain ⟨dx', r', kk', rs', g1, g2, g3, g4, g5⟩ := id mb
      refine ⟨_, _, _, _, true, rfl, .own C, iM.ty _ _ _ _ g1 (mf_none (by decide +kernel) (by decide +kernel) (by decide +kernel)), iM.yes, .yes ?_⟩
      refine ⟨C, dx, _, .str (T S), h1, cM.cls, cM.nL, rfl, b, dx', _, rfl, g1, b, dx', _, .str (T S'), rfl, g1, rfl, ?_⟩
      refine Br.d (p := cs (T S) = cs (T S')) (fun eS => ?_) (fun nS => ?_)
      · have eS : S = S' := eS
        refine ⟨C, dx, _, .ref r, h1, cM.cls, cM.nR, rfl, dx', _, g1, mf_none (by decide +kernel) (by decide +kernel) (by decide +kernel), b, S', R', Kd', rfl, mb, hz', fun H1 p ls e1 np hp hl hls _ => ?_⟩
        refine ⟨encRs R, encRs R', dp_rows ⟨rs, e1 _ _ h2, h3, fun i p hp => e1 _ _ (h4 i p hp)⟩, dp_rows ⟨ls, hp, hl, fun i p hp => (hls i p hp).2.2⟩, (flat_rows R).shaped (by decide), (flat_rows R').shaped (by decide), ?_⟩
        show Br (PyData.eqv (encRs R) (encRs R')) _ _
        rw [eqv_rowsB]
        refine Br.d (fun eR => ?_) (fun nR => ?_)
        · refine ⟨C, dx, _, .ref kk, e1 _ _ h1, cM.cls, cM.nK, rfl, dx', _, e1 _ _ g1, mf_none (by decide +kernel) (by decide +kernel) (by decide +kernel), b, S', R', Kd', rfl, mb.ext e1, fun p2 np2 => ?_⟩
          refine ⟨encB Kd, encB Kd', dp_kinds (same_upd np2 _ _ (e1 _ _ h5)), dp_kinds upd_same, (flat_kinds Kd).shaped (by decide), (flat_kinds Kd').shaped (by decide), ?_⟩
          have := q _ (e1.trans (same_upd (o := .lst (Kd'.map V.bl)) np2))
          show Q (.bl (PyData.eqv (encB Kd) (encB Kd'))) _
          rw [eqv_kindsB]
          have e : decide (S = S' ∧ R = R' ∧ Kd = Kd') = decide (Kd = Kd') := decide_eq_decide.mpr ⟨fun z => z.2.2, fun z => ⟨eS, eR, z⟩⟩
          rw [e] at this
          exact this
        · have := q H1 e1
          rw [decide_eq_false (fun z => nR z.2.1)] at this
          exact this
      · have := q H (Same.refl _)
        rw [decide_eq_false (fun z => nS (by rw [z.1]))] at this
        exact this
    · exact ⟨_, _, _, _, false, rfl, .own C, ty, hk, .no q⟩
end
end LK

/-! == and != of lists of instances whose class has an __eq__ of its own, where all are equal one by one; no repr is under way -/
namespace LK
open PySem PySem.Spec PyProof.Rows L2 Builtin
open PySem.SeqAt
open AutoSeq1 (wpAny_loadPart')
open MeetsSeq MeetsSeq2 MeetsSeq3 SeqRoads2
section
variable {prog : Program} {w : World} {A : Around} {R : Result → Shared → Prop}
theorem ne_loopG (l b : Addr) (N : Nat) (I : Nat → Shared → Prop) (hl : GQ.ListI prog w A (fun e s' => R (.error e) s') l b N I)
    (fin : ∀ s, I N s → R (.ok (.ret (.bool false))) s) (k : Nat) :
    ∀ i : Nat, N - i = k → i ≤ N → ∀ s, I i s →
      wpAny (model prog w) A.in1 (Builtin.«list.__eq__.loop» ⟨[.ref l, .ref b, rawInt i, rawInt 3], []⟩) (GQ.FinOf prog w A R) (fun e s' => R (.error e) s') s := by
  induction k with
  | zero =>
    intro i hk hi s h
    obtain ⟨xs, ys, n1, n2, g1, g2, z1, z2, _⟩ := hl _ _ h
    have e : i = N := by omega
    have hR : R (.ok (.ret (.bool false))) s := fin s (e ▸ h)
    obtain ⟨hp, g, d, tk, os⟩ := s
    wp_walk using wpAny_loadPart' g1, wpAny_loadPart' g2
    have o1 : xs[((i : Nat) : Int).toNat]? = none := by simp; omega
    have o2 : ys[((i : Nat) : Int).toNat]? = none := by simp; omega
    rw [o1, o2]
    wp_walk using wpAny_loadPart' g1, wpAny_loadPart' g2
    show R (.ok (.ret (.bool (xs.size != ys.size)))) _
    rw [z1, z2]
    simpa using hR
  | succ k ih =>
    intro i hk hi s h
    obtain ⟨xs, ys, n1, n2, g1, g2, z1, z2, turn⟩ := hl _ _ h
    have l1 : i < xs.size := by omega
    have l2 : i < ys.size := by omega
    have ht := turn l1 l2
    obtain ⟨hp, g, d, tk, os⟩ := s
    wp_walk using wpAny_loadPart' g1, wpAny_loadPart' g2
    have o1 : xs[((i : Nat) : Int).toNat]? = some xs[i] := by simp [l1]
    have o2 : ys[((i : Nat) : Int).toNat]? = some ys[i] := by simp [l2]
    have hc : ((i : Int) + 1) = ((i + 1 : Nat) : Int) := by omega
    rw [o1, o2]
    refine wpAny_bind (wpAny_mono ht (fun r s2 ⟨hr, h2⟩ => ?_) fun _ _ x => x)
    subst hr
    have hrec := ih (i + 1) (by omega) (by omega) s2 h2
    obtain ⟨hp2, g2, d2, tk2, os2⟩ := s2
    wp_walk
    rw [hc]
    exact ⟨plainId_quiet plain_eq_loop _, codeAny_builtin entry_eq_loop (by
      rw [Around.under_plainId plain_eq_loop _]
      exact hrec)⟩
theorem list_neG (l b : Addr) (N : Nat) (I : Nat → Shared → Prop) (hl : GQ.ListI prog w A (fun e s' => R (.error e) s') l b N I)
    (fin : ∀ s, I N s → R (.ok (.ret (.bool false))) s) {s : Shared} (h : I 0 s) :
    wpAny (model prog w) A.in1 (Builtin.«list.__ne__» ⟨[.ref l, .ref b], []⟩) (GQ.FinOf prog w A R) (fun e s' => R (.error e) s') s := by
  obtain ⟨xs, ys, n1, n2, g1, g2, z1, z2, _⟩ := hl _ _ h
  have hrec := ne_loopG (A := A) (R := R) l b N I hl fin _ 0 rfl (Nat.zero_le _) s h
  obtain ⟨hp, g, d, tk, os⟩ := s
  have f3 := AutoSeq1.sub_list_list
  have hne : ¬ (xs.size != ys.size) = true := by simp [z1, z2]
  wp_walk using wpAny_loadPart' g1, wpAny_loadPart' g2
  exact ⟨plainId_quiet plain_eq_loop _, codeAny_builtin entry_eq_loop (by
    rw [Around.under_plainId plain_eq_loop _]
    exact hrec)⟩
end
section
variable {prog : Program} {w : World} {A : Around} {E : Value → Shared → Prop} {s : Shared}
theorem rc_listNG {l b : Addr} {N : Nat} {Q : Value → Shared → Prop} (hu : A.units < cLine) (I : Nat → Shared → Prop) (hl : GQ.ListI prog w A E l b N I)
    (fin : ∀ s, I N s → Q (.bool false) s) (h : I 0 s) : wpAny (model prog w) A (richCompare .NotEq (.ref l) (.ref b)) Q E s := by
  obtain ⟨xs, ys, n1, n2, g1, g2, _, _, _⟩ := hl _ _ h
  refine wpAny_richCompare_same_room (op := .NotEq) ⟨_, g1, rfl⟩ ⟨_, g2, rfl⟩ F.slot_list_ne (GQ.call_here F.slot_list_ne ⟨_, g1, rfl⟩ F.entry_list_ne (F.args_list_ne_2 _ _) ?_) hu
  exact list_neG (R := wants (fun v s' => v ≠ .notImplemented ∧ Q v s') E) l b N I hl (fun s' q => ⟨(fun x => nomatch x), fin s' q⟩) h
end
/-- below the running body, no repr under way -/
structure SubG (X : Cx) (n : Nat) (A : Around) : Prop where
  room : Room n A
  fr : A.frames = X.A.frames
  gd : A.guards = some []
theorem SubG.in1 {X : Cx} {n : Nat} {A : Around} (s : SubG X (n + 1) A) : SubG X n A.in1 := ⟨s.room.in1, s.fr, s.gd⟩
/-- what is asked below a body X at a place A -/
theorem Inv.envAt {X : Cx} {pins : List (Addr × Obj)} {σ : L2.St} {H : Hp} {s : Shared} {A : Around} (I : Inv X pins σ H s) (h : A.frames = X.A.frames) : Env0 X.prog X.w X.K X.mg X.base A X.stack s H := by
  have e := I.env0
  exact ⟨by rw [h]; exact e.frames, e.mod, e.bs, e.bsz, e.funs, e.frf, e.hok, e.bare⟩
section
variable {X : Cx} {n k : Nat} {C : Addr} {sp : Sp} {p : Str}
/-- two instances that the class calls equal, now and later -/
def DI (C : Addr) (sp : Sp) : Eqv := fun x y H => ∃ a b dx dy fs gs, x = .ref a ∧ y = .ref b ∧ ∀ H', Ext H H' → H' a = some (.ins C dx fs) ∧ H' b = some (.ins C dy gs) ∧ sp [.ref a, .ref b] H' (fun v H2 => v = .bl true ∧ Ext H' H2) E0
theorem DI.mon {C : Addr} {sp : Sp} {x y : V} {H H' : Hp} (d : DI C sp x y H) (e : Ext H H') : DI C sp x y H' := by
  obtain ⟨a, b, dx, dy, fs, gs, h1, h2, h3⟩ := d
  exact ⟨a, b, dx, dy, fs, gs, h1, h2, fun H2 e2 => h3 H2 (e.trans e2)⟩
theorem eqB_ins (F : HasM X.prog X.w X.K X.mg X.base n C "__eq__" [p] sp) {A : Around} {pins : List (Addr × Obj)} {s : Shared} {σ : L2.St} {H : Hp} {x y : V} {u v : Value} (sb : SubG X n A) (I : Inv X pins σ H s) (rx : RelV x u) (ry : RelV y v) (d : DI C sp x y H) :
    wpAny (model X.prog X.w) A (eqBool u v) (fun r s' => r = true ∧ ∃ H', Inv X pins σ H' s' ∧ Ext H H') X.xe s := by
  obtain ⟨a, b, dx, dy, fs, gs, rfl, rfl, h⟩ := d
  obtain ⟨ha, hb', q⟩ := h H Ext.rfl'
  obtain rfl : u = Value.ref a := rx
  obtain rfl : v = Value.ref b := ry
  by_cases hab : a = b
  · subst hab
    exact SeqAt.EqAt.same (A := A) (s := s) (.ref a) X.prog X.w X.xe _ ⟨rfl, H, I, Ext.rfl'⟩
  obtain ⟨f, fd, F, hm, hb, _⟩ := F.ex
  obtain ⟨mA, J, _⟩ := ins_get I.hok ha
  obtain ⟨mB, J', _⟩ := ins_get I.hok hb'
  obtain ⟨od, J, _⟩ := J.look
  obtain ⟨od', J', _⟩ := J'.look
  obtain ⟨m, hF⟩ := I.fr
  refine GQ.eqBool_refG hab (PySem.W.cmp_K (op := .Eq) (tb := .ref C) sb.room.units0 hF I.ok.mod.kin J J'.type (by simp [PySem.W.notFirst]) hm.at_ hm.fn ?_)
  have r2 : Vals [V.ref a, V.ref b] [Value.ref a, Value.ref b] := .cons rfl (.cons rfl .nil)
  have hl := F.len _ _ _ _ q
  refine wpAny_call (codeAny_mono (F.run A sb.gd X.stack s H ⟨[.ref a, .ref b], []⟩ [.ref a, .ref b] [.ref a, .ref b] _ E0 sb.room (Inv.envAt I sb.fr) (by
    have := hb s [.ref a, .ref b] I.kIn (by simpa using hl)
    simpa using this) r2 q) fun r s' hq => ?_)
  cases r with
  | error e => exact pass0 pins σ H s e s' I hq
  | ok fl =>
    cases fl with
    | ret w =>
      obtain ⟨z, H', I', rz, ez, ex⟩ := I.after hq
      subst ez
      obtain rfl : w = Value.bool true := rz
      exact ⟨true, rfl, rfl, H', I', ex⟩
    | next => exact hq.elim
    | brk => exact hq.elim
    | cont => exact hq.elim
/-- one list beside another one, all equal one by one -/
def eqLI (C : Addr) (sp : Sp) (neg : Bool) : R2 := fun x y H Q => ∃ a b xs ys, x = .ref a ∧ y = .ref b ∧ H a = some (.lst xs) ∧ H b = some (.lst ys) ∧ Prs (DI C sp) xs ys H ∧ ∀ H', Ext H H' → Q (.bl (!neg)) H'
theorem listI_ins (F : HasM X.prog X.w X.K X.mg X.base n C "__eq__" [p] sp) {A : Around} {pins : List (Addr × Obj)} {σ : L2.St} {H : Hp} {a b : Addr} {xs ys : List V} (sb : SubG X (n + 1) A) (ha : H a = some (.lst xs)) (hb : H b = some (.lst ys)) (pr : Prs (DI C sp) xs ys H) :
    GQ.ListI X.prog X.w A X.xe a b xs.length (fun _ s' => LoopI X pins σ H s') := by
  intro i s' q
  obtain ⟨H1, I1, e1⟩ := id q
  obtain ⟨z, its, k, r, e⟩ := I1.hok a _ (e1 _ _ ha)
  obtain ⟨z2, its2, k2, r2, e2⟩ := I1.hok b _ (e1 _ _ hb)
  refine ⟨its.toArray, its2.toArray, k, k2, e, e2, by rw [List.size_toArray, ← r.length], by rw [List.size_toArray, ← r2.length, ← pr.1], fun h1 h2 => ?_⟩
  have g1 : its[i]? = some its.toArray[i] := by
    have h1' : i < its.length := by simpa using h1
    rw [List.getElem?_eq_getElem h1'] <;> simp
  have g2 : its2[i]? = some its2.toArray[i] := by
    have h2' : i < its2.length := by simpa using h2
    rw [List.getElem?_eq_getElem h2'] <;> simp
  have k1 : i < xs.length := by rw [r.length]; simpa using h1
  have k2 : i < ys.length := by rw [r2.length]; simpa using h2
  obtain ⟨u, hu, ru⟩ := r.get (List.getElem?_eq_getElem k1)
  obtain ⟨v, hv, rv⟩ := r2.get (List.getElem?_eq_getElem k2)
  rw [g1] at hu
  rw [g2] at hv
  rw [Option.some.inj hu, Option.some.inj hv]
  refine wpAny_mono (eqB_ins F sb.in1 I1 ru rv ((pr.2 i _ _ (List.getElem?_eq_getElem k1) (List.getElem?_eq_getElem k2)).mon e1)) (fun r s2 q => ?_) fun _ _ x => x
  obtain ⟨hr, H2, I2, e2⟩ := q
  exact ⟨hr, H2, I2, e1.trans e2⟩
theorem o_neLI (F : HasM X.prog X.w X.K X.mg X.base n C "__eq__" [p] sp) (hA : X.A.guards = some []) (hr : Room (n + 1) X.A) : OpR X (compareOp .NotEq) (eqLI C sp true) := by
  intro pins s σ H x y v u Q I rx ry hq
  obtain ⟨a, b, xs, ys, rfl, rfl, ha, hb, pr, q⟩ := hq
  obtain rfl : v = Value.ref a := rx
  obtain rfl : u = Value.ref b := ry
  show wpAny (model X.prog X.w) X.A (richCompare .NotEq (.ref a) (.ref b)) (EP X pins σ Q) X.xe s
  refine rc_listNG (N := xs.length) hr.units0 (fun _ s' => LoopI X pins σ H s') (listI_ins F ⟨hr, rfl, hA⟩ ha hb pr) (fun s' z => ?_) ⟨H, I, Ext.rfl'⟩
  obtain ⟨H', I', e⟩ := z
  exact ⟨.bl false, H', I', rfl, q H' e⟩
end
end LK

/-! a promise that is asked also where reprs of lists are under way, each of a list that holds an instance; repr of a list of instances whose class has a __repr__ of its own -/
namespace LK
open PySem PySem.Spec PyProof.Rows L2 Builtin
/-- each list of which a repr is under way holds an instance -/
def GN (g : List Code) (H : Hp) : Prop := ∀ id v rest kw, Code.builtin id ⟨v :: rest, kw⟩ ∈ g → ∃ (b : Addr) (xs : List V) (m C dx : Addr) (fs : List (Str × V)), v = .ref b ∧ H b = some (.lst xs) ∧ V.ref m ∈ xs ∧ H m = some (.ins C dx fs)
theorem GN.nil {H : Hp} : GN [] H := fun _ _ _ _ h => nomatch h
theorem ReadsAll.item {h : Heap} : ∀ {vs : List Value} {ds : List PyData} {as : List Addr}, ReadsAll h vs ds as → ∀ v ∈ vs, ∃ d bs, Reads h v d bs
  | _, _, _, .nil, _, hv => nomatch hv
  | _, _, _, .cons r rs, v, hv => by
    rcases List.mem_cons.mp hv with rfl | hv
    · exact ⟨_, _, r⟩
    · exact ReadsAll.item rs v hv
section
variable {X : Cx} {pins : List (Addr × Obj)} {σ : L2.St} {H : Hp} {s : Shared}
theorem GN.clear {g : List Code} (h : GN g H) (I : Inv X pins σ H s) {b : Addr} {d : PyData} {as : List Addr} (r : Reads s.heap (.ref b) d as) : Clear g b := by
  intro id v rest kw hm e
  obtain ⟨b', xs, m, C, dx, fs, rfl, hb, hx, hi⟩ := h id v rest kw hm
  obtain rfl : b' = b := Value.ref.inj e
  obtain ⟨z, its, k, r1, e1⟩ := I.hok b' _ hb
  obtain ⟨i, gi⟩ := List.mem_iff_getElem?.mp hx
  obtain ⟨u, gu, ru⟩ := r1.get gi
  obtain rfl : u = Value.ref m := ru
  obtain ⟨mA, J, _⟩ := ins_get I.hok hi
  obtain ⟨od, ⟨J, jc, _⟩, _⟩ := J.look
  cases r with
  | list h1 h2 h3 h4 =>
    rw [e1] at h1
    obtain rfl := Option.some.inj h1
    injection h3 with h3 h5
    subst h3
    obtain ⟨d', bs, r'⟩ := ReadsAll.item h4 (.ref m) (by simpa using List.mem_of_getElem? gu)
    cases r' with
    | list k1 k2 k3 k4 => rw [J] at k1; obtain rfl := Option.some.inj k1; rw [jc] at k2; cases k2
    | tuple k1 k2 k3 k4 => rw [J] at k1; obtain rfl := Option.some.inj k1; rw [jc] at k2; cases k2
    | dict k1 k2 k3 k4 k5 => rw [J] at k1; obtain rfl := Option.some.inj k1; rw [jc] at k2; cases k2
  | tuple h1 h2 h3 h4 => rw [e1] at h1; obtain rfl := Option.some.inj h1; exact absurd h2 (by intro z; injection z with z; exact absurd z (by decide))
  | dict h1 h2 h3 h4 h5 => rw [e1] at h1; obtain rfl := Option.some.inj h1; exact absurd h2 (by intro z; injection z with z; exact absurd z (by decide))
end
end LK

namespace LK
open PySem PySem.Spec PyProof.Rows L2 Builtin
/-- a def's promise where reprs of lists that hold instances may be under way -/
structure FnR (P : Program) (w : World) (K : PySem.W.Frag) (mg : Str → Option Value) (base : Heap) (CX : CXT) (k : Nat) (f : Addr) (fd : FuncData) (ps : List Str) (sp : Sp) : Prop where
  len : ∀ vs H Q E, sp vs H Q E → vs.length = ps.length
  run : ∀ (A : Around) (g : List Code), A.guards = some g → ∀ (outer : List Env) (s : Shared) (H : Hp) (args : Args) (us : List Value) (vs : List V) (Q : VK) (E : XK), GN g H → Room k A → Env0 P w K mg base A outer s H →
    BindsTo s fd args (ps.zip us) → Vals vs us → sp vs H Q E → codeAny (model P w) A (.call (.ref f) args) (CR CX outer P w H s Q E) s
section
variable {P : Program} {w : World} {K : PySem.W.Frag} {mg : Str → Option Value} {base : Heap} {CX : CXT} {k : Nat} {f : Addr} {fd : FuncData} {ps : List Str} {sp : Sp}
theorem FnR.g (F : FnR P w K mg base CX k f fd ps sp) : FnG P w K mg base CX k f fd ps sp := ⟨F.len, fun A h outer s H args us vs Q E r e b v q => F.run A [] h outer s H args us vs Q E GN.nil r e b v q⟩
theorem FnR.up {j : Nat} (F : FnR P w K mg base CX j f fd ps sp) (h : j ≤ k) : FnR P w K mg base CX k f fd ps sp := ⟨F.len, fun A g hg outer s H args us vs Q E gn r => F.run A g hg outer s H args us vs Q E gn (r.mono h)⟩
theorem fnR_of {nm q : Str} {pa : Arguments} {bd : List Stmt} {sc : Scope} {dV kV dc pm cd ct oc : Value} {an od : Option Addr} {sl : Array (Option Value)} {N : List Str}
    (lk : K.lookup f = some ⟨oc, od, .func (PySem.W.fnOf nm q pa bd sc dV kV dc pm an cd ct), sl⟩) (hc : PySem.W.codeIn K cd q = true) (S : FnScope N ps sc) (len : ∀ vs H Q E, sp vs H Q E → vs.length = ps.length)
    (hb : ∀ (A : Around) (g : List Code), A.guards = some g → ∀ (outer : List Env) (s : Shared) (H : Hp) (vs : List V) (Q : VK) (E : XK), GN g H → Room k (A.deeper (envOfC q sc s.heap.objs.size f cd)) → sp vs H Q E →
      ∃ t, PSs (cxOf CX P w K mg base N q sc f cd A outer s H E) bd t ∧ t { nx := fun _ H' => Q .non H', rt := Q } (start N vs) H) :
    FnR P w K mg base CX (k + 1) f (PySem.W.fnOf nm q pa bd sc dV kV dc pm an cd ct) ps sp where
  len := len
  run := by
    intro A g hg outer s H args us vs Q E gn hr e0 bnd rel hs
    have inB : ∀ b o, base.get? b = some o → s.heap.get? b = some o := fun b o e => (e0.bs b o e).1
    have kin : K.In s.heap := e0.mod.kin.keeps inB
    have kd : ∀ y ∈ ps.zip us, sc.names.lookup y.1 = some .local ∨ (sc.names.lookup y.1 = some .cell ∧ ((cellsFrom (s.heap.objs.size + 1) sc.names []).lookup y.1).isSome = true) := fun y hy =>
      (S.par y.1 (List.of_mem_zip (a := y.1) (b := y.2) hy).1).imp id fun z => ⟨z, PySem.W.cellsFrom_some _ _ _ (.inl z)⟩
    refine codeAny_call_function hr.depth (kin _ _ lk) rfl S.co S.gen rfl (PySem.W.codeRec_of kin hc) (bnd _ _ _ _ ?_)
    refine wpAny_newFunctionEnv_cells S.kind kd ?_
    intro env he s1 inC
    subst he
    refine ⟨(e0.mod.nolimit.keeps inB).keeps inC.toInCall.keep, codeAny_func ?_⟩
    obtain ⟨t, ht, hq⟩ := hb A g hg outer s H vs Q E gn (hr.deeper _) hs
    have I0 := inv_start (CX := CX) (mg := mg) (E := E) S hr.hd e0 (len _ _ _ _ hs) rel inC
    refine wpAny_mono (ht.run [] s1 (start N vs) H _ I0 hq) ?_ (fun _ _ z => z)
    intro fl s' z
    have fin : ∀ (σ' : L2.St) (H' : Hp) (v : V) (u : Value), Inv (cxOf CX P w K mg base N q sc f cd A outer s H E) [] σ' H' s' → L2.RelV v u → Q v H' → CE outer P w H s Q u s' :=
      fun _ H' v _ J rv y => ⟨v, H', J.os, J.bare, J.base, J.hok, rv, y⟩
    cases fl with
    | ret u => obtain ⟨v, σ', H', J, rv, y⟩ := z; exact fin σ' H' v u J rv y
    | next => obtain ⟨σ', H', J, y⟩ := z; exact fin σ' H' V.non Value.none J rfl y
    | brk => obtain ⟨_, _, _, y⟩ := z; exact y.elim
    | cont => obtain ⟨_, _, _, y⟩ := z; exact y.elim
end
section
variable {P : Program} {w : World} {K : PySem.W.Frag} {mg : Str → Option Value} {base : Heap}
theorem okR {x q : Str} {st : Stmt} {f : Addr} {fd : FuncData} {N ps : List Str} {k : Nat} {sp : Sp} (F : Fun K x q st f fd) (S : FnScope N ps (defScope st)) (len : ∀ vs H Q E, sp vs H Q E → vs.length = ps.length)
    (hb : ∀ (cd : Value) (A : Around) (g : List Code), A.guards = some g → ∀ (outer : List Env) (s : Shared) (H : Hp) (vs : List V) (Q : VK) (E : XK), GN g H → Room k (A.deeper (envOfC q (defScope st) s.heap.objs.size f cd)) → sp vs H Q E →
      ∃ t, PSs (cxOf CX0 P w K mg base N q (defScope st) f cd A outer s H E).nox (defBody st) t ∧ t { nx := fun _ H' => Q .non H', rt := Q } (start N vs) H) : FnR P w K mg base CX0 (k + 1) f fd ps sp := by
  obtain ⟨oc, od, kV, dc, pm, an, cd, ct, sl, rfl, lk, hc⟩ := F.ex
  refine fnR_of lk hc S len ?_
  intro A g hg outer s H vs Q E gn hr hs
  obtain ⟨t, h, z⟩ := hb cd A g hg outer s H vs Q E gn hr hs
  exact ⟨t, h.nox, z⟩
/-- a method with such a promise -/
structure HasR (P : Program) (w : World) (K : PySem.W.Frag) (mg : Str → Option Value) (base : Heap) (k : Nat) (C : Addr) (m : Str) (sp : Sp) : Prop where
  ex : ∃ f fd, FnR P w K mg base CX0 k f fd ["self"] sp ∧ Meth K C m f ∧ Binds K fd ["self"] []
theorem HasR.up {j k : Nat} {C : Addr} {m : Str} {sp : Sp} (F : HasR P w K mg base j C m sp) (h : j ≤ k) : HasR P w K mg base k C m sp := by
  obtain ⟨f, fd, a, b⟩ := F.ex
  exact ⟨f, fd, a.up h, b⟩
end
section
variable {X : Cx} {e : Expr} {te : TE} {pos : Pos} {g : List Code}
/-- {e!r}, e a list of data, where reprs may be under way -/
def tFmtR (K : PySem.W.Frag) (g : List Code) (te : TE) : TE := fun σ H Q => te σ H fun x H1 => match x with
  | .ref a => ∃ d ds, GN g H1 ∧ Dp K H1 (.ref a) (.list (d :: ds)) ∧ Shw (.list (d :: ds)) ∧ (PyData.list (d :: ds)).shown.length ≤ sizeLine ∧ Q (.str (PyData.list (d :: ds)).shown) H1
  | .str y => (reprText y).length ≤ sizeLine ∧ Q (.str (reprText y)) H1
  | _ => False
theorem pe_fmtR (hA : X.A.guards = some g) (hu : X.A.units + 64 < cLine) (he : PE X e te) : PE X (.FormattedValue e 114 none pos) (tFmtR X.K g te) := by
  constructor
  intro pins s σ H Q I w
  refine wpAny_FormattedValue_repr (thn (he.run pins s σ H _ I w) fun v s1 z => ?_)
  obtain ⟨x, H1, I1, r1, q⟩ := z
  cases x with
  | ref a =>
    obtain ⟨d, ds, gn, hd, hw, hl, q⟩ := q
    obtain rfl : v = Value.ref a := r1
    obtain ⟨as, rd⟩ := Dp.reads I1 (.list (d :: ds)) _ (Value.ref a) hd rfl
    have dp := hw.dp
    have fin : ∀ h' u tk, (∀ b o, s1.heap.get? b = some o → h'.get? b = some o) → wpAny (model X.prog X.w) X.A (formatField (.str (PyData.list (d :: ds)).shown u) Str.empty) (EP X pins σ Q) X.xe { s1 with heap := h', toks := tk } := fun h' u tk hk => by
      have J := I1.kept (t' := tk) hk
      exact wpAny_formatField_str ⟨.str _, H1, J, ⟨_, rfl⟩, q⟩ ⟨.str _, H1, J.tok _, ⟨_, rfl⟩, q⟩ hl
    have rd0 := rd
    cases rd with
    | list h1 h2 h3 h4 =>
      rename_i o vs n as1
      have hz' : (listText (PyData.shownAll (d :: ds))).length ≤ sizeLine := by simpa only [PyData.shown] using hl
      have sh := hw.sh
      obtain ⟨bs, hb, hk⟩ := ReprAllK.of_readsAll (prog := X.prog) (w := X.w) h4 (by simpa [PyData.showable] using sh) (fun hx hm => (hw.nd (by simpa [PyData.hasDict] using hx)).elim) (fun t ht => Nat.le_trans (listText_mem_le ht) hz')
      have hna : a ∉ bs := not_mem_of_deeper rd0 (by simp only [PyData.depth]; omega) hb
      simp only [PyData.depth] at dp
      obtain ⟨l⟩ := vs
      cases l with
      | nil => cases h4
      | cons y l =>
        refine wpAny_pyReprObj_listK h1 h2 h3 hna (by simpa using hk.length_eq) (fun i z e => hk.item i z (by simpa using e)) hA (fun b hm => ?_) (by omega) (fun _ _ e => e) (fun h' u tk hkp => ?_) hz'
        · rcases List.mem_cons.mp hm with rfl | hm
          · exact gn.clear I1 rd0
          · obtain ⟨d', as', r', _⟩ := hb b hm
            exact gn.clear I1 r'
        · have := fin h' u tk hkp
          simpa only [PyData.shown] using this
  | str y =>
    obtain ⟨hl, q⟩ := q
    obtain ⟨t, rfl⟩ := r1
    exact pyReprObj_str (wpAny_formatField_str ⟨.str (reprText y), H1, I1.tok _, ⟨_, rfl⟩, q⟩ ⟨.str (reprText y), H1, I1.tok _, ⟨_, rfl⟩, q⟩ hl) hl
  | _ => exact q.elim
end
end LK

namespace LK
open PySem PySem.Spec PyProof.Rows L2 Builtin
open Builtin.List
theorem bndBy {M : Model} {A : Around} {E : Value → Shared → Prop} {s : Shared} {K : PySem.W.Frag} {x C f : Addr} {ox : Obj} {od : Option Obj} {name : Str} {last : Value → List Value → Sem Value} {Q : Option Value → Shared → Prop}
    (X : K.In s.heap) (J : PySem.W.InstAt s.heap x ox C od) (hs : PySem.W.findIn K (.ref C) name = some (some (.ref f))) (hf : PySem.W.isFn K (.ref f) = true)
    (h : wpAny M A (last (.ref f) [.ref x]) (fun v => Q (some v)) E s) : wpAny M A (callSpecialIfBoundBy? last (.ref x) name) Q E s := by
  simp only [callSpecialIfBoundBy?, bindSpecialIfBound?]
  refine wpAny_holding (wpAny_bind (wpAny_bind (wpAny_bind (J.type.here ((PySem.W.looks_findIn X hs).here ?_)))))
  refine wpAny_bind (wpAny_askSetting (wpAny_ite ?_))
  have fin : wpAny M A (last (.ref f) [.ref x] >>= fun v => pure (some v)) Q E s := wpAny_bind (wpAny_mono h (fun v s' h' => wpAny_pure h') fun _ _ h' => h')
  split
  · exact wpAny_bind ((PySem.W.bind_fn X _ (beq_iff_eq.mp hf)).here (wpAny_pure (by exact fin)))
  · exact wpAny_tryCatch (wpAny_bind ((PySem.W.bind_fn X _ (beq_iff_eq.mp hf)).here (wpAny_pure (by exact fin))))
section
variable {X : Cx} {pins : List (Addr × Obj)} {σ : L2.St} {H : Hp} {s : Shared} {n : Nat} {C : Addr} {sp : Sp}
theorem item_repr (F : HasR X.prog X.w X.K X.mg X.base n C "__repr__" sp) {A : Around} {g : List Code} {E : Value → Shared → Prop} {m dx : Addr} {fs : List (Str × V)} {t : Str} {base : Nat} (hA : A.guards = some g) (hf : A.frames = X.A.frames) (hr : Room n A)
    (I : Inv X pins σ H s) (gn : GN g H) (hi : H m = some (.ins C dx fs)) (hb : base ≤ sizeLine) (q : sp [.ref m] H (fun v H' => v = .str t ∧ Ext H H') E0) {Q : Str → Shared → Prop} (fin : ∀ s' H', Inv X pins σ H' s' → Ext H H' → Q t s') :
    wpAny (model X.prog X.w) A (pyReprUnder base (.ref m)) Q E s := by
  obtain ⟨f, fd, F, hm, hbd⟩ := F.ex
  obtain ⟨ox, od, J⟩ := inst_at I hi
  have kin := I.kIn
  refine wpAny_pyReprUnder_ref hb ?_
  unfold pyReprObjUnder pyReprObjBy
  refine wpAny_bind (wpAny_cRoomFor hr.units0 ?_)
  refine wpAny_bind (wpAny_bind (J.type.here ((PySem.W.looks_findIn kin hm.at_).here ?_)))
  show wpAny _ _ (if (some (Value.ref f)).isNone = true then _ else _) _ _ _
  rw [if_neg (by simp)]
  refine wpAny_bind (m := callSpecialIfBoundBy? _ (.ref m) (Str.ofString "__repr__")) (bndBy kin J hm.at_ hm.fn ?_)
  show wpAny _ _ (call (.ref f) [.ref m]) _ _ _
  have hl := F.len _ _ _ _ q
  refine wpAny_call (codeAny_mono (F.run A g hA X.stack s H ⟨[.ref m], []⟩ [.ref m] [.ref m] _ E0 gn hr (Inv.envAt I hf) (by
    have := hbd s [.ref m] I.kIn (by simpa using hl)
    simpa using this) (.cons rfl .nil) q) fun r s' hq => ?_)
  cases r with
  | error e => exact hq.elim
  | ok fl =>
    cases fl with
    | ret w =>
      obtain ⟨z, H', I', rz, ez, ex⟩ := I.after hq
      subst ez
      obtain ⟨tk, rfl⟩ := rz
      exact wpAny_bind (wpAny_isInstance (T := "str") (b := true) rfl isSubtype_str_str (wpAny_pure ⟨t, tk, rfl, fin _ _ I' ex⟩))
    | next => exact hq.elim
    | brk => exact hq.elim
    | cont => exact hq.elim
theorem loop_depth {A : Around} {args : Args} : (A.under (.builtin "list.__repr__.loop" args)).depth ≤ A.depth + 1 := by
  first | exact Nat.le_refl _ | exact Nat.le_succ _ | (simp [Around.under, Code.weight, Code.isCreation, Code.isGuard, Code.isCaller, Code.frames, Code.isFrame, guardIds]) | (unfold Around.under; simp [Code.weight]; split <;> omega)
theorem room_loop {k : Nat} {A : Around} {args : Args} (r : Room (k + 1) A) : Room k (A.under (.builtin "list.__repr__.loop" args)) :=
  ⟨r.hd, by have := r.dp; have := loop_depth (A := A) (args := args); omega, by have := r.un; rw [units_under_list_loop]; omega⟩
theorem strs_of : ∀ {l : List Str} {us : List Value}, Vals (l.map V.str) us → ∃ done : List (Str × Tok), us = strValues done ∧ done.map (·.1) = l
  | [], [], _ => ⟨[], rfl, rfl⟩
  | [], _ :: _, h => by cases h
  | _ :: _, [], h => by cases h
  | t :: l, u :: us, .cons r h => by
    obtain ⟨done, e1, e2⟩ := strs_of h
    obtain ⟨tk, rfl⟩ := r
    exact ⟨(t, tk) :: done, by rw [e1]; rfl, by rw [List.map_cons, e2]⟩
theorem loop_repr (F : HasR X.prog X.w X.K X.mg X.base n C "__repr__" sp) {A : Around} {L P : Addr} {ms : List Addr} {ts : List Str} {base : Nat} {R : Result → Shared → Prop} (hA : A.guards = some []) (hf : A.frames = X.A.frames) (hr : Room (n + 1) A)
    (hL : H L = some (.lst (ms.map V.ref))) (hne : L ≠ P) (hlen : ts.length = ms.length)
    (hT : ∀ (i : Nat) (m : Addr) (t : Str), ms[i]? = some m → ts[i]? = some t → ∀ H', Ext H H' → ∃ dx fs, H' m = some (.ins C dx fs) ∧ sp [.ref m] H' (fun v H2 => v = .str t ∧ Ext H' H2) E0)
    (hsz : base + (listText ts).length ≤ sizeLine) (fin : ∀ s' H' u, Inv X pins σ H' s' → Ext H H' → R (.ok (.ret (.str (listText ts) u))) s') :
    ∀ (k i : Nat) (s : Shared) (H' : Hp), ms.length - i = k → i ≤ ms.length → Inv X pins σ H' s → Ext H H' → H' P = some (.lst ((ts.take i).map V.str)) → H P = none →
    codeAny (model X.prog X.w) A (.builtin "list.__repr__.loop" ⟨[.ref L, rawInt i, .ref P, rawInt ((base + piled (ts.take i) : Nat) : Int)], []⟩) R s := by
  have hX : (listText ts).length = (textFrom 0 "[" ts).length + 1 := by
    show (textFrom 0 "[" ts ++ "]").length = _
    rw [strLen_append]; rfl
  have hTl := textFrom_len ts 0 "["
  have sz1 : ms.length ≤ sizeLine := by
    have h1 := hTl.1
    rw [if_neg (Nat.lt_irrefl 0)] at h1
    omega
  have sz2 : ∀ t ∈ ts, t.length ≤ sizeLine := fun t ht => by
    have h2 := hTl.2.1 t ht
    omega
  have sz3 : (listText ts).length ≤ sizeLine := by omega
  have hp3 := piled_le_listText ts
  intro k
  induction k with
  | zero =>
    intro i s H' hk hi I e hP nP
    have ei : i = ms.length := by omega
    obtain ⟨z, its, c, r1, g1⟩ := I.hok L _ (e _ _ hL)
    obtain ⟨z2, its2, c2, r2, g2⟩ := I.hok P _ hP
    have l1 : its.length = ms.length := by rw [← r1.length, List.length_map]
    obtain ⟨done, rfl, ed⟩ := strs_of r2
    refine codeAny_builtin PySem.F.entry_list_repr_loop ?_
    show wpAny _ _ («list.__repr__.loop» ⟨[.ref L, .int i 0, .ref P, .int ((base + piled (ts.take i) : Nat) : Int) 0], []⟩) _ _ s
    rw [repr_loop_tree]
    refine wpAny_bind (wpAny_listItems g1 rfl ?_)
    have hnone : its.toArray[(i : Int).toNat]? = none := by simp [ei, l1]
    simp only [hnone]
    unfold reprEnd
    refine wpAny_bind (wpAny_listItems g2 rfl ?_)
    rw [show (strValues done).toArray.toList = strValues done by simp, repr_fold]
    refine wpAny_bind (wpAny_pure ?_)
    have hall : done.map (·.1) = ts := by rw [ed, ei, ← hlen, List.take_length]
    rw [hall]
    refine wpAny_bind (wpAny_mkStr (wpAny_pure ?_) sz3)
    exact fin _ _ _ (I.tok _) e
  | succ k ih =>
    intro i s H' hk hi I e hP nP
    have hlt : i < ms.length := by omega
    obtain ⟨z, its, c, r1, g1⟩ := I.hok L _ (e _ _ hL)
    have l1 : its.length = ms.length := by rw [← r1.length, List.length_map]
    have hm : ms[i]? = some ms[i] := List.getElem?_eq_getElem hlt
    obtain ⟨t, ht⟩ : ∃ t, ts[i]? = some t := ⟨_, List.getElem?_eq_getElem (by omega)⟩
    obtain ⟨dx, fs, hi2, q⟩ := hT i _ t hm ht H' e
    have hp1 := piled_take_succ ht
    have hp2 := piled_take_le ts (i + 1)
    obtain ⟨u, hu, ru⟩ := r1.get (show (ms.map V.ref)[i]? = some (.ref ms[i]) by rw [List.getElem?_map, hm]; rfl)
    obtain rfl : u = Value.ref ms[i] := ru
    refine codeAny_builtin PySem.F.entry_list_repr_loop ?_
    show wpAny _ _ («list.__repr__.loop» ⟨[.ref L, .int i 0, .ref P, .int ((base + piled (ts.take i) : Nat) : Int) 0], []⟩) _ _ s
    rw [repr_loop_tree]
    refine wpAny_bind (wpAny_listItems g1 rfl ?_)
    have hsome : its.toArray[(i : Int).toNat]? = some (.ref ms[i]) := by simpa using hu
    simp only [hsome]
    rw [Int.toNat_natCast]
    have gd := guards_under_guard (A := A) (c := .builtin "list.__repr__.loop" ⟨[.ref L, .int i 0, .ref P, .int ((base + piled (ts.take i) : Nat) : Int) 0], []⟩) (isGuard_list_loop _) hA
    have gn : GN [Code.builtin "list.__repr__.loop" ⟨[.ref L, .int i 0, .ref P, .int ((base + piled (ts.take i) : Nat) : Int) 0], []⟩] H' := fun id v rest kw hm2 => by
      rw [List.mem_singleton] at hm2
      injection hm2 with h1 h2
      injection h2 with h3 h4
      injection h3 with h5 h6
      exact ⟨L, _, ms[i], C, dx, fs, h5, e _ _ hL, List.mem_map.mpr ⟨ms[i], List.getElem_mem hlt, rfl⟩, hi2⟩
    refine wpAny_bind (wpAny_holding (item_repr F gd ?_ ?_ I gn hi2 (by omega) q fun s2 H2 I2 e2 => ?_))
    · rw [← hf]; first | rfl | (simp [Around.under, Code.envs, Code.isFrame, pushEnvs])
    · exact room_loop hr
    refine wpAny_bind (wpAny_mkStr ?_ (sz2 t (List.mem_of_getElem? ht)))
    refine wpAny_bind ?_
    show wpAny _ _ (updateSeq P _) _ _ _
    obtain ⟨z2, its2, c2, r2, g2⟩ := I2.hok P _ (e2 _ _ hP)
    have l2 : its2.length = i := by rw [← r2.length, List.length_map, List.length_take]; omega
    refine wpAny_updateSeq g2 rfl (wpAny_pure ⟨PySem.F.quiet_list_repr_loop _, ?_⟩) (by rw [List.size_toArray]; omega)
    have e1 : ((i : Int) + 1) = ((i + 1 : Nat) : Int) := by omega
    have e3 : base + piled (ts.take i) + (t.length + 2) = base + piled (ts.take (i + 1)) := by omega
    rw [e1, e3]
    have et : (ts.take (i + 1)).map V.str = (ts.take i).map V.str ++ [V.str t] := by rw [List.take_add_one, ht, List.map_append]; rfl
    refine ih (i + 1) _ (upd H2 P (.lst ((ts.take (i + 1)).map V.str))) (by omega) hlt ?_ (fun b o hb => ?_) upd_same nP
    · refine I2.write (x := P) (e := P) (by rw [e2 _ _ hP]; exact True.intro) (.inl rfl) (fun b u nb hb => (Heap.get?_update_other _ _ (fun h : P = b => nb h.symm)).trans hb) ⟨_, Heap.get?_update_self _ g2 rfl⟩ ?_
      obtain ⟨n2, gu⟩ : ∃ n2, (s2.heap.update P (Obj.mapSeq fun x => x.push (Value.str t s2.toks))).get? P = some { cls := .type "list", data := .seq (its2.toArray.push (.str t s2.toks)) n2 } := ⟨_, Heap.get?_update_self _ g2 rfl⟩
      refine ⟨by rw [List.length_map, List.length_take]; omega, its2 ++ [.str t s2.toks], n2, by rw [et]; exact Vals.append r2 (.cons ⟨_, rfl⟩ .nil), ?_⟩
      rw [show (its2 ++ [Value.str t s2.toks]).toArray = its2.toArray.push (.str t s2.toks) by simp]
      exact gu
    · have nb : b ≠ P := ne_of_none hb nP
      rw [upd_ne nb]; exact e2 _ _ (e _ _ hb)
/-- repr of a list of instances -/
def reprLI (C : Addr) (sp : Sp) : List V → Hp → VK → Prop := fun vs H Q => match vs with
  | [.ref L] => ∃ (ms : List Addr) (ts : List Str), H L = some (.lst (ms.map V.ref)) ∧ ms ≠ [] ∧ ts.length = ms.length ∧
      (∀ (i : Nat) (m : Addr) (t : Str), ms[i]? = some m → ts[i]? = some t → ∀ H', Ext H H' → ∃ dx fs, H' m = some (.ins C dx fs) ∧ sp [.ref m] H' (fun v H2 => v = .str t ∧ Ext H' H2) E0) ∧
      (listText ts).length ≤ sizeLine ∧ ∀ H', Ext H H' → Q (.str (listText ts)) H'
  | _ => False
theorem c_reprLI (F : HasR X.prog X.w X.K X.mg X.base n C "__repr__" sp) (hA : X.A.guards = some []) (hr : Room (n + 2) X.A) : CallR X (.builtin "repr") (reprLI C sp) := by
  intro pins s σ H xs us Q I r h
  unfold reprLI at h
  split at h
  · rename_i L
    obtain ⟨ms, ts, hL, hne, hlen, hT, hsz, q⟩ := h
    obtain ⟨u, rfl, ru⟩ := vals1 r
    obtain rfl : u = Value.ref L := ru
    obtain ⟨z, its, c, r1, g1⟩ := I.hok L _ hL
    have l1 : its.length = ms.length := by rw [← r1.length, List.length_map]
    cases its with
    | nil => exact absurd (List.eq_nil_of_length_eq_zero l1.symm) hne
    | cons x l =>
      have hu := hr.un
      refine call_repr_slot (by omega) ⟨_, g1, rfl⟩ PySem.F.slot_list_repr.toG ?_
      refine wpAny_call (codeAny_call_builtin PySem.F.slot_list_repr.plain PySem.F.entry_list_repr (PySem.F.slot_list_repr.check _ _ _ _ _ _ _ _ ⟨_, g1, rfl⟩ (PySem.F.args_list_repr_1 _) ?_))
      refine wpAny_list_repr_head (g := []) hA (fun v rest kw hm => nomatch hm) g1 rfl ?_
      refine wpAny_bind (m := newList []) (wpAny_newObj_type ?_)
      refine wpAny_pure ⟨PySem.F.quiet_list_repr_loop _, ?_⟩
      have nP : H s.heap.objs.size = none := I.hok.fresh (Nat.le_refl _)
      have I1 : Inv X pins σ (upd H s.heap.objs.size (.lst [])) { s with heap := s.heap.push { cls := .type "list", dict := none, data := .seq #[] 0 } } :=
        I.laid (t' := s.toks) (fun b u z => Heap.get?_push_of_some _ z) (Nat.le_refl _) ⟨by show 0 ≤ sizeLine; omega, [], _, .nil, Heap.get?_push_size _ rfl⟩
      refine loop_repr (A := X.A.in1) (P := s.heap.objs.size) (base := 0) (ms := ms) (ts := ts) (H := H) F hA rfl hr.in1 hL (ne_of_none hL nP) hlen hT (by omega) (fun s' H' u I' e' => ?_) _ 0 _ _ rfl (Nat.zero_le _) I1 (Ext.upd nP) upd_same nP
      exact ⟨_, u, rfl, .str _, H', I', ⟨u, rfl⟩, q H' e'⟩
  · exact h.elim
end
end LK

namespace LK
open PySem PySem.Spec PyProof.Rows L2 LamX ClX
open scoped List
/-! a sheet's rows and kinds as they are shown -/
structure Shn (n m : Nat) (d : PyData) : Prop where
  sh : d.showable = true
  nd : d.hasDict = false
  dp : d.depth ≤ n
  lf : d.leavesShort 13 = true
  wt : d.weight ≤ m
theorem shn_int {g : Nat} (h : g < 64) : Shn 0 6 (.int g) := by
  have key : ∀ g : Nat, g < 64 → (PyData.int (g : Int)).showable = true ∧ (PyData.int (g : Int)).leavesShort 13 = true ∧ (PyData.int (g : Int)).weight ≤ 6 := by decide +kernel
  obtain ⟨a, b, c⟩ := key g h
  exact ⟨a, rfl, Nat.le_refl _, b, c⟩
theorem shn_bl (b : Bool) : Shn 0 6 (.bool b) := ⟨rfl, rfl, Nat.le_refl _, rfl, by show 0 ≤ 6; omega⟩
theorem shn_list {n m : Nat} {ds : List PyData} (h : ∀ d ∈ ds, Shn n m d) : Shn (n + 1) ((m + 1) * ds.length) (.list ds) := by
  have key : PyData.showableAll ds = true ∧ PyData.hasDictAll ds = false ∧ PyData.depthAll ds ≤ n ∧ PyData.leavesShortAll 13 ds = true ∧ PyData.weightAll ds ≤ (m + 1) * ds.length := by
    induction ds with
    | nil => exact ⟨rfl, rfl, Nat.zero_le _, rfl, Nat.zero_le _⟩
    | cons d ds ih =>
      obtain ⟨a, b, c, e, f⟩ := ih fun x hx => h x (List.mem_cons_of_mem _ hx)
      obtain ⟨a1, b1, c1, e1, f1⟩ := h d (by simp)
      refine ⟨by rw [PyData.showableAll, a1, a]; rfl, by rw [PyData.hasDictAll, b1, b]; rfl, by rw [PyData.depthAll]; exact Nat.max_le.mpr ⟨c1, c⟩, by rw [PyData.leavesShortAll, e1, e]; rfl, ?_⟩
      rw [PyData.weightAll, List.length_cons, Nat.mul_succ]; omega
  obtain ⟨a, b, c, e, f⟩ := key
  exact ⟨by rw [PyData.showable]; exact a, by rw [PyData.hasDict]; exact b, by rw [PyData.depth]; omega, by rw [PyData.leavesShort]; exact e, by rw [PyData.weight]; exact f⟩
theorem Shn.mono {n m m' : Nat} {d : PyData} (h : Shn n m d) (l : m ≤ m') : Shn n m' d := ⟨h.sh, h.nd, h.dp, h.lf, Nat.le_trans h.wt l⟩
theorem Shn.shw {n m : Nat} {d : PyData} (h : Shn n m d) (hn : n ≤ 3) (hm : m ≤ 2 ^ 20) : Shw d := ⟨h.sh, (fun z => by rw [h.nd] at z; cases z), Nat.le_trans h.dp hn, h.lf, Nat.le_trans h.wt hm⟩
theorem Shn.len {n m : Nat} {d : PyData} (h : Shn n m d) : d.shown.length ≤ 15 * m + 13 := by
  have a := PyData.shown_le 13 (by omega) d h.lf
  have b := Nat.mul_le_mul_left 15 h.wt
  omega
theorem shn_rows {S : List Nat} {R : Rows} {Kd : List Bool} (ok : ShOk S R Kd) : Shn 2 880 (encRs R) := by
  have hi := ok.hi
  have l3 := ok.let_.hi
  have : Shn 2 ((21 + 1) * (R.map encR).length) (encRs R) := shn_list fun d hd => by
    obtain ⟨r, hr, rfl⟩ := List.mem_map.mp hd
    have lr := ok.rows.len r hr
    refine (shn_list (m := 6) fun d hd => ?_).mono (by rw [List.length_map]; omega)
    obtain ⟨g, hg, rfl⟩ := List.mem_map.mp hd
    exact shn_int (by have := ok.rows.lt r hr g hg; omega)
  exact this.mono (by rw [List.length_map]; omega)
theorem shn_kinds {S : List Nat} {R : Rows} {Kd : List Bool} (ok : ShOk S R Kd) : Shn 1 280 (encB Kd) := by
  have hi := ok.hi
  have hk := ok.kinds
  exact (shn_list (m := 6) fun d hd => by
    obtain ⟨g, _, rfl⟩ := List.mem_map.mp hd
    exact shn_bl _).mono (by rw [List.length_map]; omega)
theorem rep_let {S : List Nat} (ok : LetOk S) : (reprText (T S)).length ≤ 32 := by
  have a := PySem.StrLaws.reprText_len (T S) fun c hc => by
    have := ok.sm.asc c hc
    have : (128 : Nat) < 16 ^ 8 := by decide
    omega
  have b : (T S).length = S.length := rfl
  have := ok.hi
  omega
/-- a machine as it is shown -/
def spk (S : List Nat) (R : Rows) (Kd : List Bool) : Str := Str.empty ++ "Machine(" ++ reprText (T S) ++ ", " ++ (encRs R).shown ++ ", " ++ (encB Kd).shown ++ ")"
section
variable {P : Program} {w : World} {K : PySem.W.Frag} {mg : Str → Option Value} {base : Heap} {C : Addr}
theorem scRepr : FnScope ["self"] ["self"] (defScope sRepr) := ⟨rfl, rfl, rfl, by decide +kernel, rfl, by decide +kernel, by decide +kernel⟩
def spRepr (C : Addr) : Sp := fun vs H Q _ => ∃ (a : Addr) (S : List Nat) (R : Rows) (Kd : List Bool), vs = [.ref a] ∧ Mach C H a S R Kd ∧ ShOk S R Kd ∧ Q (.str (spk S R Kd)) H
theorem ok_repr {f : Addr} {fd : FuncData} {k : Nat} (F : Fun K "__repr__" "Machine.__repr__" sRepr f fd) (cM : ClsM K C) : FnR P w K mg base CX0 (k + 1) f fd ["self"] (spRepr C) := by
  refine okR F scRepr (fun vs H Q E h => ?_) (fun cdv A g hA outer s H vs Q E gn hr h => ?_)
  · obtain ⟨a, S, R, Kd, rfl, _⟩ := h; rfl
  · obtain ⟨a, S, R, Kd, rfl, mm, ok, q⟩ := h
    refine ⟨_, pss_one (ps_ret (pe_joined (.cons pe_str (.cons (pe_fmtR hA hr.units (pe_fldU (uv 0))) (.cons pe_str (.cons (pe_fmtR hA hr.units (pe_fldU (uv 0))) (.cons pe_str (.cons (pe_fmtR hA hr.units (pe_fldU (uv 0))) (.cons pe_str .nil))))))))), ?_⟩
    have lo := ok.lo
    have lk := ok.kinds
    obtain ⟨r0, R', rfl⟩ := List.exists_cons_of_ne_nil (l := R) (fun z => by rw [z] at lo; exact absurd lo (by decide))
    obtain ⟨b0, B', rfl⟩ := List.exists_cons_of_ne_nil (l := Kd) (fun z => by rw [z] at lk; simp at lk)
    obtain ⟨dx, r, kk, rs, h1, h2, h3, h4, h5⟩ := id mm
    have sl := sizeLine_eq
    have r1 := rep_let ok.let_
    have r2 := (shn_rows ok).len
    have r3 := (shn_kinds ok).len
    have r2' : (PyData.list (encR r0 :: R'.map encR)).shown.length ≤ 15 * 880 + 13 := r2
    have r3' : (PyData.list (PyData.bool b0 :: B'.map PyData.bool)).shown.length ≤ 15 * 280 + 13 := r3
    have k1 : (Str.empty ++ Str.ofString "Machine(").length = 8 := by decide +kernel
    have k2 : (Str.ofString ", ").length = 2 := by decide +kernel
    have k3 : (Str.ofString ")").length = 1 := by decide +kernel
    have ad : ∀ x y : Str, (x ++ y).length = x.length + y.length := fun x y => PySem.strLen_append x y
    refine ⟨_, rfl, by rw [k1]; omega, C, dx, _, .str (T S), h1, cM.cls, cM.nL, rfl, ⟨by omega, _, rfl, by rw [ad, k1]; omega, ?_⟩⟩
    refine ⟨_, rfl, by rw [ad, ad, k1, k2]; omega, C, dx, _, .ref r, h1, cM.cls, cM.nR, rfl, encR r0, R'.map encR, gn, dp_rows ⟨rs, h2, h3, h4⟩, (shn_rows ok).shw (by omega) (by decide), (show (encRs (r0 :: R')).shown.length ≤ sizeLine by omega), _, rfl, by rw [ad, ad, ad, k1, k2]; omega, ?_⟩
    refine ⟨_, rfl, by rw [ad, ad, ad, ad, k1, k2]; omega, C, dx, _, .ref kk, h1, cM.cls, cM.nK, rfl, PyData.bool b0, B'.map PyData.bool, gn, dp_kinds h5, (shn_kinds ok).shw (by omega) (by decide), (show (encB (b0 :: B')).shown.length ≤ sizeLine by omega), _, rfl, by rw [ad, ad, ad, ad, ad, k1, k2]; omega, ?_⟩
    exact ⟨_, rfl, by rw [ad, ad, ad, ad, ad, ad, k1, k2, k3]; omega, q⟩
end
end LK

/-! machines that go side by side are numbered alike -/
namespace LK
open PySem PySem.Spec PyProof.Rows L2
open scoped List
/-- a relation that is one to one -/
structure One (Rl : Nat → Nat → Prop) : Prop where
  fn : ∀ {a b c}, Rl a b → Rl a c → b = c
  inj : ∀ {a b c}, Rl a c → Rl b c → a = b
/-- two lists side by side -/
inductive Side (Rl : Nat → Nat → Prop) : List Nat → List Nat → Prop
  | nil : Side Rl [] []
  | cons {a b : Nat} {l k : List Nat} : Rl a b → Side Rl l k → Side Rl (a :: l) (b :: k)
namespace Side
variable {Rl : Nat → Nat → Prop}
theorem len : ∀ {l k : List Nat}, Side Rl l k → l.length = k.length
  | _, _, .nil => rfl
  | _, _, .cons _ h => by rw [List.length_cons, List.length_cons, h.len]
theorem get : ∀ {l k : List Nat}, Side Rl l k → ∀ {i a b : Nat}, l[i]? = some a → k[i]? = some b → Rl a b
  | _, _, .cons h _, 0, a, b, h1, h2 => by
    simp at h1 h2; subst h1; subst h2; exact h
  | _, _, .cons _ h, i + 1, a, b, h1, h2 => h.get (i := i) (by simpa using h1) (by simpa using h2)
theorem some_of {l k : List Nat} (h : Side Rl l k) {i a : Nat} (ha : l[i]? = some a) : ∃ b, k[i]? = some b ∧ Rl a b := by
  have hi := (List.getElem?_eq_some_iff.mp ha).1
  have hi2 : i < k.length := by rw [← h.len]; exact hi
  have hk : k[i]? = some k[i] := List.getElem?_eq_getElem hi2
  exact ⟨_, hk, h.get ha hk⟩
theorem snoc : ∀ {l k : List Nat} {a b : Nat}, Side Rl l k → Rl a b → Side Rl (l ++ [a]) (k ++ [b])
  | _, _, _, _, .nil, h => .cons h .nil
  | _, _, _, _, .cons h0 t, h => .cons h0 (t.snoc h)
theorem mem (o : One Rl) : ∀ {l k : List Nat} {a b : Nat}, Side Rl l k → Rl a b → (a ∈ l ↔ b ∈ k)
  | _, _, _, _, .nil, _ => by simp
  | _, _, a, b, .cons (a := x) (b := y) h t, r => by
    rw [List.mem_cons, List.mem_cons, t.mem o r]
    constructor
    · rintro (rfl | h2)
      · exact .inl (o.fn r h)
      · exact .inr h2
    · rintro (rfl | h2)
      · exact .inl (o.inj r h)
      · exact .inr h2
theorem add1 (o : One Rl) {l k : List Nat} {a b : Nat} (h : Side Rl l k) (r : Rl a b) : Side Rl (LK.add1 l a) (LK.add1 k b) := by
  unfold LK.add1
  by_cases e : a ∈ l
  · rw [if_pos e, if_pos ((h.mem o r).mp e)]; exact h
  · rw [if_neg e, if_neg fun z => e ((h.mem o r).mpr z)]; exact h.snoc r
theorem adds (o : One Rl) : ∀ {g1 g2 : List Nat}, Side Rl g1 g2 → ∀ {l k : List Nat}, Side Rl l k → Side Rl (LK.adds l g1) (LK.adds k g2)
  | _, _, .nil, _, _, h => h
  | _, _, .cons r t, _, _, h => t.adds o (h.add1 o r)
end Side
section
variable {Rl : Nat → Nat → Prop} {R1 R2 : Rows} {s1 s2 : Nat}
/-- goals side by side -/
def Steps (Rl : Nat → Nat → Prop) (R1 R2 : Rows) : Prop := ∀ a b, Rl a b → Side Rl (gls R1 a) (gls R2 b)
theorem fnd_side (o : One Rl) (st : Steps Rl R1 R2) (h : Rl s1 s2) : ∀ i, Side Rl (fnd R1 s1 i) (fnd R2 s2 i)
  | 0 => .cons h .nil
  | i + 1 => by
    have ih := fnd_side o st h i
    show Side Rl (match (fnd R1 s1 i)[i]? with | some p => adds (fnd R1 s1 i) (gls R1 p) | none => fnd R1 s1 i) (match (fnd R2 s2 i)[i]? with | some p => adds (fnd R2 s2 i) (gls R2 p) | none => fnd R2 s2 i)
    cases h1 : (fnd R1 s1 i)[i]? with
    | none =>
      have : (fnd R2 s2 i)[i]? = none := by
        rw [List.getElem?_eq_none_iff] at h1 ⊢
        rw [← ih.len]; exact h1
      rw [this]; exact ih
    | some p =>
      obtain ⟨q, h2, r⟩ := ih.some_of h1
      rw [h2]
      exact (st _ _ r).adds o ih
theorem met_side {m1 m2 : Nat} (o : One Rl) (st : Steps Rl R1 R2) (h : Rl s1 s2) (ok1 : RowsOk R1 m1) (ok2 : RowsOk R2 m2) (h1 : s1 < R1.length) (h2 : s2 < R2.length) : Side Rl (met R1 s1) (met R2 s2) := by
  have a := fnd_side o st h (R1.length + R2.length)
  have e1 : fnd R1 s1 (R1.length + R2.length) = met R1 s1 := fnd_met ok1 h1 (by have := fnd_len (s := s1) ok1 h1 (R1.length + R2.length); omega)
  have e2 : fnd R2 s2 (R1.length + R2.length) = met R2 s2 := fnd_met ok2 h2 (by have := fnd_len (s := s2) ok2 h2 (R1.length + R2.length); omega)
  rw [e1, e2] at a; exact a
end
end LK

/-! comprehensions over known lists whose body changes nothing: all that was stays -/
namespace LK
open PySem PySem.Spec PyProof.Rows L2 LamX
open scoped List
theorem split_map {α : Type} {enc : α → V} {ls : List α} {pre suf : List V} {x : V} (h : ls.map enc = pre ++ x :: suf) : ∃ p g q, ls = p ++ g :: q ∧ pre = p.map enc ∧ x = enc g := by
  obtain ⟨p, q, e1, e2, e3⟩ := List.map_eq_append_iff.mp h
  obtain ⟨g, q', rfl, rfl, _⟩ := List.map_eq_cons_iff.mp e3
  exact ⟨p, g, q', e1, e2.symm, rfl⟩
section
variable {K : PySem.W.Frag} {g : TG} {te : TE} {σ : L2.St} {H H1 : Hp} {vs : List Nat} {Q : VK} {t : TE} {α : Type} {ls : List α} {enc out : α → V} {a : Addr}
/-- each item comes of one of the list -/
theorem lc_mapS (h : ∀ R : VK, R (.ref a) H1 → t σ H R) (hx : H1 a = some (.lst (ls.map enc))) (hn : ls.length < sizeLine)
    (hs : ∀ H' x, x ∈ ls → Same H1 H' → ∀ Qy : VK, (∀ H'', Same H' H'' → Qy (out x) H'') → g (enc x) (wipe σ vs) H' fun σ2 H2 => wipe σ2 vs = wipe σ vs ∧ te σ2 H2 Qy)
    (he : ∀ D H', H1 D = none → Same H1 H' → H' D = some (.lst (ls.map out)) → Q (.ref D) H') : tLc (iList K t) g tYes te vs σ H Q := by
  refine lc_list (K := K) (a := a) (xs := ls.map enc) (H1 := H1) h (.inl (.inl hx)) (fun D pre acc H' => ∃ p q : List α, ls = p ++ q ∧ pre = p.map enc ∧ acc = p.map out ∧ Same H1 H' ∧ H' D = some (.lst (p.map out)))
    (fun D pre acc H' r => ?_) (fun D nD => ⟨[], ls, rfl, rfl, rfl, same_upd nD, upd_same⟩) (fun D nD pre acc x suf H' ex r => ?_) (fun D nD acc H' r => ?_)
  · obtain ⟨_, _, _, _, _, e, _⟩ := r
    exact .inl (.inl (e _ _ hx))
  · obtain ⟨p, q, el, rfl, rfl, e, hD⟩ := r
    cases q with
    | nil =>
      rw [List.append_nil] at el
      have := congrArg List.length ex
      rw [el, List.length_append, List.length_cons] at this
      omega
    | cons y q =>
      have hy : x = enc y := by
        rw [el, List.map_append] at ex
        have := List.append_cancel_left ex
        exact (List.cons.inj this).1.symm
      subst hy
      refine hs H' y (by rw [el]; simp) e _ fun H'' e2 => ?_
      have lp : p.length < sizeLine := by
        have := congrArg List.length el
        rw [List.length_append, List.length_cons] at this
        omega
      refine ⟨p.map out, e2 _ _ hD, by rw [List.length_map]; exact lp, _, p ++ [y], q, by rw [el]; simp, by rw [List.map_append]; rfl, rfl, same_upd2 (e.trans e2) nD, by rw [upd_same, List.map_append]; rfl⟩
  · obtain ⟨p, q, el, ep, rfl, e, hD⟩ := r
    have : q = [] := by
      have h1 := congrArg List.length ep
      have h2 := congrArg List.length el
      rw [List.length_map, List.length_map] at h1
      rw [List.length_append] at h2
      exact List.eq_nil_of_length_eq_zero (by omega)
    subst this
    rw [List.append_nil] at el
    subst el
    exact he D H' nD e hD
end
end LK

namespace LK
open PySem PySem.Spec PyProof.Rows L2 LamX
/-! k14: _law_pot, _law_draw -/
open scoped List
section
variable {P : Program} {w : World} {K : PySem.W.Frag} {mg : Str → Option Value} {base : Heap} (TT : List (Addr × Str))
/-! ### _law_pot -/
theorem scPot : FnScope ["_law_script", "_law_k", "_law_cell"] ["_law_script", "_law_k"] (defScope sPot) := ⟨rfl, rfl, rfl, by decide +kernel, rfl, by decide +kernel, by decide +kernel⟩
def spPot (K : PySem.W.Frag) : Sp := fun vs H Q _ => ∃ (a : Addr) (ns : List Int) (k : Nat), vs = [.ref a, .int k] ∧ SqL K H a (ns.map V.int) ∧ k ≤ 10 ∧ ∀ H' p, Same H H' → H p = none → Pot H' p → Q (.ref p) H'
theorem ok_pot {f : Addr} {fd : FuncData} {k : Nat} (F : Fun K "_law_pot" "_law_pot" sPot f fd) (M : Mx mg) : FnG P w K mg base CX0 (k + 1) f fd ["_law_script", "_law_k"] (spPot K) := by
  refine okG F scPot (fun vs H Q E h => ?_) (fun cdv A hA outer s H vs Q E hr h => ?_)
  · obtain ⟨a, ns, k, rfl, _⟩ := h; rfl
  · obtain ⟨a, ns, k, rfl, hs, hk, q⟩ := h
    have nd := scPot.nd
    refine ⟨_, pss_cons (ps_set (i := 2) nd rfl (.inl rfl) (pe_op o_add (pe_op o_mul pe_int (uv 1)) pe_int))
      (pss_cons (ps_ifU (pt_cu o_lt (uv 1) (pe_callB c_len (by rfl) M.len b_len (pa_cons (uv 0) pa_nil)))
        (pss_one (ps_set (i := 2) nd rfl (.inl rfl) (pe_callB c_abs (by rfl) M.abs b_abs (pa_cons (pe_ixU (uv 0) (uv 1)) pa_nil)))) pss_nil)
      (pss_one (ps_ret (pe_lst (pa_cons (pe_callB (c_max2 rfl) (by rfl) M.max b_max (pa_cons pe_int (pa_cons (pe_op o_sub (uv 2) (pe_op o_pow pe_int pe_int)) pa_nil)))
        (pa_cons (pe_op o_add (pe_op o_mod (pe_callTy c_int (by rfl) M.int b_int (pa_cons (pe_op o_add (pe_op o_add (pe_op o_mul (pe_op o_mod (pe_callTy c_int (by rfl) M.int b_int (pa_cons (uv 2) pa_nil)) pe_int) pe_int) (pe_op o_mul pe_int (uv 1))) pe_int) pa_nil)) pe_int) pe_int) pa_nil)))))), ?_⟩
    refine ⟨.inl ⟨by decide, by decide⟩, ?_⟩
    have fin : ∀ cell : Int, 0 ≤ cell → (tRet (tLst (tCons (tCB (mm2U max) (tCons (tC (.int 0)) (tCons (tOp rSubU (uVar 2) (tOp rPowU (tC (.int 10)) (tC (.int 18)))) tNil)))
        (tCons (tOp rAddU (tOp rModU (tCB intU (tCons (tOp rAddU (tOp rAddU (tOp rMulU (tOp rModU (tCB intU (tCons (uVar 2) tNil)) (tC (.int 2147483549))) (tC (.int 41113))) (tOp rMulU (tC (.int 5059)) (uVar 1))) (tC (.int 29))) tNil)) (tC (.int 2147483579))) (tC (.int 1))) tNil))))
        { nx := fun x H' => Q V.non H', rt := Q } [some (.ref a), some (.int k), some (.int cell)] H := by
      intro cell hc
      refine ⟨⟨by decide, by decide, by decide⟩, ?_⟩
      refine ⟨by decide, .inr ⟨by decide, by decide⟩, .inl ⟨by decide, by decide⟩, by decide, ?_⟩
      refine ⟨by show 2 ≤ sizeLine; decide, fun p np => ?_⟩
      refine q _ p (same_upd np) np ⟨_, _, ?_, ?_, ?_, upd_same⟩
      · exact Int.le_max_left _ _
      · have := Int.emod_nonneg (cell % 2147483549 * 41113 + 5059 * (k : Int) + 29) (b := 2147483579) (by decide)
        omega
      · have := Int.emod_lt_of_pos (cell % 2147483549 * 41113 + 5059 * (k : Int) + 29) (b := 2147483579) (by decide)
        omega
    refine .inl ⟨_, .inl hs, ?_⟩
    refine .d (fun hlt => ?_) (fun _ => ?_)
    · rw [List.length_map] at hlt
      have hk : k < ns.length := by omega
      have hx : (ns.map V.int)[k]? = some (.int ns[k]) := by rw [List.getElem?_map, List.getElem?_eq_getElem hk]; rfl
      exact ⟨_, _, .inl hs, atI_nat hx, fin _ (by omega)⟩
    · exact fin _ (by omega)
/-! ### _law_draw -/
theorem scDraw : FnScope ["_law_pot_here", "_law_sides", "_law_digit"] ["_law_pot_here", "_law_sides"] (defScope sDraw) := ⟨rfl, rfl, rfl, by decide +kernel, rfl, by decide +kernel, by decide +kernel⟩
def spDraw : Sp := fun vs H Q _ => ∃ (p : Addr) (n : Nat), vs = [.ref p, .int n] ∧ 0 < n ∧ n ≤ 1000 ∧ Pot H p ∧ ∀ H' (d : Nat), Ex TT (at1 p) H H' → Pot H' p → d < n → Q (.int d) H'
theorem ok_draw {f : Addr} {fd : FuncData} {k : Nat} (F : Fun K "_law_draw" "_law_draw" sDraw f fd) (M : Mx mg) : FnG P w K mg base CX0 (k + 1) f fd ["_law_pot_here", "_law_sides"] (spDraw TT) := by
  refine okG F scDraw (fun vs H Q E h => ?_) (fun cdv A hA outer s H vs Q E hr h => ?_)
  · obtain ⟨p, n, rfl, _⟩ := h; rfl
  · obtain ⟨p, n, rfl, h0, h1, hp, q⟩ := h
    have nd := scDraw.nd
    refine ⟨_, pss_cons (ps_ifU (pt_cu o_gt (pe_ixU (uv 0) pe_int) pe_int)
        (pss_cons (ps_asg (pe_callB c_divmod (by rfl) M.divmod b_divmod (pa_cons (pe_ixU (uv 0) pe_int) (pa_cons (uv 1) pa_nil))) (pg_tup rfl (pgs_cons (pg_sub (uv 0) pe_int set_list) (pgs_cons (pg_name (i := 2) nd rfl (.inl rfl)) pgs_nil))) rfl)
          (pss_one (ps_ret (uv 2)))) pss_nil)
      (pss_cons (ps_asg (pe_op o_mod (pe_callTy c_int (by rfl) M.int b_int (pa_cons (pe_op o_add (pe_op o_mul (pe_ixU (uv 0) pe_int) pe_int) pe_int) pa_nil)) pe_int) (pg_sub (uv 0) pe_int set_list) rfl)
      (pss_one (ps_ret (pe_op o_mod (pe_callTy c_int (by rfl) M.int b_int (pa_cons (pe_op o_fdiv (pe_op o_mod (pe_callTy c_int (by rfl) M.int b_int (pa_cons (pe_op o_mul (pe_ixU (uv 0) pe_int) (pe_ixU (uv 0) pe_int)) pa_nil)) pe_int) pe_int) pa_nil)) (uv 1))))), ?_⟩
    obtain ⟨i, j, hi, hj, hj2, hp⟩ := hp
    have hsq : SqL K H p [V.int i, V.int j] := .inl (.inl hp)
    have cd : CDiv i (n : Int) := ⟨by omega, by omega⟩
    refine ⟨_, V.int i, .inl hsq, rfl, ?_⟩
    refine .d (fun hlt => ?_) (fun _ => ?_)
    · refine ⟨_, V.int i, .inl hsq, rfl, cd, fun p' np => ?_⟩
      have ne : p ≠ p' := ne_of_none hp np
      have hp2 : (upd H p' (.tup [V.int (i / n), V.int (i % n)])) p = some (.lst [.int i, .int j]) := by rw [upd_ne ne]; exact hp
      refine ⟨p', _, rfl, .inl (.inl upd_same), rfl, _, _, rfl, p, _, 0, 0, rfl, rfl, hp2, rfl, ?_⟩
      refine ⟨_, _, rfl, rfl, ?_⟩
      have m0 := Int.emod_nonneg i (b := (n : Int)) (by omega)
      have m1 := Int.emod_lt_of_pos i (b := (n : Int)) (by omega)
      have e : i % (n : Int) = ((i % (n : Int)).toNat : Int) := by omega
      have r := q (upd (upd H p' (.tup [V.int (i / n), V.int (i % n)])) p (.lst ([V.int i, V.int j].set 0 (V.int (i / n))))) (i % (n : Int)).toNat
        ((Ex.new np).trans (Ex.write rfl hp2 (fun _ z => nomatch z) (fun _ _ z => nomatch z))) ⟨i / n, j, Int.ediv_nonneg hi (by omega), hj, hj2, upd_same⟩ (by omega)
      rw [← e] at r
      exact r
    · refine ⟨_, V.int j, .inl hsq, rfl, .inr ⟨by decide, by decide⟩, by decide, ?_⟩
      have m0 := Int.emod_nonneg (j * 40009 + 1059) (b := 2147483563) (by decide)
      have m1 := Int.emod_lt_of_pos (j * 40009 + 1059) (b := 2147483563) (by decide)
      refine ⟨p, _, 1, 1, rfl, rfl, hp, rfl, ?_⟩
      generalize (j * 40009 + 1059) % 2147483563 = g at m0 m1
      have hp2 : (upd H p (.lst ([V.int i, V.int j].set 1 (V.int g)))) p = some (.lst [.int i, .int g]) := upd_same
      refine ⟨_, V.int g, .inl (.inl (.inl hp2)), rfl, _, V.int g, .inl (.inl (.inl hp2)), rfl, .inl ⟨by omega, by omega⟩, by decide, ⟨by decide, by decide⟩, by omega, ?_⟩
      generalize g * g % 2147483543 / 17 = y
      have m2 := Int.emod_nonneg y (b := (n : Int)) (by omega)
      have m3 := Int.emod_lt_of_pos y (b := (n : Int)) (by omega)
      have e : y % (n : Int) = ((y % (n : Int)).toNat : Int) := by omega
      have r := q _ (y % (n : Int)).toNat (Ex.write rfl hp (fun _ z => nomatch z) (fun _ _ z => nomatch z)) ⟨i, g, hi, m0, by omega, hp2⟩ (by omega)
      rw [← e] at r
      exact r
end
end LK

namespace LK
open PySem PySem.Spec PyProof.Rows L2 LamX
open scoped List
section
variable {P : Program} {w : World} {K : PySem.W.Frag} {mg : Str → Option Value} {base : Heap} (TT : List (Addr × Str))
theorem scPick : FnScope ["_law_pot_here", "_law_some"] ["_law_pot_here", "_law_some"] (defScope sPick) := ⟨rfl, rfl, rfl, by decide +kernel, rfl, by decide +kernel, by decide +kernel⟩
/-- one of a list -/
def spPick : Sp := fun vs H Q _ => ∃ (p a : Addr) (xs : List V), vs = [.ref p, .ref a] ∧ Pot H p ∧ a ≠ p ∧ H a = some (.lst xs) ∧ 0 < xs.length ∧ xs.length ≤ 1000 ∧ ∀ H' x, Ex TT (at1 p) H H' → Pot H' p → x ∈ xs → Q x H'
theorem ok_pick {f : Addr} {fd : FuncData} {k : Nat} (F : Fun K "_law_pick" "_law_pick" sPick f fd) (M : Mx mg) (HD : Has P w K mg base k "_law_draw" ["_law_pot_here", "_law_sides"] (spDraw TT)) : FnG P w K mg base CX0 (k + 1) f fd ["_law_pot_here", "_law_some"] (spPick TT) := by
  refine okG F scPick (fun vs H Q E h => ?_) (fun cdv A hA outer s H vs Q E hr h => ?_)
  · obtain ⟨p, a, xs, rfl, _⟩ := h; rfl
  · obtain ⟨p, a, xs, rfl, hp, ne, ha, h0, h1, q⟩ := h
    refine ⟨_, pss_one (ps_ret (pe_ixU (uv 1) (pe_callH HD hA hr (by rfl) (pa_cons (uv 0) (pa_cons (pe_callB c_len (by rfl) M.len b_len (pa_cons (uv 1) pa_nil)) pa_nil))))), ?_⟩
    refine .inl ⟨xs, .inl (.inl (.inl ha)), p, xs.length, rfl, h0, h1, hp, fun H' d e hp' hd => ?_⟩
    exact ⟨xs, xs[d], .inl (.inl (.inl (e.keep _ _ ne ha fun _ z => nomatch z))), atI_nat (List.getElem?_eq_getElem hd), q H' _ e hp' (List.getElem_mem hd)⟩
theorem scLMet : FnScope ["_law_rows", "_law_start", "_law_found", "_law_at", "_law_goal"] ["_law_rows", "_law_start"] (defScope sLMet) := ⟨rfl, rfl, rfl, by decide +kernel, rfl, by decide +kernel, by decide +kernel⟩
/-- what the law finds is what is met -/
def spLMet : Sp := fun vs H Q _ => ∃ (r : Addr) (s m : Nat) (R : Rows), vs = [.ref r, .int s] ∧ RowsL H r R ∧ RowsOk R m ∧ s < R.length ∧ R.length ≤ 1000 ∧ ∀ H' p, Same H H' → H p = none → H' p = some (.lst (iv (met R s))) → Q (.ref p) H'
end
end LK

namespace LK
open PySem PySem.Spec PyProof.Rows L2 LamX
open scoped List
theorem flat_iv (f : List Nat) : (iv f).all flatV = true := by
  rw [List.all_eq_true]
  intro x hx
  obtain ⟨g, _, rfl⟩ := List.mem_map.mp hx
  rfl
theorem in_iv (g : Nat) (f : List Nat) : inV (.int g) (iv f) = decide (g ∈ f) := by
  unfold inV
  rw [List.any_map, Bool.eq_iff_iff, List.any_eq_true, decide_eq_true_eq]
  constructor
  · rintro ⟨x, hx, e⟩
    have e : ((x : Int) == (g : Int)) = true := e
    have : (x : Int) = g := beq_iff_eq.mp e
    have : x = g := by omega
    exact this ▸ hx
  · intro h
    exact ⟨g, h, by show ((g : Int) == (g : Int)) = true; simp⟩
section
variable {P : Program} {w : World} {K : PySem.W.Frag} {mg : Str → Option Value} {base : Heap}
theorem ok_lmet {f : Addr} {fd : FuncData} {k : Nat} (F : Fun K "_law_met" "_law_met" sLMet f fd) (M : Mx mg) : FnG P w K mg base CX0 (k + 1) f fd ["_law_rows", "_law_start"] spLMet := by
  refine okG F scLMet (fun vs H Q E h => ?_) (fun cdv A hA outer s H vs Q E hr h => ?_)
  · obtain ⟨r, s0, m, R, rfl, _⟩ := h; rfl
  · obtain ⟨r, s0, m, R, rfl, ⟨rs, hs', hl', hrow'⟩, ok, hs, hn, q⟩ := h
    have nd := scLMet.nd
    have sl := sizeLine_eq
    refine ⟨_, pss_cons (ps_par (i := 2) (j := 3) (by rfl) nd rfl rfl (by decide) rfl rfl (pa_cons (pe_lst (pa_cons (uv 1) pa_nil)) (pa_cons pe_int pa_nil)) (by rfl))
      (pss_cons (ps_while PassesOwn.never (pt_cl (pt_cu o_lt (uv 3) (pe_callB c_len (by rfl) M.len b_len (pa_cons (uv 2) pa_nil))))
        (pss_cons (ps_for PassesOwn.never rfl (pi_list (pe_ixU (uv 0) (pe_ixU (uv 2) (uv 3)))) (pg_name (i := 4) nd rfl (.inl rfl))
          (pss_one (ps_ifU (pt_cu op_notIn_seq (uv 4) (uv 2) (by rfl))
            (pss_one (ps_expr (pe_bm PySem.F.plainAttrs_list PySem.F.slot_list_append PySem.F.type_list_append mt_append (uv 2) (pa_cons (uv 4) pa_nil)))) pss_nil)))
        (pss_one (ps_set (i := 3) nd rfl (.inl rfl) (pe_op o_add (uv 3) pe_int)))))
      (pss_one (ps_ret (uv 2)))), ?_⟩
    refine ⟨by show 1 ≤ sizeLine; omega, fun B nB => ⟨_, _, rfl, ?_⟩⟩
    show tWhile _ _ _ _ _
    refine wh (m0 := R.length) (fun mm σ H2 => ∃ i y4, mm = R.length - i ∧ i ≤ (fnd R s0 i).length ∧ Same H H2 ∧ H2 B = some (.lst (iv (fnd R s0 i))) ∧ σ = [some (.ref r), some (.int s0), some (.ref B), some (.int (i : Nat)), y4])
      ⟨0, none, rfl, Nat.zero_le _, same_upd nB, upd_same, rfl⟩ (fun mm σ H2 iv2 => ?_) (fun σ H Q Q' hm h => ?_)
    case refine_2 =>
      obtain ⟨Q0, h0, m0⟩ := h
      exact ⟨Q0, h0, fun v H' z => hm _ _ (m0 v H' z)⟩
    obtain ⟨i, y4, rfl, hi, e2, hB, rfl⟩ := iv2
    have hf := fnd_len ok hs i
    generalize hfe : fnd R s0 i = fi at hi hB hf
    have li : (iv fi).length = fi.length := List.length_map _
    refine ⟨fun b H' => b = decide ((i : Int) < ((iv fi).length : Int)) ∧ H' = H2, .inl ⟨iv fi, .inl (.inl (.inl hB)), rfl, rfl⟩, fun b H' z => ?_⟩
    obtain ⟨rfl, rfl⟩ := z
    by_cases hlt : i < fi.length
    · rw [if_pos (decide_eq_true (by rw [li]; omega))]
      obtain ⟨p, hp0⟩ : ∃ p, fi[i]? = some p := ⟨_, List.getElem?_eq_getElem hlt⟩
      have hp : (fnd R s0 i)[i]? = some p := by rw [hfe]; exact hp0
      have plt : p < R.length := fnd_lt ok hs i p (List.mem_of_getElem? hp)
      obtain ⟨qa, hqa⟩ : ∃ qa, rs[p]? = some qa := ⟨_, List.getElem?_eq_getElem (by omega)⟩
      have hq := hrow' p qa hqa
      dsimp only [tSeq]
      refine for_list (K := K) (t := tOp (ixU K) (uVar 0) (tOp (ixU K) (uVar 2) (uVar 3))) (a := qa) (xs := iv (gls R p)) (H1 := H')
        (fun R' hR' => ⟨iv fi, .int (p : Nat), .inl (.inl (.inl hB)), atI_nat (by rw [List.getElem?_map, hp0]; rfl), rs.map V.ref, .ref qa, .inl (.inl (.inl (e2 _ _ hs'))), atI_nat (by rw [List.getElem?_map, hqa]; rfl), hR'⟩) (.inl (.inl (e2 _ _ hq)))
        (fun pre σ H4 => ∃ gs rest y4, gls R p = gs ++ rest ∧ pre = iv gs ∧ Same H H4 ∧ H4 B = some (.lst (iv (adds fi gs))) ∧ σ = [some (.ref r), some (.int s0), some (.ref B), some (.int (i : Nat)), y4])
        (fun pre σ H4 h => by obtain ⟨_, _, _, _, _, h, _⟩ := h; exact .inl (.inl (h _ _ hq))) ⟨[], gls R p, y4, rfl, rfl, e2, hB, rfl⟩ (fun pre x suf σ H4 ex h => ?_) (fun σ H4 h => ?_)
      · obtain ⟨gs, rest, y4, eg, rfl, e5, hB5, rfl⟩ := h
        have er : iv rest = x :: suf := by
          have e7 : iv gs ++ iv rest = iv gs ++ x :: suf := by rw [← ex, eg, iv_app]
          exact List.append_cancel_left e7
        obtain ⟨g, rest', rfl, rfl, rfl⟩ := List.map_eq_cons_iff.mp er
        have cl := adds_len (i := i) ok hs eg
        rw [hfe] at cl
        have eg2 : gls R p = (gs ++ [g]) ++ rest' := by rw [eg]; simp
        have ea := adds_app (f := fi) (gs := gs) (g := g)
        generalize adds fi gs = cur at hB5 cl ea
        refine ⟨B, iv cur, rfl, .inl (.inl (.inl hB5)), rfl, flat_iv _, ?_⟩
        show Br (!inV (.int g) (iv cur)) _ _
        rw [in_iv]
        refine .nd (fun hg => ?_) (fun hg => ?_)
        · have ec : add1 cur g = cur ++ [g] := if_neg hg
          refine ⟨.inl ⟨rfl, _, .inl (.inl hB5)⟩, B, _, _, rfl, rfl, hB5, by rw [List.length_map]; omega, ?_⟩
          exact ⟨gs ++ [g], rest', _, eg2, by rw [iv_app]; rfl, same_upd2 e5 nB, by rw [upd_same, ea, ec, iv_app]; rfl, rfl⟩
        · have ec : add1 cur g = cur := if_pos hg
          exact ⟨gs ++ [g], rest', _, eg2, by rw [iv_app]; rfl, e5, by rw [ea, ec]; exact hB5, rfl⟩
      · obtain ⟨gs, rest, y4, eg, e6, e5, hB5, rfl⟩ := h
        obtain rfl := iv_inj e6
        have es := fnd_step hp
        rw [hfe] at es
        rw [← es] at hB5
        have l2 := (fnd_pre (R := R) (s := s0) (i := i) (j := i + 1) (by omega)).length_le
        rw [hfe] at l2
        exact ⟨R.length - (i + 1), by omega, i + 1, _, rfl, by omega, e5, hB5, rfl⟩
    · rw [if_neg (by rw [decide_eq_false (by rw [li]; omega)]; decide)]
      have em : fi = met R s0 := by rw [← hfe]; exact fnd_met ok hs (by rw [hfe]; omega)
      rw [em] at hB
      exact q _ B e2 nB hB
end
end LK

namespace LK
open PySem PySem.Spec PyProof.Rows L2 LamX
open scoped List
theorem seqIx {d n : Nat} (h : d < n) : seqIndex? (d : Int) n = some d := by
  unfold seqIndex?
  simp only
  split <;> (try split) <;> first | omega | (simp; omega) | simp_all
theorem erase_iv : ∀ (l : List Nat) (d : Nat), (iv l).eraseIdx d = iv (l.eraseIdx d)
  | [], _ => rfl
  | _ :: _, 0 => rfl
  | c :: l, d + 1 => by
    show V.int (c : Int) :: (iv l).eraseIdx d = V.int (c : Int) :: iv (l.eraseIdx d)
    rw [erase_iv l d]
section
variable {P : Program} {w : World} {K : PySem.W.Frag} {mg : Str → Option Value} {base : Heap} (TT : List (Addr × Str))
theorem scMixed : FnScope ["_law_pot_here", "_law_some", "_law_left", "_law_found", "_law_turn"] ["_law_pot_here", "_law_some"] (defScope sMixed) := ⟨rfl, rfl, rfl, by decide +kernel, rfl, by decide +kernel, by decide +kernel⟩
/-- a new list of the same numbers, in some sequence -/
def spMixed : Sp := fun vs H Q _ => ∃ (p a : Addr) (xs : List Nat), vs = [.ref p, .ref a] ∧ Pot H p ∧ H a = some (.lst (iv xs)) ∧ xs.length ≤ 1000 ∧
  ∀ H' q ys, Ex TT (at1 p) H H' → Pot H' p → New H q → q ≠ p → H' q = some (.lst (iv ys)) → ys ~ xs → Q (.ref q) H'
theorem ok_mixed {f : Addr} {fd : FuncData} {k : Nat} (F : Fun K "_law_mixed" "_law_mixed" sMixed f fd) (M : Mx mg) (HD : Has P w K mg base k "_law_draw" ["_law_pot_here", "_law_sides"] (spDraw TT)) :
    FnG P w K mg base CX0 (k + 1) f fd ["_law_pot_here", "_law_some"] (spMixed TT) := by
  refine okG F scMixed (fun vs H Q E h => ?_) (fun cdv A hA outer s H vs Q E hr h => ?_)
  · obtain ⟨p, a, xs, rfl, _⟩ := h; rfl
  · obtain ⟨p, a, xs, rfl, hp, ha, hn, q⟩ := h
    have nd := scMixed.nd
    have sl := sizeLine_eq
    refine ⟨_, pss_cons (ps_par (i := 2) (j := 3) (by rfl) nd rfl rfl (by decide) rfl rfl (pa_cons (pe_callTy (c_list rfl) (by rfl) M.list b_list (pa_cons (uv 1) pa_nil)) (pa_cons (pe_lst pa_nil) pa_nil)) (by rfl))
      (pss_cons (ps_for PassesOwn.never rfl (pi_range1 (by rfl) M.range (pa_cons (pe_callB c_len (by rfl) M.len b_len (pa_cons (uv 1) pa_nil)) pa_nil)) (pg_name (i := 4) nd rfl (.inl rfl))
        (pss_one (ps_expr (pe_bm PySem.F.plainAttrs_list PySem.F.slot_list_append PySem.F.type_list_append mt_append (uv 3)
          (pa_cons (pe_bm PySem.F.plainAttrs_list PySem.F.slot_list_pop PySem.F.type_list_pop mt_popAt (uv 2) (pa_cons (pe_callH HD hA hr (by rfl) (pa_cons (uv 0) (pa_cons (pe_callB c_len (by rfl) M.len b_len (pa_cons (uv 2) pa_nil)) pa_nil))) pa_nil)) pa_nil)))))
      (pss_one (ps_ret (uv 3)))), ?_⟩
    refine .inl ⟨iv xs, .inl (.inl (.inl ha)), fun L nL => ⟨by show 0 ≤ sizeLine; omega, fun B nB => ⟨_, _, rfl, ?_⟩⟩⟩
    have nLB : L ≠ B := ne_of_none upd_same nB
    have npL : p ≠ L := hp.ne nL
    have nBH : H B = none := Same.free (same_upd nL) nB
    have npB : p ≠ B := hp.ne nBH
    have newL : New H L := fun b o hb _ e => by rw [e, nL] at hb; cases hb
    have newB : New H B := fun b o hb _ e => by rw [e, nBH] at hb; cases hb
    have e0 : Same H (upd (upd H L (.lst (iv xs))) B (.lst [])) := same_upd2 (same_upd nL) nBH
    have hL0 : (upd (upd H L (.lst (iv xs))) B (.lst [])) L = some (.lst (iv xs)) := by rw [upd_ne nLB]; exact upd_same
    have hB0 : (upd (upd H L (.lst (iv xs))) B (.lst [])) B = some (.lst (iv [])) := upd_same
    have hp0 : Pot (upd (upd H L (.lst (iv xs))) B (.lst [])) p := (hp.put npL).put npB
    generalize upd (upd H L (.lst (iv xs))) B (.lst []) = H0 at e0 hL0 hB0 hp0
    dsimp only [tSeq]
    have ln : (iv xs).length = xs.length := List.length_map _
    refine for_rng (n := (iv xs).length) (H1 := H0) (fun R' h => .inl ⟨iv xs, .inl (.inl (.inl (e0 _ _ ha))), h⟩) (by omega) (fun i σ H2 => ∃ (lf fd : List Nat) (y4 : Option V), σ = [some (.ref p), some (.ref a), some (.ref L), some (.ref B), y4] ∧ Ex TT (at1 p) H H2 ∧ Pot H2 p ∧ H2 L = some (.lst (iv lf)) ∧ H2 B = some (.lst (iv fd)) ∧ (fd ++ lf) ~ xs ∧ fd.length = i)
      ⟨xs, [], none, rfl, .same e0, hp0, hL0, hB0, by simp, rfl⟩ (fun i σ H2 hi2 h => ?_) (fun σ H2 h => ?_)
    · obtain ⟨lf, fd, y4, rfl, e2, hp2, hL2, hB2, pm, rfl⟩ := h
      have lens := pm.length_eq
      rw [List.length_append] at lens
      have ll : (iv lf).length = lf.length := List.length_map _
      refine ⟨.inl ⟨rfl, _, .inl (.inl hB2)⟩, .inl ⟨rfl, _, .inl (.inl hL2)⟩, .inl ⟨iv lf, .inl (.inl (.inl hL2)), p, (iv lf).length, rfl, by omega, by omega, hp2, fun H3 d e3 hp3 hd => ?_⟩⟩
      have hL3 : H3 L = some (.lst (iv lf)) := e3.keep _ _ npL.symm hL2 fun _ z => nomatch z
      have hB3 : H3 B = some (.lst (iv fd)) := e3.keep _ _ npB.symm hB2 fun _ z => nomatch z
      obtain ⟨g, hg⟩ : ∃ g, lf[d]? = some g := ⟨_, List.getElem?_eq_getElem (by omega)⟩
      refine ⟨L, iv lf, d, d, .int (g : Nat), rfl, rfl, hL3, by omega, by omega, seqIx hd, by rw [List.getElem?_map, hg]; rfl, ?_⟩
      have hB4 : (upd H3 L (.lst ((iv lf).eraseIdx d))) B = some (.lst (iv fd)) := by rw [upd_ne nLB.symm]; exact hB3
      refine ⟨B, iv fd, .int (g : Nat), rfl, rfl, hB4, by rw [List.length_map]; omega, ?_⟩
      have e4 : Ex TT (at1 p) H (upd (upd H3 L (.lst ((iv lf).eraseIdx d))) B (.lst (iv fd ++ [.int (g : Nat)]))) :=
        ((e2.trans e3).putN newL hL3 (fun _ z => nomatch z) (fun _ _ z => nomatch z)).putN newB hB4 (fun _ z => nomatch z) (fun _ _ z => nomatch z)
      have er : (iv lf).eraseIdx d = iv (lf.eraseIdx d) := erase_iv lf d
      refine ⟨lf.eraseIdx d, fd ++ [g], _, rfl, e4, (hp3.put npL).put npB, ?_, ?_, ?_, by simp⟩
      · rw [upd_ne nLB, upd_same, er]
      · rw [upd_same, iv_app]; rfl
      · refine List.Perm.trans ?_ pm
        rw [List.append_assoc]
        refine List.Perm.append_left fd ?_
        have := erase_perm lf d g hg
        exact this
    · obtain ⟨lf, fd, y4, rfl, e2, hp2, hL2, hB2, pm, hl⟩ := h
      have lens := pm.length_eq
      rw [List.length_append] at lens
      have : lf = [] := List.length_eq_zero_iff.mp (by omega)
      subst this
      rw [List.append_nil] at pm
      exact q H2 B fd e2 hp2 newB npB.symm hB2 pm
end
end LK

namespace LK
open PySem PySem.Spec PyProof.Rows L2 LamX
open scoped List
section
variable {P : Program} {w : World} {K : PySem.W.Frag} {mg : Str → Option Value} {base : Heap} {C : Addr}
/-- a sheet: a pair of rows and kinds -/
def SheetAt (H : Hp) (t : Addr) (R : Rows) (Kd : List Bool) : Prop := ∃ r k : Addr, H t = some (.tup [.ref r, .ref k]) ∧ RowsL H r R ∧ H k = some (.lst (Kd.map V.bl))
theorem SheetAt.ext {H H' : Hp} {t : Addr} {R : Rows} {Kd : List Bool} (h : SheetAt H t R Kd) (e : Same H H') : SheetAt H' t R Kd := by
  obtain ⟨r, k, h1, h2, h3⟩ := h
  exact ⟨r, k, e _ _ h1, h2.ext e, e _ _ h3⟩
theorem mach_newN {K : PySem.W.Frag} {C : Addr} {H : Hp} {Q : VK} {S : List Nat} {R : Rows} {Kd : List Bool} {r k : Addr} (ok : ShOk S R Kd) (wh : Whole R) (hr : RowsAt K H r R) (hk : KindsAt K H k Kd)
    (q : ∀ H' a, Same H H' → H a = none → MachN C H H' a S R Kd → Q (.ref a) H') : mkSp C (spInit K C) [.str (T S), .ref r, .ref k] H Q := by
  intro a d na nd nad
  have e9 : Same H (upd (upd H d (.own a)) a (.ins C d [])) := (same_upd nd).trans (same_upd (by rw [upd_ne nad.symm]; exact na))
  refine ⟨a, d, r, k, S, R, Kd, rfl, ok, wh, hr.ext e9, hk.ext e9, upd_same, fun H' but mach => ⟨rfl, q H' a (fun b o hb => ?_) na (mach.of e9)⟩⟩
  exact but b o (ne_of_none hb na) (e9 _ _ hb)
theorem RowsL.at {K : PySem.W.Frag} {H : Hp} {r : Addr} {R : Rows} (h : RowsL H r R) : RowsAt K H r R := by
  obtain ⟨rs, h1, h2, h3⟩ := h
  exact ⟨false, rs, .inl (.inl h1), h2, fun i p hp => ⟨false, .inl (.inl (h3 i p hp))⟩⟩
end
end LK

/-! ~machine -/
namespace LK
open PySem PySem.Spec PyProof.Rows L2 LamX ClX
open scoped List
section
variable {X : Cx} {k : Nat} {C : Addr} {sp : Sp}
def invI (C : Addr) (sp : Sp) : V → Hp → VK → Prop := fun x H Q => match x with
  | .ref a => ∃ dx fs, H a = some (.ins C dx fs) ∧ sp [.ref a] H Q E0
  | _ => False
theorem un_invI (F : HasM X.prog X.w X.K X.mg X.base k C "__invert__" [] sp) (hA : X.A.guards = some []) (hr : Room k X.A) : UnR X (unaryOp .Invert) (invI C sp) := by
  intro pins s σ H x v Q I rx h
  unfold invI at h
  split at h
  · rename_i a
    obtain ⟨dx, fs, ea, q⟩ := h
    obtain ⟨f, fd, F, hm, hb, _⟩ := F.ex
    obtain rfl : v = Value.ref a := rx
    obtain ⟨ox, od, J⟩ := inst_at I ea
    obtain ⟨m', hF⟩ := I.fr
    refine PySem.W.ksp_inv hF I.ok.mod.kin J hm.at_ hm.fn (runG (us := [.ref a]) (ws := [.ref a]) (kw := []) (CX := CX0) (E := E0) F hA hr pass0 I (fun n => ?_) (vs := [.ref a]) (.cons rfl .nil) q)
    have b := hb s [.ref a] I.kIn (by simpa using n)
    simpa using b
  · exact h.elim
end
section
variable {P : Program} {w : World} {K : PySem.W.Frag} {mg : Str → Option Value} {base : Heap} {C : Addr}
theorem scInv : FnScope ["self", "kind"] ["self"] (defScope sInv) := ⟨rfl, rfl, rfl, by decide +kernel, rfl, by decide +kernel, by decide +kernel⟩
def spInv (C : Addr) : Sp := fun vs H Q _ => ∃ (a : Addr) (S : List Nat) (R : Rows) (Kd : List Bool), vs = [.ref a] ∧ Mach C H a S R Kd ∧ ShOk S R Kd ∧ Whole R ∧ ∀ H' m, Same H H' → H m = none → MachN C H H' m S R (Kd.map not) → Q (.ref m) H'
theorem ok_invert {f : Addr} {fd : FuncData} {k : Nat} (F : Fun K "__invert__" "Machine.__invert__" sInv f fd) (cM : ClsM K C) (HI : HasI P w K mg base k "Machine" C ["letters", "rows", "kinds"] (spInit K C)) :
    FnG P w K mg base CX0 (k + 2) f fd ["self"] (spInv C) := by
  refine okG F scInv (fun vs H Q E h => ?_) (fun cdv A hA outer s H vs Q E hr h => ?_)
  · obtain ⟨a, S, R, Kd, rfl, _⟩ := h; rfl
  · obtain ⟨a, S, R, Kd, rfl, mm, ok, wh, q⟩ := h
    have nd := scInv.nd
    have sl := sizeLine_eq
    have hhi := ok.hi
    have kl := ok.kinds
    refine ⟨_, pss_one (ps_ret (pe_mkI HI hA hr (by rfl) (pa_cons (pe_fldU (uv 0)) (pa_cons (pe_fldU (uv 0)) (pa_cons (pe_lc (own := [("kind", 1)]) (g := gName 1) (tt := tYes) rfl nd (pi_list (pe_fldU (uv 0)))
        (blkOk_by (N := ["self", "kind"]) (sc := defScope sInv) (by decide +kernel)) (fun _ _ _ _ _ => pg_name (i := 1) nd rfl (Or.inl rfl)) (fun _ _ _ _ _ => pts_nil) (fun _ _ _ _ _ => pe_notU (uv 1))) pa_nil))))), ?_⟩
    obtain ⟨dx, r, kk, rs, h1, h2, h3, h4, h5⟩ := id mm
    refine ⟨C, dx, _, .str (T S), h1, cM.cls, cM.nL, rfl, C, dx, _, .ref r, h1, cM.cls, cM.nR, rfl, ?_⟩
    refine lc_mapS (K := K) (t := uFld K "_kinds" (uVar 0)) (a := kk) (ls := Kd) (enc := V.bl) (out := fun b => V.bl (!b)) (H := H) (H1 := H) (fun R' h => ⟨C, dx, _, .ref kk, h1, cM.cls, cM.nK, rfl, h⟩) h5 (by omega) (fun H' x hx e Qy hy => ?_) (fun D H' nD e hD => ?_)
    · exact ⟨rfl, hy H' (Same.refl _)⟩
    · refine ⟨rfl, ?_⟩
      refine mach_newN (R := R) (Kd := Kd.map not) ⟨ok.let_, ok.rows, ok.lo, ok.hi, by rw [List.length_map]; exact kl⟩ wh (RowsL.at ⟨rs, e _ _ h2, h3, fun i p hp => e _ _ (h4 i p hp)⟩) ⟨false, .inl (.inl (by rw [hD, List.map_map]; rfl))⟩ fun H5 m e5 nm mach => q H5 m (e.trans e5) (Same.free e nm) (mach.of e)
end
end LK

/-! list.index, slices, methods within a comprehension -/
namespace LK
open PySem PySem.Spec PyProof.Rows L2 LamX
open scoped List
section
variable {X : Cx} {K : PySem.W.Frag} {o e : Expr} {es : List Expr} {to : TE} {t : TA} {name : Str} {apos cpos : Pos} {T id : String} {r : V → List V → Hp → VK → Prop}
theorem pe_bmK (hK : X.K = K) (pa : PlainAttrs T) (slot : Slot T name id) (hty : typeOf (.builtin id) = pure (.type "method_descriptor")) (hm : MtR X id r) (ho : PE X o to) (ha : PA X (e :: es) t)
    (hbase : attributeBase o name X.env (eval o X.env) = eval o X.env := by rfl)
    (hfew : ((backTo cpos (starEach (e :: es) X.env)).all (fun x => !x.1) && (backToKw cpos (keywordEach [] X.env)).all (fun x => x.1.isSome)
      && decide ((e :: es).length + ([] : List Keyword).length + (if ([] : List Keyword).isEmpty then 0 else 1) < 30)) = true := by rfl)
    (hline : (apos.endLine == cpos.line) = true := by rfl) (hs : starEach (e :: es) X.env = (false, eval e X.env) :: starEach es X.env := by rfl) (hplain : (backTo cpos (starEach es X.env)).any (·.1) = false := by rfl) :
    PE X (.Call (.Attribute o name apos) (e :: es) [] cpos) (tBM K T r to t) := hK ▸ pe_bm pa slot hty hm ho ha hbase hfew hline hs hplain
theorem mt_indexK (hK : X.K = K) : MtR X "list.index" (rIndex K) := hK ▸ mt_index
end
theorem eq_iv (a b : Nat) : eqV (.int (a : Int)) (.int (b : Int)) = decide (a = b) := by
  show ((a : Int) == (b : Int)) = _
  rw [Bool.eq_iff_iff, beq_iff_eq, decide_eq_true_eq]
  omega
theorem idx_le : ∀ {f : List Nat} {m y : Nat}, f[m]? = some y → f.idxOf y ≤ m
  | [], m, y, h => by simp at h
  | a :: f, 0, y, h => by
    have : a = y := by simpa using h
    subst this; simp
  | a :: f, m + 1, y, h => by
    have h : f[m]? = some y := by simpa using h
    rw [List.idxOf_cons]
    cases e : a == y with
    | true => show 0 ≤ _; omega
    | false => have := idx_le h; show f.idxOf y + 1 ≤ _; omega
/-- the place of g in a list -/
theorem idx_ok {f : List Nat} {g : Nat} (h : g ∈ f) : (iv f)[f.idxOf g]? = some (.int (g : Nat)) ∧ ∀ (m : Nat) (z : V), m < f.idxOf g → (iv f)[m]? = some z → eqV z (.int (g : Nat)) = false := by
  refine ⟨by rw [List.getElem?_map, idx_get h]; rfl, fun m z hm hz => ?_⟩
  rw [List.getElem?_map] at hz
  obtain ⟨y, hy, rfl⟩ := Option.map_eq_some_iff.mp hz
  rw [eq_iv, decide_eq_false_iff_not]
  intro e
  subst e
  have := idx_le hy
  omega
section
variable {P : Program} {w : World} {K : PySem.W.Frag} {mg : Str → Option Value} {base : Heap} (TT : List (Addr × Str))
theorem scSheet : FnScope ["_law_pot_here", "_law_signs", "_law_most", "_law_many", "_law_rows", "_law_near", "_law_order", "_law_kinds", "_law_sign", "_law_place", "_law_goal"] ["_law_pot_here", "_law_signs", "_law_most"] (defScope sSheet) := ⟨rfl, rfl, rfl, by decide +kernel, rfl, by decide +kernel, by decide +kernel⟩
abbrev nSheet : List Str := ["_law_pot_here", "_law_signs", "_law_most", "_law_many", "_law_rows", "_law_near", "_law_order", "_law_kinds", "_law_sign", "_law_place", "_law_goal"]
abbrev scS1 : Scope := { kind := .function, names := [(".0", .local), ("_law_place", .local), ("_law_many", .free), ("_law_pot_here", .free), ("_law_signs", .free)], isGenerator := false, isCoroutine := false }
abbrev scS2 : Scope := { kind := .function, names := [(".0", .local), ("_law_place", .local), ("_law_order", .free), ("_law_rows", .free)], isGenerator := false, isCoroutine := false }
end
end LK

/-! k14: _law_sheet -/
namespace LK
open PySem PySem.Spec PyProof.Rows L2 LamX
open scoped List
/-- rows whose lists lie apart from p -/
def RowsP (p : Addr) (H : Hp) (r : Addr) (R : Rows) : Prop := ∃ rs : List Addr, r ≠ p ∧ H r = some (.lst (rs.map V.ref)) ∧ rs.length = R.length ∧ ∀ i q, rs[i]? = some q → q ≠ p ∧ H q = some (.lst (iv (gls R i)))
theorem RowsP.l {p : Addr} {H : Hp} {r : Addr} {R : Rows} (h : RowsP p H r R) : RowsL H r R := by
  obtain ⟨rs, _, h1, h2, h3⟩ := h
  exact ⟨rs, h1, h2, fun i q hq => (h3 i q hq).2⟩
theorem RowsP.ex {TT : List (Addr × Str)} {p : Addr} {H H' : Hp} {r : Addr} {R : Rows} (h : RowsP p H r R) (e : Ex TT (at1 p) H H') : RowsP p H' r R := by
  obtain ⟨rs, h0, h1, h2, h3⟩ := h
  exact ⟨rs, h0, e.keep _ _ h0 h1 (fun _ z => nomatch z), h2, fun i q hq => ⟨(h3 i q hq).1, e.keep _ _ (h3 i q hq).1 (h3 i q hq).2 (fun _ z => nomatch z)⟩⟩
def SheetP (p : Addr) (H : Hp) (t : Addr) (R : Rows) (Kd : List Bool) : Prop := ∃ r k : Addr, t ≠ p ∧ k ≠ p ∧ H t = some (.tup [.ref r, .ref k]) ∧ RowsP p H r R ∧ H k = some (.lst (Kd.map V.bl))
theorem gls_app_lt {R R' : Rows} {i : Nat} (h : i < R.length) : gls (R ++ R') i = gls R i := by
  unfold gls; rw [List.getD_eq_getElem?_getD, List.getD_eq_getElem?_getD, List.getElem?_append_left h]
theorem gls_app_at {R : Rows} {r : List Nat} : gls (R ++ [r]) R.length = r := by
  unfold gls; rw [List.getD_eq_getElem?_getD, List.getElem?_append_right (Nat.le_refl _), Nat.sub_self]; rfl
theorem cut1 (x : V) (xs : List V) : cutV (x :: xs) none (some 1) = [x] := by
  unfold cutV HT.sIx
  simp
theorem cut2 (x : V) (xs : List V) : cutV (x :: xs) (some 1) none = xs := by
  unfold cutV HT.sIx
  simp
theorem lets_inj {a b : List Nat} (h : lets a = lets b) : a = b := (List.map_inj_right fun x y z => by
  have z1 := T_inj (V.str.inj z)
  exact (List.cons.inj z1).1).mp h
/-- p, and what is there -/
def OldX (p : Addr) (H : Hp) : Addr → Prop := fun b => b = p ∨ ∃ o, H b = some o ∧ ∀ ps, o ≠ .tbl ps
/-- a sheet of which no part is in X -/
def SheetF (X : Addr → Prop) (H : Hp) (t : Addr) (R : Rows) (Kd : List Bool) : Prop := ∃ (r k : Addr) (rs : List Addr), ¬ X t ∧ ¬ X r ∧ ¬ X k ∧ (∀ q ∈ rs, ¬ X q) ∧ H t = some (.tup [.ref r, .ref k]) ∧ H r = some (.lst (rs.map V.ref)) ∧ H k = some (.lst (Kd.map V.bl)) ∧ rs.length = R.length ∧ ∀ i q, rs[i]? = some q → H q = some (.lst (iv (gls R i)))
theorem SheetF.s {X : Addr → Prop} {H : Hp} {t : Addr} {R : Rows} {Kd : List Bool} (h : SheetF X H t R Kd) : SheetAt H t R Kd := by
  obtain ⟨r, k, rs, _, _, _, _, h1, h2, h3, h4, h5⟩ := h
  exact ⟨r, k, h1, ⟨rs, h2, h4, h5⟩, h3⟩
theorem SheetF.but {X : Addr → Prop} {H H' : Hp} {t : Addr} {R : Rows} {Kd : List Bool} (h : SheetF X H t R Kd) (e : ∀ b o, ¬ X b → H b = some o → (∀ ps, o ≠ .tbl ps) → H' b = some o) : SheetF X H' t R Kd := by
  obtain ⟨r, k, rs, n1, n2, n3, n4, h1, h2, h3, h4, h5⟩ := h
  exact ⟨r, k, rs, n1, n2, n3, n4, e _ _ n1 h1 (fun _ z => nomatch z), e _ _ n2 h2 (fun _ z => nomatch z), e _ _ n3 h3 (fun _ z => nomatch z), h4, fun i q hq => e _ _ (n4 q (List.mem_iff_getElem?.mpr ⟨i, hq⟩)) (h5 i q hq) (fun _ z => nomatch z)⟩
theorem SheetF.mono {X Y : Addr → Prop} {H : Hp} {t : Addr} {R : Rows} {Kd : List Bool} (h : SheetF X H t R Kd) (e : ∀ b, Y b → X b) : SheetF Y H t R Kd := by
  obtain ⟨r, k, rs, n1, n2, n3, n4, h1, h2, h3, h4, h5⟩ := h
  exact ⟨r, k, rs, fun z => n1 (e _ z), fun z => n2 (e _ z), fun z => n3 (e _ z), fun q hq z => n4 q hq (e _ z), h1, h2, h3, h4, h5⟩
theorem SheetF.ex {TT : List (Addr × Str)} {X Y : Addr → Prop} {H H' : Hp} {t : Addr} {R : Rows} {Kd : List Bool} (h : SheetF X H t R Kd) (e : Ex TT Y H H') (i : ∀ b, Y b → X b) : SheetF X H' t R Kd := h.but fun b o n hb m => e.keep b o (fun z => n (i b z)) hb m
section
variable {P : Program} {w : World} {K : PySem.W.Frag} {mg : Str → Option Value} {base : Heap} (TT : List (Addr × Str))
def spSheet : Sp := fun vs H Q _ => ∃ (p : Addr) (S : List Nat) (most : Nat), vs = [.ref p, .str (T S), .int most] ∧ LetOk S ∧ Pot H p ∧ 1 ≤ most ∧ most ≤ 7 ∧
  ∀ H' t R Kd, Ex TT (at1 p) H H' → Pot H' p → SheetF (OldX p H) H' t R Kd → ShOk S R Kd → Whole R → R.length ≤ most → Q (.ref t) H'
theorem ok_sheet {f : Addr} {fd : FuncData} {k : Nat} (F : Fun K "_law_sheet" "_law_sheet" sSheet f fd) (M : Mx mg) (HD : Has P w K mg base k "_law_draw" ["_law_pot_here", "_law_sides"] (spDraw TT)) (HM : Has P w K mg base k "_law_met" ["_law_rows", "_law_start"] spLMet)
    (HX : Has P w K mg base k "_law_mixed" ["_law_pot_here", "_law_some"] (spMixed TT)) : FnG P w K mg base CX0 (k + 1) f fd ["_law_pot_here", "_law_signs", "_law_most"] (spSheet TT) := by
  refine okG F scSheet (fun vs H Q E h => ?_) (fun cdv A hA outer s H vs Q E hr h => ?_)
  · obtain ⟨p, S, most, rfl, _⟩ := h; rfl
  · obtain ⟨p, S, most, rfl, lt, hp, hm1, hm7, q⟩ := h
    have nd := scSheet.nd
    have sl := sizeLine_eq
    have l3 := lt.hi
    refine ⟨_, pss_cons (ps_set (i := 3) nd rfl (.inr rfl) (pe_op o_add pe_int (pe_callH HD hA hr (by rfl) (pa_cons (uv 0) (pa_cons (uv 2) pa_nil)))))
      (pss_cons (ps_set (i := 4) nd rfl (.inr rfl) (pe_lc (own := [("_law_place", 9)]) (g := gName 9) (tt := tYes) rfl nd (pi_range1 (by rfl) M.range (pa_cons (uv 3) pa_nil)) (blkOk_by (N := nSheet) (sc := defScope sSheet) (by decide +kernel))
        (fun _ _ _ _ _ => pg_name (i := 9) nd rfl (Or.inl rfl)) (fun _ _ _ _ _ => pts_nil)
        (fun _ _ _ _ _ => pe_lc (own := [("_law_sign", 8)]) (g := gName 8) (tt := tYes) rfl nd (pi_str (uv 1)) (blkOk_in (N := nSheet) (sc := scS1) (by decide +kernel))
          (fun _ _ _ _ _ => pg_name (i := 8) nd rfl (Or.inl rfl)) (fun _ _ _ _ _ => pts_nil) (fun _ _ _ _ _ => pe_callH HD hA hr (by rfl) (pa_cons (uv 0) (pa_cons (uv 3) pa_nil))))))
      (pss_cons (ps_set (i := 5) nd rfl (.inl rfl) (pe_callH HM hA hr (by rfl) (pa_cons (uv 4) (pa_cons pe_int pa_nil))))
      (pss_cons (ps_set (i := 6) nd rfl (.inr rfl) (pe_op o_add (pe_slice sl_u (uv 5) po_none (po_u pe_int)) (pe_callH HX hA hr (by rfl) (pa_cons (uv 0) (pa_cons (pe_slice sl_u (uv 5) (po_u pe_int) po_none) pa_nil)))))
      (pss_cons (ps_setLc (i := 7) (own := [("_law_place", 9)]) (g := gName 9) (by rfl) nd rfl rfl (sw_true rfl rfl rfl (by decide +kernel)) (pi_list (uv 6)) (blkOk_by (N := nSheet) (sc := defScope sSheet) (by decide +kernel))
        (fun _ _ _ _ _ => pg_name (i := 9) nd rfl (Or.inl rfl)) (fun _ _ _ _ _ => pts_nil) (fun _ _ _ _ _ => pe_cu (r := eqU K false) (o_eq hr.units) (pe_callH HD hA hr (by rfl) (pa_cons (uv 0) (pa_cons pe_int pa_nil))) pe_int))
      (pss_one (ps_ret (pe_tup (pa_cons (pe_lc (own := [("_law_place", 9)]) (g := gName 9) (tt := tYes) rfl nd (pi_list (uv 6)) (blkOk_by (N := nSheet) (sc := defScope sSheet) (by decide +kernel))
        (fun _ _ _ _ _ => pg_name (i := 9) nd rfl (Or.inl rfl)) (fun _ _ _ _ _ => pts_nil)
        (fun _ _ _ _ _ => pe_lc (own := [("_law_goal", 10)]) (g := gName 10) (tt := tYes) rfl nd (pi_listK (K := K) rfl (pe_ixK (K := K) rfl (uv 4) (uv 9))) (blkOk_in (N := nSheet) (sc := scS2) (by decide +kernel))
          (fun _ _ _ _ _ => pg_name (i := 10) nd rfl (Or.inl rfl)) (fun _ _ _ _ _ => pts_nil)
          (fun _ _ _ _ _ => pe_bmK (K := K) rfl PySem.F.plainAttrs_list PySem.F.slot_list_index PySem.F.type_list_index (mt_indexK (K := K) rfl) (uv 6) (pa_cons (uv 10) pa_nil)))) (pa_cons (uv 7) pa_nil))))))))), ?_⟩
    refine ⟨p, most, rfl, by omega, by omega, hp, fun H1 d e1 hp1 hd => ?_⟩
    obtain ⟨n, hn, hn1, hnm⟩ : ∃ n : Nat, (1 + (d : Int)) = (n : Int) ∧ 1 ≤ n ∧ n ≤ most := ⟨d + 1, by omega, by omega, by omega⟩
    have hn7 : n ≤ 7 := by omega
    dsimp only [rAddU, gName, tSeq, tAsg]
    rw [hn]
    refine lc_rng (n := n) (H1 := H1) (fun R' h => h) (by omega) (fun D i acc H2 => ∃ (rws : List (List Nat)) (as : List Addr), acc = as.map V.ref ∧ as.length = i ∧ rws.length = i ∧ Ex TT (at1 p) H1 H2 ∧ Pot H2 p ∧ D ≠ p ∧ H2 D = some (.lst (as.map V.ref)) ∧
        (∀ j q, as[j]? = some q → q ≠ p ∧ q ≠ D ∧ H2 q = some (.lst (iv (gls rws j)))) ∧ ∀ r' ∈ rws, r'.length = S.length ∧ ∀ g ∈ r', g < n)
      (fun D nD => ⟨[], [], rfl, rfl, rfl, .new nD, hp1.put (hp1.ne nD), (hp1.ne nD).symm, upd_same, (fun j q z => (nil_none z).elim), (fun r' z => by cases z)⟩)
      (fun D nD i acc H2 hi2 r => ?_) (fun D nD acc H2 r => ?_)
    · obtain ⟨rws, as, rfl, la, lr, e2, hp2, nDp, hD, has, hrw⟩ := r
      have newD : New H1 D := fun b o hb _ e => by rw [e, nD] at hb; cases hb
      refine ⟨rfl, ?_⟩
      refine lc_str (l := S) (H1 := H2) (by exact fun _ h => h) (fun B L acc H3 => ∃ (pp row : List Nat), L = lets pp ∧ row.length = pp.length ∧ acc = iv row ∧ (∀ g ∈ row, g < n) ∧ Ex TT (at1 p) H2 H3 ∧ Pot H3 p ∧ B ≠ p ∧ H3 B = some (.lst (iv row)))
        (fun B nB => ⟨[], [], rfl, rfl, rfl, (fun g z => by cases z), .new nB, hp2.put (hp2.ne nB), (hp2.ne nB).symm, upd_same⟩) (fun B nB pre acc3 c suf H3 e r => ?_) (fun B nB acc3 H3 r => ?_)
      · obtain ⟨pp, row, ep, lrow, rfl, hg, e3, hp3, nBp, hB⟩ := r
        have newB : New H2 B := fun b o hb _ e => by rw [e, nB] at hb; cases hb
        obtain rfl := lets_inj ep
        have l4 : pre.length < 3 := by
          have := congrArg List.length e
          rw [List.length_append, List.length_cons] at this
          omega
        refine ⟨rfl, p, n, rfl, by omega, by omega, hp3, fun H4 g e4 hp4 hgn => ?_⟩
        have hB4 : H4 B = some (.lst (iv row)) := e4.keep _ _ nBp hB fun _ z => nomatch z
        refine ⟨iv row, hB4, by rw [List.length_map]; omega, _, pre ++ [c], row ++ [g], rfl, by rw [List.length_append, List.length_append, lrow]; rfl, by rw [iv_app], fun g' hg' => ?_, (e3.trans e4).putN newB hB4 (fun _ z => nomatch z) (fun _ _ z => nomatch z), hp4.put nBp.symm, nBp, by rw [upd_same, iv_app]; rfl⟩
        rcases List.mem_append.mp hg' with h | h
        · exact hg g' h
        · simp at h; omega
      · obtain ⟨pp, row, ep, lrow, rfl, hg, e3, hp3, nBp, hB⟩ := r
        obtain rfl := lets_inj ep
        have hD3 : H3 D = some (.lst (as.map V.ref)) := e3.keep _ _ nDp hD fun _ z => nomatch z
        have nBD : B ≠ D := fun z => by rw [z, hD] at nB; cases nB
        refine ⟨as.map V.ref, hD3, by rw [List.length_map]; omega, _, rws ++ [row], as ++ [B], by first | rw [List.map_append] | (rw [List.map_append]; rfl), by rw [List.length_append, la]; rfl, by rw [List.length_append, lr]; rfl, (e2.trans e3).putN newD hD3 (fun _ z => nomatch z) (fun _ _ z => nomatch z), hp3.put nDp.symm, nDp, by rw [upd_same, List.map_append]; rfl, fun j q' hq' => ?_, fun r' hr' => ?_⟩
        · rcases Nat.lt_or_ge j as.length with hlt | hge
          · rw [List.getElem?_append_left hlt] at hq'
            obtain ⟨g1, g2, g3⟩ := has j q' hq'
            rw [gls_app_lt (by omega)]
            exact ⟨g1, g2, by rw [upd_ne g2]; exact e3.keep _ _ g1 g3 fun _ z => nomatch z⟩
          · rw [List.getElem?_append_right hge] at hq'
            have e6 : j - as.length = 0 := by
              have := (List.getElem?_eq_some_iff.mp hq').1
              simp at this; omega
            rw [e6] at hq'
            have : B = q' := by simpa using hq'
            subst this
            have : j = rws.length := by omega
            subst this
            rw [gls_app_at]
            exact ⟨nBp, nBD, by rw [upd_ne nBD]; exact hB⟩
        · rcases List.mem_append.mp hr' with h | h
          · exact hrw r' h
          · simp at h; subst h
            exact ⟨lrow, hg⟩
    obtain ⟨rws, as, rfl, la, lr, e2, hp2, nDp, hD, has, hrw⟩ := r
    have ok : RowsOk rws S.length := ⟨fun r' h => (hrw r' h).1, fun r' h g hg => by rw [lr]; exact (hrw r' h).2 g hg⟩
    have rowsP : RowsP p H2 D rws := ⟨as, nDp, hD, by omega, fun i q' hq' => ⟨(has i q' hq').1, (has i q' hq').2.2⟩⟩
    refine ⟨D, 0, S.length, rws, rfl, rowsP.l, ok, by omega, by omega, fun H3 N e3 nN hN => ?_⟩
    have hp3 : Pot H3 p := hp2.ex (TT := TT) (.same e3)
    have nNp : N ≠ p := (hp2.ne nN).symm
    have rows3 : RowsP p H3 D rws := rowsP.ex (.same e3 : Ex TT (at1 p) H2 H3)
    have e13 : Ex TT (at1 p) H H3 := (e1.trans e2).trans (.same e3)
    have lenL : (met rws 0).length ≤ rws.length := fnd_len ok (by omega) _
    have ndL : (met rws 0).Nodup := met_nd
    obtain ⟨tl, eL⟩ : ∃ tl, met rws 0 = 0 :: tl := by
      have zL := met_zero (R := rws) (s := 0)
      cases h : met rws 0 with
      | nil => rw [h] at zL; cases zL
      | cons a tl => rw [h] at zL; exact ⟨tl, by rw [show a = 0 by simpa using zL]⟩
    rw [eL] at hN lenL ndL
    refine ⟨iv (0 :: tl), .inl (.inl hN), fun A1 n1 => ?_⟩
    rw [show cutV (iv (0 :: tl)) none (some 1) = [.int ((0 : Nat) : Int)] from cut1 _ _]
    have hN4 : (upd H3 A1 (.lst [.int ((0 : Nat) : Int)])) N = some (.lst (iv (0 :: tl))) := same_upd n1 _ _ hN
    refine ⟨iv (0 :: tl), .inl (.inl hN4), fun A2 n2 => ?_⟩
    rw [show cutV (iv (0 :: tl)) (some 1) none = iv tl from cut2 _ _]
    have e5 : Same H3 (upd (upd H3 A1 (.lst [.int ((0 : Nat) : Int)])) A2 (.lst (iv tl))) := (same_upd n1).trans (same_upd n2)
    have hA1 : (upd (upd H3 A1 (.lst [.int ((0 : Nat) : Int)])) A2 (.lst (iv tl))) A1 = some (.lst [.int ((0 : Nat) : Int)]) := same_upd n2 _ _ upd_same
    have hA2 : (upd (upd H3 A1 (.lst [.int ((0 : Nat) : Int)])) A2 (.lst (iv tl))) A2 = some (.lst (iv tl)) := upd_same
    have nA1p : A1 ≠ p := (hp3.ne n1).symm
    generalize upd (upd H3 A1 (.lst [.int ((0 : Nat) : Int)])) A2 (.lst (iv tl)) = H5 at e5 hA1 hA2
    have hp5 : Pot H5 p := hp3.ex (TT := TT) (.same e5)
    have ltl : tl.length ≤ 7 := by rw [List.length_cons] at lenL; omega
    refine ⟨p, A2, tl, rfl, hp5, hA2, by omega, fun H6 A3 ys e6 hp6 newA3 nA3p hA3 pm => ?_⟩
    have hA16 : H6 A1 = some (.lst [.int ((0 : Nat) : Int)]) := e6.keep _ _ nA1p hA1 fun _ z => nomatch z
    have lys := pm.length_eq
    refine ⟨[.int ((0 : Nat) : Int)], iv ys, hA16, hA3, by rw [List.length_map, List.length_singleton]; omega, fun OA nO => ?_⟩
    have hOA : (upd H6 OA (.lst ([.int ((0 : Nat) : Int)] ++ iv ys))) OA = some (.lst (iv (0 :: ys))) := upd_same
    have e7 : Ex TT (at1 p) H (upd H6 OA (.lst ([.int ((0 : Nat) : Int)] ++ iv ys))) := ((e13.trans (.same e5)).trans e6).trans (.new nO)
    have rows7 : RowsP p (upd H6 OA (.lst ([.int ((0 : Nat) : Int)] ++ iv ys))) D rws := ((rows3.ex (TT := TT) (.same e5)).ex e6).ex (TT := TT) (.new nO)
    have hp7 : Pot (upd H6 OA (.lst ([.int ((0 : Nat) : Int)] ++ iv ys))) p := hp6.put (hp6.ne nO)
    have nOp : OA ≠ p := (hp6.ne nO).symm
    generalize upd H6 OA (.lst ([.int ((0 : Nat) : Int)] ++ iv ys)) = H7 at hOA e7 rows7 hp7
    have pmO : (0 :: ys) ~ (0 :: tl) := pm.cons 0
    have hmem : ∀ x, x ∈ (0 :: ys) ↔ x ∈ met rws 0 := fun x => by rw [eL]; exact pmO.mem_iff
    have ndO : (0 :: ys).Nodup := pmO.nodup_iff.mpr ndL
    have rnok := rn_ok (L := 0 :: ys) ok (by omega) hmem
    have rnwh := rn_whole (L := 0 :: ys) ok (by omega) ndO hmem rfl
    have hclo := fun (g g2 : Nat) (h : g ∈ (0 :: ys)) (h2 : g2 ∈ gls rws g) => (hmem g2).mpr (met_closed ok (by omega) ((hmem g).mp h) h2)
    have hltO : ∀ g ∈ (0 :: ys), g < rws.length := fun g h => fnd_lt (s := 0) ok (by omega) rws.length g ((hmem g).mp h)
    have lenO : (0 :: ys).length ≤ 8 := by rw [List.length_cons]; omega
    have lenO1 : 1 ≤ (0 :: ys).length := by simp
    have lenOm : (0 :: ys).length ≤ most := by rw [List.length_cons, lys, ← List.length_cons (a := 0)]; omega
    have lenO7 : (0 :: ys).length ≤ 7 := by rw [List.length_cons, lys, ← List.length_cons (a := 0)]; omega
    clear hmem ndO pmO
    generalize hOe : (0 :: ys) = O at hOA rnok rnwh hclo hltO lenO lenO1 lenO7 lenOm
    refine lc_list (K := K) (a := OA) (xs := iv O) (H1 := H7) (by exact fun _ h => h) (.inl (.inl hOA)) (fun B pre acc H8 => ∃ ks : List Bool, acc = ks.map V.bl ∧ ks.length = pre.length ∧ Ex TT (at1 p) H7 H8 ∧ Pot H8 p ∧ B ≠ p ∧ H8 B = some (.lst (ks.map V.bl)))
      (fun B pre acc H8 h => by obtain ⟨_, _, _, e, _⟩ := h; exact .inl (.inl (e.keep _ _ nOp hOA fun _ z => nomatch z))) (fun B nB => ⟨[], rfl, rfl, .new nB, hp7.put (hp7.ne nB), (hp7.ne nB).symm, upd_same⟩)
      (fun B nB pre acc x suf H8 ex h => ?_) (fun KA nKA acc H8 h => ?_)
    · obtain ⟨ks, rfl, lk, e8, hp8, nBp, hB⟩ := h
      have newB : New H7 B := fun b o hb _ e => by rw [e, nB] at hb; cases hb
      have lp : pre.length < (iv O).length := by rw [ex]; simp
      rw [List.length_map] at lp
      refine ⟨rfl, p, 2, rfl, by omega, by omega, hp8, fun H9 b e9 hp9 hb => ?_⟩
      have hB9 : H9 B = some (.lst (ks.map V.bl)) := e9.keep _ _ nBp hB fun _ z => nomatch z
      refine ⟨ks.map V.bl, hB9, by rw [List.length_map]; omega, _, ks ++ [decide ((b : Int) = 0)], by first | rw [List.map_append] | (rw [List.map_append]; rfl), by rw [List.length_append, List.length_append, lk]; rfl, (e8.trans e9).putN newB hB9 (fun _ z => nomatch z) (fun _ _ z => nomatch z), hp9.put nBp.symm, nBp, by rw [upd_same, List.map_append]; rfl⟩
    obtain ⟨ks, rfl, lk, e8, hp8, nKp, hK⟩ := h
    rw [List.length_map] at lk
    have hO8 : H8 OA = some (.lst (iv O)) := e8.keep _ _ nOp hOA fun _ z => nomatch z
    obtain ⟨rs, nDp8, hD8, lrs, hrs⟩ := rows7.ex e8
    have e78 := e7.trans e8
    dsimp only [gName, tRet, tTup, tCons]
    refine lc_list (K := K) (a := OA) (xs := iv O) (H1 := H8) (by exact fun _ h => h) (.inl (.inl hO8)) (fun B pre acc H9 => ∃ (ps : List Nat) (ls : List Addr), pre = iv ps ∧ ps.length = ls.length ∧ acc = ls.map V.ref ∧ Same H8 H9 ∧ B ≠ p ∧ H9 B = some (.lst (ls.map V.ref)) ∧
        ∀ i q g, ls[i]? = some q → ps[i]? = some g → H8 q = none ∧ q ≠ p ∧ q ≠ B ∧ H9 q = some (.lst (iv ((gls rws g).map fun x => O.idxOf x))))
      (fun B pre acc H9 h => by obtain ⟨_, _, _, _, _, e, _⟩ := h; exact .inl (.inl (e _ _ hO8))) (fun B nB => ⟨[], [], rfl, rfl, rfl, same_upd nB, (hp8.ne nB).symm, upd_same, fun i q g z => (nil_none z).elim⟩)
      (fun B nB pre acc x suf H9 ex h => ?_) (fun B nB acc H9 h => ?_)
    · obtain ⟨ps, ls, rfl, lps, rfl, e9, nBp, hB, hls⟩ := h
      obtain ⟨p0, g, q0, eO, ep, rfl⟩ := split_iv ex
      obtain rfl := iv_inj ep
      have gO : g ∈ O := by rw [eO]; simp
      have lps2 : ps.length + 1 ≤ O.length := by rw [eO]; simp
      obtain ⟨qa, hqa⟩ : ∃ qa, rs[g]? = some qa := ⟨_, List.getElem?_eq_getElem (by rw [lrs]; exact hltO g gO)⟩
      have hrq := e9 _ _ (hrs g qa hqa).2
      have lg := gls_len ok (hltO g gO)
      refine ⟨rfl, ?_⟩
      refine lc_list (K := K) (t := tOp (ixU K) (uVar 4) (uVar 9)) (a := qa) (xs := iv (gls rws g)) (H1 := H9) (fun R' hR' => ⟨rs.map V.ref, .ref qa, .inl (.inl (.inl (e9 _ _ hD8))), atI_nat (by rw [List.getElem?_map, hqa]; rfl), hR'⟩) (.inl (.inl hrq))
        (fun B2 pre2 acc2 H4 => H9 B2 = none ∧ H4 = upd H9 B2 (.lst acc2) ∧ ∃ gs, pre2 = iv gs ∧ acc2 = iv (gs.map fun x => O.idxOf x)) (fun B2 pre2 acc2 H4 h => ?_) (fun B2 nB2 => ⟨nB2, rfl, [], rfl, rfl⟩) (fun B2 nB2 pre2 acc2 x2 suf2 H4 ex2 h => ?_) (fun B2 nB2 acc2 H4 h => ?_)
      · obtain ⟨n', rfl, _⟩ := h
        exact .inl (.inl (same_upd n' _ _ hrq))
      · obtain ⟨_, rfl, gs, rfl, rfl⟩ := h
        obtain ⟨p1, g2, q1, eg, ep1, rfl⟩ := split_iv ex2
        obtain rfl := iv_inj ep1
        have g2O : g2 ∈ O := hclo g g2 gO (by rw [eg]; simp)
        have lg2 : gs.length ≤ 3 := by
          have := congrArg List.length eg
          rw [List.length_append, List.length_cons] at this
          omega
        have hO10 : (upd H9 B2 (.lst (iv (gs.map fun x => O.idxOf x)))) OA = some (.lst (iv O)) := same_upd nB2 _ _ (e9 _ _ hO8)
        obtain ⟨i1, i2⟩ := idx_ok g2O
        refine ⟨rfl, .inl ⟨rfl, _, .inl (.inl hO10)⟩, OA, iv O, .int (g2 : Nat), O.idxOf g2, .int (g2 : Nat), rfl, rfl, .inl (.inl hO10), rfl, flat_iv _, i1, by rw [eq_iv]; simp, i2, ?_⟩
        exact ⟨_, upd_same, by rw [List.length_map, List.length_map]; omega, _, nB2, upd_upd, gs ++ [g2], by rw [iv_app]; rfl, by rw [List.map_append, iv_app]; rfl⟩
      · obtain ⟨_, rfl, gs, eg, rfl⟩ := h
        obtain rfl := iv_inj eg
        have nB2B : B ≠ B2 := ne_of_none hB nB2
        have n8B : H8 B = none := nB
        have n8B2 : H8 B2 = none := Same.free e9 nB2
        have nB2p : B2 ≠ p := (hp8.ne n8B2).symm
        refine ⟨ls.map V.ref, by rw [upd_ne nB2B]; exact hB, by rw [List.length_map]; omega, _, ps ++ [g], ls ++ [B2], by rw [iv_app]; rfl, by rw [List.length_append, List.length_append, lps]; rfl, rfl, same_upd2 (same_upd2 e9 n8B2) n8B, nBp, by rw [upd_same, List.map_append]; rfl, fun i q' g' hq' hg' => ?_⟩
        rcases Nat.lt_or_ge i ls.length with hlt | hge
        · rw [List.getElem?_append_left hlt] at hq'
          rw [List.getElem?_append_left (by omega)] at hg'
          obtain ⟨a0, a1, a2, a3⟩ := hls i q' g' hq' hg'
          exact ⟨a0, a1, a2, by rw [upd_ne a2, upd_ne (ne_of_none a3 nB2)]; exact a3⟩
        · rw [List.getElem?_append_right hge] at hq'
          rw [List.getElem?_append_right (by omega)] at hg'
          have e6 : i - ls.length = 0 := by
            have := (List.getElem?_eq_some_iff.mp hq').1
            simp at this; omega
          rw [e6] at hq'
          rw [show i - ps.length = 0 by omega] at hg'
          have : B2 = q' := by simpa using hq'
          subst this
          have : g = g' := by simpa using hg'
          subst this
          exact ⟨n8B2, nB2p, nB2B.symm, by rw [upd_ne nB2B.symm]; exact upd_same⟩
    obtain ⟨ps, ls, ep, lps, rfl, e9, nBp, hB, hls⟩ := h
    obtain rfl := iv_inj ep
    refine ⟨by show 2 ≤ sizeLine; omega, fun t nt => ?_⟩
    have hp9 : Pot H9 p := hp8.ex (TT := TT) (.same e9)
    have fr : ∀ {G : Hp} {b : Addr}, Ex TT (at1 p) H G → G b = none → b ≠ p → ¬ OldX p H b := fun {G b} e n np z => by
      rcases z with z | ⟨o, ho, m⟩
      · exact np z
      · rw [e.keep b o np ho m] at n; cases n
    refine q _ t (rn rws O) ks (e78.trans (.same (e9.trans (same_upd nt)))) (hp9.put (hp9.ne nt)) ⟨B, KA, ls, fr (e78.trans (.same e9)) nt (hp9.ne nt).symm, fr e78 nB nBp, fr e7 nKA nKp, (fun q' hq' => ?_), upd_same, same_upd nt _ _ hB, same_upd nt _ _ (e9 _ _ hK), by rw [rn_len]; exact lps.symm, fun i q' hq' => ?_⟩ ⟨lt, rnok, by rw [rn_len]; exact lenO1, by rw [rn_len]; omega, by rw [rn_len]; exact lk⟩ rnwh (by rw [rn_len]; exact lenOm)
    · obtain ⟨i, hi, hq2⟩ := List.mem_iff_getElem.mp hq'
      obtain ⟨a0, a1, _, _⟩ := hls i q' O[i] (by rw [List.getElem?_eq_getElem hi, hq2]) (List.getElem?_eq_getElem (by omega))
      exact fr e78 a0 a1
    have li : i < O.length := by
      have := (List.getElem?_eq_some_iff.mp hq').1
      omega
    have hg : O[i]? = some O[i] := List.getElem?_eq_getElem li
    obtain ⟨a0, a1, a2, a3⟩ := hls i q' _ hq' hg
    rw [rn_gls hg]
    exact same_upd nt _ _ a3
end
end LK

/-! k14: _law_from -/
namespace LK
open PySem PySem.Spec PyProof.Rows L2 LamX
open scoped List
end LK

/-! k14: _law_texts -/
namespace LK
open PySem PySem.Spec PyProof.Rows L2 LamX
open scoped List
/-- the texts of i letters, the texts of at most i letters -/
def lvl (S : List Nat) : Nat → List (List Nat)
  | 0 => [[]]
  | i + 1 => (lvl S i).flatMap fun t => S.map fun c => t ++ [c]
def txl (S : List Nat) : Nat → List (List Nat)
  | 0 => [[]]
  | i + 1 => txl S i ++ lvl S (i + 1)
abbrev lts (l : List (List Nat)) : List V := l.map fun t => V.str (T t)
theorem lvl_mem {S : List Nat} : ∀ {i : Nat} {t : List Nat}, t ∈ lvl S i → t.length = i ∧ ∀ c ∈ t, c ∈ S
  | 0, t, h => by
    have : t = [] := by simpa [lvl] using h
    subst this; exact ⟨rfl, fun c z => nomatch z⟩
  | i + 1, t, h => by
    obtain ⟨u, hu, h2⟩ := List.mem_flatMap.mp h
    obtain ⟨c, hc, rfl⟩ := List.mem_map.mp h2
    obtain ⟨a, b⟩ := lvl_mem hu
    refine ⟨by simp [a], fun d hd => ?_⟩
    rcases List.mem_append.mp hd with h | h
    · exact b d h
    · simp at h; rw [h]; exact hc
theorem txl_mem {S : List Nat} : ∀ {i : Nat} {t : List Nat}, t ∈ txl S i → t.length ≤ i ∧ ∀ c ∈ t, c ∈ S
  | 0, t, h => by
    have : t = [] := by simpa [txl] using h
    subst this; exact ⟨Nat.le_refl _, fun c z => nomatch z⟩
  | i + 1, t, h => by
    rcases List.mem_append.mp h with h | h
    · obtain ⟨a, b⟩ := txl_mem h
      exact ⟨by omega, b⟩
    · obtain ⟨a, b⟩ := lvl_mem h
      exact ⟨by omega, b⟩
theorem lvl_len (S : List Nat) : ∀ i, (lvl S i).length = S.length ^ i
  | 0 => rfl
  | i + 1 => by
    have key : ∀ l : List (List Nat), (l.flatMap fun t => S.map fun c => t ++ [c]).length = l.length * S.length := by
      intro l
      induction l with
      | nil => simp
      | cons t l ih => rw [List.flatMap_cons, List.length_append, ih, List.length_map, List.length_cons, Nat.succ_mul]; omega
    show ((lvl S i).flatMap _).length = _
    rw [key, lvl_len S i, Nat.pow_succ]
theorem lvl_le {S : List Nat} (h : S.length ≤ 3) {i : Nat} (hi : i ≤ 5) : (lvl S i).length ≤ 243 := by
  rw [lvl_len]
  calc S.length ^ i ≤ 3 ^ i := Nat.pow_le_pow_left h i
    _ ≤ 3 ^ 5 := Nat.pow_le_pow_right (by omega) hi
    _ = 243 := by decide
theorem txl_le {S : List Nat} (h : S.length ≤ 3) : ∀ {i : Nat}, i ≤ 5 → (txl S i).length ≤ 1 + 243 * i
  | 0, _ => by simp [txl]
  | i + 1, hi => by
    have a := txl_le h (i := i) (by omega)
    have b := lvl_le h hi
    show (txl S i ++ lvl S (i + 1)).length ≤ _
    rw [List.length_append]; omega
section
variable {P : Program} {w : World} {K : PySem.W.Frag} {mg : Str → Option Value} {base : Heap}
abbrev nTexts : List Str := ["_law_signs", "_law_most", "_law_found", "_law_last", "_law_turn", "_law_longer", "_law_text", "_law_sign"]
theorem scTexts : FnScope nTexts ["_law_signs", "_law_most"] (defScope sTexts) := ⟨rfl, rfl, rfl, by decide +kernel, rfl, by decide +kernel, by decide +kernel⟩
def spTexts : Sp := fun vs H Q _ => ∃ (S : List Nat) (n : Nat), vs = [.str (T S), .int n] ∧ S.length ≤ 3 ∧ n ≤ 5 ∧ ∀ H' p, Same H H' → H p = none → H' p = some (.lst (lts (txl S n))) → Q (.ref p) H'
theorem ok_texts {f : Addr} {fd : FuncData} {k : Nat} (F : Fun K "_law_texts" "_law_texts" sTexts f fd) (M : Mx mg) : FnG P w K mg base CX0 (k + 1) f fd ["_law_signs", "_law_most"] spTexts := by
  refine okG F scTexts (fun vs H Q E h => ?_) (fun cdv A hA outer s H vs Q E hr h => ?_)
  · obtain ⟨S, n, rfl, _⟩ := h; rfl
  · obtain ⟨S, n, rfl, l3, hn, q⟩ := h
    have nd := scTexts.nd
    have sl := sizeLine_eq
    refine ⟨_, pss_cons (ps_par (i := 2) (j := 3) (by rfl) nd rfl rfl (by decide) rfl rfl (pa_cons (pe_lst (pa_cons (ustr []) pa_nil)) (pa_cons (pe_lst (pa_cons (ustr []) pa_nil)) pa_nil)) (by rfl))
      (pss_cons (ps_for PassesOwn.never rfl (pi_range1 (by rfl) M.range (pa_cons (uv 1) pa_nil)) (pg_name (i := 4) nd rfl (.inl rfl))
        (pss_cons (ps_set (i := 5) nd rfl (.inl rfl) (pe_lst pa_nil))
        (pss_cons (ps_for PassesOwn.never rfl (pi_list (uv 3)) (pg_name (i := 6) nd rfl (.inr rfl))
          (pss_one (ps_expr (pe_bm PySem.F.plainAttrs_list PySem.F.slot_list_extend PySem.F.type_list_extend mt_extend (uv 5)
            (pa_cons (pe_cl (pe_lc (own := [("_law_sign", 7)]) (g := gName 7) (tt := tYes) rfl nd (pi_str (uv 0)) (blkOk_by (N := nTexts) (sc := defScope sTexts) (by decide +kernel))
              (fun _ _ _ _ _ => pg_name (i := 7) nd rfl (Or.inl rfl)) (fun _ _ _ _ _ => pts_nil) (fun _ _ _ _ _ => pe_op o_add (uv 6) (uv 7)))) pa_nil)))))
        (pss_cons (ps_set (i := 3) nd rfl (.inl rfl) (uv 5))
        (pss_one (ps_set (i := 2) nd rfl (.inl rfl) (pe_op o_add (uv 2) (uv 5))))))))
      (pss_one (ps_ret (uv 2)))), ?_⟩
    refine ⟨by show 1 ≤ sizeLine; omega, fun F0 nF => ⟨by show 1 ≤ sizeLine; omega, fun L0 nL => ⟨_, _, rfl, ?_⟩⟩⟩
    have nLH : H L0 = none := Same.free (same_upd nF) nL
    have eF : (upd (upd H F0 (.lst [.str (T [])])) L0 (.lst [.str (T [])])) F0 = some (.lst (lts (txl S 0))) := same_upd nL _ _ upd_same
    have eL : (upd (upd H F0 (.lst [.str (T [])])) L0 (.lst [.str (T [])])) L0 = some (.lst (lts (lvl S 0))) := upd_same
    have e0 : Same H (upd (upd H F0 (.lst [.str (T [])])) L0 (.lst [.str (T [])])) := (same_upd nF).trans (same_upd nL)
    generalize upd (upd H F0 (.lst [.str (T [])])) L0 (.lst [.str (T [])]) = H0 at eF eL e0
    dsimp only [tSeq]
    refine for_rng (n := n) (H1 := H0) (fun R' h => h) (by omega) (fun i σ H2 => ∃ (F L : Addr) (y4 y5 y6 y7 : Option V), σ = [some (.str (T S)), some (.int (n : Nat)), some (.ref F), some (.ref L), y4, y5, y6, y7] ∧ Same H H2 ∧ H F = none ∧ H2 F = some (.lst (lts (txl S i))) ∧ H2 L = some (.lst (lts (lvl S i))))
      ⟨F0, L0, none, none, none, none, rfl, e0, nF, eF, eL⟩ (fun i σ H2 hi h => ?_) (fun σ H2 h => ?_)
    · obtain ⟨F, L, y4, y5, y6, y7, rfl, e2, nF2, hF, hL⟩ := h
      refine ⟨by show 0 ≤ sizeLine; omega, fun B nB => ?_⟩
      have nBH : H B = none := Same.free e2 nB
      have hF3 := same_upd (o := .lst []) nB _ _ hF
      have hL3 := same_upd (o := .lst []) nB _ _ hL
      have hB3 : (upd H2 B (.lst [])) B = some (.lst (lts ((([] : List (List Nat))).flatMap fun t => S.map fun c => t ++ [c]))) := upd_same
      have e3 : Same H (upd H2 B (.lst [])) := same_upd2 e2 nBH
      have nFB : F ≠ B := ne_of_none hF nB
      have nLB : L ≠ B := ne_of_none hL nB
      generalize upd H2 B (.lst []) = H3 at hF3 hL3 hB3 e3
      have ll := lvl_le l3 (i := i) (by omega)
      dsimp only [tSeq, tAsg, gName]
      refine for_list (K := K) (a := L) (xs := lts (lvl S i)) (H1 := H3) (by exact fun _ h => h) (.inl (.inl hL3)) (fun pre σ H4 => ∃ (us rest : List (List Nat)) (y6 y7 : Option V), lvl S i = us ++ rest ∧ pre = lts us ∧ Same H H4 ∧ H4 F = some (.lst (lts (txl S i))) ∧ H4 L = some (.lst (lts (lvl S i))) ∧
          H4 B = some (.lst (lts (us.flatMap fun t => S.map fun c => t ++ [c]))) ∧ σ = [some (.str (T S)), some (.int (n : Nat)), some (.ref F), some (.ref L), some (.int (i : Nat)), some (.ref B), y6, y7])
        (fun pre σ H4 h => by obtain ⟨_, _, _, _, _, _, _, _, h, _⟩ := h; exact .inl (.inl h)) ⟨[], lvl S i, _, _, rfl, rfl, e3, hF3, hL3, hB3, rfl⟩ (fun pre x suf σ H4 ex h => ?_) (fun σ H4 h => ?_)
      · obtain ⟨us, rest, y6, y7, eu, rfl, e4, hF4, hL4, hB4, rfl⟩ := h
        have er : lts rest = x :: suf := by
          have e7 : lts us ++ lts rest = lts us ++ x :: suf := by rw [← ex, eu]; exact List.map_append.symm
          exact List.append_cancel_left e7
        obtain ⟨t, rest', rfl, rfl, rfl⟩ := List.map_eq_cons_iff.mp er
        have tm : t ∈ lvl S i := by rw [eu]; simp
        have tlen := (lvl_mem tm).1
        have lu : us.length ≤ 243 := by
          have := congrArg List.length eu
          rw [List.length_append] at this
          omega
        have lfm : ∀ us : List (List Nat), (us.flatMap fun t => S.map fun c => t ++ [c]).length = us.length * S.length := by
          intro us
          induction us with
          | nil => simp
          | cons t l ih => rw [List.flatMap_cons, List.length_append, ih, List.length_map, List.length_cons, Nat.succ_mul]; omega
        refine ⟨.inl ⟨rfl, _, .inl (.inl hB4)⟩, fun v H' => ∃ B2, v = .ref B2 ∧ H4 B2 = none ∧ H' = upd H4 B2 (.lst (lts (S.map fun c => t ++ [c]))), ?_, fun v H' z => ?_⟩
        · refine lc_str (l := S) (H1 := H4) (by exact fun _ h => h) (fun D2 L2 acc H5 => H5 = upd H4 D2 (.lst acc) ∧ ∃ pp, L2 = lets pp ∧ acc = lts (pp.map fun c => t ++ [c])) (fun D2 n2 => ⟨rfl, [], rfl, rfl⟩) (fun D2 n2 pre2 acc c suf2 H5 e r => ?_) (fun D2 n2 acc H5 r => ?_)
          · obtain ⟨rfl, pp, ep, rfl⟩ := r
            obtain rfl := lets_inj ep
            have l4 : pre2.length < 3 := by
              have := congrArg List.length e
              rw [List.length_append, List.length_cons] at this
              omega
            refine ⟨rfl, by show t.length + 1 ≤ sizeLine; omega, _, upd_same, by rw [List.length_map, List.length_map]; omega, _, upd_upd, pre2 ++ [c], rfl, ?_⟩
            rw [List.map_append]; exact (List.map_append (f := fun t => V.str (T t)) (l₁ := pre2.map fun c => t ++ [c]) (l₂ := [t ++ [c]])).symm
          · obtain ⟨rfl, pp, ep, rfl⟩ := r
            obtain rfl := lets_inj ep
            exact ⟨D2, rfl, n2, rfl⟩
        · obtain ⟨B2, rfl, n2, rfl⟩ := z
          have hB5 := same_upd (o := .lst (lts (S.map fun c => t ++ [c]))) n2 _ _ hB4
          refine ⟨B, B2, _, _, rfl, rfl, hB5, upd_same, by rw [List.length_map, List.length_map, List.length_map, lfm]; have := Nat.mul_le_mul lu l3; omega, ?_⟩
          have e5 : Same H (upd H4 B2 (.lst (lts (S.map fun c => t ++ [c])))) := same_upd2 e4 (Same.free e4 n2)
          refine ⟨us ++ [t], rest', _, _, by rw [eu]; simp, (List.map_append (f := fun t => V.str (T t)) (l₁ := us) (l₂ := [t])).symm, same_upd2 e5 nBH, ?_, ?_, ?_, rfl⟩
          · rw [upd_ne nFB]; exact same_upd n2 _ _ hF4
          · rw [upd_ne nLB]; exact same_upd n2 _ _ hL4
          · rw [upd_same, List.flatMap_append, ← List.map_append]; simp
      · obtain ⟨us, rest, y6, y7, eu, e6, e4, hF4, hL4, hB4, rfl⟩ := h
        have eus : lvl S i = us := (List.map_inj_right fun x y z => T_inj (V.str.inj z)).mp e6
        subst eus
        have hB5 : H4 B = some (.lst (lts (lvl S (i + 1)))) := hB4
        have lx := txl_le l3 (i := i) (by omega)
        have ly := lvl_le l3 (i := i + 1) (by omega)
        refine ⟨lts (txl S i), lts (lvl S (i + 1)), hF4, hB5, by rw [List.length_map, List.length_map]; omega, fun G nG => ?_⟩
        have nGH : H G = none := Same.free e4 nG
        exact ⟨G, B, _, _, _, _, rfl, same_upd2 e4 nGH, nGH, by rw [upd_same, ← List.map_append]; rfl, same_upd nG _ _ hB5⟩
    · obtain ⟨F, L, y4, y5, y6, y7, rfl, e2, nF2, hF, hL⟩ := h
      exact q H2 F e2 nF2 hF
end
end LK

/-! the facts of an error's class, by looks that the kernel runs -/
namespace LK
open PySem PySem.Spec PyProof.Rows L2 LamX
open PySem.W (Frag excInitIn excOver findIn subIn hasDictIn specialIn takesIn mroIn keepIn typeIn takerIn kitOne exmOne excIn)
def excCB (K : Frag) (D : Addr) : Bool :=
  decide (findIn K (.ref D) "__getattribute__" = some (some (.builtin "BaseException.__getattribute__"))) && (decide (findIn K (.ref D) "__getattr__" = some none) && (decide (subIn K (.ref D) (.type "BaseException") = some true) && (hasDictIn K D &&
    (decide (findIn K (.ref D) "__class__" = some (some (.builtin "object.__class__"))) && (decide (specialIn K (.builtin "object.__class__") "__get__" = some (some (.builtin "getset_descriptor.__get__"))) &&
      (decide (takesIn K (.builtin "object.__class__") = some true) && decide (mroIn K D (.type "object") = some true)))))))
theorem excCB_ok {K : Frag} {D : Addr} (h : excCB K D = true) : ExcC K D := by
  obtain ⟨h1, h⟩ := Bool.and_eq_true_iff.mp h
  obtain ⟨h2, h⟩ := Bool.and_eq_true_iff.mp h
  obtain ⟨h3, h⟩ := Bool.and_eq_true_iff.mp h
  obtain ⟨h4, h⟩ := Bool.and_eq_true_iff.mp h
  obtain ⟨h5, h⟩ := Bool.and_eq_true_iff.mp h
  obtain ⟨h6, h⟩ := Bool.and_eq_true_iff.mp h
  obtain ⟨h7, h8⟩ := Bool.and_eq_true_iff.mp h
  exact ⟨of_decide_eq_true h1, of_decide_eq_true h2, of_decide_eq_true h3, h4, of_decide_eq_true h5, of_decide_eq_true h6, of_decide_eq_true h7, of_decide_eq_true h8⟩
def clsB (K : Frag) (C : Addr) (bmB : List Value) (newId : String) : Bool :=
  excInitIn K C bmB newId && (excOver K C bmB && (decide (findIn K (.ref C) "__setattr__" = some (some (.builtin "object.__setattr__"))) && (excCB K C && (keepIn K (.ref C) && decide (typeIn K (.ref C) = some (.type "type"))))))
theorem clsB_ok {K : Frag} {C : Addr} {bmB : List Value} {newId : String} (h : clsB K C bmB newId = true) : ExcK K C bmB newId ∧ typeIn K (.ref C) = some (.type "type") := by
  obtain ⟨h1, h⟩ := Bool.and_eq_true_iff.mp h
  obtain ⟨h2, h⟩ := Bool.and_eq_true_iff.mp h
  obtain ⟨h3, h⟩ := Bool.and_eq_true_iff.mp h
  obtain ⟨h4, h⟩ := Bool.and_eq_true_iff.mp h
  obtain ⟨h5, h6⟩ := Bool.and_eq_true_iff.mp h
  exact ⟨⟨h1, h2, of_decide_eq_true h3, excCB_ok h4, h5⟩, of_decide_eq_true h6⟩
def fldB (K : Frag) (C : Addr) (f : Str) : Bool := decide (takerIn K C f = some none) && decide (findIn K (.ref C) f = some none)
theorem fldB_ok {K : Frag} {C : Addr} {f : Str} (h : fldB K C f = true) : takerIn K C f = some none ∧ findIn K (.ref C) f = some none := by
  obtain ⟨h1, h2⟩ := Bool.and_eq_true_iff.mp h
  exact ⟨of_decide_eq_true h1, of_decide_eq_true h2⟩
section
variable {P : Program} {w : World} {K : Frag} {mg : Str → Option Value} {base : Heap} {B newId initId : String} {bmB : List Value} {q x : Str} {st : Stmt} {C fI : Addr} {fd : FuncData} {k : Nat}
theorem hasC1 {fn : Str} {p1 p2 p3 p4 : Pos} (FB : ExcBaseFacts B newId initId bmB) (SF : StoreFacts B bmB "object.__setattr__" "object") (c : clsB K C bmB newId = true) (f1 : fldB K C fn = true) (g : mg x = some (.ref C))
    (iC : findIn K (.ref C) "__init__" = some (some (.ref fI))) (tI : typeIn K (.ref fI) = some (.type "function")) (F : Fun K "__init__" q st fI fd) (S : FnScope ["self", fn] ["self", fn] (defScope st))
    (body : defBody st = [.Assign [.Attribute (.Name "self" p1) fn p2] (.Name fn p3) p4]) (v0 : Vis (defScope st) "self") (v1 : Vis (defScope st) fn) (d1 : (fn == ("__debug__" : Str)) = false) (c1 : (fn == ("__classdict__" : Str)) = false)
    (sw : ∀ env : Env, env.scope = defScope st → swapsWith (.Name fn p3) (some (.Attribute (.Name "self" p1) fn p2)) p4.line env = pure false) (hb : Binds K fd ["self", fn] [])
    (hk : ∀ (s : Shared) (z : Value) (ws : List Value), ws.length = [fn].length → BindsTo s fd ⟨[z], [fn].zip ws⟩ ((("self" : Str) :: [fn]).zip (z :: ws)) ∧ BindsTo s fd ⟨[z], ([fn].zip ws).reverse⟩ ((("self" : Str) :: [fn]).zip (z :: ws))) :
    HasC P w K mg base (k + 1) x C [fn] := by
  obtain ⟨T, ty⟩ := clsB_ok c
  exact ⟨⟨B, newId, initId, bmB, fI, fd, FB, T, ty, iC, tI, ok_init1 SF F S body v0 v1 d1 c1 sw T (fldB_ok f1).1, hb, hk⟩, g⟩
end
abbrev bmR : List Value := [.type "RuntimeError", .type "Exception", .type "BaseException", .type "object"]
end LK

/-! what machines take: least machines are one for all machines with the same texts -/
namespace LK
open PySem PySem.Spec PyProof.Rows L2
open scoped List
abbrev kd (K : List Bool) (p : Nat) : Bool := K.getD p false
/-- the place to which some columns lead -/
def go (R : Rows) (p : Nat) (is : List Nat) : Nat := is.foldl (fun p i => (gls R p).getD i 0) p
def Col (m : Nat) (is : List Nat) : Prop := ∀ i ∈ is, i < m
section
variable {R : Rows} {m p : Nat} {is js : List Nat}
theorem Col.app (h : Col m is) (k : Col m js) : Col m (is ++ js) := fun i hi => (List.mem_append.mp hi).elim (h i) (k i)
theorem Col.one {i : Nat} (h : i < m) : Col m [i] := fun j hj => by simp at hj; omega
theorem Col.nil : Col m [] := fun _ h => nomatch h
theorem go_app : go R p (is ++ js) = go R (go R p is) js := by unfold go; rw [List.foldl_append]
theorem go_one {i : Nat} : go R p [i] = (gls R p).getD i 0 := rfl
theorem getD_mem {l : List Nat} {i : Nat} (h : i < l.length) : l.getD i 0 ∈ l := by
  rw [List.getD_eq_getElem?_getD, List.getElem?_eq_getElem h]; exact List.getElem_mem h
theorem go_step (ok : RowsOk R m) (hp : p < R.length) {i : Nat} (hi : i < m) : (gls R p).getD i 0 ∈ gls R p := getD_mem (by rw [gls_len ok hp]; exact hi)
theorem go_lt (ok : RowsOk R m) : ∀ {is : List Nat} {p : Nat}, p < R.length → Col m is → go R p is < R.length
  | [], p, hp, _ => hp
  | i :: is, p, hp, h => go_lt ok (is := is) (p := (gls R p).getD i 0) (gls_lt (p := p) ok (go_step ok hp (h i (by simp)))) fun j hj => h j (by simp [hj])
end
/-- from p and from q the same texts lead to places that take -/
def Alike (m : Nat) (R : Rows) (K : List Bool) (p q : Nat) : Prop := ∀ is, Col m is → kd K (go R p is) = kd K (go R q is)
theorem Alike.go {m : Nat} {R : Rows} {K : List Bool} {p q : Nat} (h : Alike m R K p q) {is : List Nat} (c : Col m is) : Alike m R K (go R p is) (go R q is) := fun js d => by
  rw [← go_app, ← go_app]; exact h _ (c.app d)
/-- two machines, each from a place of its own, take the same -/
def SameL (m : Nat) (R1 : Rows) (K1 : List Bool) (p1 : Nat) (R2 : Rows) (K2 : List Bool) (p2 : Nat) : Prop := ∀ is, Col m is → kd K1 (LK.go R1 p1 is) = kd K2 (LK.go R2 p2 is)
/-- the least machine of what R, K take from s on, numbered as come to -/
structure LeastOf (m : Nat) (R : Rows) (K : List Bool) (s : Nat) (A : Rows) (KA : List Bool) : Prop where
  rows : RowsOk A m
  lo : 1 ≤ A.length
  hi : A.length ≤ R.length
  kinds : KA.length = A.length
  canon : met A 0 = List.range A.length
  lang : SameL m A KA 0 R K s
  red : ∀ p q, p < A.length → q < A.length → Alike m A KA p q → p = q
theorem side_of {Rl : Nat → Nat → Prop} : ∀ {l k : List Nat}, l.length = k.length → (∀ i, i < l.length → Rl (l.getD i 0) (k.getD i 0)) → Side Rl l k
  | [], [], _, _ => .nil
  | [], _ :: _, h, _ => by simp at h
  | _ :: _, [], h, _ => by simp at h
  | a :: l, b :: k, h, f => .cons (f 0 (by simp)) (side_of (by simpa using h) fun i hi => by
      have := f (i + 1) (by simp; omega)
      simpa using this)
theorem side_eq {Rl : Nat → Nat → Prop} (h : ∀ a b, Rl a b → a = b) : ∀ {l k : List Nat}, Side Rl l k → l = k
  | _, _, .nil => rfl
  | _, _, .cons r t => by rw [h _ _ r, side_eq h t]
theorem gls_at {R : Rows} {i : Nat} (h : i < R.length) : gls R i = R[i] := by
  unfold gls; rw [List.getD_eq_getElem?_getD, List.getElem?_eq_getElem h]; rfl
theorem LeastOf.uniq {m : Nat} {R1 R2 A B : Rows} {K1 K2 KA KB : List Bool} {s1 s2 : Nat} (h1 : LeastOf m R1 K1 s1 A KA) (h2 : LeastOf m R2 K2 s2 B KB) (h : SameL m R1 K1 s1 R2 K2 s2) : A = B ∧ KA = KB := by
  have ab : SameL m A KA 0 B KB 0 := fun is c => by rw [h1.lang is c, h is c, h2.lang is c]
  let Rl : Nat → Nat → Prop := fun a b => ∃ is, Col m is ∧ LK.go A 0 is = a ∧ LK.go B 0 is = b
  have o : One Rl := by
    constructor
    · rintro a b c ⟨is, c1, e1, e2⟩ ⟨js, c2, e3, e4⟩
      refine h2.red b c (e2 ▸ go_lt h2.rows h2.lo c1) (e4 ▸ go_lt h2.rows h2.lo c2) fun ks c3 => ?_
      rw [← e2, ← e4, ← go_app, ← go_app, ← ab _ (c1.app c3), ← ab _ (c2.app c3), go_app, go_app, e1, e3]
    · rintro a b c ⟨is, c1, e1, e2⟩ ⟨js, c2, e3, e4⟩
      refine h1.red a b (e1 ▸ go_lt h1.rows h1.lo c1) (e3 ▸ go_lt h1.rows h1.lo c2) fun ks c3 => ?_
      rw [← e1, ← e3, ← go_app, ← go_app, ab _ (c1.app c3), ab _ (c2.app c3), go_app, go_app, e2, e4]
  have st : Steps Rl A B := by
    rintro a b ⟨is, c, e1, e2⟩
    have la : a < A.length := e1 ▸ go_lt h1.rows h1.lo c
    have lb : b < B.length := e2 ▸ go_lt h2.rows h2.lo c
    refine side_of (by rw [gls_len h1.rows la, gls_len h2.rows lb]) fun i hi => ?_
    rw [gls_len h1.rows la] at hi
    refine ⟨is ++ [i], c.app (.one hi), ?_, ?_⟩
    · rw [go_app, e1, go_one]
    · rw [go_app, e2, go_one]
  have ms := met_side (s1 := 0) (s2 := 0) o st ⟨[], Col.nil, rfl, rfl⟩ h1.rows h2.rows h1.lo h2.lo
  rw [h1.canon, h2.canon] at ms
  have ll : A.length = B.length := by have := ms.len; rwa [List.length_range, List.length_range] at this
  have dia : ∀ i, i < A.length → Rl i i := fun i hi => ms.get (i := i) (by rw [List.getElem?_range hi]) (by rw [List.getElem?_range (by omega)])
  have eq : ∀ a b, Rl a b → a = b := fun a b r => by
    have la : a < A.length := by obtain ⟨is, c, e, _⟩ := r; exact e ▸ go_lt h1.rows h1.lo c
    exact o.fn (dia a la) r
  refine ⟨List.ext_getElem ll fun i hi hj => ?_, List.ext_getElem (by rw [h1.kinds, h2.kinds, ll]) fun i hi hj => ?_⟩
  · have := side_eq eq (st i i (dia i hi))
    rwa [gls_at hi, gls_at hj] at this
  · obtain ⟨is, c, e1, e2⟩ := dia i (by rw [← h1.kinds]; exact hi)
    have := ab is c
    rw [e1, e2, kd, kd, List.getD_eq_getElem?_getD, List.getD_eq_getElem?_getD, List.getElem?_eq_getElem hi, List.getElem?_eq_getElem hj] at this
    exact this
theorem SameL.trans {m : Nat} {R1 R2 R3 : Rows} {K1 K2 K3 : List Bool} {s1 s2 s3 : Nat} (h : SameL m R1 K1 s1 R2 K2 s2) (k : SameL m R2 K2 s2 R3 K3 s3) : SameL m R1 K1 s1 R3 K3 s3 := fun is c => (h is c).trans (k is c)
/-! ### other numbers -/
section
variable {R : Rows} {m s : Nat} {L : List Nat} {Kd : List Bool}
/-- L: places, closed under all steps -/
structure Clo (R : Rows) (m : Nat) (L : List Nat) : Prop where
  nd : L.Nodup
  lt : ∀ p ∈ L, p < R.length
  on : ∀ p ∈ L, ∀ g ∈ gls R p, g ∈ L
theorem met_clo (ok : RowsOk R m) (hs : s < R.length) : Clo R m (met R s) := ⟨met_nd, fnd_lt ok hs _, fun _ hp _ hg => met_closed ok hs hp hg⟩
theorem rn_ok' (ok : RowsOk R m) (c : Clo R m L) : RowsOk (rn R L) m := by
  constructor
  · intro r hr
    obtain ⟨p, hp, rfl⟩ := List.mem_map.mp hr
    rw [List.length_map]
    exact gls_len ok (c.lt p hp)
  · intro r hr g hg
    obtain ⟨p, hp, rfl⟩ := List.mem_map.mp hr
    obtain ⟨q, hq, rfl⟩ := List.mem_map.mp hg
    rw [rn_len]
    exact List.idxOf_lt_length_iff.mpr (c.on p hp q hq)
def RlL (L : List Nat) : Nat → Nat → Prop := fun x p => L[x]? = some p
theorem rl_one (c : Clo R m L) : One (RlL L) := by
  refine ⟨fun h k => by rw [RlL] at h k; rw [h] at k; exact Option.some.inj k, fun {a b p} h k => ?_⟩
  have h1 := (List.getElem?_eq_some_iff.mp h).1
  exact (List.getElem?_inj h1 c.nd).mp (h.trans k.symm)
theorem rl_steps (c : Clo R m L) : Steps (RlL L) (rn R L) R := fun x p h => by
  rw [rn_gls h]
  have hp : p ∈ L := List.mem_of_getElem? h
  have : ∀ l : List Nat, (∀ g ∈ l, g ∈ L) → Side (RlL L) (l.map fun g => L.idxOf g) l := by
    intro l hl
    induction l with
    | nil => exact .nil
    | cons g l ih => exact .cons (idx_get (hl g (by simp))) (ih fun g hg => hl g (by simp [hg]))
  exact this _ (c.on p hp)
theorem go_rn (ok : RowsOk R m) (c : Clo R m L) : ∀ {is : List Nat} {x p : Nat}, L[x]? = some p → Col m is → L[go (rn R L) x is]? = some (go R p is)
  | [], x, p, h, _ => h
  | i :: is, x, p, h, ci => by
    have hp : p ∈ L := List.mem_of_getElem? h
    have hi : i < (gls R p).length := by rw [gls_len ok (c.lt p hp)]; exact ci i (by simp)
    refine go_rn ok c (is := is) (x := (gls (rn R L) x).getD i 0) (p := (gls R p).getD i 0) ?_ fun j hj => ci j (by simp [hj])
    rw [rn_gls h]
    have e : ((gls R p).map fun g => L.idxOf g).getD i 0 = L.idxOf ((gls R p).getD i 0) := by
      rw [List.getD_eq_getElem?_getD, List.getElem?_map, List.getD_eq_getElem?_getD, List.getElem?_eq_getElem hi]; rfl
    rw [e]
    exact idx_get (c.on p hp _ (getD_mem hi))
/-- kinds with other numbers -/
abbrev kn (L : List Nat) (Kd : List Bool) : List Bool := L.map fun p => Kd.getD p false
theorem kd_kn {x p : Nat} (h : L[x]? = some p) : kd (kn L Kd) x = kd Kd p := by
  rw [kd, List.getD_eq_getElem?_getD, List.getElem?_map, h]; rfl
theorem same_rn (ok : RowsOk R m) (c : Clo R m L) {x p : Nat} (h : L[x]? = some p) : SameL m (rn R L) (kn L Kd) x R Kd p := fun is ci => kd_kn (go_rn ok c h ci)
/-- numbered as come to: they are come to in their sequence -/
theorem met_rn (ok : RowsOk R m) (hs : s < R.length) : met (rn R (met R s)) 0 = List.range (met R s).length := by
  have c := met_clo (s := s) ok hs
  have h0 : (met R s)[0]? = some s := met_zero
  have hx : 0 < (rn R (met R s)).length := by rw [rn_len]; exact (List.getElem?_eq_some_iff.mp h0).1
  have ms := met_side (rl_one c) (rl_steps c) h0 (rn_ok' ok c) ok hx hs
  refine List.ext_getElem (by rw [List.length_range]; exact ms.len) fun i hi hj => ?_
  rw [List.getElem_range]
  have hi2 : i < (met R s).length := by rw [← ms.len]; exact hi
  have r := ms.get (i := i) (List.getElem?_eq_getElem hi) (List.getElem?_eq_getElem hi2)
  exact (rl_one c).inj r (List.getElem?_eq_getElem hi2)
end
end LK

/-! for c, x, y in zip(text, list, list) -/
namespace LK
open PySem PySem.Spec PyProof.Rows L2
def ItS3 (K : PySem.W.Frag) (x : Str) (a b : Addr) : It where
  go := fun i H => i < x.cps.size ∧ ∃ xs u ys y, SqL K H a xs ∧ xs[i]? = some u ∧ SqL K H b ys ∧ ys[i]? = some y
  yld := fun i H v H' => ∃ T c u y, v = .ref T ∧ H T = none ∧ H' = upd H T (.tup [.str ⟨#[c]⟩, u, y]) ∧ x.cps[i]? = some c ∧ (∀ xs, SqL K H a xs → xs[i]? = some u) ∧ ∀ ys, SqL K H b ys → ys[i]? = some y
  stop := fun i H => i = x.cps.size ∧ ∃ xs ys, SqL K H a xs ∧ i = xs.length ∧ SqL K H b ys ∧ i = ys.length
/-- where the parts of the walk lie -/
structure Far3 (z TI TO i1 i2 i3 a b : Addr) : Prop where
  nd : [z, TI, TO, i1, i2, i3].Nodup
  na : ∀ c ∈ [z, TI, TO, i1, i2, i3], a ≠ c
  nb : ∀ c ∈ [z, TI, TO, i1, i2, i3], b ≠ c
theorem Far3.sep {z TI TO i1 i2 i3 a b : Addr} (D : Far3 z TI TO i1 i2 i3 a b) : ZipSep3 z TI TO i1 i2 i3 [i1] [i2, a] [i3, b] := by
  have nd := D.nd
  have na := D.na
  have nb := D.nb
  simp only [List.nodup_cons, List.mem_cons, List.not_mem_nil, or_false, not_or] at nd
  simp only [List.mem_cons, List.not_mem_nil, or_false, forall_eq_or_imp, forall_eq] at na nb
  obtain ⟨⟨z1, z2, z3, z4, z5⟩, ⟨t1, t2, t3, t4⟩, ⟨o1, o2, o3⟩, ⟨p1, p2⟩, q1, _⟩ := nd
  obtain ⟨a1, a2, a3, a4, a5, a6⟩ := na
  obtain ⟨b1, b2, b3, b4, b5, b6⟩ := nb
  constructor <;> simp only [List.mem_cons, List.not_mem_nil, or_false, not_or, true_or, ne_eq] <;> first | trivial | (exact fun e => by simp_all) | (refine ⟨?_, ?_⟩ <;> exact fun e => by simp_all)
abbrev IsT3 (h : Heap) (T : Addr) (a1 a2 a3 : Value) : Prop := IsTupOf3 h T a1 a2 a3
def StS3 (x : Str) (t : Tok) (z TI TO i1 i2 i3 a b : Addr) (i : Nat) (h : Heap) : Prop :=
  IsZip h z TI TO .none ∧ IsT3 h TI (.ref i1) (.ref i2) (.ref i3) ∧ (∃ u v w, IsT3 h TO u v w) ∧ h.IsStrIter i1 "str_ascii_iterator" x t i ∧ h.IsListIter i2 a i ∧ h.IsListIter i3 b i
theorem turn_zipS3 {P : Program} {w : World} {K : PySem.W.Frag} {elts : List Expr} {kk : Nat} {tpos : Pos} {x : Str} {t : Tok} {a b z TI TO i1 i2 i3 : Addr} (D : Far3 z TI TO i1 i2 i3 a b) :
    Turn P w K (.Tuple elts kk tpos) (ItS3 K x a b) [z, TI, TO, i1, i2, i3] z (StS3 x t z TI TO i1 i2 i3 a b) where
  mem := by simp
  obj := fun i h st c hc => by
    obtain ⟨hz, hTI, ⟨u, v, w', hTO⟩, ⟨o1, e1, _, d1⟩, ⟨o2, e2, _, d2⟩, ⟨o3, e3, _, d3⟩⟩ := st
    simp only [List.mem_cons, List.not_mem_nil, or_false] at hc
    rcases hc with rfl | rfl | rfl | rfl | rfl | rfl
    · exact ⟨_, hz, fun v q => nomatch q⟩
    · exact ⟨_, hTI, fun v q => nomatch q⟩
    · exact ⟨_, hTO, fun v q => nomatch q⟩
    · exact ⟨o1, e1, fun v q => by rw [d1] at q; cases q⟩
    · exact ⟨o2, e2, fun v q => by rw [d2] at q; cases q⟩
    · exact ⟨o3, e3, fun v q => by rw [d3] at q; cases q⟩
  keep := fun i h h' st k => by
    obtain ⟨hz, hTI, ⟨u, v, w', hTO⟩, ⟨o1, e1, r1⟩, h2, h3⟩ := st
    exact ⟨k z (by simp) _ hz, k TI (by simp) _ hTI, ⟨u, v, w', k TO (by simp) _ hTO⟩, ⟨o1, k i1 (by simp) _ e1, r1⟩, h2.at fun o q => k i2 (by simp) o q, h3.at fun o q => k i3 (by simp) o q⟩
  item := by
    intro X hP hw hK hc i pins s σ H E I hf st ⟨hi, xs, u, ys, y, hqa, hu, hq, hy⟩
    subst hP hw hK
    have S := D.sep
    obtain ⟨hz, hTI, ⟨u0, v0, w0, hTO⟩, h1, h2, h3⟩ := st
    obtain ⟨itsa, rva, pa, _⟩ := I.list hqa
    obtain ⟨its, rv, p, _⟩ := I.list hq
    obtain ⟨va, hva, rvva⟩ := rva.get hu
    obtain ⟨v, hv, rvv⟩ := rv.get hy
    have hia : i < itsa.toArray.size := by
      have := (List.getElem?_eq_some_iff.mp hva).1
      simpa using this
    have hii : i < its.toArray.size := by
      have := (List.getElem?_eq_some_iff.mp hv).1
      simpa using this
    have hh : X.A.in1.handled = none := I.ok.hd hc
    have zl := Heap.lt_size hz
    refine wpAny_pyNext_zipD3_item S (Draws.strAscii hh i1 x t) (Draws.list hh i2 a (D.na i2 (by simp)) itsa.toArray) (Draws.list hh i3 b (D.nb i3 (by simp)) its.toArray) hz hTI hTO h1 ⟨h2, pa.isList⟩ ⟨h3, p.isList⟩ hi hia hii fun c1 ca c2 h' tk hc1 hca hc2 z' TO' h1' h2' h3' hT hsz hk => ?_
    obtain ⟨c, ut, hcc, rfl⟩ := hc1
    have ea : ca = va := by
      have : itsa[i]? = some ca := by simpa using hca
      rw [hva] at this; exact (Option.some.inj this).symm
    subst ea
    have e2 : c2 = v := by
      have : its[i]? = some c2 := by simpa using hc2
      rw [hv] at this; exact (Option.some.inj this).symm
    subst e2
    refine ⟨_, rfl, wpAny_letOwnedTupleGo_zip (s := { s with heap := h', toks := tk }) z' fun h'' z'' sb => ?_⟩
    have hT2 : h''.get? s.heap.objs.size = some { cls := .type "tuple", data := .seq #[.str ⟨#[c]⟩ ut, ca, c2] } := (sb.2 _ (Nat.ne_of_gt zl)).trans hT
    have new : ObjOk X.prog X.w (upd H s.heap.objs.size (.tup [.str ⟨#[c]⟩, u, y])) h'' s.heap.objs.size (.tup [.str ⟨#[c]⟩, u, y]) :=
      ⟨by show 3 ≤ sizeLine; decide, [.str ⟨#[c]⟩ ut, ca, c2], .cons ⟨ut, rfl⟩ (.cons rvva (.cons rvv .nil)), ⟨_, hT2, rfl, _, rfl⟩⟩
    have far : ∀ d o, d ∉ [z, TI, TO, i1, i2, i3] → s.heap.get? d = some o → h''.get? d = some o := fun d o nd q => by
      simp only [List.mem_cons, List.not_mem_nil, or_false, not_or] at nd
      exact (sb.2 d nd.1).trans (hk d o nd.1 nd.2.2.1 nd.2.2.2.1 nd.2.2.2.2.1 nd.2.2.2.2.2 q)
    refine ⟨.ref s.heap.objs.size, _, I.turnedNew (t' := tk) (ch := [z, TI, TO, i1, i2, i3]) far hf (Nat.le_refl _) new, rfl, ⟨_, c, u, y, rfl, I.hok.fresh (Nat.le_refl _), rfl, hcc, (fun l hl => by rw [I.list_inj hl hqa]; exact hu), fun l hl => by rw [I.list_inj hl hq]; exact hy⟩, ⟨z'', ?_, ⟨_, _, _, (sb.2 _ S.TOz).trans TO'⟩, ?_, ?_, ?_⟩, fun d hd => ?_⟩
    · exact (sb.2 _ S.TIz).trans (hk _ _ S.TIz S.TITO S.TIi1 S.TIi2 S.TIi3 hTI)
    · obtain ⟨o1, e1, r1⟩ := h1'
      exact ⟨o1, (sb.2 _ S.zi1.symm).trans e1, r1⟩
    · exact h2'.1.at fun o q => (sb.2 _ S.zi2.symm).trans q
    · exact h3'.1.at fun o q => (sb.2 _ S.zi3.symm).trans q
    · have lt : d < s.heap.objs.size := by
        simp only [List.mem_cons, List.not_mem_nil, or_false] at hd
        obtain ⟨o1, e1, _⟩ := h1
        obtain ⟨o2, e2, _⟩ := h2
        obtain ⟨o3, e3, _⟩ := h3
        rcases hd with rfl | rfl | rfl | rfl | rfl | rfl
        · exact zl
        · exact Heap.lt_size hTI
        · exact Heap.lt_size hTO
        · exact Heap.lt_size e1
        · exact Heap.lt_size e2
        · exact Heap.lt_size e3
      rw [upd_ne (Nat.ne_of_lt lt)]
      exact (hf d hd).1
  done := by
    intro X hP hw hK hc i pins s σ H E I hf st ⟨hi, xs, ys, hqa, hla, hq, hl⟩
    subst hP hw hK
    obtain ⟨hz, hTI, ⟨u0, v0, w0, hTO⟩, h1, h2, h3⟩ := st
    obtain ⟨itsa, rva, pa, _⟩ := I.list hqa
    obtain ⟨its, rv, p, _⟩ := I.list hq
    have l0 := rva.length
    have l1 := rv.length
    have hh : X.A.in1.handled = none := I.ok.hd hc
    have ea : i = itsa.toArray.size := by rw [List.size_toArray]; omega
    have e2 : i = its.toArray.size := by rw [List.size_toArray]; omega
    exact wpAny_pyNext_zipD3_end D.sep (Draws.strAscii hh i1 x t) (Draws.list hh i2 a (D.na i2 (by simp)) itsa.toArray) (Draws.list hh i3 b (D.nb i3 (by simp)) its.toArray) hz hTI hTO h1 ⟨h2, pa.isList⟩ ⟨h3, p.isList⟩ (by omega) (by omega) (by omega) (.inl hi) fun h' tk hk => ⟨rfl, I.turnedL (t' := tk) (ch := [z, TI, TO, i1, i2, i3]) (fun d o nd q => by
      simp only [List.mem_cons, List.not_mem_nil, or_false, not_or] at nd
      exact hk d o nd.1 nd.2.2.1 nd.2.2.2.1 nd.2.2.2.2.1 nd.2.2.2.2.2 q) hf⟩
  self := fun A i s Q E st h => wpAny_pyIter_zip st.1 h
section
variable {prog : Program} {w : World} {A : Around} {E : Value → Shared → Prop} {s : Shared}
abbrev zt1 (h : Heap) (x : Str) (t : Tok) : Heap := h.push { cls := .type "str_ascii_iterator", data := .fields #[.str x t, .int 0 0] }
abbrev zt2 (h : Heap) (x : Str) (t : Tok) (a : Addr) : Heap := (zt1 h x t).push { cls := .type "list_iterator", data := .fields #[.ref a, .int 0 0] }
abbrev zt3 (h : Heap) (x : Str) (t : Tok) (a b : Addr) : Heap := (zt2 h x t a).push { cls := .type "list_iterator", data := .fields #[.ref b, .int 0 0] }
abbrev zt4 (h : Heap) (x : Str) (t : Tok) (a b : Addr) : Heap := (zt3 h x t a b).push { cls := .type "tuple", data := .seq #[.ref h.objs.size, .ref (zt1 h x t).objs.size, .ref (zt2 h x t a).objs.size] }
abbrev zt5 (h : Heap) (x : Str) (t : Tok) (a b : Addr) : Heap := (zt4 h x t a b).push { cls := .type "tuple", data := .seq #[.none, .none, .none] }
abbrev zt6 (h : Heap) (x : Str) (t : Tok) (a b : Addr) : Heap := (zt5 h x t a b).push { cls := .type "zip", data := .fields #[.none, .bool false, .bool false, .ref (zt3 h x t a b).objs.size, .ref (zt4 h x t a b).objs.size] }
theorem new_zipS3 (x : Str) (t : Tok) (a b : Addr) (xs ys : Array Value) (ha : x.cps.all (· < 128) = true) :
    Meets (Builtin.«zip.__new__» ⟨[.type "zip", .str x t, .ref a, .ref b], []⟩) (fun _ R s => s.heap.IsList a xs ∧ s.heap.IsList b ys ∧ R (.ok (.ret (.ref (zt5 s.heap x t a b).objs.size))) { s with heap := zt6 s.heap x t a b }) :=
  .of_wp fun prog w A R s h => by
    obtain ⟨hp, g, d, tk, os⟩ := s; obtain ⟨hla, hl, h⟩ := h
    have hsub := sub_zip
    have hL1 : Heap.IsList (Shared.heap ⟨zt1 hp x t, g, d, tk, os⟩) a xs := Heap.IsList.push hla _
    have hL2 : Heap.IsList (Shared.heap ⟨zt2 hp x t a, g, d, tk, os⟩) b ys := Heap.IsList.push (Heap.IsList.push hl _) _
    wp_walk using wpAny_pyIter_ascii ha, wpAny_pyIter_list hL1, wpAny_pyIter_list hL2
    exact ⟨_, rfl, h⟩
theorem typeCall_zip_3 (a b c : Value) : checkTypeCall "zip" ⟨[a, b, c], []⟩ = pure () := by kernel_rfl
theorem newCall_zip_3 (a b c : Value) : checkBuiltinCall "zip.__new__" ⟨[.type "zip", a, b, c], []⟩ = pure () := by kernel_rfl
theorem args_object_init_4 (a b c d : Value) : argsOk "object.__init__" ⟨[a, b, c, d], []⟩ := by unfold argsOk; kernel_rfl
theorem zip_text_lists {x : Str} {t : Tok} {a b : Addr} {xs ys : Array Value} {Q : Value → Shared → Prop} (ha : x.cps.all (· < 128) = true) (hla : s.heap.IsList a xs) (hl : s.heap.IsList b ys)
    (h : ∀ h', StS3 x t (s.heap.objs.size + 5) (s.heap.objs.size + 3) (s.heap.objs.size + 4) s.heap.objs.size (s.heap.objs.size + 1) (s.heap.objs.size + 2) a b 0 h' →
      (∀ c o, s.heap.get? c = some o → h'.get? c = some o) → Q (.ref (s.heap.objs.size + 5)) { s with heap := h' }) :
    wpAny (model prog w) A (call (.type "zip") [.str x t, .ref a, .ref b]) Q E s := by
  refine callType_new F.called_zip (by decide) (typeCall_zip_3 _ _ _) (newCall_zip_3 _ _ _) (fun obj => args_object_init_4 obj _ _ _) F.entry_zip_new (new_zipS3 x t a b xs ys ha) ⟨hla, hl, ?_⟩
  have z1 : (zt1 s.heap x t).objs.size = s.heap.objs.size + 1 := Heap.size_push ..
  have z2 : (zt2 s.heap x t a).objs.size = s.heap.objs.size + 2 := by rw [Heap.size_push, z1]
  have z3 : (zt3 s.heap x t a b).objs.size = s.heap.objs.size + 3 := by rw [Heap.size_push, z2]
  have z4 : (zt4 s.heap x t a b).objs.size = s.heap.objs.size + 4 := by rw [Heap.size_push, z3]
  have z5 : (zt5 s.heap x t a b).objs.size = s.heap.objs.size + 5 := by rw [Heap.size_push, z4]
  have up : ∀ {c o}, s.heap.get? c = some o → (zt6 s.heap x t a b).get? c = some o := fun e =>
    Heap.get?_push_of_some _ (Heap.get?_push_of_some _ (Heap.get?_push_of_some _ (Heap.get?_push_of_some _ (Heap.get?_push_of_some _ (Heap.get?_push_of_some _ e)))))
  have g6 : (zt6 s.heap x t a b).get? (s.heap.objs.size + 5) = some _ := z5 ▸ Heap.get?_push_size _ rfl
  have g5 : (zt6 s.heap x t a b).get? (s.heap.objs.size + 4) = some _ := z4 ▸ Heap.get?_push_of_some _ (Heap.get?_push_size _ rfl)
  have g4 : (zt6 s.heap x t a b).get? (s.heap.objs.size + 3) = some _ := z3 ▸ Heap.get?_push_of_some _ (Heap.get?_push_of_some _ (Heap.get?_push_size _ rfl))
  have g3 : (zt6 s.heap x t a b).get? (s.heap.objs.size + 2) = some _ := z2 ▸ Heap.get?_push_of_some _ (Heap.get?_push_of_some _ (Heap.get?_push_of_some _ (Heap.get?_push_size _ rfl)))
  have g2 : (zt6 s.heap x t a b).get? (s.heap.objs.size + 1) = some _ := z1 ▸ Heap.get?_push_of_some _ (Heap.get?_push_of_some _ (Heap.get?_push_of_some _ (Heap.get?_push_of_some _ (Heap.get?_push_size _ rfl))))
  have g1 : (zt6 s.heap x t a b).get? s.heap.objs.size = some _ := Heap.get?_push_of_some _ (Heap.get?_push_of_some _ (Heap.get?_push_of_some _ (Heap.get?_push_of_some _ (Heap.get?_push_of_some _ (Heap.get?_push_size _ rfl)))))
  rw [z3, z4] at g6
  rw [z1, z2] at g4
  show _ ∧ _
  rw [z5]
  exact ⟨⟨_, g6, rfl⟩, h _ ⟨g6, g4, ⟨_, _, _, g5⟩, ⟨_, g1, rfl, rfl⟩, ⟨_, g2, rfl, rfl⟩, ⟨_, g3, rfl, rfl⟩⟩ fun c o e => up e⟩
end
theorem far3_new (n a b : Nat) (ha : a < n) (hb : b < n) : Far3 (n + 5) (n + 3) (n + 4) n (n + 1) (n + 2) a b := by
  refine ⟨?_, fun c hc e => ?_, fun c hc e => ?_⟩
  · simp only [List.nodup_cons, List.mem_cons, List.not_mem_nil, or_false, not_or, List.nodup_nil, and_true]
    refine ⟨⟨?_, ?_, ?_, ?_, ?_⟩, ⟨?_, ?_, ?_, ?_⟩, ⟨?_, ?_, ?_⟩, ⟨?_, ?_⟩, ?_⟩ <;> first | (intro e; have e : (_ : Nat) = _ := e; omega) | simp
  · simp only [List.mem_cons, List.not_mem_nil, or_false] at hc
    rcases hc with z | z | z | z | z | z <;> (rw [z] at e; have e : (_ : Nat) = _ := e; omega)
  · simp only [List.mem_cons, List.not_mem_nil, or_false] at hc
    rcases hc with z | z | z | z | z | z <;> (rw [z] at e; have e : (_ : Nat) = _ := e; omega)
def iZipS3 (K : PySem.W.Frag) (ta : TA) : TI := fun σ H R => ta σ H fun vs H1 => match vs with
  | [.str x, .ref a, .ref b] => (∀ c ∈ cs x, c < 128) ∧ (∃ xs, SqL K H1 a xs) ∧ (∃ ys, SqL K H1 b ys) ∧ R (ItS3 K x a b) H1
  | _ => False
theorem pi_zipS3 {X : Cx} {e e2 e3 : Expr} {ta : TA} {p pos tpos : Pos} {elts : List Expr} {kk : Nat} (hg : Gl X "zip") (hm : X.mg "zip" = none) (ha : PA X [e, e2, e3] ta)
    (hs : starEach [e, e2, e3] X.env = (false, eval e X.env) :: starEach [e2, e3] X.env := by rfl) (hpl : (backTo pos (starEach [e2, e3] X.env)).any (·.1) = false := by rfl) :
    PI X (.Tuple elts kk tpos) (.Call (.Name "zip" p) [e, e2, e3] [] pos) (iZipS3 X.K ta) := by
  refine ⟨fun pins s σ H R I h => ?_⟩
  refine Call_ (ld_blt I hg hm PyProof.Rows.boot_zip (PyProof.Rows.callWith_type1 (thn (ha.run pos pins s σ H _ I h) fun us s1 z => ?_) hs hpl))
  obtain ⟨vs, H1, I1, r1, q1⟩ := z
  split at q1
  · rename_i x a b
    obtain ⟨hc, ⟨xs, hqa⟩, ⟨ys, hq⟩, q⟩ := q1
    cases r1 with
    | cons r rr =>
      cases rr with
      | cons r' rr =>
        cases rr with
        | cons r'' rr =>
        cases rr
        obtain ⟨t, rfl⟩ := r
        cases r'
        cases r''
        obtain ⟨itsa, rva, pa, _⟩ := I1.list hqa
        obtain ⟨its, rv, p1, _⟩ := I1.list hq
        have la : a < s1.heap.objs.size := pa.lt
        have lb : b < s1.heap.objs.size := p1.lt
        have asc : x.cps.all (· < 128) = true := by
          rw [← Array.all_toList, List.all_eq_true]
          exact fun c h => decide_eq_true (hc c h)
        refine zip_text_lists asc pa.isList p1.isList fun h' st hk => wpAny_pyIter_zip st.1 ?_
        refine ⟨_, [s1.heap.objs.size + 5, s1.heap.objs.size + 3, s1.heap.objs.size + 4, s1.heap.objs.size, s1.heap.objs.size + 1, s1.heap.objs.size + 2], _, _, H1, rfl, I1.kept (t' := s1.toks) hk, turn_zipS3 ?_, st, fun c hcm => ?_, q⟩
        · exact far3_new _ _ _ la lb
        · have hle : s1.heap.objs.size ≤ c := by
            simp only [List.mem_cons, List.not_mem_nil, or_false] at hcm
            rcases hcm with z | z | z | z | z | z <;> rw [z]
            · exact Nat.le_add_right _ _
            · exact Nat.le_add_right _ _
            · exact Nat.le_add_right _ _
            · exact Nat.le_refl _
            · exact Nat.le_add_right _ _
            · exact Nat.le_add_right _ _
          exact I1.fpOk hle (I1.hok.fresh hle)
  · exact q1.elim
/-- the loop -/
theorem for_zipS3 {K : PySem.W.Frag} {ta : TA} {a b : Addr} {l : List Nat} {xs ys : List V} {g : TG} {tb : TS} {D : Ends} {σ : L2.St} {H H1 : Hp}
    (h : ∀ R : List V → Hp → Prop, R [.str (T l), .ref a, .ref b] H1 → ta σ H R) (ha : ∀ c ∈ l, c < 128) (hla : l.length = xs.length) (hl : l.length = ys.length) (Iv : Nat → L2.St → Hp → Prop) (h0 : Iv 0 σ H1)
    (hq : ∀ i σ H, Iv i σ H → SqL K H a xs ∧ SqL K H b ys)
    (hs : ∀ (i c : Nat) (u y : V) (p : Addr) (σ : L2.St) (H : Hp), l[i]? = some c → xs[i]? = some u → ys[i]? = some y → Iv i σ H → H p = none →
      g (.ref p) σ (upd H p (.tup [.str (T [c]), u, y])) fun σ2 H2 => tb { D with nx := Iv (i + 1), ct := Iv (i + 1), bk := D.nx } σ2 H2)
    (he : ∀ σ H, Iv l.length σ H → D.nx σ H) : tFor (iZipS3 K ta) g tb D σ H := by
  refine h _ ⟨ha, ⟨xs, (hq _ _ _ h0).1⟩, ⟨ys, (hq _ _ _ h0).2⟩, ?_⟩
  refine ⟨fun i m σ H => m = l.length - i ∧ i ≤ l.length ∧ Iv i σ H, ⟨l.length, rfl, Nat.zero_le _, h0⟩, ?_⟩
  rintro i m σ H ⟨rfl, hi, iv⟩
  obtain ⟨qx, qy⟩ := hq i σ H iv
  by_cases lt : i < l.length
  · have hx : l[i]? = some l[i] := List.getElem?_eq_getElem lt
    have hu : xs[i]? = some (xs[i]'(by omega)) := List.getElem?_eq_getElem (by omega)
    have hy : ys[i]? = some (ys[i]'(by omega)) := List.getElem?_eq_getElem (by omega)
    refine .inr ⟨⟨lt, xs, _, ys, _, qx, hu, qy, hy⟩, Iv (i + 1), fun σ' H' z => ⟨l.length - (i + 1), by omega, rfl, lt, z⟩, ?_⟩
    rintro v H' ⟨p, c, u, y, rfl, hp, rfl, hc, huu, hyy⟩
    have e1 : c = l[i] := by
      have : (T l).cps[i]? = some l[i] := by rw [← Array.getElem?_toList]; exact hx
      rw [hc] at this; exact Option.some.inj this
    have e2 := huu xs qx
    have e3 := hyy ys qy
    subst e1
    exact hs i _ u y p σ H hx e2 e3 iv hp
  · have e : i = l.length := by omega
    subst e
    exact .inl ⟨⟨rfl, xs, ys, qx, hla, qy, hl⟩, he σ H iv⟩
end LK

/-! pairs of places as keys; need_same_letters, _first_with_kinds where nothing is found, parting, is_same -/
namespace LK
open PySem PySem.Spec PyProof.Rows L2 LamX ClX
open scoped List
section
variable {X : Cx} {pos : Pos}
/-- x in a tuple of data -/
def rInDT (K : PySem.W.Frag) : R2 := fun x y H Q => ∃ d ds, Dp K H x d ∧ Dp K H y (.tuple ds) ∧ SeqAt.shaped d = true ∧ SeqAt.shaped (.tuple ds) = true ∧ Q (.bl (ds.any fun z => PyData.eqv z d)) H
theorem op_inDT (hu : X.A.units + 65 < cLine) : OpR X (compareOp .In) (rInDT X.K) := by
  intro pins s σ H x y v u Q I rx ry h
  obtain ⟨d, ds, hd, he, sd, se, q⟩ := h
  obtain ⟨as, r1⟩ := Dp.reads I d x v hd rx
  obtain ⟨bs, r2⟩ := Dp.reads I (.tuple ds) y u he ry
  exact SeqAt.in_tuple_reads r2 r1 (SeqAt.canLay_of_shaped se) (SeqAt.canLay_of_shaped sd) (room_in_shaped sd hu) ⟨.bl _, H, I, rfl, q⟩
/-- {(..): v}: one key, a tuple -/
def tDisp1 (tk tv : TE) : TE := fun σ H Q => ∀ p, H p = none → tk σ (upd H p (.dT [])) fun x H1 => tv σ H1 fun y H2 => H2 p = some (.dT []) ∧ ∃ (b : Addr) (k : List Key), x = .ref b ∧ H2 b = some (.tup (k.map kV)) ∧ Q (.ref p) (upd H2 p (.dT [(k, y)]))
theorem pe_disp1 {k v : Expr} {tk tv : TE} (hu : X.A.units < cLine) (hk : PE X k tk) (hv : PE X v tv) : PE X (.Dict [some k] [v] pos) (tDisp1 tk tv) := by
  refine ⟨fun pins s σ H Q I q => ?_⟩
  have hn := I.hok.fresh (Nat.le_refl s.heap.objs.size)
  have I1 := I.laid (a := s.heap.objs.size) (o := .dT []) (h' := s.heap.push { cls := .type "dict", data := .dict #[] }) (t' := s.toks) (fun _ _ q => Heap.get?_push_of_some _ q) (Nat.le_refl _) (dt_empty s.heap I.big)
  refine wpAny_Dict_any rfl rfl (fun z => by cases z) (show 1 ≤ 15 by decide) (pairTrees_cons_walk (thn (hk.run pins _ σ _ _ I1 (q _ hn)) fun kv s2 ⟨x, H1, I2, rx, q2⟩ => thn (hv.run pins s2 σ H1 _ I2 q2) fun vv s3 ⟨y, H2, I3, ry, e, b, ks, ex, eb, q3⟩ => pairTrees_nil_walk ?_))
  subst ex
  obtain rfl : kv = Value.ref b := rx
  obtain ⟨z, hd, xs, rel, dd⟩ := dt_of I3.hok e
  cases rel
  unfold storeAll
  rw [List.forIn_cons]
  refine wpAny_bind (wpAny_bind (wpAny_dictSet_heap (hsz := Nat.zero_le _) (knd := tupleKind (mixKind X.prog X.w)) (show X.A.units < cLine from hu) (key_of I3.hok eb) dd fun h' dd' hs => wpAny_pure ?_))
  dsimp only
  rw [List.forIn_nil]
  refine wpAny_pure ?_
  obtain ⟨ob, es, ep, hq, h2, h3, h4, _, h5⟩ := dd'
  refine ⟨.ref s.heap.objs.size, _, d_write (ob := .dT [(ks, y)]) I3 (by rw [e]; exact True.intro) hs ⟨ob, hq⟩ ⟨by show 1 ≤ sizeLine; decide, hd, _, .cons ⟨rfl, ?_, ry⟩ .nil, ob, es, ep, hq, h2, h3, h4, h5⟩, rfl, q3⟩
  rw [upd_ne (ne_of eb e (fun z => nomatch z))]
  exact eb
end
/-! ### pairs of numbers as keys -/
abbrev P2 := (Nat × Nat) × List Nat
abbrev kP (e : Nat × Nat) : List Key := [kI e.1, kI e.2]
abbrev kmpP (ms : List P2) : List (List Key × V) := ms.map fun e => (kP e.1, .str (T e.2))
theorem kP_iff {a b : Nat × Nat} : kP a = kP b ↔ a = b := by
  constructor
  · intro h
    injection h with h1 h2
    injection h2 with h2 _
    exact Prod.ext (kI_iff.mp h1) (kI_iff.mp h2)
  · rintro rfl; rfl
theorem val_kmpP (g : Nat × Nat) : ∀ ms : List P2, valV (kmpP ms) (kP g) = (ms.lookup g).map fun t => V.str (T t)
  | [] => rfl
  | (a, t) :: ms => by
    have ih := val_kmpP g ms
    by_cases e : a = g
    · subst e
      rw [List.lookup_cons_self]
      exact valV_pos (p := (kP a, V.str (T t))) rfl
    · rw [List.lookup_cons]
      have : (g == a) = false := by simpa using fun z => e z.symm
      rw [this]
      exact (valV_neg (p := (kP a, V.str (T t))) fun z => e (kP_iff.mp z)).trans ih
theorem lookP_none {ms : List P2} {g : Nat × Nat} : ms.lookup g = none ↔ g ∉ ms.map (·.1) := by
  induction ms with
  | nil => simp
  | cons p ms ih =>
    rw [List.lookup_cons, List.map_cons, List.mem_cons]
    by_cases e : g = p.1
    · subst e; simp
    · have : (g == p.1) = false := by simpa using e
      rw [this]
      simp [ih, e]
theorem lookP_some {ms : List P2} {g : Nat × Nat} (h : g ∈ ms.map (·.1)) : ∃ t, ms.lookup g = some t ∧ (g, t) ∈ ms := by
  induction ms with
  | nil => cases h
  | cons p ms ih =>
    rw [List.lookup_cons]
    by_cases e : g = p.1
    · subst e
      exact ⟨p.2, by simp, by simp⟩
    · have : (g == p.1) = false := by simpa using e
      rw [this]
      obtain ⟨t, h1, h2⟩ := ih (by simpa [e] using h)
      exact ⟨t, h1, by simp [h2]⟩
theorem put_kmpP {ms : List P2} {g : Nat × Nat} (t : List Nat) (h : g ∉ ms.map (·.1)) : putK (kmpP ms) (kP g) (.str (T t)) = kmpP (ms ++ [(g, t)]) := by
  rw [putK_new _ (by rw [val_kmpP, lookP_none.mpr h]; rfl), kmpP, kmpP, List.map_append]; rfl
/-- so many pairs there are at most -/
theorem pairs_len {l : List (Nat × Nat)} {n m : Nat} (nd : l.Nodup) (h : ∀ g ∈ l, g.1 < n ∧ g.2 < m) : l.length ≤ n * m := by
  have nd2 : (l.map fun g => g.1 * m + g.2).Nodup := by
    refine List.pairwise_map.mpr (List.Pairwise.imp_of_mem (fun {a b} ha hb hne => ?_) nd)
    intro e
    have h1 := h a ha
    have h2 := h b hb
    apply hne
    have m0 : 0 < m := by omega
    have e1 : (a.1 * m + a.2) / m = (b.1 * m + b.2) / m := by rw [e]
    have e2 : (a.1 * m + a.2) % m = (b.1 * m + b.2) % m := by rw [e]
    rw [Nat.mul_comm a.1 m, Nat.mul_comm b.1 m, Nat.mul_add_div m0, Nat.mul_add_div m0, Nat.div_eq_of_lt h1.2, Nat.div_eq_of_lt h2.2] at e1
    rw [Nat.mul_comm a.1 m, Nat.mul_comm b.1 m, Nat.mul_add_mod, Nat.mul_add_mod, Nat.mod_eq_of_lt h1.2, Nat.mod_eq_of_lt h2.2] at e2
    exact Prod.ext (by omega) e2
  have := len_le_of_lt nd2 (n := n * m) fun x hx => by
    obtain ⟨g, hg, rfl⟩ := List.mem_map.mp hx
    have := h g hg
    calc g.1 * m + g.2 < g.1 * m + m := by omega
      _ = (g.1 + 1) * m := by rw [Nat.add_mul, Nat.one_mul]
      _ ≤ n * m := Nat.mul_le_mul_right _ (by omega)
  rwa [List.length_map] at this
/-- tuples of pairs, by where they lie -/
def PrAt (H : Hp) (ts : List Addr) (gs : List (Nat × Nat)) : Prop := ts.length = gs.length ∧ ∀ (n : Nat) (t : Addr) (g : Nat × Nat), ts[n]? = some t → gs[n]? = some g → H t = some (.tup [.int (g.1 : Nat), .int (g.2 : Nat)])
theorem PrAt.ext {H H' : Hp} {ts : List Addr} {gs : List (Nat × Nat)} (h : PrAt H ts gs) (e : Same H H') : PrAt H' ts gs := ⟨h.1, fun n t g a b => e _ _ (h.2 n t g a b)⟩
theorem PrAt.put {H : Hp} {ts : List Addr} {gs : List (Nat × Nat)} {Z : Addr} {o : HO} (h : PrAt H ts gs) (hx : ∀ vs, H Z ≠ some (.tup vs)) : PrAt (upd H Z o) ts gs :=
  ⟨h.1, fun n t g a b => by
    have := h.2 n t g a b
    rw [upd_ne (fun z => hx _ (z ▸ this))]; exact this⟩
theorem PrAt.snoc {H : Hp} {ts : List Addr} {gs : List (Nat × Nat)} {t : Addr} {g : Nat × Nat} (h : PrAt H ts gs) (ht : H t = some (.tup [.int (g.1 : Nat), .int (g.2 : Nat)])) : PrAt H (ts ++ [t]) (gs ++ [g]) := by
  refine ⟨by simp [h.1], fun n p e' a b => ?_⟩
  by_cases hn : n < ts.length
  · rw [List.getElem?_append_left hn] at a
    rw [List.getElem?_append_left (by rw [← h.1]; exact hn)] at b
    exact h.2 n p e' a b
  · have hl := h.1
    rw [List.getElem?_append_right (by omega)] at a
    rw [List.getElem?_append_right (by omega)] at b
    have n0 : n - ts.length = 0 := by
      have := (List.getElem?_eq_some_iff.mp a).1
      simp at this; omega
    rw [n0] at a
    rw [← hl, n0] at b
    simp at a b
    subst a; subst b; exact ht
/-- a tuple of pairs of kinds -/
def WAt (H : Hp) (a : Addr) (wt : List (Bool × Bool)) : Prop := ∃ ws : List Addr, H a = some (.tup (ws.map V.ref)) ∧ ws.length = wt.length ∧ ∀ (n : Nat) (t : Addr) (g : Bool × Bool), ws[n]? = some t → wt[n]? = some g → H t = some (.tup [.bl g.1, .bl g.2])
theorem WAt.ext {H H' : Hp} {a : Addr} {wt : List (Bool × Bool)} (h : WAt H a wt) (e : Same H H') : WAt H' a wt := by
  obtain ⟨ws, h1, h2, h3⟩ := h
  exact ⟨ws, e _ _ h1, h2, fun n t g a b => e _ _ (h3 n t g a b)⟩
abbrev encBB (g : Bool × Bool) : PyData := .tuple [.bool g.1, .bool g.2]
theorem WAt.dp {K : PySem.W.Frag} {H : Hp} {a : Addr} {wt : List (Bool × Bool)} (h : WAt H a wt) : Dp K H (.ref a) (.tuple (wt.map encBB)) := by
  obtain ⟨ws, h1, h2, h3⟩ := h
  refine .tup (.inl (.inl h1)) ?_
  clear h1
  induction ws generalizing wt with
  | nil => cases wt with
    | nil => exact .nil
    | cons _ _ => cases h2
  | cons t ws ih => cases wt with
    | nil => cases h2
    | cons g wt => exact .cons (.tup (.inl (.inl (h3 0 t g rfl rfl))) (.cons (.bl _) (.cons (.bl _) .nil))) (ih (by simpa using h2) fun n t g a b => h3 (n + 1) t g a b)
theorem eqv_bb (a b : Bool × Bool) : PyData.eqv (encBB a) (encBB b) = decide (a = b) := by
  obtain ⟨a1, a2⟩ := a
  obtain ⟨b1, b2⟩ := b
  revert a1 a2 b1 b2
  decide
theorem any_bb (wt : List (Bool × Bool)) (g : Bool × Bool) : ((wt.map encBB).any fun z => PyData.eqv z (encBB g)) = decide (g ∈ wt) := by
  rw [List.any_map, Bool.eq_iff_iff, List.any_eq_true, decide_eq_true_eq]
  constructor
  · rintro ⟨x, hx, e⟩
    have e : PyData.eqv (encBB x) (encBB g) = true := e
    rw [eqv_bb, decide_eq_true_eq] at e
    exact e ▸ hx
  · intro h
    exact ⟨g, h, by show PyData.eqv (encBB g) (encBB g) = true; rw [eqv_bb]; exact decide_eq_true rfl⟩
theorem flat_bb (g : Bool × Bool) : Flat 1 (encBB g) := flat_tup (n := 0) fun d hd => by
  simp at hd
  rcases hd with rfl | rfl <;> exact flat_bl _
theorem flat_bbs (wt : List (Bool × Bool)) : Flat 2 (.tuple (wt.map encBB)) := flat_tup (n := 1) fun d hd => by
  obtain ⟨g, _, rfl⟩ := List.mem_map.mp hd
  exact flat_bb g
section
variable {P : Program} {w : World} {K : PySem.W.Frag} {mg : Str → Option Value} {base : Heap} {C : Addr}
theorem scSameLet : FnScope ["one", "other"] ["one", "other"] (defScope sSameLet) := ⟨rfl, rfl, rfl, by decide +kernel, rfl, by decide +kernel, by decide +kernel⟩
def spSameLet (C : Addr) : Sp := fun vs H Q _ => ∃ (a b : Addr) (S : List Nat) (R1 R2 : Rows) (K1 K2 : List Bool), vs = [.ref a, .ref b] ∧ Mach C H a S R1 K1 ∧ Mach C H b S R2 K2 ∧ Q .non H
theorem ok_sameLet {f : Addr} {fd : FuncData} {k : Nat} (F : Fun K "need_same_letters" "need_same_letters" sSameLet f fd) (cM : ClsM K C) (HL : HasP P w K mg base k C "letters" (getSp C "_letters")) : FnG P w K mg base CX0 (k + 2) f fd ["one", "other"] (spSameLet C) := by
  refine okG F scSameLet (fun vs H Q E h => ?_) (fun cdv A hA outer s H vs Q E hr h => ?_)
  · obtain ⟨a, b, S, R1, R2, K1, K2, rfl, _⟩ := h; rfl
  · obtain ⟨a, b, S, R1, R2, K1, K2, rfl, m1, m2, q⟩ := h
    refine ⟨_, pss_one (ps_ifU (pt_cu (o_ne hr.units) (pe_propH HL cM.cls hr (uv 0)) (pe_propH HL cM.cls hr (uv 1))) (pss_one ps_never) pss_nil), ?_⟩
    obtain ⟨dx, r, kk, rs, h1, _⟩ := id m1
    obtain ⟨dx', r', kk', rs', g1, _⟩ := id m2
    refine ⟨a, dx, _, rfl, h1, a, dx, _, .str (T S), rfl, h1, rfl, b, dx', _, rfl, g1, b, dx', _, .str (T S), rfl, g1, rfl, ?_⟩
    show Br (!decide (cs (T S) = cs (T S))) _ _
    rw [decide_eq_true rfl]
    exact .no q
abbrev nFW : List Str := ["one", "other", "wanted", "rows", "other_rows", "kinds", "other_kinds", "met", "row", "longer", "place", "other_place", "text", "letter", "goal", "other_goal"]
theorem scFirstWith : FnScope nFW ["one", "other", "wanted"] (defScope sFirstWith) := ⟨rfl, rfl, rfl, by decide +kernel, rfl, by decide +kernel, by decide +kernel⟩
/-- no text leads both to kinds that are wanted -/
def spFirstNone (C : Addr) : Sp := fun vs H Q _ => ∃ (a b wa : Addr) (S : List Nat) (R1 R2 : Rows) (K1 K2 : List Bool) (wt : List (Bool × Bool)), vs = [.ref a, .ref b, .ref wa] ∧ Mach C H a S R1 K1 ∧ Mach C H b S R2 K2 ∧ ShOk S R1 K1 ∧ ShOk S R2 K2 ∧ WAt H wa wt ∧
  (∀ is, Col S.length is → (kd K1 (go R1 0 is), kd K2 (go R2 0 is)) ∉ wt) ∧ ∀ H', Same H H' → Q .non H'
/-- pairs that are come to by the same columns -/
def Both (m : Nat) (R1 R2 : Rows) (g : Nat × Nat) : Prop := ∃ is, Col m is ∧ go R1 0 is = g.1 ∧ go R2 0 is = g.2
structure MetOk (m : Nat) (R1 R2 : Rows) (ms : List P2) : Prop where
  nd : (ms.map (·.1)).Nodup
  both : ∀ e ∈ ms, Both m R1 R2 e.1
  len : ∀ e ∈ ms, e.2.length + 1 ≤ ms.length
theorem kd_some {K : List Bool} {p n : Nat} (h : K.length = n) (hp : p < n) : K[p]? = some (kd K p) := by
  rw [kd, List.getD_eq_getElem?_getD, List.getElem?_eq_getElem (by rw [h]; exact hp)]; rfl
end
end LK

/-! _first_with_kinds where nothing is found; parting, is_same of machines with the same texts -/
namespace LK
open PySem PySem.Spec PyProof.Rows L2 LamX ClX
open scoped List
theorem Room.u65 {k : Nat} {A : Around} (r : Room k A) : A.units + 65 < cLine := by have := r.un; omega
section
variable {m : Nat} {R1 R2 : Rows} {ms : List P2}
theorem Both.lt {g : Nat × Nat} (h : Both m R1 R2 g) (ok1 : RowsOk R1 m) (ok2 : RowsOk R2 m) (l1 : 0 < R1.length) (l2 : 0 < R2.length) : g.1 < R1.length ∧ g.2 < R2.length := by
  obtain ⟨is, c, e1, e2⟩ := h
  rw [← e1, ← e2]
  exact ⟨go_lt ok1 l1 c, go_lt ok2 l2 c⟩
theorem Both.step {g : Nat × Nat} {n g1 g2 : Nat} (h : Both m R1 R2 g) (hn : n < m) (h1 : (gls R1 g.1)[n]? = some g1) (h2 : (gls R2 g.2)[n]? = some g2) : Both m R1 R2 (g1, g2) := by
  obtain ⟨is, c, e1, e2⟩ := h
  refine ⟨is ++ [n], c.app (.one hn), ?_, ?_⟩
  · rw [go_app, e1, go_one, List.getD_eq_getElem?_getD, h1]; rfl
  · rw [go_app, e2, go_one, List.getD_eq_getElem?_getD, h2]; rfl
theorem MetOk.le (h : MetOk m R1 R2 ms) (ok1 : RowsOk R1 m) (ok2 : RowsOk R2 m) (l1 : 0 < R1.length) (l2 : 0 < R2.length) : ms.length ≤ R1.length * R2.length := by
  have := pairs_len h.nd (n := R1.length) (m := R2.length) fun g hg => by
    obtain ⟨e, he, rfl⟩ := List.mem_map.mp hg
    exact (h.both e he).lt ok1 ok2 l1 l2
  rwa [List.length_map] at this
theorem MetOk.put {g : Nat × Nat} {t : List Nat} (h : MetOk m R1 R2 ms) (b : Both m R1 R2 g) (n : g ∉ ms.map (·.1)) (l : t.length ≤ ms.length) : MetOk m R1 R2 (ms ++ [(g, t)]) := by
  refine ⟨?_, fun e he => ?_, fun e he => ?_⟩
  · rw [List.map_append, List.nodup_append]
    refine ⟨h.nd, by simp, fun a ha b hb e => ?_⟩
    simp at hb
    rw [e, hb] at ha
    exact n ha
  · rcases List.mem_append.mp he with he | he
    · exact h.both e he
    · simp at he; rw [he]; exact b
  · rw [List.length_append]
    rcases List.mem_append.mp he with he | he
    · have := h.len e he; show _ ≤ _ + 1; omega
    · simp at he; rw [he]; show t.length + 1 ≤ ms.length + 1; omega
theorem isSomeP {g : Nat × Nat} : ((ms.lookup g).map fun t => V.str (T t)).isSome = decide (g ∈ ms.map (·.1)) := by
  rw [Option.isSome_map]
  by_cases h : g ∈ ms.map (·.1)
  · rw [decide_eq_true h]
    obtain ⟨t, e, _⟩ := lookP_some h
    rw [e]; rfl
  · rw [decide_eq_false h, lookP_none.mpr h]; rfl
end
section
variable {P : Program} {w : World} {K : PySem.W.Frag} {mg : Str → Option Value} {base : Heap} {C : Addr}
theorem ok_firstNone {f : Addr} {fd : FuncData} {k : Nat} (F : Fun K "_first_with_kinds" "_first_with_kinds" sFirstWith f fd) (M : Mx mg) (cM : ClsM K C) (HL : HasP P w K mg base k C "letters" (getSp C "_letters")) (HR : HasM P w K mg base (k + 1) C "rows" [] (spRows C))
    (HK : HasM P w K mg base (k + 1) C "kinds" [] (spKinds C)) : FnG P w K mg base CX0 (k + 2) f fd ["one", "other", "wanted"] (spFirstNone C) := by
  refine okG F scFirstWith (fun vs H Q E h => ?_) (fun cdv A hA outer s H vs Q E hr h => ?_)
  · obtain ⟨a, b, wa, S, R1, R2, K1, K2, wt, rfl, _⟩ := h; rfl
  · obtain ⟨a, b, wa, S, R1, R2, K1, K2, wt, rfl, m1, m2, ok1, ok2, hw, hno, q⟩ := h
    have nd := scFirstWith.nd
    have sl := sizeLine_eq
    have hu := Room.u64 hr
    refine ⟨_, pss_cons (ps_par (i := 3) (j := 4) (by rfl) nd rfl rfl (by decide) rfl rfl (pa_cons (pe_mH0 HR cM.cls hA hr (uv 0)) (pa_cons (pe_mH0 HR cM.cls hA hr (uv 1)) pa_nil)) (by rfl))
      (pss_cons (ps_par (i := 5) (j := 6) (by rfl) nd rfl rfl (by decide) rfl rfl (pa_cons (pe_mH0 HK cM.cls hA hr (uv 0)) (pa_cons (pe_mH0 HK cM.cls hA hr (uv 1)) pa_nil)) (by rfl))
      (pss_cons (ps_set (i := 7) nd rfl (.inl rfl) (pe_disp1 hr.units0 (pe_tup (pa_cons pe_int (pa_cons pe_int pa_nil))) (ustr [])))
      (pss_cons (ps_set (i := 8) nd rfl (.inl rfl) (pe_lst (pa_cons (pe_tup (pa_cons pe_int (pa_cons pe_int pa_nil))) pa_nil)))
      (pss_cons (ps_while PassesOwn.never (pt_truth (uv 8) (by intro _; rfl))
        (pss_cons (ps_set (i := 9) nd rfl (.inl rfl) (pe_lst pa_nil))
        (pss_cons (ps_for PassesOwn.never rfl (pi_list (uv 8)) (pg_tup rfl (pgs_cons (pg_name (i := 10) nd rfl (.inl rfl)) (pgs_cons (pg_name (i := 11) nd rfl (.inl rfl)) pgs_nil)))
          (pss_cons (ps_set (i := 12) nd rfl (.inl rfl) (pe_dget (Room.u1 hr) (uv 7) (pe_tup (pa_cons (uv 10) (pa_cons (uv 11) pa_nil))) (fun _ _ => rfl)))
          (pss_cons (ps_ifU (pt_cu (r := rInDT K) (op_inDT (Room.u65 hr)) (pe_tup (pa_cons (pe_ixU (uv 5) (uv 10)) (pa_cons (pe_ixU (uv 6) (uv 11)) pa_nil))) (uv 2)) (pss_one (ps_ret (uv 12))) pss_nil)
          (pss_one (ps_for PassesOwn.never rfl (pi_zipS3 (by rfl) M.zip (pa_cons (pe_propH HL cM.cls (hr.mono (by omega)) (uv 0)) (pa_cons (pe_ixU (uv 3) (uv 10)) (pa_cons (pe_ixU (uv 4) (uv 11)) pa_nil)))) (pg_tup rfl (pgs_cons (pg_name (i := 13) nd rfl (.inl rfl)) (pgs_cons (pg_name (i := 14) nd rfl (.inl rfl)) (pgs_cons (pg_name (i := 15) nd rfl (.inl rfl)) pgs_nil))))
            (pss_one (ps_ifU (pt_cmp (pc_dnotin (Room.u1 hr) (pe_tup (pa_cons (uv 14) (pa_cons (uv 15) pa_nil))) (uv 7)))
              (pss_cons (ps_dput (Room.u1 hr) (uv 7) (pe_tup (pa_cons (uv 14) (pa_cons (uv 15) pa_nil))) (pe_op o_add (uv 12) (uv 13)) rfl)
              (pss_one (ps_expr (pe_bm PySem.F.plainAttrs_list PySem.F.slot_list_append PySem.F.type_list_append mt_append (uv 9) (pa_cons (pe_tup (pa_cons (uv 14) (pa_cons (uv 15) pa_nil))) pa_nil))))) pss_nil)))))))
        (pss_one (ps_set (i := 8) nd rfl (.inl rfl) (uv 9))))))
      (pss_one (ps_ret pe_non)))))), ?_⟩
    obtain ⟨dx, ra, ka, rsa, h1, _⟩ := id m1
    obtain ⟨dx', rb, kb, rsb, g1, _⟩ := id m2
    have lo1 := ok1.lo
    have lo2 := ok2.lo
    have hi1 := ok1.hi
    have hi2 := ok2.hi
    have hNM : R1.length * R2.length ≤ 1600 := Nat.le_trans (Nat.mul_le_mul hi1 hi2) (by decide)
    refine ⟨dx, _, h1, mf_none (by decide +kernel) (by decide +kernel) (by decide +kernel), a, S, R1, K1, rfl, m1, by omega, fun H1 r1 ls1 e1 nr1 hr1 ll1 hls1 _ => ?_⟩
    refine ⟨dx', _, e1 _ _ g1, mf_none (by decide +kernel) (by decide +kernel) (by decide +kernel), b, S, R2, K2, rfl, m2.ext e1, by omega, fun H2 r2 ls2 e2 nr2 hr2 ll2 hls2 _ => ?_⟩
    refine ⟨_, _, rfl, ?_⟩
    have e12 := e1.trans e2
    refine ⟨dx, _, e12 _ _ h1, mf_none (by decide +kernel) (by decide +kernel) (by decide +kernel), a, S, R1, K1, rfl, m1.ext e12, fun k1 nk1 => ?_⟩
    have e3 : Same H2 (upd H2 k1 (.lst (K1.map V.bl))) := same_upd nk1
    refine ⟨dx', _, e3 _ _ (e12 _ _ g1), mf_none (by decide +kernel) (by decide +kernel) (by decide +kernel), b, S, R2, K2, rfl, (m2.ext e12).ext e3, fun k2 nk2 => ?_⟩
    refine ⟨_, _, rfl, ?_⟩
    have e4 : Same (upd H2 k1 (.lst (K1.map V.bl))) (upd (upd H2 k1 (.lst (K1.map V.bl))) k2 (.lst (K2.map V.bl))) := same_upd nk2
    have e34 := e3.trans e4
    have eS : Same H (upd (upd H2 k1 (.lst (K1.map V.bl))) k2 (.lst (K2.map V.bl))) := e12.trans e34
    have sr1 := e34 _ _ (e2 _ _ hr1)
    have sr2 := e34 _ _ hr2
    have sl1 : ∀ i q, ls1[i]? = some q → (upd (upd H2 k1 (.lst (K1.map V.bl))) k2 (.lst (K2.map V.bl))) q = some (.lst (iv (gls R1 i))) := fun i q hq => e34 _ _ (e2 _ _ (hls1 i q hq).2.2)
    have sl2 : ∀ i q, ls2[i]? = some q → (upd (upd H2 k1 (.lst (K1.map V.bl))) k2 (.lst (K2.map V.bl))) q = some (.lst (iv (gls R2 i))) := fun i q hq => e34 _ _ (hls2 i q hq).2.2
    have sk1 := e4 _ _ (upd_same (H := H2) (a := k1) (o := .lst (K1.map V.bl)))
    have sk2 := upd_same (H := upd H2 k1 (.lst (K1.map V.bl))) (a := k2) (o := .lst (K2.map V.bl))
    have sw := hw.ext eS
    have sm1 := eS _ _ h1
    have sm2 := eS _ _ g1
    clear e3 e4 e34 nk2 nk1 e12 hls2 hls1 hr2 hr1 nr2 nr1 e1 e2 hw
    generalize (upd (upd H2 k1 (.lst (K1.map V.bl))) k2 (.lst (K2.map V.bl))) = Hs at *
    intro D nD
    refine ⟨by show 2 ≤ sizeLine; omega, fun t0 nt0 => ?_⟩
    have hDt0 : D ≠ t0 := fun e => by rw [← e, upd_same] at nt0; cases nt0
    have nt0s : Hs t0 = none := by rw [upd_ne hDt0.symm] at nt0; exact nt0
    refine ⟨by rw [upd_ne hDt0]; exact upd_same, t0, kP (0, 0), rfl, upd_same, ?_⟩
    have eA : Same Hs (upd (upd (upd Hs D (.dT [])) t0 (.tup [.int 0, .int 0])) D (.dT [(kP (0, 0), V.str (T []))])) := by
      intro c o hc
      have n1 := ne_of_none hc nD
      rw [upd_ne n1, upd_ne (ne_of_none hc nt0s), upd_ne n1]; exact hc
    have hDA : (upd (upd (upd Hs D (.dT [])) t0 (.tup [.int 0, .int 0])) D (.dT [(kP (0, 0), V.str (T []))])) D = some (.dT [(kP (0, 0), V.str (T []))]) := upd_same
    generalize (upd (upd (upd Hs D (.dT [])) t0 (.tup [.int 0, .int 0])) D (.dT [(kP (0, 0), V.str (T []))])) = HA at eA hDA ⊢
    have hDA : HA D = some (.dT (kmpP [((0, 0), [])])) := hDA
    refine ⟨by show 2 ≤ sizeLine; omega, fun t1 nt1 => ⟨by show 1 ≤ sizeLine; omega, fun L nL => ?_⟩⟩
    have nt1s : Hs t1 = none := Same.free eA nt1
    have hDt1 : D ≠ t1 := ne_of_none hDA nt1
    have hLt1 : L ≠ t1 := fun e => by rw [e, upd_same] at nL; cases nL
    have nLA : HA L = none := by rw [upd_ne hLt1] at nL; exact nL
    have nLs : Hs L = none := Same.free eA nLA
    have hDL : D ≠ L := ne_of_none hDA nLA
    have eB : Same Hs (upd (upd HA t1 (.tup [.int 0, .int 0])) L (.lst [.ref t1])) := same_upd2 (same_upd2 eA nt1s) nLs
    have hDB : (upd (upd HA t1 (.tup [.int 0, .int 0])) L (.lst [.ref t1])) D = some (.dT (kmpP [((0, 0), [])])) := by rw [upd_ne hDL, upd_ne hDt1]; exact hDA
    have hLB : (upd (upd HA t1 (.tup [.int 0, .int 0])) L (.lst [.ref t1])) L = some (.lst ([t1].map V.ref)) := upd_same
    have htB : PrAt (upd (upd HA t1 (.tup [.int 0, .int 0])) L (.lst [.ref t1])) [t1] [(0, 0)] := ⟨rfl, fun n t g ht hg => by
      cases n with
      | zero =>
        simp at ht hg
        subst ht; subst hg
        rw [upd_ne hLt1.symm]; exact upd_same
      | succ n => simp at ht⟩
    have mo0 : MetOk S.length R1 R2 [((0, 0), [])] := ⟨by simp, fun e he => by simp at he; rw [he]; exact ⟨[], Col.nil, rfl, rfl⟩, fun e he => by simp at he; rw [he]; exact Nat.le_refl _⟩
    generalize (upd (upd HA t1 (.tup [.int 0, .int 0])) L (.lst [.ref t1])) = HB at eB hDB hLB htB ⊢
    dsimp only [tSeq, tAsg, gName]
    show tWhile _ _ _ _ _
    refine wh (m0 := 2 * (R1.length * R2.length)) (fun mm σ H2 => ∃ (ms : List P2) (L : Addr) (ts : List Addr) (gs : List (Nat × Nat)) (y9 y10 y11 y12 y13 y14 y15 : Option V), 2 * (R1.length * R2.length - ms.length) + (if ts = [] then 0 else 1) ≤ mm ∧ MetOk S.length R1 R2 ms ∧ Same Hs H2 ∧ H2 D = some (.dT (kmpP ms)) ∧
        H2 L = some (.lst (ts.map V.ref)) ∧ PrAt H2 ts gs ∧ (∀ g ∈ gs, g ∈ ms.map (·.1)) ∧ Hs L = none ∧ L ≠ D ∧ σ = [some (.ref a), some (.ref b), some (.ref wa), some (.ref r1), some (.ref r2), some (.ref k1), some (.ref k2), some (.ref D), some (.ref L), y9, y10, y11, y12, y13, y14, y15])
      ⟨[((0, 0), [])], L, [t1], [(0, 0)], none, none, none, none, none, none, none, ?_, mo0, eB, hDB, hLB, htB, fun g hg => hg, nLs, hDL.symm, rfl⟩ (fun mm σ H2 iv2 => ?_) (fun σ H Q Q' hm h => ?_)
    case refine_1 =>
      have : 1 ≤ R1.length * R2.length := Nat.mul_pos (by omega) (by omega)
      show 2 * (R1.length * R2.length - 1) + 1 ≤ _
      omega
    case refine_3 =>
      simp only [uVar] at h ⊢
      split at h
      · obtain ⟨kk, a, b⟩ := h; exact ⟨kk, a, hm _ _ b⟩
      · exact h.elim
    clear eA hDA nt1 nL nt1s hDt1 hLt1 nLA nLs hDL eB hDB hLB htB mo0 nt0 hDt0 nt0s L
    obtain ⟨ms, L, ts, gs, y9, y10, y11, y12, y13, y14, y15, hmm, mo, eC, hD, hL, ht, hgm, nL, hLD, rfl⟩ := iv2
    have hms := mo.le ok1.rows ok2.rows lo1 lo2
    by_cases hts : ts = []
    · refine ⟨false, .inl ⟨_, .inl (.inl hL), by rw [hts]; rfl⟩, ?_⟩
      show (if false = true then _ else _)
      rw [if_neg Bool.false_ne_true]
      exact q _ (eS.trans eC)
    have e3 : (!((ts.map V.ref).isEmpty)) = true := by
      cases ts with
      | nil => exact absurd rfl hts
      | cons _ _ => rfl
    rw [if_neg hts] at hmm
    refine ⟨true, .inl ⟨_, .inl (.inl hL), e3.symm⟩, ?_⟩
    show (if true = true then _ else _)
    rw [if_pos rfl]
    refine ⟨by show 0 ≤ sizeLine; omega, fun B nB => ?_⟩
    have hBD : B ≠ D := fun e => by rw [e, hD] at nB; cases nB
    have hBL : B ≠ L := fun e => by rw [e, hL] at nB; cases nB
    have nBs : Hs B = none := Same.free eC nB
    dsimp only [tNext, tSeq]
    refine for_list (K := K) (a := L) (xs := ts.map V.ref) (H1 := upd H2 B (.lst [])) (by exact fun _ h => h) (.inl (.inl (by rw [upd_ne hBL.symm]; exact hL)))
      (fun pre σ H3 => ∃ (j : Nat) (ms2 : List P2) (tb : List Addr) (gb : List (Nat × Nat)) (y10 y11 y12 y13 y14 y15 : Option V), pre = (ts.take j).map V.ref ∧ j ≤ ts.length ∧ MetOk S.length R1 R2 ms2 ∧ Same Hs H3 ∧ H3 D = some (.dT (kmpP ms2)) ∧ H3 L = some (.lst (ts.map V.ref)) ∧ H3 B = some (.lst (tb.map V.ref)) ∧
        PrAt H3 ts gs ∧ PrAt H3 tb gb ∧ (∀ g ∈ gs, g ∈ ms2.map (·.1)) ∧ (∀ g ∈ gb, g ∈ ms2.map (·.1)) ∧ ms2.length = ms.length + tb.length ∧
        σ = [some (.ref a), some (.ref b), some (.ref wa), some (.ref r1), some (.ref r2), some (.ref k1), some (.ref k2), some (.ref D), some (.ref L), some (.ref B), y10, y11, y12, y13, y14, y15])
      (fun pre σ H3 h => ?_) ⟨0, ms, [], [], y10, y11, y12, y13, y14, y15, rfl, Nat.zero_le _, mo, same_upd2 eC nBs, ?_, ?_, upd_same, ?_, ⟨rfl, fun n t g z => nomatch z⟩, hgm, (fun g z => nomatch z), rfl, rfl⟩ (fun pre x suf σ H3 ex h => ?_) (fun σ H3 h => ?_)
    · obtain ⟨_, _, _, _, _, _, _, _, _, _, _, _, _, _, _, h, _⟩ := h; exact .inl (.inl h)
    · rw [upd_ne hBD.symm]; exact hD
    · rw [upd_ne hBL.symm]; exact hL
    · exact ht.put fun vs z => by rw [nB] at z; cases z
    · obtain ⟨j, ms2, tb, gb, y10, y11, y12, y13, y14, y15, rfl, hj, mo2, e5, hD5, hL5, hB5, ht5, htb5, hg5, hgb5, hl5, rfl⟩ := h
      have hms2 := mo2.le ok1.rows ok2.rows lo1 lo2
      have lj : ((ts.take j).map V.ref).length = j := by rw [List.length_map, List.length_take]; omega
      have hj2 : j < ts.length := by
        have := congrArg List.length ex
        rw [List.length_append, lj, List.length_map, List.length_cons] at this
        omega
      have hx : (ts.map V.ref)[j]? = some x := by rw [ex, List.getElem?_append_right (by omega), lj, Nat.sub_self]; rfl
      rw [List.getElem?_map] at hx
      obtain ⟨t, htj, rfl⟩ := Option.map_eq_some_iff.mp hx
      obtain ⟨g, hgj⟩ : ∃ g, gs[j]? = some g := ⟨_, List.getElem?_eq_getElem (by rw [← ht5.1]; exact hj2)⟩
      have hT := ht5.2 j t g htj hgj
      have hgm2 := hg5 g (List.mem_of_getElem? hgj)
      obtain ⟨tx, hlk, htx⟩ := lookP_some hgm2
      have hbo := mo2.both _ htx
      have htl := mo2.len _ htx
      have htl : tx.length + 1 ≤ ms2.length := htl
      have hbo : Both S.length R1 R2 g := hbo
      obtain ⟨p1, p2⟩ := g
      have hT : H3 t = some (.tup [.int (p1 : Nat), .int (p2 : Nat)]) := hT
      obtain ⟨lt1, lt2⟩ := hbo.lt ok1.rows ok2.rows lo1 lo2
      have lt1 : p1 < R1.length := lt1
      have lt2 : p2 < R2.length := lt2
      refine ⟨t, _, rfl, .inl (.inl hT), rfl, _, _, rfl, _, _, rfl, rfl, ?_⟩
      -- text
      refine ⟨by show 2 ≤ sizeLine; omega, fun T1 nT1 => ?_⟩
      have e6 : Same H3 (upd H3 T1 (.tup [.int (p1 : Nat), .int (p2 : Nat)])) := same_upd nT1
      have dg : DGet (upd H3 T1 (.tup [.int (p1 : Nat), .int (p2 : Nat)])) D (.ref T1) (some (.str (T tx))) := by
        have := DGet.t (k := kP (p1, p2)) (e6 _ _ hD5) (upd_same (H := H3) (a := T1) (o := .tup [.int (p1 : Nat), .int (p2 : Nat)]))
        rw [val_kmpP, hlk] at this
        exact this
      refine ⟨D, .str (T tx), rfl, dg, ?_⟩
      generalize upd H3 T1 (.tup [.int (p1 : Nat), .int (p2 : Nat)]) = H4 at e6
      -- the kinds
      have e56 := e5.trans e6
      refine ⟨K1.map V.bl, .bl (kd K1 p1), .inl (.inl (.inl (e56 _ _ sk1))), atI_nat (by rw [List.getElem?_map, kd_some ok1.kinds lt1]; rfl), ?_⟩
      refine ⟨K2.map V.bl, .bl (kd K2 p2), .inl (.inl (.inl (e56 _ _ sk2))), atI_nat (by rw [List.getElem?_map, kd_some ok2.kinds lt2]; rfl), ?_⟩
      refine ⟨by show 2 ≤ sizeLine; omega, fun T2 nT2 => ?_⟩
      have e7 : Same H4 (upd H4 T2 (.tup [.bl (kd K1 p1), .bl (kd K2 p2)])) := same_upd nT2
      refine ⟨encBB (kd K1 p1, kd K2 p2), wt.map encBB, .tup (.inl (.inl upd_same)) (.cons (.bl _) (.cons (.bl _) .nil)), ((sw.ext e56).ext e7).dp, (flat_bb _).shaped (by decide), (flat_bbs wt).shaped (by decide), ?_⟩
      show Br ((wt.map encBB).any fun z => PyData.eqv z (encBB (kd K1 p1, kd K2 p2))) _ _
      rw [any_bb, decide_eq_false (by
        obtain ⟨is, c, i1, i2⟩ := hbo
        have := hno is c
        rw [i1, i2] at this
        exact this)]
      refine .no ?_
      have e67 := e6.trans e7
      generalize upd H4 T2 (.tup [.bl (kd K1 p1), .bl (kd K2 p2)]) = H5 at e7 e67
      clear e7 e6 e56
      have e57 := e5.trans e67
      have ht7 := ht5.ext e67
      have htb7 := htb5.ext e67
      obtain ⟨q1, hq1⟩ : ∃ q1, ls1[p1]? = some q1 := ⟨_, List.getElem?_eq_getElem (by omega)⟩
      obtain ⟨q2, hq2⟩ : ∃ q2, ls2[p2]? = some q2 := ⟨_, List.getElem?_eq_getElem (by omega)⟩
      have sq1 := sl1 p1 q1 hq1
      have sq2 := sl2 p2 q2 hq2
      have lg1 := gls_len ok1.rows lt1
      have lg2 := gls_len ok2.rows lt2
      dsimp only [tNext]
      refine for_zipS3 (K := K) (l := S) (a := q1) (b := q2) (xs := iv (gls R1 p1)) (ys := iv (gls R2 p2)) (H1 := H5)
        (fun R' hR' => ⟨a, dx, _, rfl, e57 _ _ sm1, a, dx, _, .str (T S), rfl, e57 _ _ sm1, rfl, ls1.map V.ref, .ref q1, .inl (.inl (.inl (e57 _ _ sr1))), atI_nat (by rw [List.getElem?_map, hq1]; rfl), ls2.map V.ref, .ref q2, .inl (.inl (.inl (e57 _ _ sr2))), atI_nat (by rw [List.getElem?_map, hq2]; rfl), hR'⟩)
        ok1.let_.sm.asc (by rw [List.length_map, lg1]) (by rw [List.length_map, lg2])
        (fun n σ H4 => ∃ (ms3 : List P2) (tb3 : List Addr) (gb3 : List (Nat × Nat)) (y13 y14 y15 : Option V), MetOk S.length R1 R2 ms3 ∧ Same Hs H4 ∧ H4 D = some (.dT (kmpP ms3)) ∧ H4 L = some (.lst (ts.map V.ref)) ∧ H4 B = some (.lst (tb3.map V.ref)) ∧
          PrAt H4 ts gs ∧ PrAt H4 tb3 gb3 ∧ (∀ g ∈ gs, g ∈ ms3.map (·.1)) ∧ (∀ g ∈ gb3, g ∈ ms3.map (·.1)) ∧ ms3.length = ms.length + tb3.length ∧ tx.length + 1 ≤ ms3.length ∧
          σ = [some (.ref a), some (.ref b), some (.ref wa), some (.ref r1), some (.ref r2), some (.ref k1), some (.ref k2), some (.ref D), some (.ref L), some (.ref B), some (.int (p1 : Nat)), some (.int (p2 : Nat)), some (.str (T tx)), y13, y14, y15])
        ⟨ms2, tb, gb, y13, y14, y15, mo2, e57, e67 _ _ hD5, e67 _ _ hL5, e67 _ _ hB5, ht7, htb7, hg5, hgb5, hl5, htl, rfl⟩ (fun n σ H4 h => by obtain ⟨_, _, _, _, _, _, _, h, _⟩ := h; exact ⟨.inl (.inl (h _ _ sq1)), .inl (.inl (h _ _ sq2))⟩) (fun n c u y pr σ H4 hc hu2 hy h npr => ?_) (fun σ H4 h => ?_)
      · obtain ⟨ms3, tb3, gb3, y13, y14, y15, mo3, e8, hD8, hL8, hB8, ht8, htb8, hg8, hgb8, hl8, htl8, rfl⟩ := h
        have hms3 := mo3.le ok1.rows ok2.rows lo1 lo2
        rw [List.getElem?_map] at hu2 hy
        obtain ⟨g1, hg1, rfl⟩ := Option.map_eq_some_iff.mp hu2
        obtain ⟨g2, hg2, rfl⟩ := Option.map_eq_some_iff.mp hy
        have hn : n < S.length := (List.getElem?_eq_some_iff.mp hc).1
        have bo2 : Both S.length R1 R2 (g1, g2) := hbo.step hn hg1 hg2
        refine ⟨pr, _, rfl, .inl (.inl upd_same), rfl, _, _, rfl, _, _, rfl, _, _, rfl, rfl, ?_⟩
        have e9 : Same H4 (upd H4 pr (.tup [.str (T [c]), .int (g1 : Nat), .int (g2 : Nat)])) := same_upd npr
        generalize upd H4 pr (.tup [.str (T [c]), .int (g1 : Nat), .int (g2 : Nat)]) = H6 at e9
        refine ⟨by show 2 ≤ sizeLine; omega, fun T3 nT3 => ?_⟩
        have e10 : Same H6 (upd H6 T3 (.tup [.int (g1 : Nat), .int (g2 : Nat)])) := same_upd nT3
        have hT3 := upd_same (H := H6) (a := T3) (o := .tup [.int (g1 : Nat), .int (g2 : Nat)])
        have e910 := e9.trans e10
        have e11 := e8.trans e910
        have hD9 := e910 _ _ hD8
        have hL9 := e910 _ _ hL8
        have hB9 := e910 _ _ hB8
        have ht9 := ht8.ext e910
        have htb9 := htb8.ext e910
        generalize upd H6 T3 (.tup [.int (g1 : Nat), .int (g2 : Nat)]) = H7 at e10 hT3 e910 e11 hD9 hL9 hB9 ht9 htb9
        refine ⟨D, _, rfl, DGet.t (k := kP (g1, g2)) hD9 hT3, _, rfl, ?_⟩
        rw [val_kmpP, isSomeP]
        refine .nd (fun hg => ?_) (fun hg => ?_)
        · refine ⟨by show tx.length + 1 ≤ sizeLine; omega, by show 2 ≤ sizeLine; omega, fun T4 nT4 => ?_⟩
          have e12 : Same H7 (upd H7 T4 (.tup [.int (g1 : Nat), .int (g2 : Nat)])) := same_upd nT4
          have hT4 := upd_same (H := H7) (a := T4) (o := .tup [.int (g1 : Nat), .int (g2 : Nat)])
          have e13 := e11.trans e12
          have hD10 := e12 _ _ hD9
          have hL10 := e12 _ _ hL9
          have hB10 := e12 _ _ hB9
          have ht10 := ht9.ext e12
          have htb10 := htb9.ext e12
          generalize upd H7 T4 (.tup [.int (g1 : Nat), .int (g2 : Nat)]) = H8 at e12 hT4 e13 hD10 hL10 hB10 ht10 htb10
          have lkm : (kmpP ms3).length = ms3.length := List.length_map _
          refine ⟨D, _, rfl, DPut.t (k := kP (g1, g2)) hD10 hT4 (by rw [lkm]; omega), ?_⟩
          rw [show putK (kmpP ms3) (kP (g1, g2)) (.str (T (cs (T tx) ++ cs (T [c])))) = kmpP (ms3 ++ [((g1, g2), tx ++ [c])]) from put_kmpP _ hg]
          have mo4 : MetOk S.length R1 R2 (ms3 ++ [((g1, g2), tx ++ [c])]) := mo3.put bo2 hg (by rw [List.length_append]; exact htl8)
          have hB11 : (upd H8 D (.dT (kmpP (ms3 ++ [((g1, g2), tx ++ [c])])))) B = some (.lst (tb3.map V.ref)) := by rw [upd_ne hBD]; exact hB10
          have hL11 : (upd H8 D (.dT (kmpP (ms3 ++ [((g1, g2), tx ++ [c])])))) L = some (.lst (ts.map V.ref)) := by rw [upd_ne hLD]; exact hL10
          have hD11 : (upd H8 D (.dT (kmpP (ms3 ++ [((g1, g2), tx ++ [c])])))) D = some (.dT (kmpP (ms3 ++ [((g1, g2), tx ++ [c])]))) := upd_same
          have e14 : Same Hs (upd H8 D (.dT (kmpP (ms3 ++ [((g1, g2), tx ++ [c])])))) := same_upd2 e13 nD
          have ht11 := ht10.put (Z := D) (o := .dT (kmpP (ms3 ++ [((g1, g2), tx ++ [c])]))) fun vs z => by rw [hD10] at z; cases z
          have htb11 := htb10.put (Z := D) (o := .dT (kmpP (ms3 ++ [((g1, g2), tx ++ [c])]))) fun vs z => by rw [hD10] at z; cases z
          generalize upd H8 D (.dT (kmpP (ms3 ++ [((g1, g2), tx ++ [c])]))) = H9 at hB11 hL11 hD11 e14 ht11 htb11
          refine ⟨.inl ⟨rfl, _, .inl (.inl hB11)⟩, by show 2 ≤ sizeLine; omega, fun T5 nT5 => ?_⟩
          have e15 : Same H9 (upd H9 T5 (.tup [.int (g1 : Nat), .int (g2 : Nat)])) := same_upd nT5
          have hT5 := upd_same (H := H9) (a := T5) (o := .tup [.int (g1 : Nat), .int (g2 : Nat)])
          have hBT5 : B ≠ T5 := ne_of_none hB11 nT5
          have hB12 := e15 _ _ hB11
          have hL12 := e15 _ _ hL11
          have hD12 := e15 _ _ hD11
          have ht12 := ht11.ext e15
          have htb12 := htb11.ext e15
          have e16 := e14.trans e15
          generalize upd H9 T5 (.tup [.int (g1 : Nat), .int (g2 : Nat)]) = H10 at e15 hT5 hB12 hL12 hD12 ht12 htb12 e16
          refine ⟨B, _, _, rfl, rfl, hB12, by rw [List.length_map]; omega, ?_⟩
          have nBt : ∀ vs, H10 B ≠ some (.tup vs) := fun vs z => by rw [hB12] at z; cases z
          refine ⟨ms3 ++ [((g1, g2), tx ++ [c])], tb3 ++ [T5], gb3 ++ [(g1, g2)], _, _, _, mo4, same_upd2 e16 nBs, ?_, ?_, ?_, ht12.put nBt, ?_, ?_, ?_, ?_, ?_, rfl⟩
          · rw [upd_ne hBD.symm]; exact hD12
          · rw [upd_ne hBL.symm]; exact hL12
          · rw [upd_same, List.map_append]; rfl
          · exact (htb12.put nBt).snoc (g := (g1, g2)) (by rw [upd_ne hBT5.symm]; exact hT5)
          · intro g hgg; rw [List.map_append]; exact List.mem_append_left _ (hg8 g hgg)
          · intro g hgg
            rw [List.map_append]
            rcases List.mem_append.mp hgg with z | z
            · exact List.mem_append_left _ (hgb8 g z)
            · exact List.mem_append_right _ z
          · rw [List.length_append, List.length_append]; show ms3.length + 1 = ms.length + (tb3.length + 1); omega
          · rw [List.length_append]; omega
        · exact ⟨ms3, tb3, gb3, _, _, _, mo3, e11, hD9, hL9, hB9, ht9, htb9, hg8, hgb8, hl8, htl8, rfl⟩
      · obtain ⟨ms3, tb3, gb3, y13, y14, y15, mo3, e8, hD8, hL8, hB8, ht8, htb8, hg8, hgb8, hl8, htl8, rfl⟩ := h
        refine ⟨j + 1, ms3, tb3, gb3, _, _, _, _, _, _, ?_, hj2, mo3, e8, hD8, hL8, hB8, ht8, htb8, hg8, hgb8, hl8, rfl⟩
        rw [List.take_add_one, htj, List.map_append]; rfl
    · obtain ⟨j, ms2, tb, gb, y10, y11, y12, y13, y14, y15, ej, hj, mo2, e5, hD5, hL5, hB5, ht5, htb5, hg5, hgb5, hl5, rfl⟩ := h
      have hms2 := mo2.le ok1.rows ok2.rows lo1 lo2
      refine ⟨2 * (R1.length * R2.length - ms2.length) + (if tb = [] then 0 else 1), ?_, ms2, B, tb, gb, _, _, _, _, _, _, _, Nat.le_refl _, mo2, e5, hD5, hB5, htb5, hgb5, nBs, hBD, rfl⟩
      by_cases hb : tb = []
      · rw [if_pos hb]
        rw [hb] at hl5
        have hl5 : ms2.length = ms.length + 0 := hl5
        omega
      · rw [if_neg hb]
        have : 1 ≤ tb.length := List.length_pos_iff.mpr hb
        omega
theorem scParting : FnScope ["one", "other"] ["one", "other"] (defScope sParting) := ⟨rfl, rfl, rfl, by decide +kernel, rfl, by decide +kernel, by decide +kernel⟩
/-- both take the same texts -/
def spPartNone (C : Addr) : Sp := fun vs H Q _ => ∃ (a b : Addr) (S : List Nat) (R1 R2 : Rows) (K1 K2 : List Bool), vs = [.ref a, .ref b] ∧ Mach C H a S R1 K1 ∧ Mach C H b S R2 K2 ∧ ShOk S R1 K1 ∧ ShOk S R2 K2 ∧ SameL S.length R1 K1 0 R2 K2 0 ∧ ∀ H', Same H H' → Q .non H'
theorem ok_parting {f : Addr} {fd : FuncData} {k : Nat} (F : Fun K "parting" "parting" sParting f fd) (HS : Has P w K mg base k "need_same_letters" ["one", "other"] (spSameLet C)) (HF : Has P w K mg base k "_first_with_kinds" ["one", "other", "wanted"] (spFirstNone C)) : FnG P w K mg base CX0 (k + 1) f fd ["one", "other"] (spPartNone C) := by
  refine okG F scParting (fun vs H Q E h => ?_) (fun cdv A hA outer s H vs Q E hr h => ?_)
  · obtain ⟨a, b, S, R1, R2, K1, K2, rfl, _⟩ := h; rfl
  · obtain ⟨a, b, S, R1, R2, K1, K2, rfl, m1, m2, ok1, ok2, sm, q⟩ := h
    have sl := sizeLine_eq
    refine ⟨_, pss_cons (ps_expr (pe_callH HS hA hr (by rfl) (pa_cons (uv 0) (pa_cons (uv 1) pa_nil))))
      (pss_one (ps_ret (pe_callH HF hA hr (by rfl) (pa_cons (uv 0) (pa_cons (uv 1) (pa_cons (pe_tup (pa_cons (pe_tup (pa_cons pe_bl (pa_cons pe_bl pa_nil))) (pa_cons (pe_tup (pa_cons pe_bl (pa_cons pe_bl pa_nil))) pa_nil))) pa_nil)))))), ?_⟩
    refine ⟨a, b, S, R1, R2, K1, K2, rfl, m1, m2, ?_⟩
    refine ⟨by show 2 ≤ sizeLine; omega, fun t1 n1 => ⟨by show 2 ≤ sizeLine; omega, fun t2 n2 => ⟨by show 2 ≤ sizeLine; omega, fun t3 n3 => ?_⟩⟩⟩
    have e1 : Same H (upd H t1 (.tup [.bl true, .bl false])) := same_upd n1
    have e2 : Same (upd H t1 (.tup [.bl true, .bl false])) (upd (upd H t1 (.tup [.bl true, .bl false])) t2 (.tup [.bl false, .bl true])) := same_upd n2
    have e3 : Same (upd (upd H t1 (.tup [.bl true, .bl false])) t2 (.tup [.bl false, .bl true])) (upd (upd (upd H t1 (.tup [.bl true, .bl false])) t2 (.tup [.bl false, .bl true])) t3 (.tup [.ref t1, .ref t2])) := same_upd n3
    have h1 := e3 _ _ (e2 _ _ (upd_same (H := H) (a := t1) (o := .tup [.bl true, .bl false])))
    have h2 := e3 _ _ (upd_same (H := upd H t1 (.tup [.bl true, .bl false])) (a := t2) (o := .tup [.bl false, .bl true]))
    have e := (e1.trans e2).trans e3
    refine ⟨a, b, t3, S, R1, R2, K1, K2, [(true, false), (false, true)], rfl, m1.ext e, m2.ext e, ok1, ok2, ⟨[t1, t2], upd_same, rfl, fun n t g ht hg => ?_⟩, fun is c z => ?_, fun H' e' => q H' (e.trans e')⟩
    · match n, ht, hg with
      | 0, ht, hg => simp at ht hg; subst ht; subst hg; exact h1
      | 1, ht, hg => simp at ht hg; subst ht; subst hg; exact h2
      | n + 2, ht, hg => simp at ht
    · have := sm is c
      rw [this] at z
      cases h : kd K2 (go R2 0 is) <;> rw [h] at z <;> simp at z
theorem scIsSame : FnScope ["one", "other"] ["one", "other"] (defScope sIsSame) := ⟨rfl, rfl, rfl, by decide +kernel, rfl, by decide +kernel, by decide +kernel⟩
def spIsSameYes (C : Addr) : Sp := fun vs H Q _ => ∃ (a b : Addr) (S : List Nat) (R1 R2 : Rows) (K1 K2 : List Bool), vs = [.ref a, .ref b] ∧ Mach C H a S R1 K1 ∧ Mach C H b S R2 K2 ∧ ShOk S R1 K1 ∧ ShOk S R2 K2 ∧ SameL S.length R1 K1 0 R2 K2 0 ∧ ∀ H', Same H H' → Q (.bl true) H'
theorem ok_isSame {f : Addr} {fd : FuncData} {k : Nat} (F : Fun K "is_same" "is_same" sIsSame f fd) (HP : Has P w K mg base k "parting" ["one", "other"] (spPartNone C)) : FnG P w K mg base CX0 (k + 1) f fd ["one", "other"] (spIsSameYes C) := by
  refine okG F scIsSame (fun vs H Q E h => ?_) (fun cdv A hA outer s H vs Q E hr h => ?_)
  · obtain ⟨a, b, S, R1, R2, K1, K2, rfl, _⟩ := h; rfl
  · obtain ⟨a, b, S, R1, R2, K1, K2, rfl, m1, m2, ok1, ok2, sm, q⟩ := h
    refine ⟨_, pss_one (ps_ret (pe_cu o_is (pe_callH HP hA hr (by rfl) (pa_cons (uv 0) (pa_cons (uv 1) pa_nil))) pe_non)), ?_⟩
    exact ⟨a, b, S, R1, R2, K1, K2, rfl, m1, m2, ok1, ok2, sm, fun H' e => q H' e⟩
end
end LK

/-! dicts whose keys are pairs of a number and a tuple of numbers, with numbers as values -/
namespace LK
open PySem PySem.Spec PyProof.Rows L2 LamX
open scoped List
abbrev Sg := Nat × List Nat
/-- the key of a sign -/
def kS (s : Sg) : NestedKey := .tup [.num (s.1 : Nat), .tup (s.2.map fun g => .num (g : Nat))]
theorem kS_inj {a b : Sg} (h : kS a = kS b) : a = b := by
  unfold kS at h
  injection h with h
  injection h with h1 h2
  injection h1 with h1
  injection h2 with h2 _
  injection h2 with h2
  obtain ⟨a1, a2⟩ := a
  obtain ⟨b1, b2⟩ := b
  have e1 : a1 = b1 := by have : (a1 : Int) = b1 := h1; omega
  have e2 : a2 = b2 := by
    clear h1 e1
    have h2 : a2.map (fun g => NestedKey.num (g : Nat)) = b2.map fun g => NestedKey.num (g : Nat) := h2
    exact (List.map_inj_right fun x y z => by injection z with z; omega).mp h2
  rw [e1, e2]
theorem kS_depth (s : Sg) : (kS s).depth ≤ 8 := by
  have : ∀ l : List Nat, NestedKey.depthAll (l.map fun g => NestedKey.num (g : Nat)) = 0 := by
    intro l
    induction l with
    | nil => rfl
    | cons g l ih => rw [List.map_cons, NestedKey.depthAll, ih]; rfl
  unfold kS
  rw [NestedKey.depth, NestedKey.depthAll, NestedKey.depthAll, NestedKey.depth, NestedKey.depth, this, NestedKey.depthAll]
  decide
/-- the tuple at a is the sign -/
def SgAt (H : Hp) (s : Sg) (a : Addr) : Prop := ∃ b : Addr, H a = some (.tup [.int (s.1 : Nat), .ref b]) ∧ H b = some (.tup (s.2.map fun g => V.int (g : Nat)))
theorem SgAt.ext {H H' : Hp} {s : Sg} {a : Addr} (h : SgAt H s a) (e : Same H H') : SgAt H' s a := by
  obtain ⟨b, h1, h2⟩ := h; exact ⟨b, e _ _ h1, e _ _ h2⟩
theorem nested_ints {h : Heap} : ∀ {l : List Nat} {us : List Value}, L2.Vals (l.map fun g => V.int (g : Nat)) us → NestedAll h (l.map fun g => NestedKey.num (g : Nat)) us
  | [], _, .nil => .nil
  | g :: l, _, .cons r t => by
    obtain ⟨k, rfl⟩ := r
    exact .cons (.int _ _) (nested_ints t)
section
variable {P : Program} {w : World}
theorem key_sg {H : Hp} {h : Heap} {s : Sg} {a : Addr} (ok : HOk P w H h) (e : SgAt H s a) : (nestedKind P w).is h (kS s) a := by
  obtain ⟨b, h1, h2⟩ := e
  obtain ⟨_, its, r, o, g1, g2, n, g3⟩ := (show ObjOk P w H h a (.tup _) from ok a _ h1)
  obtain ⟨_, its2, r2, o2, k1, k2, n2, k3⟩ := (show ObjOk P w H h b (.tup _) from ok b _ h2)
  refine ⟨?_, kS_depth s⟩
  cases r with
  | cons ra t =>
    cases t with
    | cons rb t =>
      cases t
      obtain ⟨k, rfl⟩ := ra
      obtain rfl : _ = Value.ref b := rb
      refine .tup g1 g2 g3 ?_
      refine .cons (.int _ _) (.cons (.tup k1 k2 k3 ?_) .nil)
      exact nested_ints r2
abbrev Nds := List (Sg × Addr × Nat)
def NdR (xs : Nds) (ys : List (NestedKey × Addr × Value)) : Prop := Paired (fun (x : Sg × Addr × Nat) (y : NestedKey × Addr × Value) => y.1 = kS x.1 ∧ y.2.1 = x.2.1 ∧ ∃ t, y.2.2 = .int (x.2.2 : Nat) t) xs ys
/-- the dict at d, its keys' tuples by where they lie -/
def NdPhi (P : Program) (w : World) (d : Addr) (xs : Nds) (h : Heap) : Prop := xs.length ≤ sizeLine ∧ (d == sysModules) = false ∧ ∃ ys, NdR xs ys ∧ ∃ o es ep, h.get? d = some o ∧ o.ExactDict ∧ o.data = .dict es ep ∧ es.toList = ys.map (entryOfKey (nestedKind P w)) ∧ (ys.map (·.1)).Nodup
def ND (P : Program) (w : World) (d : Addr) (xs : Nds) : HO := .ext (NdPhi P w d xs)
def lookN (xs : Nds) (s : Sg) : Option Nat := (xs.find? fun x => decide (x.1 = s)).map (·.2.2)
theorem lookN_none {xs : Nds} {s : Sg} : lookN xs s = none ↔ s ∉ xs.map (·.1) := by
  unfold lookN
  rw [Option.map_eq_none_iff, List.find?_eq_none]
  constructor
  · intro h z
    obtain ⟨x, hx, e⟩ := List.mem_map.mp z
    have := h x hx
    simp [e] at this
  · intro h x hx z
    exact h (List.mem_map.mpr ⟨x, hx, of_decide_eq_true z⟩)
theorem ndR_at {xs : Nds} {ys : List (NestedKey × Addr × Value)} (r : NdR xs ys) (s : Sg) : (∀ n, lookN xs s = some n → ∃ p t, atKey ys (kS s) = some p ∧ p.2 = .int (n : Nat) t) ∧ (lookN xs s = none → atKey ys (kS s) = none) := by
  unfold NdR at r
  induction r with
  | nil => exact ⟨fun n h => by simp [lookN] at h, fun _ => rfl⟩
  | @cons x y xs ys hr t ih =>
    obtain ⟨e1, e2, tk, e3⟩ := hr
    by_cases e : x.1 = s
    · have l : lookN (x :: xs) s = some x.2.2 := by unfold lookN; rw [List.find?_cons_of_pos (by simpa using e)]; rfl
      have a : atKey (y :: ys) (kS s) = some y.2 := by unfold atKey; rw [List.find?_cons_of_pos (by simp [e1, e])]; rfl
      refine ⟨fun n h => ⟨y.2, tk, a, ?_⟩, fun h => ?_⟩
      · rw [l] at h; cases h; exact e3
      · rw [l] at h; cases h
    · have l : lookN (x :: xs) s = lookN xs s := by unfold lookN; rw [List.find?_cons_of_neg (by simpa using e)]
      have a : atKey (y :: ys) (kS s) = atKey ys (kS s) := by
        unfold atKey; rw [List.find?_cons_of_neg (by simp only [decide_eq_true_eq]; rw [e1]; exact fun z => e (kS_inj z))]
      rw [l, a]; exact ih
theorem ndR_is {xs : Nds} {ys : List (NestedKey × Addr × Value)} {H : Hp} {h : Heap} (r : NdR xs ys) (ok : HOk P w H h) (hk : ∀ x ∈ xs, SgAt H x.1 x.2.1) : ∀ y ∈ ys, (nestedKind P w).is h y.1 y.2.1 := by
  induction r with
  | nil => intro y hy; cases hy
  | @cons x y xs ys hr t ih =>
    intro z hz
    rcases List.mem_cons.mp hz with rfl | hz
    · rw [hr.1, hr.2.1]; exact key_sg ok (hk x (by simp))
    · exact ih (fun x hx => hk x (by simp [hx])) z hz
theorem nd_dict {H : Hp} {h : Heap} {d : Addr} {xs : Nds} (ok : HOk P w H h) (e : H d = some (ND P w d xs)) (hk : ∀ x ∈ xs, SgAt H x.1 x.2.1) : xs.length ≤ sizeLine ∧ (d == sysModules) = false ∧ ∃ ys, NdR xs ys ∧ h.DictOfH (nestedKind P w) d ys := by
  obtain ⟨z, hd, ys, r, o, es, ep, h1, h2, h3, h4, h5⟩ := (show NdPhi P w d xs h from (ok d _ e).1)
  exact ⟨z, hd, ys, r, o, es, ep, h1, h2, h3, h4, ndR_is r ok hk, h5⟩
theorem nd_new {H : Hp} {h : Heap} {d : Addr} {xs : Nds} (p : NdPhi P w d xs h) : ObjOk P w H h d (ND P w d xs) := by
  obtain ⟨z, hd, ys, r, o, es, ep, h1, h2, h3, h4, h5⟩ := id p
  refine ⟨p, ⟨o, h1⟩, fun g1 g2 q k => ?_⟩
  obtain ⟨z, hd, ys, r, o, es, ep, h1, h2⟩ := q
  exact ⟨z, hd, ys, r, o, es, ep, k _ h1, h2⟩
end
section
variable {X : Cx} {pos : Pos}
/-- {}, to be such a dict -/
def tDNewN (P : Program) (w : World) : TE := fun _ H Q => ∀ p, H p = none → Q (.ref p) (upd H p (ND P w p []))
theorem pe_dnewN : PE X (.Dict [] [] pos) (tDNewN X.prog X.w) := ⟨fun pins s σ H Q I h =>
  wpAny_Dict_empty ⟨.ref s.heap.objs.size, _, I.laid (a := s.heap.objs.size) (o := ND X.prog X.w s.heap.objs.size []) (t' := s.toks) (fun _ _ q => Heap.get?_push_of_some _ q) (Nat.le_refl _)
    (nd_new ⟨Nat.zero_le _, beq_eq_false_iff_ne.mpr (Ne.symm (Nat.ne_of_lt I.big)), [], .nil, _, #[], 0, Heap.get?_push_size _ rfl, ⟨rfl, rfl, rfl⟩, rfl, rfl, List.nodup_nil⟩), rfl, h _ (I.hok.fresh (Nat.le_refl _))⟩⟩
/-- len(d) -/
def rLenN (P : Program) (w : World) : List V → Hp → VK → Prop := fun vs H Q => match vs with
  | [.ref d] => ∃ xs, H d = some (ND P w d xs) ∧ (∀ x ∈ xs, SgAt H x.1 x.2.1) ∧ Q (.int (xs.length : Nat)) H
  | _ => False
theorem c_lenN : CallR X (.builtin "len") (rLenN X.prog X.w) := by
  intro pins s σ H xs us Q I r h
  unfold rLenN at h
  split at h
  · rename_i d
    obtain ⟨xs, hd, hk, q⟩ := h
    obtain ⟨u, rfl, ru⟩ := vals1 r
    obtain rfl : u = Value.ref d := ru
    obtain ⟨z, hm, ys, rel, dd⟩ := nd_dict I.hok hd hk
    have hl : xs.length = ys.length := Paired.length rel
    refine call_len_dictH hm dd (by rw [← hl]; rw [sizeLine_eq] at z; omega) ?_
    rw [← hl]
    exact ⟨.int (xs.length : Nat), H, I.tok _, ⟨_, rfl⟩, q⟩
  · exact h.elim
/-- d[s] -/
def tNGet (P : Program) (w : World) (td ty : TE) : TE := fun σ H Q => td σ H fun x H1 => ty σ H1 fun y H2 => ∃ d a xs sg n, x = .ref d ∧ y = .ref a ∧ H2 d = some (ND P w d xs) ∧ (∀ e ∈ xs, SgAt H2 e.1 e.2.1) ∧ SgAt H2 sg a ∧ lookN xs sg = some n ∧ Q (.int (n : Nat)) H2
theorem pe_nget {o i : Expr} {td ty : TE} (hu : X.A.units + 64 < cLine) (ho : PE X o td) (hi : PE X i ty) (hs : NoSl i) : PE X (.Subscript o i pos) (tNGet X.prog X.w td ty) := by
  refine ⟨fun pins s σ H Q I h => ?_⟩
  refine subD_of PySem.F.slot_dict_getitem.lookup hs (thn (ho.run pins s σ H _ I h) fun u s1 ⟨x, H1, I1, rx, q1⟩ => thn (hi.run pins s1 σ H1 _ I1 q1) fun iv s2 ⟨y, H2, I2, ry, d, a, xs, sg, n, ex, ey, hd, hk, hs, hn, q2⟩ => ?_)
  subst ex; subst ey
  obtain rfl : u = Value.ref d := rx
  obtain rfl : iv = Value.ref a := ry
  obtain ⟨z, hm, ys, rel, dd⟩ := nd_dict I2.hok hd hk
  obtain ⟨p, t, hp, hv⟩ := (ndR_at rel sg).1 n hn
  refine ⟨dd.typeIs, wpAny_getItem_heap (knd := nestedKind X.prog X.w) (show X.A.in1.units + 8 < cLine from by show X.A.units + 1 + 8 < cLine; omega) (key_sg I2.hok hs) dd hp ?_⟩
  rw [hv]
  exact ⟨.int (n : Nat), H2, I2.tok _, ⟨_, rfl⟩, q2⟩
/-- d.setdefault(s, n) -/
def tNSetd (P : Program) (w : World) (td ty tx : TE) : TE := fun σ H Q => td σ H fun x H1 => ∃ d xs, x = .ref d ∧ H1 d = some (ND P w d xs) ∧ (∀ e ∈ xs, SgAt H1 e.1 e.2.1) ∧ ty σ H1 fun y H2 => tx σ H2 fun z H3 => ∃ (a : Addr) (sg : Sg) (n : Nat), y = .ref a ∧ z = .int (n : Nat) ∧
  H3 d = some (ND P w d xs) ∧ (∀ e ∈ xs, SgAt H3 e.1 e.2.1) ∧ SgAt H3 sg a ∧ xs.length < sizeLine ∧ (∀ v, lookN xs sg = some v → Q (.int (v : Nat)) H3) ∧ (lookN xs sg = none → Q (.int (n : Nat)) (upd H3 d (ND P w d (xs ++ [(sg, a, n)]))))
theorem pe_nsetd {o e f : Expr} {td ty tx : TE} {apos cpos : Pos} (hu : X.A.units + 64 < cLine) (ho : PE X o td) (he : PE X e ty) (hf : PE X f tx) (m : M2 X o "setdefault" apos e f cpos) : PE X (.Call (.Attribute o "setdefault" apos) [e, f] [] cpos) (tNSetd X.prog X.w td ty tx) := by
  refine ⟨fun pins s σ H Q I h => ?_⟩
  refine wpAny_Call_method m.base m.few m.line PySem.F.plainAttrs_dict PySem.F.slot_dict_setdefault PySem.F.type_dict_setdefault (thn (ho.run pins s σ H _ I h) fun u s1 ⟨x, H1, I1, rx, d, xs, ex, hd, hk, q1⟩ => ?_)
  subst ex
  obtain rfl : u = Value.ref d := rx
  obtain ⟨z, hm, ys, rel, dd⟩ := nd_dict I1.hok hd hk
  refine ⟨dd.typeIs, fun b q => ?_, ?_⟩
  · cases q
    obtain ⟨ob, _, _, h1, h2, _⟩ := dd
    exact ⟨ob, h1, h2.2.1⟩
  rw [m.trees]
  refine Calls.callWith_builtin rfl (Calls.evalArgs_plain (Calls.spliced_cons (thn (he.run pins s1 σ H1 _ I1 q1) fun iv s2 ⟨y, H2, I2, ry, q2⟩ =>
    Calls.spliced_cons (thn (hf.run pins s2 σ H2 _ I2 q2) fun fv s3 ⟨z, H3, I3, rz, a, sg, n, ey, ez, hd3, hk3, hs3, hl, q3, q4⟩ => Calls.spliced_nil ?_))))
  subst ey; subst ez
  obtain rfl : iv = Value.ref a := ry
  obtain ⟨z3, hm3, ys3, rel3, dd3⟩ := nd_dict I3.hok hd3 hk3
  refine call_setdefault_heap (knd := nestedKind X.prog X.w) (hsz := by rw [← Paired.length rel3]; exact z3) (show X.A.in1.units + 8 < cLine from by show X.A.units + 1 + 8 < cLine; omega) (key_sg I3.hok hs3) hm3 dd3 (fun p hp => ?_) fun hn h' dd' hs => ?_
  · cases hl2 : lookN xs sg with
    | none => rw [(ndR_at rel3 sg).2 hl2] at hp; cases hp
    | some v =>
      obtain ⟨p2, t, hp2, hv⟩ := (ndR_at rel3 sg).1 v hl2
      rw [hp] at hp2; cases hp2
      rw [hv]
      exact ⟨.int (v : Nat), H3, I3.tok _, ⟨_, rfl⟩, q3 v hl2⟩
  · cases hl2 : lookN xs sg with
    | some v =>
      obtain ⟨p2, t, hp2, hv⟩ := (ndR_at rel3 sg).1 v hl2
      rw [hn] at hp2; cases hp2
    | none =>
      obtain ⟨ob, es, ep, hq, g2, g3, g4, _, g5⟩ := dd'
      rw [storedH_new hn] at g4 g5
      refine ⟨.int (n : Nat), _, d_write I3 (by rw [hd3]; exact True.intro) hs ⟨ob, hq⟩ (nd_new ⟨by rw [List.length_append]; exact hl, hm3, _, ?_, ob, es, ep, hq, g2, g3, g4, g5⟩), rz, q4 hl2⟩
      exact Paired.snoc rel3 ⟨rfl, rfl, rz⟩
end
end LK

/-! classes of alike places: parted by signs until nothing is parted any more -/
namespace LK
open PySem PySem.Spec PyProof.Rows L2
open scoped List
/-- the sign of a place: its class, those of its goals -/
def sg (R : Rows) (c : List Nat) (p : Nat) : Sg := (c.getD p 0, (gls R p).map fun g => c.getD g 0)
def sgs (R : Rows) (c : List Nat) : List Sg := (List.range R.length).map (sg R c)
def addS (f : List Sg) (s : Sg) : List Sg := if s ∈ f then f else f ++ [s]
def ddS (l : List Sg) : List Sg := l.foldl addS []
def nxt (R : Rows) (c : List Nat) : List Nat := (sgs R c).map fun s => (ddS (sgs R c)).idxOf s
/-- how many unlike numbers -/
def cnt (c : List Nat) : Nat := (adds [] c).length
theorem getD_some {l : List Nat} {i : Nat} (h : i < l.length) : l[i]? = some (l.getD i 0) := by
  rw [List.getD_eq_getElem?_getD, List.getElem?_eq_getElem h]; rfl
theorem ddS_app (l : List Sg) (s : Sg) : ddS (l ++ [s]) = addS (ddS l) s := by unfold ddS; rw [List.foldl_append]; rfl
theorem foldS_mem {x : Sg} : ∀ {l f : List Sg}, x ∈ l.foldl addS f ↔ x ∈ f ∨ x ∈ l
  | [], f => by simp
  | s :: l, f => by
    show x ∈ l.foldl addS (addS f s) ↔ _
    rw [foldS_mem, List.mem_cons]
    unfold addS
    split
    · rename_i h
      constructor
      · rintro (z | z)
        · exact .inl z
        · exact .inr (.inr z)
      · rintro (z | rfl | z)
        · exact .inl z
        · exact .inl h
        · exact .inr z
    · rw [List.mem_append, List.mem_singleton, or_assoc]
theorem ddS_mem {x : Sg} {l : List Sg} : x ∈ ddS l ↔ x ∈ l := by unfold ddS; rw [foldS_mem]; simp
theorem foldS_nd : ∀ {l f : List Sg}, f.Nodup → (l.foldl addS f).Nodup
  | [], f, h => h
  | s :: l, f, h => by
    show (l.foldl addS (addS f s)).Nodup
    refine foldS_nd ?_
    unfold addS
    split
    · exact h
    · rename_i hn
      rw [List.nodup_append]
      exact ⟨h, by simp, fun a ha b hb e => by simp at hb; rw [e, hb] at ha; exact hn ha⟩
theorem ddS_nd {l : List Sg} : (ddS l).Nodup := foldS_nd (by simp)
theorem idxS_inj {l : List Sg} {a b : Sg} (ha : a ∈ l) (hb : b ∈ l) (h : l.idxOf a = l.idxOf b) : a = b := by
  have la := List.idxOf_lt_length_iff.mpr ha
  have lb := List.idxOf_lt_length_iff.mpr hb
  have e1 : l[l.idxOf a] = a := List.getElem_idxOf la
  have e2 : l[l.idxOf b] = b := List.getElem_idxOf lb
  have e3 : l[l.idxOf a]? = l[l.idxOf b]? := by rw [h]
  rw [List.getElem?_eq_getElem la, List.getElem?_eq_getElem lb, e1, e2] at e3
  exact Option.some.inj e3
section
variable {m : Nat} {R : Rows} {K : List Bool} {c : List Nat}
theorem sgs_len : (sgs R c).length = R.length := by rw [sgs, List.length_map, List.length_range]
theorem nxt_len : (nxt R c).length = R.length := by rw [nxt, List.length_map, sgs_len]
theorem sg_mem {p : Nat} (h : p < R.length) : sg R c p ∈ sgs R c := List.mem_map.mpr ⟨p, List.mem_range.mpr h, rfl⟩
theorem sgs_at {p : Nat} (h : p < R.length) : (sgs R c)[p]? = some (sg R c p) := by rw [sgs, List.getElem?_map, List.getElem?_range h]; rfl
theorem nxt_at {p : Nat} (h : p < R.length) : (nxt R c).getD p 0 = (ddS (sgs R c)).idxOf (sg R c p) := by
  rw [List.getD_eq_getElem?_getD, nxt, List.getElem?_map, sgs_at h]; rfl
theorem nxt_iff {p q : Nat} (hp : p < R.length) (hq : q < R.length) : (nxt R c).getD p 0 = (nxt R c).getD q 0 ↔ sg R c p = sg R c q := by
  rw [nxt_at hp, nxt_at hq]
  exact ⟨idxS_inj (ddS_mem.mpr (sg_mem hp)) (ddS_mem.mpr (sg_mem hq)), fun h => by rw [h]⟩
/-- a parting on the way: classes never hold unlike kinds, alike places are never parted -/
structure Ref (m : Nat) (R : Rows) (K : List Bool) (c : List Nat) : Prop where
  len : c.length = R.length
  comp : ∀ p q, p < R.length → q < R.length → c.getD p 0 = c.getD q 0 → kd K p = kd K q
  coarse : ∀ p q, p < R.length → q < R.length → Alike m R K p q → c.getD p 0 = c.getD q 0
theorem Ref.nxt (ok : RowsOk R m) (h : Ref m R K c) : Ref m R K (LK.nxt R c) := by
  refine ⟨nxt_len, fun p q hp hq e => ?_, fun p q hp hq e => ?_⟩
  · exact h.comp p q hp hq (congrArg Prod.fst ((nxt_iff hp hq).mp e))
  · refine (nxt_iff hp hq).mpr (Prod.ext (h.coarse p q hp hq e) ?_)
    show (gls R p).map _ = (gls R q).map _
    refine List.ext_getElem (by rw [List.length_map, List.length_map, gls_len ok hp, gls_len ok hq]) fun i h1 h2 => ?_
    rw [List.length_map] at h1 h2
    rw [List.getElem_map, List.getElem_map]
    have im : i < m := by rwa [gls_len ok hp] at h1
    have a := e.go (is := [i]) (.one im)
    rw [go_one, go_one, List.getD_eq_getElem?_getD, List.getD_eq_getElem?_getD, List.getElem?_eq_getElem h1, List.getElem?_eq_getElem h2] at a
    exact h.coarse _ _ (gls_lt ok (List.getElem_mem h1)) (gls_lt ok (List.getElem_mem h2)) a
theorem nxt_fine {p q : Nat} (hp : p < R.length) (hq : q < R.length) (e : (nxt R c).getD p 0 = (nxt R c).getD q 0) : c.getD p 0 = c.getD q 0 := congrArg Prod.fst ((nxt_iff hp hq).mp e)
theorem adds_nil_mem {x : Nat} {l : List Nat} : x ∈ adds [] l ↔ x ∈ l := by rw [mem_adds]; simp
theorem getD_in {l : List Nat} {p : Nat} (h : p < l.length) : l.getD p 0 ∈ l := getD_mem h
theorem mem_getD {l : List Nat} {x : Nat} (h : x ∈ l) : ∃ p, p < l.length ∧ l.getD p 0 = x := by
  obtain ⟨p, hp⟩ := List.mem_iff_getElem?.mp h
  exact ⟨p, (List.getElem?_eq_some_iff.mp hp).1, by rw [List.getD_eq_getElem?_getD, hp]; rfl⟩
theorem idx_getD {l : List Nat} {x : Nat} (h : x ∈ l) : l.idxOf x < l.length ∧ l.getD (l.idxOf x) 0 = x := by
  have lt := List.idxOf_lt_length_iff.mpr h
  exact ⟨lt, by rw [List.getD_eq_getElem?_getD, List.getElem?_eq_getElem lt]; exact List.getElem_idxOf lt⟩
theorem inj_of_nd {f : Nat → Nat} : ∀ {l : List Nat}, (l.map f).Nodup → ∀ {a b : Nat}, a ∈ l → b ∈ l → f a = f b → a = b
  | [], _, a, b, h, _, _ => nomatch h
  | x :: l, nd, a, b, ha, hb, e => by
    rw [List.map_cons, List.nodup_cons] at nd
    rcases List.mem_cons.mp ha with rfl | ha
    · rcases List.mem_cons.mp hb with rfl | hb
      · rfl
      · exact absurd (List.mem_map.mpr ⟨b, hb, e.symm⟩) nd.1
    · rcases List.mem_cons.mp hb with hbx | hb
      · exact absurd (List.mem_map.mpr ⟨a, ha, hbx ▸ e⟩) nd.1
      · exact inj_of_nd nd.2 ha hb e
section
variable {c' : List Nat} (hl : c.length = R.length) (hl' : c'.length = R.length) (fine : ∀ p q, p < R.length → q < R.length → c'.getD p 0 = c'.getD q 0 → c.getD p 0 = c.getD q 0)
/-- the class in c of a class in c' -/
def back (c c' : List Nat) (v : Nat) : Nat := c.getD (c'.idxOf v) 0
include hl hl' fine in
theorem back_at {p : Nat} (hp : p < R.length) : back c c' (c'.getD p 0) = c.getD p 0 := by
  have hm : c'.getD p 0 ∈ c' := getD_in (by omega)
  obtain ⟨h1, h2⟩ := idx_getD hm
  exact fine _ _ (by omega) hp h2
include hl hl' fine in
theorem back_sub : adds [] c ⊆ (adds [] c').map (back c c') := by
  intro v hv
  obtain ⟨p, hp, rfl⟩ := mem_getD (adds_nil_mem.mp hv)
  exact List.mem_map.mpr ⟨c'.getD p 0, adds_nil_mem.mpr (getD_in (by omega)), back_at hl hl' fine (by omega)⟩
include hl hl' fine in
theorem cnt_le : cnt c ≤ cnt c' := by
  have := List.Nodup.length_le_of_subset (nd_adds (gs := c) (List.nodup_nil)) (back_sub hl hl' fine)
  rwa [List.length_map] at this
include hl hl' fine in
theorem cnt_eq (h : cnt c' ≤ cnt c) {p q : Nat} (hp : p < R.length) (hq : q < R.length) (e : c.getD p 0 = c.getD q 0) : c'.getD p 0 = c'.getD q 0 := by
  have le := cnt_le hl hl' fine
  have pm := perm_of (l := adds [] c) (ks := (adds [] c').map (back c c')) (nd_adds List.nodup_nil) (fun x hx => back_sub hl hl' fine hx) (by rw [List.length_map]; exact Nat.le_antisymm h le)
  have nd : ((adds [] c').map (back c c')).Nodup := pm.nodup_iff.mpr (nd_adds List.nodup_nil)
  refine inj_of_nd nd (adds_nil_mem.mpr (getD_in (by omega))) (adds_nil_mem.mpr (getD_in (by omega))) ?_
  rw [back_at hl hl' fine hp, back_at hl hl' fine hq, e]
end
/-- the classes of alike places -/
structure ClsN (m : Nat) (R : Rows) (K : List Bool) (c : List Nat) : Prop where
  len : c.length = R.length
  iff : ∀ p q, p < R.length → q < R.length → (c.getD p 0 = c.getD q 0 ↔ Alike m R K p q)
  num : ∃ k, k ≤ R.length ∧ (∀ p, p < R.length → c.getD p 0 < k) ∧ ∀ v, v < k → ∃ p, p < R.length ∧ c.getD p 0 = v
theorem cls_of (ok : RowsOk R m) (h : Ref m R K c) (st : cnt (nxt R c) ≤ cnt c) : ClsN m R K (nxt R c) := by
  have hn := h.nxt ok
  have fine : ∀ p q, p < R.length → q < R.length → (nxt R c).getD p 0 = (nxt R c).getD q 0 → c.getD p 0 = c.getD q 0 := fun p q hp hq e => nxt_fine hp hq e
  have same : ∀ p q, p < R.length → q < R.length → c.getD p 0 = c.getD q 0 → sg R c p = sg R c q := fun p q hp hq e => (nxt_iff hp hq).mp (cnt_eq h.len hn.len fine st hp hq e)
  have alike : ∀ (is : List Nat) p q, p < R.length → q < R.length → Col m is → c.getD p 0 = c.getD q 0 → kd K (go R p is) = kd K (go R q is) := by
    intro is
    induction is with
    | nil => intro p q hp hq _ e; exact h.comp p q hp hq e
    | cons i is ih =>
      intro p q hp hq ci e
      have im : i < m := ci i (by simp)
      have g1 : i < (gls R p).length := by rw [gls_len ok hp]; exact im
      have g2 : i < (gls R q).length := by rw [gls_len ok hq]; exact im
      refine ih ((gls R p).getD i 0) ((gls R q).getD i 0) (gls_lt ok (getD_mem g1)) (gls_lt ok (getD_mem g2)) (fun j hj => ci j (by simp [hj])) ?_
      have e2 : (gls R p).map (fun g => c.getD g 0) = (gls R q).map fun g => c.getD g 0 := congrArg Prod.snd (same p q hp hq e)
      have e3 := congrArg (fun l : List Nat => l[i]?) e2
      simp only [List.getElem?_map, getD_some g1, getD_some g2, Option.map_some] at e3
      exact Option.some.inj e3
  refine ⟨hn.len, fun p q hp hq => ⟨fun e is ci => alike is p q hp hq ci (fine p q hp hq e), fun e => hn.coarse p q hp hq e⟩, (ddS (sgs R c)).length, ?_, fun p hp => ?_, fun v hv => ?_⟩
  · have := List.Nodup.length_le_of_subset (ddS_nd (l := sgs R c)) (fun x hx => ddS_mem.mp hx)
    rwa [sgs_len] at this
  · rw [nxt_at hp]
    exact List.idxOf_lt_length_iff.mpr (ddS_mem.mpr (sg_mem hp))
  · have hm : (ddS (sgs R c))[v] ∈ sgs R c := ddS_mem.mp (List.getElem_mem hv)
    obtain ⟨p, hp, e⟩ := List.mem_map.mp hm
    have hp := List.mem_range.mp hp
    refine ⟨p, hp, ?_⟩
    rw [nxt_at hp, e]
    exact ddS_nd.idxOf_getElem v hv
theorem cnt_pos (h : 0 < c.length) : 1 ≤ cnt c := by
  cases c with
  | nil => cases h
  | cons x c =>
    have : x ∈ adds [] (x :: c) := adds_nil_mem.mpr (by simp)
    exact List.length_pos_iff.mpr fun z => by rw [z] at this; cases this
theorem cnt_len : cnt c ≤ c.length := List.Nodup.length_le_of_subset (nd_adds (gs := c) List.nodup_nil) fun x hx => adds_nil_mem.mp hx
/-- the first classes: the kinds -/
def cls0 (K : List Bool) : List Nat := K.map fun k => if k then 1 else 0
theorem ref0 (hk : K.length = R.length) : Ref m R K (cls0 K) := by
  have at_ : ∀ p, p < R.length → (cls0 K).getD p 0 = if kd K p then 1 else 0 := fun p hp => by
    have : p < K.length := by omega
    rw [List.getD_eq_getElem?_getD, cls0, List.getElem?_map, kd, List.getD_eq_getElem?_getD, List.getElem?_eq_getElem this]; rfl
  refine ⟨by rw [cls0, List.length_map, hk], fun p q hp hq e => ?_, fun p q hp hq e => ?_⟩
  · rw [at_ p hp, at_ q hq] at e
    cases h1 : kd K p <;> cases h2 : kd K q <;> rw [h1, h2] at e <;> simp at e ⊢
  · have : kd K p = kd K q := e [] Col.nil
    rw [at_ p hp, at_ q hq, this]
end
/-! ### the least machine of classes -/
section
variable {m s : Nat} {R : Rows} {K : List Bool} {c : List Nat}
/-- the first place of each class -/
def fsts (c : List Nat) (k : Nat) : List Nat := (List.range k).map fun v => c.idxOf v
def qrows (R : Rows) (c : List Nat) (k : Nat) : Rows := (fsts c k).map fun p => (gls R p).map fun g => c.getD g 0
def qkinds (K : List Bool) (c : List Nat) (k : Nat) : List Bool := (fsts c k).map fun p => K.getD p false
theorem fsts_at {k v : Nat} (h : v < k) : (fsts c k)[v]? = some (c.idxOf v) := by rw [fsts, List.getElem?_map, List.getElem?_range h]; rfl
theorem fsts_len {k : Nat} : (fsts c k).length = k := by rw [fsts, List.length_map, List.length_range]
theorem qrows_len {k : Nat} : (qrows R c k).length = k := by rw [qrows, List.length_map, fsts_len]
theorem qrows_at {k v : Nat} (h : v < k) : gls (qrows R c k) v = (gls R (c.idxOf v)).map fun g => c.getD g 0 := by
  unfold gls qrows
  rw [List.getD_eq_getElem?_getD, List.getElem?_map, fsts_at h]; rfl
structure Num (R : Rows) (c : List Nat) (k : Nat) : Prop where
  len : c.length = R.length
  le : k ≤ R.length
  lt : ∀ p, p < R.length → c.getD p 0 < k
  all : ∀ v, v < k → ∃ p, p < R.length ∧ c.getD p 0 = v
theorem Num.idx {k v : Nat} (h : Num R c k) (hv : v < k) : c.idxOf v < R.length ∧ c.getD (c.idxOf v) 0 = v := by
  obtain ⟨p, hp, e⟩ := h.all v hv
  have hm : v ∈ c := e ▸ getD_in (by rw [h.len]; exact hp)
  have := idx_getD hm
  rw [h.len] at this
  exact this
theorem qrows_ok {k : Nat} (ok : RowsOk R m) (n : Num R c k) : RowsOk (qrows R c k) m := by
  constructor
  · intro r hr
    obtain ⟨p, hp, rfl⟩ := List.mem_map.mp hr
    obtain ⟨v, hv, rfl⟩ := List.mem_map.mp hp
    rw [List.length_map, gls_len ok (n.idx (List.mem_range.mp hv)).1]
  · intro r hr g hg
    obtain ⟨p, hp, rfl⟩ := List.mem_map.mp hr
    obtain ⟨v, hv, rfl⟩ := List.mem_map.mp hp
    obtain ⟨g0, hg0, rfl⟩ := List.mem_map.mp hg
    rw [qrows_len]
    exact n.lt g0 (gls_lt ok hg0)
/-- walks go over to classes -/
theorem go_q {k : Nat} (ok : RowsOk R m) (n : Num R c k) (cl : ClsN m R K c) : ∀ {is : List Nat} {p : Nat}, p < R.length → Col m is → go (qrows R c k) (c.getD p 0) is = c.getD (go R p is) 0
  | [], p, _, _ => rfl
  | i :: is, p, hp, ci => by
    have im : i < m := ci i (by simp)
    obtain ⟨h1, h2⟩ := n.idx (n.lt p hp)
    have g1 : i < (gls R (c.idxOf (c.getD p 0))).length := by rw [gls_len ok h1]; exact im
    have g2 : i < (gls R p).length := by rw [gls_len ok hp]; exact im
    have l1 := gls_lt ok (getD_mem g1)
    have l2 := gls_lt ok (getD_mem g2)
    have al := ((cl.iff _ _ h1 hp).mp h2).go (is := [i]) (.one im)
    rw [go_one, go_one] at al
    have e : (gls (qrows R c k) (c.getD p 0)).getD i 0 = c.getD ((gls R p).getD i 0) 0 := by
      rw [qrows_at (n.lt p hp), List.getD_eq_getElem?_getD, List.getElem?_map, getD_some g1]
      exact (cl.iff _ _ l1 l2).mpr al
    show go (qrows R c k) ((gls (qrows R c k) (c.getD p 0)).getD i 0) is = c.getD (go R ((gls R p).getD i 0) is) 0
    rw [e]
    exact go_q ok n cl l2 fun j hj => ci j (by simp [hj])
theorem qk_at {k v : Nat} (h : v < k) : kd (qkinds K c k) v = kd K (c.idxOf v) := by
  rw [kd, List.getD_eq_getElem?_getD, qkinds, List.getElem?_map, fsts_at h]; rfl
theorem same_q {k : Nat} (ok : RowsOk R m) (n : Num R c k) (cl : ClsN m R K c) {p : Nat} (hp : p < R.length) : SameL m (qrows R c k) (qkinds K c k) (c.getD p 0) R K p := fun is ci => by
  have l := go_lt ok hp ci
  obtain ⟨h1, h2⟩ := n.idx (n.lt _ l)
  rw [go_q ok n cl hp ci, qk_at (n.lt _ l)]
  exact (cl.iff _ _ h1 l).mp h2 [] Col.nil
theorem least_of_cls {k : Nat} (ok : RowsOk R m) (n : Num R c k) (cl : ClsN m R K c) (hs : s < R.length) : LeastOf m R K s (rn (qrows R c k) (met (qrows R c k) (c.getD s 0))) (kn (met (qrows R c k) (c.getD s 0)) (qkinds K c k)) := by
  have qok := qrows_ok ok n
  have hs2 : c.getD s 0 < (qrows R c k).length := by rw [qrows_len]; exact n.lt s hs
  have clo := met_clo (s := c.getD s 0) qok hs2
  have z0 : (met (qrows R c k) (c.getD s 0))[0]? = some (c.getD s 0) := met_zero
  have ml : (met (qrows R c k) (c.getD s 0)).length ≤ k := by have := fnd_len (s := c.getD s 0) qok hs2 (qrows R c k).length; exact Nat.le_trans this (Nat.le_of_eq qrows_len)
  have rl := rn_len (R := qrows R c k) (L := met (qrows R c k) (c.getD s 0))
  refine ⟨rn_ok' qok clo, ?_, ?_, by rw [rl, List.length_map], ?_, ?_, fun p q hp hq al => ?_⟩
  · rw [rl]; exact (List.getElem?_eq_some_iff.mp z0).1
  · rw [rl]; exact Nat.le_trans ml n.le
  · rw [rl]; exact met_rn qok hs2
  · exact (same_rn qok clo z0).trans (same_q ok n cl hs)
  · rw [rl] at hp hq
    have gp := List.getElem?_eq_getElem hp
    have gq := List.getElem?_eq_getElem hq
    have vp := clo.lt _ (List.getElem_mem hp)
    have vq := clo.lt _ (List.getElem_mem hq)
    rw [qrows_len] at vp vq
    obtain ⟨a1, a2⟩ := n.idx vp
    obtain ⟨b1, b2⟩ := n.idx vq
    have e : (met (qrows R c k) (c.getD s 0))[p] = (met (qrows R c k) (c.getD s 0))[q] := by
      rw [← a2, ← b2]
      refine (cl.iff _ _ a1 b1).mpr fun is ci => ?_
      have t1 := same_rn (Kd := qkinds K c k) qok clo gp is ci
      have t2 := same_rn (Kd := qkinds K c k) qok clo gq is ci
      have u1 := same_q ok n cl a1 is ci
      have u2 := same_q ok n cl b1 is ci
      rw [a2] at u1
      rw [b2] at u2
      rw [← u1, ← u2, ← t1, ← t2]
      exact al is ci
    exact (List.getElem?_inj hp clo.nd).mp (by rw [gp, gq, e])
end
end LK

/-! len(set(numbers)); alike_classes -/
namespace LK
open PySem PySem.Spec PyProof.Rows L2 LamX ClX
open scoped List
theorem firstMet_adds (c : List Nat) : ∀ n, n ≤ c.length → firstMet (fun i => (c.map fun (g : Nat) => (g : Int)).getD i 0) n = (adds [] (c.take n)).map fun (g : Nat) => (g : Int)
  | 0, _ => by rw [firstMet_zero]; rfl
  | n + 1, h => by
    have ih := firstMet_adds c n (by omega)
    rw [firstMet_succ, ih]
    have hx : c[n]? = some c[n] := List.getElem?_eq_getElem (by omega)
    have e1 : (c.map fun (g : Nat) => (g : Int)).getD n 0 = (c[n] : Int) := by rw [List.getD_eq_getElem?_getD, List.getElem?_map, hx]; rfl
    rw [e1, List.take_add_one, hx]
    show step_dedup _ _ = (adds [] (c.take n ++ [c[n]])).map _
    rw [adds_app]
    unfold step_dedup add1
    have iff : (((adds [] (c.take n)).map fun (g : Nat) => (g : Int)).any (· == (c[n] : Int))) = decide (c[n] ∈ adds [] (c.take n)) := by
      rw [Bool.eq_iff_iff, List.any_eq_true, decide_eq_true_eq]
      constructor
      · rintro ⟨x, hx, e⟩
        obtain ⟨g, hg, rfl⟩ := List.mem_map.mp hx
        have e : ((g : Int) == (c[n] : Int)) = true := e
        have e := beq_iff_eq.mp e
        have : g = c[n] := by omega
        exact this ▸ hg
      · exact fun h => ⟨_, List.mem_map.mpr ⟨_, h, rfl⟩, by simp⟩
    rw [iff]
    by_cases hm : c[n] ∈ adds [] (c.take n)
    · rw [decide_eq_true hm, if_pos rfl, if_pos hm]
    · rw [decide_eq_false hm, if_neg Bool.false_ne_true, if_neg hm, List.map_append]; rfl
section
variable {X : Cx} {K : PySem.W.Frag}
/-- len(set(xs)), xs a list of numbers -/
def tLenSetI (K : PySem.W.Frag) (ta : TE) : TE := fun σ H Q => ta σ H fun x H1 => match x with
  | .ref l => ∃ c : List Nat, SqL K H1 l (iv c) ∧ c.length ≤ 1000 ∧ Q (.int (cnt c : Nat)) H1
  | _ => False
theorem ints_of_iv : ∀ {c : List Nat} {us : List Value}, Vals (iv c) us → IntsAre us (c.map fun (g : Nat) => (g : Int))
  | [], _, .nil => .nil
  | g :: c, _, .cons r t => by
    obtain ⟨k, rfl⟩ := r
    exact .cons _ k (ints_of_iv t)
theorem pe_lenSetI {a : Expr} {ta : TE} {p p2 q pos : Pos} (hK : X.K = K) (hc : X.calm = true) (hg : Gl X "len") (hm : X.mg "len" = none) (hg2 : Gl X "set") (hm2 : X.mg "set" = none) (ha : PE X a ta)
    (na : starEach [a] X.env = (false, eval a X.env) :: starEach [] X.env := by rfl) : PE X (.Call (.Name "len" p) [.Call (.Name "set" p2) [a] [] q] [] pos) (tLenSetI K ta) := by
  subst hK
  refine ⟨fun pins s σ H Q I h => ?_⟩
  refine Call_ (ld_blt I hg hm boot_len ?_)
  refine PyProof.Rows.callWith_builtin1 (PyProof.Rows.args_cons ?_ rfl) rfl rfl
  refine Call_ (ld_blt I hg2 hm2 boot_set ?_)
  refine PyProof.Rows.callWith_type1 (PyProof.Rows.args_cons (thn (ha.run pins s σ H _ I h) fun v s1 ⟨x, H1, I1, r1, q1⟩ => PyProof.Rows.args_nil ?_) na) na rfl
  dsimp only at q1
  split at q1
  · rename_i l
    obtain ⟨c, hq, h1, q1⟩ := q1
    cases r1
    obtain ⟨its, r, pl, hz⟩ := I1.list hq
    have hl : its.toArray.size = c.length := by rw [List.size_toArray, ← r.length, List.length_map]
    refine PySem.call_set_list (I1.ok.hd hc) pl.isList (by simpa using ints_of_iv r) (by rw [hl]; show _ < 4096; omega) fun h' tk hS hk => PyProof.Rows.args_nil ?_
    rw [hl, firstMet_adds c c.length (Nat.le_refl _), List.take_length, List.length_map] at hS
    obtain ⟨o, es, ep, t, ho, hex, hd, _, _, hb, hf, hn⟩ := hS
    have I2 : Inv X pins σ H1 { s1 with heap := h', toks := tk } := I1.kept fun b o e => hk b o (Heap.lt_size e) e
    have hb : es.size < 4096 := hb
    exact call_len_set ho hex hd hf (by omega) ⟨.int (cnt c : Nat), H1, I2.tok _, ⟨_, by rw [hn]; rfl⟩, q1⟩
  · exact q1.elim
/-! the rules said with P, w and K -/
variable {P : Program} {w : World}
theorem pe_ngetK {o i : Expr} {td ty : TE} {pos : Pos} (hP : X.prog = P) (hw : X.w = w) (hu : X.A.units + 64 < cLine) (ho : PE X o td) (hi : PE X i ty) (hs : NoSl i) : PE X (.Subscript o i pos) (tNGet P w td ty) := hP ▸ hw ▸ pe_nget hu ho hi hs
theorem pe_nsetdK {o e f : Expr} {td ty tx : TE} {apos cpos : Pos} (hP : X.prog = P) (hw : X.w = w) (hu : X.A.units + 64 < cLine) (ho : PE X o td) (he : PE X e ty) (hf : PE X f tx) (m : M2 X o "setdefault" apos e f cpos) : PE X (.Call (.Attribute o "setdefault" apos) [e, f] [] cpos) (tNSetd P w td ty tx) := hP ▸ hw ▸ pe_nsetd hu ho he hf m
theorem pe_dnewNK {pos : Pos} (hP : X.prog = P) (hw : X.w = w) : PE X (.Dict [] [] pos) (tDNewN P w) := hP ▸ hw ▸ pe_dnewN
theorem c_lenNK (hP : X.prog = P) (hw : X.w = w) : CallR X (.builtin "len") (rLenN P w) := hP ▸ hw ▸ c_lenN
theorem pe_tupleOfK {a : Expr} {ta : TE} {p pos : Pos} (hK : X.K = K) (hg : Gl X "tuple") (hm : X.mg "tuple" = none) (ha : PE X a ta) (na : starEach [a] X.env = (false, eval a X.env) :: starEach [] X.env := by rfl) :
    PE X (.Call (.Name "tuple" p) [a] [] pos) (tThen ta (kTup K)) := hK ▸ pe_tupleOf hg hm ha na
end
/-- signs, by where they lie -/
def Sgs (H : Hp) (R : Rows) (c : List Nat) (ls : List Addr) : Prop := ls.length ≤ R.length ∧ ∀ j t, ls[j]? = some t → SgAt H (sg R c j) t
theorem SgAt.put {H : Hp} {s : Sg} {a Z : Addr} {o : HO} (h : SgAt H s a) (hx : ∀ vs, H Z ≠ some (.tup vs)) : SgAt (upd H Z o) s a := by
  obtain ⟨b, h1, h2⟩ := h
  exact ⟨b, by rw [upd_ne (fun z => hx _ (z ▸ h1))]; exact h1, by rw [upd_ne (fun z => hx _ (z ▸ h2))]; exact h2⟩
theorem Sgs.put {H : Hp} {R : Rows} {c : List Nat} {ls : List Addr} {Z : Addr} {o : HO} (h : Sgs H R c ls) (hx : ∀ vs, H Z ≠ some (.tup vs)) : Sgs (upd H Z o) R c ls := ⟨h.1, fun j t ht => (h.2 j t ht).put hx⟩
/-- the dict of the signs that were met, each with its number -/
structure NdOk (H : Hp) (xs : Nds) (fs : List Sg) : Prop where
  len : xs.length = fs.length
  at_ : ∀ (j : Nat) (x : Sg × Addr × Nat), xs[j]? = some x → fs[j]? = some x.1 ∧ x.2.2 = j ∧ SgAt H x.1 x.2.1
theorem NdOk.ext {H H' : Hp} {xs : Nds} {fs : List Sg} (h : NdOk H xs fs) (e : Same H H') : NdOk H' xs fs := ⟨h.len, fun j x hx => by
  obtain ⟨a, b, c⟩ := h.at_ j x hx; exact ⟨a, b, c.ext e⟩⟩
theorem NdOk.put {H : Hp} {xs : Nds} {fs : List Sg} {Z : Addr} {o : HO} (h : NdOk H xs fs) (hx : ∀ vs, H Z ≠ some (.tup vs)) : NdOk (upd H Z o) xs fs := ⟨h.len, fun j x hx' => by
  obtain ⟨a, b, c⟩ := h.at_ j x hx'; exact ⟨a, b, c.put hx⟩⟩
theorem NdOk.all {H : Hp} {xs : Nds} {fs : List Sg} (h : NdOk H xs fs) : ∀ x ∈ xs, SgAt H x.1 x.2.1 := fun x hx => by
  obtain ⟨j, hj⟩ := List.mem_iff_getElem?.mp hx
  exact (h.at_ j x hj).2.2
theorem NdOk.keys {H : Hp} {xs : Nds} {fs : List Sg} (h : NdOk H xs fs) : xs.map (·.1) = fs := by
  refine List.ext_getElem (by rw [List.length_map]; exact h.len) fun i h1 h2 => ?_
  rw [List.length_map] at h1
  have := (h.at_ i _ (List.getElem?_eq_getElem h1)).1
  rw [List.getElem?_eq_getElem h2] at this
  rw [List.getElem_map]
  exact (Option.some.inj this).symm
theorem NdOk.look {H : Hp} {xs : Nds} {fs : List Sg} (h : NdOk H xs fs) {s : Sg} (hs : s ∈ fs) : lookN xs s = some (fs.idxOf s) := by
  have hn : lookN xs s ≠ none := fun z => lookN_none.mp z (by rw [h.keys]; exact hs)
  have key : ∀ (xs : Nds) (fs : List Sg) (k : Nat), xs.length = fs.length → (∀ (j : Nat) (x : Sg × Addr × Nat), xs[j]? = some x → fs[j]? = some x.1 ∧ x.2.2 = k + j) → s ∈ fs → lookN xs s = some (k + fs.idxOf s) := by
    intro xs
    induction xs with
    | nil => intro fs k hl _ hm; cases fs with
      | nil => cases hm
      | cons _ _ => cases hl
    | cons x xs ih => intro fs k hl ha hm; cases fs with
      | nil => cases hl
      | cons f fs =>
        obtain ⟨a1, a2⟩ := ha 0 x rfl
        have a1 : f = x.1 := Option.some.inj a1
        by_cases e : f = s
        · have l : lookN (x :: xs) s = some x.2.2 := by unfold lookN; rw [List.find?_cons_of_pos (by rw [← a1]; simpa using e)]; rfl
          rw [l, a2, ← e, List.idxOf_cons_self]
        · have l : lookN (x :: xs) s = lookN xs s := by unfold lookN; rw [List.find?_cons_of_neg (by rw [← a1]; simpa using e)]
          rw [l, ih fs (k + 1) (by simpa using hl) (fun j y hy => by
            obtain ⟨b1, b2⟩ := ha (j + 1) y (by simpa using hy)
            exact ⟨by simpa using b1, by omega⟩) ((List.mem_cons.mp hm).resolve_left fun z => e z.symm)]
          rw [List.idxOf_cons]
          have : (f == s) = false := by simpa using e
          rw [this]
          show some (k + 1 + fs.idxOf s) = some (k + (fs.idxOf s + 1))
          congr 1; omega
  have := key xs fs 0 h.len (fun j x hx => by
    obtain ⟨a, b, _⟩ := h.at_ j x hx
    exact ⟨a, by omega⟩) hs
  rwa [Nat.zero_add] at this
section
variable {P : Program} {w : World} {K : PySem.W.Frag} {mg : Str → Option Value} {base : Heap} {C : Addr}
abbrev nAl : List Str := ["rows", "kinds", "classes", "many", "signs", "numbers", "sign", "kind", "goal", "place"]
theorem scAlike : FnScope nAl ["rows", "kinds"] (defScope sAlike) := ⟨rfl, rfl, rfl, by decide +kernel, rfl, by decide +kernel, by decide +kernel⟩
abbrev scA1 : Scope := { kind := .function, names := [(".0", .local), ("place", .local), ("tuple", .globalImplicit), ("classes", .free), ("rows", .free)], isGenerator := false, isCoroutine := false }
def spAlike : Sp := fun vs H Q _ => ∃ (r kk : Addr) (m : Nat) (R : Rows) (Kd : List Bool), vs = [.ref r, .ref kk] ∧ RowsL H r R ∧ H kk = some (.lst (Kd.map V.bl)) ∧ RowsOk R m ∧ 0 < R.length ∧ R.length ≤ 900 ∧ Kd.length = R.length ∧ m ≤ 100 ∧
  ∀ H' CA c, Same H H' → H CA = none → H' CA = some (.lst (iv c)) → ClsN m R Kd c → Q (.ref CA) H'
theorem ok_alike {f : Addr} {fd : FuncData} {k : Nat} (F : Fun K "alike_classes" "alike_classes" sAlike f fd) (M : Mx mg) : FnG P w K mg base CX0 (k + 1) f fd ["rows", "kinds"] spAlike := by
  refine okG F scAlike (fun vs H Q E h => ?_) (fun cdv A hA outer s H vs Q E hr h => ?_)
  · obtain ⟨r, kk, m, R, Kd, rfl, _⟩ := h; rfl
  · obtain ⟨r, kk, m, R, Kd, rfl, ⟨rs, h2, h3, h4⟩, hk, ok, lo, hi, lk, hm, q⟩ := h
    have nd := scAlike.nd
    have sl := sizeLine_eq
    refine ⟨_, pss_cons (ps_set (i := 2) nd rfl (.inr rfl) (pe_lc (own := [("kind", 7)]) (g := gName 7) (tt := tYes) rfl nd (pi_list (uv 1)) (blkOk_by (N := nAl) (sc := defScope sAlike) (by decide +kernel))
        (fun _ _ _ _ _ => pg_name (i := 7) nd rfl (Or.inl rfl)) (fun _ _ _ _ _ => pts_nil) (fun _ _ _ _ _ => pe_callTy (r := intU) c_int (by rfl) M.int b_int (pa_cons (uv 7) pa_nil))))
      (pss_cons (ps_set (i := 3) nd rfl (.inl rfl) pe_int)
      (pss_cons (ps_while PassesOwn.never (pt_cl (pt_cu o_lt (uv 3) (pe_lenSetI (K := K) rfl rfl (by rfl) M.len (by rfl) M.set (uv 2))))
        (pss_cons (ps_set (i := 3) nd rfl (.inl rfl) (pe_lenSetI (K := K) rfl rfl (by rfl) M.len (by rfl) M.set (uv 2)))
        (pss_cons (ps_setLc (i := 4) (own := [("place", 9)]) (g := gName 9) (by rfl) nd rfl rfl (sw_true rfl rfl rfl (by decide +kernel)) (pi_range1 (by rfl) M.range (pa_cons (pe_callB c_len (by rfl) M.len b_len (pa_cons (uv 0) pa_nil)) pa_nil))
          (blkOk_by (N := nAl) (sc := defScope sAlike) (by decide +kernel)) (fun _ _ _ _ _ => pg_name (i := 9) nd rfl (Or.inl rfl)) (fun _ _ _ _ _ => pts_nil)
          (fun _ _ _ _ _ => pe_tup (pa_cons (pe_ixK (K := K) rfl (uv 2) (uv 9)) (pa_cons (pe_tupleOfK (K := K) rfl (by rfl) M.tuple (pe_lc (own := [("goal", 8)]) (g := gName 8) (tt := tYes) rfl nd (pi_listK (K := K) rfl (pe_ixK (K := K) rfl (uv 0) (uv 9))) (blkOk_in (N := nAl) (sc := scA1) (by decide +kernel))
            (fun _ _ _ _ _ => pg_name (i := 8) nd rfl (Or.inl rfl)) (fun _ _ _ _ _ => pts_nil) (fun _ _ _ _ _ => pe_ixK (K := K) rfl (uv 2) (uv 8)))) pa_nil))))
        (pss_cons (ps_set (i := 5) nd rfl (.inr rfl) (pe_dnewNK (P := P) (w := w) rfl rfl))
        (pss_cons (ps_for PassesOwn.never rfl (pi_list (uv 4)) (pg_name (i := 6) nd rfl (.inl rfl))
          (pss_one (ps_expr (pe_nsetdK (P := P) (w := w) rfl rfl (Room.u64 hr) (uv 5) (uv 6) (pe_callB (c_lenNK (P := P) (w := w) rfl rfl) (by rfl) M.len b_len (pa_cons (uv 5) pa_nil)) ⟨rfl, rfl, rfl, rfl⟩))))
        (pss_one (ps_set (i := 2) nd rfl (.inr rfl) (pe_lc (own := [("sign", 6)]) (g := gName 6) (tt := tYes) rfl nd (pi_list (uv 4)) (blkOk_by (N := nAl) (sc := defScope sAlike) (by decide +kernel))
          (fun _ _ _ _ _ => pg_name (i := 6) nd rfl (Or.inl rfl)) (fun _ _ _ _ _ => pts_nil) (fun _ _ _ _ _ => pe_ngetK (P := P) (w := w) rfl rfl (Room.u64 hr) (uv 5) (uv 6) (fun _ _ => rfl)))))))))) 
      (pss_one (ps_ret (uv 2))))), ?_⟩
    dsimp only [tSeq, tAsg, gName]
    refine lc_list (K := K) (a := kk) (xs := Kd.map V.bl) (H1 := H) (by exact fun _ h => h) (.inl (.inl hk)) (fun D pre acc H2 => H D = none ∧ H2 = upd H D (.lst acc) ∧ ∃ j, j ≤ Kd.length ∧ pre = (Kd.take j).map V.bl ∧ acc = iv (cls0 (Kd.take j)))
      (fun D pre acc H2 h => by obtain ⟨n, rfl, _⟩ := h; exact .inl (.inl (same_upd n _ _ hk))) (fun D nD => ⟨nD, rfl, 0, Nat.zero_le _, rfl, rfl⟩) (fun D nD pre acc x suf H2 ex h => ?_) (fun CA nCA acc H2 h => ?_)
    · obtain ⟨_, rfl, j, hj, rfl, rfl⟩ := h
      have lj : ((Kd.take j).map V.bl).length = j := by rw [List.length_map, List.length_take]; omega
      have hj2 : j < Kd.length := by
        have := congrArg List.length ex
        rw [List.length_append, lj, List.length_map, List.length_cons] at this
        omega
      have hx : (Kd.map V.bl)[j]? = some x := by rw [ex, List.getElem?_append_right (by omega), lj, Nat.sub_self]; rfl
      rw [List.getElem?_map] at hx
      obtain ⟨b, hb, rfl⟩ := Option.map_eq_some_iff.mp hx
      have et : Kd.take (j + 1) = Kd.take j ++ [b] := by rw [List.take_add_one, hb]; rfl
      refine ⟨rfl, _, upd_same, by rw [List.length_map, cls0, List.length_map, List.length_take]; omega, _, nD, upd_upd, j + 1, hj2, by rw [et, List.map_append]; rfl, ?_⟩
      rw [et, cls0, cls0, List.map_append, iv_app]
      cases b <;> rfl
    obtain ⟨n0, rfl, j, hj, ej, rfl⟩ := h
    have lj : j = Kd.length := by
      have := congrArg List.length ej
      rw [List.length_map, List.length_map, List.length_take] at this
      omega
    rw [lj, List.take_length]
    have e0 : Same H (upd H CA (.lst (iv (cls0 Kd)))) := same_upd nCA
    have h0 : (upd H CA (.lst (iv (cls0 Kd)))) CA = some (.lst (iv (cls0 Kd))) := upd_same
    generalize upd H CA (.lst (iv (cls0 Kd))) = H0 at e0 h0
    show tWhile _ _ _ _ _
    refine wh (m0 := R.length + 1) (fun mm σ H2 => ∃ (many : Nat) (c : List Nat) (CA : Addr) (y4 y5 y6 y7 y8 y9 : Option V), R.length + 1 - many ≤ mm ∧ many ≤ R.length ∧ Ref m R Kd c ∧ (many = 0 ∨ ∃ prev, many = cnt prev ∧ Ref m R Kd prev ∧ c = nxt R prev) ∧ Same H H2 ∧ H CA = none ∧
        H2 CA = some (.lst (iv c)) ∧ σ = [some (.ref r), some (.ref kk), some (.ref CA), some (.int (many : Nat)), y4, y5, y6, y7, y8, y9])
      ⟨0, cls0 Kd, CA, none, none, none, none, none, none, Nat.le_refl _, Nat.zero_le _, ref0 lk, .inl rfl, e0, nCA, h0, rfl⟩ (fun mm σ H2 iv2 => ?_) (fun σ H Q Q' hm h => ?_)
    case refine_2 =>
      obtain ⟨Q0, h0, m0⟩ := h
      exact ⟨Q0, h0, fun v H' z => hm _ _ (m0 v H' z)⟩
    clear e0 h0
    obtain ⟨many, c, CA, y4, y5, y6, y7, y8, y9, hmm, hmany, rf, hpv, e2, nCA, hCA, rfl⟩ := iv2
    have lc := rf.len
    have cp := cnt_pos (c := c) (by omega)
    have cl := cnt_len (c := c)
    refine ⟨fun b H' => b = decide ((many : Int) < (cnt c : Nat)) ∧ H' = H2, ⟨c, .inl (.inl hCA), by omega, rfl, rfl⟩, fun b H' z => ?_⟩
    obtain ⟨rfl, rfl⟩ := z
    by_cases hlt : many < cnt c
    case neg =>
      rw [if_neg (by rw [decide_eq_false (by omega)]; exact Bool.false_ne_true)]
      rcases hpv with rfl | ⟨prev, ep, rp, rfl⟩
      · omega
      · exact q _ CA _ e2 nCA hCA (cls_of ok rp (by omega))
    rw [if_pos (decide_eq_true (by omega))]
    dsimp only [tSeq, tAsg, gName]
    refine ⟨c, .inl (.inl hCA), by omega, ?_⟩
    refine lc_rng (n := R.length) (H1 := H') (fun R' h => .inl ⟨rs.map V.ref, .inl (.inl (.inl (e2 _ _ h2))), by rw [List.length_map, h3]; exact h⟩) (by omega)
      (fun D i acc H4 => ∃ ls : List Addr, acc = ls.map V.ref ∧ ls.length = i ∧ i ≤ R.length ∧ Same H' H4 ∧ H4 D = some (.lst (ls.map V.ref)) ∧ Sgs H4 R c ls)
      (fun D nD => ⟨[], rfl, rfl, Nat.zero_le _, same_upd nD, upd_same, ⟨Nat.zero_le _, fun j t z => nomatch z⟩⟩) (fun D nD i acc H4 hi2 h => ?_) (fun SA nSA acc H4 h => ?_)
    · obtain ⟨ls, rfl, lls, _, e4, hD4, hs4⟩ := h
      obtain ⟨qa, hqa⟩ : ∃ qa, rs[i]? = some qa := ⟨_, List.getElem?_eq_getElem (by omega)⟩
      have e24 := e2.trans e4
      have hrow := e24 _ _ (h4 i qa hqa)
      have hCA4 := e4 _ _ hCA
      have lrow := gls_len ok hi2
      refine ⟨rfl, ?_⟩
      refine ⟨iv c, .int (c.getD i 0 : Nat), .inl (.inl (.inl hCA4)), atI_nat (by rw [List.getElem?_map, getD_some (show i < c.length by omega)]; rfl), ?_⟩
      dsimp only [tCons, tThen]
      refine lc_list (K := K) (a := qa) (xs := iv (gls R i)) (H1 := H4) (fun R' hR' => ⟨rs.map V.ref, .ref qa, .inl (.inl (.inl (e24 _ _ h2))), atI_nat (by rw [List.getElem?_map, hqa]; rfl), hR'⟩) (.inl (.inl hrow))
        (fun B pre acc H5 => H4 B = none ∧ H5 = upd H4 B (.lst acc) ∧ ∃ gs rest, gls R i = gs ++ rest ∧ pre = iv gs ∧ acc = iv (gs.map fun g => c.getD g 0))
        (fun B pre acc H5 h => by obtain ⟨n, rfl, _⟩ := h; exact .inl (.inl (same_upd n _ _ hrow))) (fun B nB => ⟨nB, rfl, [], gls R i, rfl, rfl, rfl⟩) (fun B nB pre acc x suf H5 ex h => ?_) (fun B nB acc H5 h => ?_)
      · obtain ⟨_, rfl, gs, rest, eg, rfl, rfl⟩ := h
        have er : iv rest = x :: suf := by
          have e7 : iv gs ++ iv rest = iv gs ++ x :: suf := by rw [← ex, eg, iv_app]
          exact List.append_cancel_left e7
        obtain ⟨g, rest', rfl, rfl, rfl⟩ := List.map_eq_cons_iff.mp er
        have gl : g < R.length := gls_lt ok (p := i) (by rw [eg]; simp)
        have lg : gs.length ≤ m := by
          have := congrArg List.length eg
          rw [List.length_append, lrow] at this
          omega
        refine ⟨rfl, iv c, .int (c.getD g 0 : Nat), .inl (.inl (.inl (same_upd nB _ _ hCA4))), atI_nat (by rw [List.getElem?_map, getD_some (show g < c.length by omega)]; rfl), ?_⟩
        exact ⟨_, upd_same, by rw [List.length_map, List.length_map]; omega, _, nB, upd_upd, gs ++ [g], rest', by rw [eg]; simp, by rw [iv_app]; rfl, by rw [List.map_append, iv_app]; rfl⟩
      · obtain ⟨_, rfl, gs, rest, eg, ep, rfl⟩ := h
        obtain rfl := iv_inj ep
        have e5 : Same H4 (upd H4 B (.lst (iv ((gls R i).map fun g => c.getD g 0)))) := same_upd nB
        refine .inl ⟨B, _, rfl, .inl (.inl upd_same), fun T nT => ?_⟩
        have e6 := e5.trans (same_upd (o := .tup (iv ((gls R i).map fun g => c.getD g 0))) nT)
        have hT := upd_same (H := upd H4 B (.lst (iv ((gls R i).map fun g => c.getD g 0)))) (a := T) (o := .tup (iv ((gls R i).map fun g => c.getD g 0)))
        generalize upd (upd H4 B (.lst (iv ((gls R i).map fun g => c.getD g 0)))) T (.tup (iv ((gls R i).map fun g => c.getD g 0))) = H6 at e6 hT
        refine ⟨by show 2 ≤ sizeLine; omega, fun Z nZ => ?_⟩
        have e7 : Same H6 (upd H6 Z (.tup [.int (c.getD i 0 : Nat), .ref T])) := same_upd nZ
        have hZ := upd_same (H := H6) (a := Z) (o := .tup [.int (c.getD i 0 : Nat), .ref T])
        have hT7 := e7 _ _ hT
        have e8 := e6.trans e7
        generalize upd H6 Z (.tup [.int (c.getD i 0 : Nat), .ref T]) = H7 at e7 hZ hT7 e8
        have hD7 := e8 _ _ hD4
        have nDt : ∀ vs, H7 D ≠ some (.tup vs) := fun vs z => by rw [hD7] at z; cases z
        refine ⟨_, hD7, by rw [List.length_map]; omega, _, ls ++ [Z], by rw [List.map_append], by rw [List.length_append, lls]; rfl, hi2, same_upd2 (e4.trans e8) nD, by rw [upd_same, List.map_append]; rfl, ?_⟩
        refine Sgs.put ⟨by rw [List.length_append]; show ls.length + 1 ≤ _; omega, fun j t ht => ?_⟩ nDt
        rcases Nat.lt_or_ge j ls.length with hl | hl
        · rw [List.getElem?_append_left hl] at ht
          exact (hs4.2 j t ht).ext e8
        · rw [List.getElem?_append_right hl] at ht
          have e9 : j - ls.length = 0 := by
            have := (List.getElem?_eq_some_iff.mp ht).1
            simp at this; omega
          rw [e9] at ht
          have : Z = t := by simpa using ht
          subst this
          have : j = i := by omega
          subst this
          exact ⟨T, hZ, hT7⟩
    · obtain ⟨ls, rfl, lls, _, e4, hSA, hs4⟩ := h
      have hCA4 := e4 _ _ hCA
      have e24 := e2.trans e4
      have sat : ∀ j t, ls[j]? = some t → SgAt H4 (sg R c j) t := hs4.2
      have lsg := sgs_len (R := R) (c := c)
      intro N nN
      have e5 : Same H4 (upd H4 N (ND P w N [])) := same_upd nN
      refine for_list (K := K) (a := SA) (xs := ls.map V.ref) (H1 := upd H4 N (ND P w N [])) (by exact fun _ h => h) (.inl (.inl (e5 _ _ hSA)))
        (fun pre σ H6 => ∃ (j : Nat) (xs : Nds) (y6 : Option V), pre = (ls.take j).map V.ref ∧ j ≤ ls.length ∧ Same H4 H6 ∧ H6 N = some (ND P w N xs) ∧ NdOk H6 xs (ddS ((sgs R c).take j)) ∧
          σ = [some (.ref r), some (.ref kk), some (.ref CA), some (.int (cnt c : Nat)), some (.ref SA), some (.ref N), y6, y7, y8, y9])
        (fun pre σ H6 h => by obtain ⟨_, _, _, _, _, e, _⟩ := h; exact .inl (.inl (e _ _ hSA))) ⟨0, [], y6, rfl, Nat.zero_le _, e5, upd_same, ⟨rfl, fun j x z => nomatch z⟩, rfl⟩ (fun pre x suf σ H6 ex h => ?_) (fun σ H6 h => ?_)
      · obtain ⟨j, xs, y6, rfl, hj, e6, hN, nd6, rfl⟩ := h
        have lj : ((ls.take j).map V.ref).length = j := by rw [List.length_map, List.length_take]; omega
        have hj2 : j < ls.length := by
          have := congrArg List.length ex
          rw [List.length_append, lj, List.length_map, List.length_cons] at this
          omega
        have hx : (ls.map V.ref)[j]? = some x := by rw [ex, List.getElem?_append_right (by omega), lj, Nat.sub_self]; rfl
        rw [List.getElem?_map] at hx
        obtain ⟨t, ht, rfl⟩ := Option.map_eq_some_iff.mp hx
        have st := (sat j t ht).ext e6
        have et : (sgs R c).take (j + 1) = (sgs R c).take j ++ [sg R c j] := by rw [List.take_add_one, sgs_at (by omega)]; rfl
        have ea := ddS_app ((sgs R c).take j) (sg R c j)
        rw [← et] at ea
        have lx := nd6.len
        have lx2 : (ddS ((sgs R c).take j)).length ≤ j := by
          have := List.Nodup.length_le_of_subset (ddS_nd (l := (sgs R c).take j)) (fun x hx => ddS_mem.mp hx)
          rw [List.length_take] at this; omega
        refine ⟨N, xs, rfl, hN, nd6.all, xs, hN, nd6.all, t, sg R c j, xs.length, rfl, rfl, hN, nd6.all, st, by omega, fun v hv => ?_, fun hv => ?_⟩
        · have hm : sg R c j ∈ ddS ((sgs R c).take j) := by
            rw [← nd6.keys]
            exact Classical.byContradiction fun z => by rw [lookN_none.mpr z] at hv; cases hv
          have eb : ddS ((sgs R c).take (j + 1)) = ddS ((sgs R c).take j) := by rw [ea, addS, if_pos hm]
          refine ⟨j + 1, xs, _, ?_, hj2, e6, hN, by rw [eb]; exact nd6, rfl⟩
          rw [List.take_add_one, ht, List.map_append]; rfl
        · have hm : sg R c j ∉ ddS ((sgs R c).take j) := by rw [← nd6.keys]; exact lookN_none.mp hv
          have eb : ddS ((sgs R c).take (j + 1)) = ddS ((sgs R c).take j) ++ [sg R c j] := by rw [ea, addS, if_neg hm]
          have nNt : ∀ vs, H6 N ≠ some (.tup vs) := fun vs z => by rw [hN] at z; cases z
          refine ⟨j + 1, xs ++ [(sg R c j, t, xs.length)], _, ?_, hj2, same_upd2 e6 nN, upd_same, ?_, rfl⟩
          · rw [List.take_add_one, ht, List.map_append]; rfl
          · rw [eb]
            have n2 := nd6.put (Z := N) (o := ND P w N (xs ++ [(sg R c j, t, xs.length)])) nNt
            have st2 := st.put (Z := N) (o := ND P w N (xs ++ [(sg R c j, t, xs.length)])) nNt
            refine ⟨by rw [List.length_append, List.length_append, lx]; rfl, fun i y hy => ?_⟩
            rcases Nat.lt_or_ge i xs.length with hl | hl
            · rw [List.getElem?_append_left hl] at hy
              rw [List.getElem?_append_left (by omega)]
              exact n2.at_ i y hy
            · rw [List.getElem?_append_right hl] at hy
              have e9 : i - xs.length = 0 := by
                have := (List.getElem?_eq_some_iff.mp hy).1
                simp at this; omega
              rw [e9] at hy
              have : (sg R c j, t, xs.length) = y := by simpa using hy
              subst this
              rw [List.getElem?_append_right (by omega), show i - (ddS ((sgs R c).take j)).length = 0 by omega]
              exact ⟨rfl, by show xs.length = i; omega, st2⟩
      · obtain ⟨j, xs, y6, ej, hj, e6, hN, nd6, rfl⟩ := h
        have lj : j = ls.length := by
          have := congrArg List.length ej
          rw [List.length_map, List.length_map, List.length_take] at this
          omega
        have eall : (sgs R c).take j = sgs R c := List.take_of_length_le (by omega)
        rw [eall] at nd6
        have hSA6 := e6 _ _ hSA
        dsimp only [tSeq, tAsg, gName]
        refine lc_list (K := K) (a := SA) (xs := ls.map V.ref) (H1 := H6) (by exact fun _ h => h) (.inl (.inl hSA6))
          (fun B pre acc H7 => H6 B = none ∧ H7 = upd H6 B (.lst acc) ∧ ∃ j, j ≤ ls.length ∧ pre = (ls.take j).map V.ref ∧ acc = iv (((sgs R c).take j).map fun s => (ddS (sgs R c)).idxOf s))
          (fun B pre acc H7 h => by obtain ⟨n, rfl, _⟩ := h; exact .inl (.inl (same_upd n _ _ hSA6))) (fun B nB => ⟨nB, rfl, 0, Nat.zero_le _, rfl, rfl⟩) (fun B nB pre acc x suf H7 ex h => ?_) (fun B nB acc H7 h => ?_)
        · obtain ⟨_, rfl, i, hi2, rfl, rfl⟩ := h
          have li : ((ls.take i).map V.ref).length = i := by rw [List.length_map, List.length_take]; omega
          have hi3 : i < ls.length := by
            have := congrArg List.length ex
            rw [List.length_append, li, List.length_map, List.length_cons] at this
            omega
          have hx : (ls.map V.ref)[i]? = some x := by rw [ex, List.getElem?_append_right (by omega), li, Nat.sub_self]; rfl
          rw [List.getElem?_map] at hx
          obtain ⟨t, ht, rfl⟩ := Option.map_eq_some_iff.mp hx
          have e7 : Same H6 (upd H6 B (.lst (iv (((sgs R c).take i).map fun s => (ddS (sgs R c)).idxOf s)))) := same_upd nB
          have hin : sg R c i ∈ ddS (sgs R c) := ddS_mem.mpr (sg_mem (by omega))
          have n7 := nd6.ext e7
          have et : (sgs R c).take (i + 1) = (sgs R c).take i ++ [sg R c i] := by rw [List.take_add_one, sgs_at (by omega)]; rfl
          refine ⟨rfl, N, t, xs, sg R c i, _, rfl, rfl, e7 _ _ hN, n7.all, ((sat i t ht).ext e6).ext e7, n7.look hin, ?_⟩
          refine ⟨_, upd_same, by rw [List.length_map, List.length_map, List.length_take]; omega, _, nB, upd_upd, i + 1, hi3, ?_, ?_⟩
          · rw [List.take_add_one, ht, List.map_append]; rfl
          · rw [et, List.map_append, iv_app]; rfl
        · obtain ⟨_, rfl, i, hi2, ei, rfl⟩ := h
          have li : i = ls.length := by
            have := congrArg List.length ei
            rw [List.length_map, List.length_map, List.length_take] at this
            omega
          have ei2 : (sgs R c).take i = sgs R c := List.take_of_length_le (by omega)
          rw [ei2]
          have nBH : H B = none := Same.free (e24.trans e6) nB
          exact ⟨R.length + 1 - cnt c, by omega, cnt c, nxt R c, B, _, _, _, _, _, _, Nat.le_refl _, by omega, rf.nxt ok, .inr ⟨c, rfl, rf, rfl⟩, same_upd2 (e24.trans e6) nBH, nBH, upd_same, rfl⟩
end
end LK

/-! least_of, least -/
namespace LK
open PySem PySem.Spec PyProof.Rows L2 LamX ClX
open scoped List
theorem uvG {i : Nat} {σ : L2.St} {H : Hp} {Q : VK} {v : V} (h : σ[i]? = some (some v)) (q : Q v H) : uVar i σ H Q := by unfold uVar; rw [h]; exact q
theorem ClsN.nums {m : Nat} {R : Rows} {K : List Bool} {c : List Nat} (h : ClsN m R K c) : Num R c (cnt c) := by
  obtain ⟨k, hk, h1, h2⟩ := h.num
  have e : cnt c = k := by
    refine Nat.le_antisymm ?_ ?_
    · refine len_le_of_lt (nd_adds List.nodup_nil) fun x hx => ?_
      obtain ⟨p, hp, rfl⟩ := mem_getD (adds_nil_mem.mp hx)
      exact h1 p (by rw [← h.len]; exact hp)
    · have := List.Nodup.length_le_of_subset (l₁ := List.range k) (l₂ := adds [] c) List.nodup_range fun x hx => by
        obtain ⟨p, hp, e⟩ := h2 x (List.mem_range.mp hx)
        exact adds_nil_mem.mpr (e ▸ getD_in (by rw [h.len]; exact hp))
      rwa [List.length_range] at this
  rw [e]
  exact ⟨h.len, hk, h1, h2⟩
theorem idx_first {v : Nat} : ∀ (c : List Nat) (i : Nat), c[i]? = some v → v ∉ c.take i → c.idxOf v = i
  | [], i, h, _ => by simp at h
  | x :: c, 0, h, _ => by simp at h; subst h; simp
  | x :: c, i + 1, h, n => by
    rw [List.take_succ_cons, List.mem_cons, not_or] at n
    have ih := idx_first c i (by simpa using h) n.2
    rw [List.idxOf_cons]
    have : (x == v) = false := by simpa using fun z => n.1 z.symm
    rw [this, ih]; rfl
/-- each class with its first place, as far as i -/
def fstP (c : List Nat) (i : Nat) : List (Nat × V) := (adds [] (c.take i)).map fun v => (v, V.int (c.idxOf v : Nat))
theorem fstP_keys (c : List Nat) (i : Nat) : (fstP c i).map (·.1) = adds [] (c.take i) := by
  unfold fstP; rw [List.map_map]; exact List.map_id' _
theorem fstP_len (c : List Nat) (i : Nat) : (kmp (fstP c i)).length = (adds [] (c.take i)).length := by rw [List.length_map, fstP, List.length_map]
theorem fstP_look {c : List Nat} {i v : Nat} (h : v ∈ adds [] (c.take i)) : (fstP c i).lookup v = some (V.int (c.idxOf v : Nat)) := by
  unfold fstP
  generalize adds [] (c.take i) = l at h
  induction l with
  | nil => cases h
  | cons x l ih =>
    rw [List.map_cons]
    by_cases e : v = x
    · subst e; rw [List.lookup_cons_self]
    · rw [List.lookup_cons]
      have : (v == x) = false := by simpa using e
      rw [this]
      exact ih ((List.mem_cons.mp h).resolve_left e)
theorem fstP_all {c : List Nat} (v : Nat) (h : v ∈ c) : (fstP c c.length).lookup v = some (V.int (c.idxOf v : Nat)) := fstP_look (by rw [List.take_length]; exact adds_nil_mem.mpr h)
section
variable {P : Program} {w : World} {K : PySem.W.Frag} {mg : Str → Option Value} {base : Heap} {C : Addr}
abbrev nLO : List Str := ["letters", "rows", "kinds", "start", "classes", "firsts", "place", "number", "made", "goal"]
theorem scLeastOf : FnScope nLO ["letters", "rows", "kinds", "start"] (defScope sLeastOf) := ⟨rfl, rfl, rfl, by decide +kernel, rfl, by decide +kernel, by decide +kernel⟩
abbrev scL1 : Scope := { kind := .function, names := [(".0", .local), ("number", .local), ("classes", .free), ("firsts", .free), ("rows", .free)], isGenerator := false, isCoroutine := false }
def spLeastOf (C : Addr) : Sp := fun vs H Q _ => ∃ (r kk : Addr) (s : Nat) (S : List Nat) (R : Rows) (Kd : List Bool), vs = [.str (T S), .ref r, .ref kk, .int s] ∧ RowsL H r R ∧ H kk = some (.lst (Kd.map V.bl)) ∧ ShOk S R Kd ∧ s < R.length ∧
  ∀ H' a A KA, Same H H' → H a = none → Mach C H' a S A KA → LeastOf S.length R Kd s A KA → Q (.ref a) H'
theorem ok_leastOf {f CM : Addr} {mc u : Value} {fd : FuncData} {k : Nat} (F : Fun K "least_of" "least_of" sLeastOf f fd) (M : Mx mg) (HAl : Has P w K mg base k "alike_classes" ["rows", "kinds"] spAlike) (HN : Has P w K mg base k "_numbered_from" ["letters", "rows", "kinds", "start"] (spNumFrom K C))
    (gM : mg "Machine" = some (.ref CM)) (cr : CRead K CM mc) (cv : CVal K CM mc "MOST_PLACES" (.int 40) u) : FnG P w K mg base CX0 (k + 1) f fd ["letters", "rows", "kinds", "start"] (spLeastOf C) := by
  refine okG F scLeastOf (fun vs H Q E h => ?_) (fun cdv A hA outer s H vs Q E hr h => ?_)
  · obtain ⟨r, kk, s0, S, R, Kd, rfl, _⟩ := h; rfl
  · obtain ⟨r, kk, s0, S, R, Kd, rfl, hRL, hk, ok, hs, q⟩ := h
    obtain ⟨rs, h2, h3, h4⟩ := id hRL
    have nd := scLeastOf.nd
    have sl := sizeLine_eq
    refine ⟨_, (pss_cons (ps_set (i := 4) nd rfl (.inr rfl) (pe_callH HAl hA hr (by rfl) (pa_cons (uv 1) (pa_cons (uv 2) pa_nil))))
      (pss_cons (ps_set (i := 5) nd rfl (.inr rfl) pe_dnewK)
      (pss_cons (ps_for PassesOwn.never rfl (pi_enumB (by rfl) M.enumerate (pa_cons (uv 4) pa_nil)) (pg_tup rfl (pgs_cons (pg_name (i := 6) nd rfl (.inl rfl)) (pgs_cons (pg_name (i := 7) nd rfl (.inl rfl)) pgs_nil)))
        (pss_one (ps_expr (pe_dsetd (uv 5) (uv 7) (uv 6) ⟨rfl, rfl, rfl, rfl⟩))))
      (pss_cons (ps_ifU (pt_cu o_gt (pe_callB c_len (by rfl) M.len b_len (pa_cons (uv 5) pa_nil)) (pe_cval (pe_glob (v := .ref CM) (by rfl) gM rfl))) (pss_one ps_never) pss_nil)
      (pss_cons (ps_setLc (i := 8) (own := [("number", 7)]) (g := gName 7) (by rfl) nd rfl rfl (sw_true rfl rfl rfl (by decide +kernel)) (pi_range1 (by rfl) M.range (pa_cons (pe_callB c_len (by rfl) M.len b_len (pa_cons (uv 5) pa_nil)) pa_nil))
          (blkOk_by (N := nLO) (sc := defScope sLeastOf) (by decide +kernel))
          (fun _ _ _ _ _ => pg_name (i := 7) nd rfl (Or.inl rfl)) (fun _ _ _ _ _ => pts_nil)
          (fun _ _ _ _ _ => (pe_lc (own := [("goal", 9)]) (g := gName 9) (tt := tYes) rfl nd (pi_listK (K := K) rfl (pe_ixK (K := K) rfl (uv 1) (pe_dget (Room.u1 hr) (uv 5) (uv 7) (fun _ _ => rfl)))) (blkOk_in (N := nLO) (sc := scL1) (by decide +kernel))
          (fun _ _ _ _ _ => pg_name (i := 9) nd rfl (Or.inl rfl)) (fun _ _ _ _ _ => pts_nil)
          (fun _ _ _ _ _ => (pe_ixK (K := K) rfl (uv 4) (uv 9))))))
      (pss_one (ps_ret (pe_callH HN hA hr (by rfl) (pa_cons (uv 0) (pa_cons (uv 8) (pa_cons (pe_lc (own := [("number", 7)]) (g := gName 7) (tt := tYes) rfl nd (pi_range1 (by rfl) M.range (pa_cons (pe_callB c_len (by rfl) M.len b_len (pa_cons (uv 5) pa_nil)) pa_nil)) (blkOk_by (N := nLO) (sc := defScope sLeastOf) (by decide +kernel))
          (fun _ _ _ _ _ => pg_name (i := 7) nd rfl (Or.inl rfl)) (fun _ _ _ _ _ => pts_nil)
          (fun _ _ _ _ _ => (pe_ixK (K := K) rfl (uv 2) (pe_dget (Room.u1 hr) (uv 5) (uv 7) (fun _ _ => rfl))))) (pa_cons (pe_ixK (K := K) rfl (uv 4) (uv 3)) pa_nil)))))))))))), ?_⟩
    have lo := ok.lo
    have hi := ok.hi
    have l3 := ok.let_.hi
    refine ⟨r, kk, S.length, R, Kd, rfl, hRL, hk, ok.rows, lo, by omega, ok.kinds, by omega, fun H1 CA c e1 nCA hCA cls => ?_⟩
    have num := cls.nums
    have lc := cls.len
    have lcnt := num.le
    intro D nD
    have eD : Same H1 (upd H1 D (.dK (kmp (fstP c 0)))) := same_upd nD
    have nDH : H D = none := Same.free e1 nD
    dsimp only [tSeq, tAsg, gName]
    refine for_enB (K := K) (tp := false) (a := CA) (xs := iv c) (H1 := upd H1 D (.dK [])) (by exact fun _ h => h) (.inl (.inl (eD _ _ hCA))) (fun i σ H2 => ∃ y6 y7 : Option V, Same H1 H2 ∧ H2 D = some (.dK (kmp (fstP c i))) ∧
        σ = [some (.str (T S)), some (.ref r), some (.ref kk), some (.int s0), some (.ref CA), some (.ref D), y6, y7, none, none])
      (fun i σ H2 h => by obtain ⟨_, _, e, _⟩ := h; exact .inl (.inl (e _ _ hCA))) ⟨none, none, eD, upd_same, rfl⟩ (fun i x p σ H2 hx h np => ?_) (fun σ H2 h => ?_)
    · obtain ⟨y6, y7, e2, hD2, rfl⟩ := h
      rw [List.getElem?_map] at hx
      obtain ⟨v, hv, rfl⟩ := Option.map_eq_some_iff.mp hx
      refine ⟨p, _, rfl, .inl (.inl upd_same), rfl, _, _, rfl, _, _, rfl, rfl, ?_⟩
      have e3 : Same H2 (upd H2 p (.tup [.int (i : Nat), .int (v : Nat)])) := same_upd np
      have hD3 := e3 _ _ hD2
      have e13 := e2.trans e3
      generalize upd H2 p (.tup [.int (i : Nat), .int (v : Nat)]) = H3 at e3 hD3 e13
      have et : c.take (i + 1) = c.take i ++ [v] := by rw [List.take_add_one, hv]; rfl
      have ea := adds_app (f := []) (gs := c.take i) (g := v)
      rw [← et] at ea
      have il : i < c.length := (List.getElem?_eq_some_iff.mp hv).1
      have la : (adds [] (c.take i)).length ≤ i := by
        have := cnt_len (c := c.take i)
        rw [List.length_take] at this
        have h9 : (adds [] (c.take i)).length ≤ min i c.length := this
        omega
      refine ⟨D, rfl, .inl ⟨_, .inl hD3⟩, kmp (fstP c i), kI v, hD3, rfl, by rw [fstP_len]; omega, fun u hu => ?_, fun hu => ?_⟩
      · rw [val_kmp] at hu
        have hm : v ∈ adds [] (c.take i) := Classical.byContradiction fun z => by
          rw [look_none.mpr (by rw [fstP_keys]; exact z)] at hu; cases hu
        have eb : fstP c (i + 1) = fstP c i := by unfold fstP; rw [ea, add1, if_pos hm]
        exact ⟨_, _, e13, by rw [eb]; exact hD3, rfl⟩
      · rw [val_kmp] at hu
        have hm : v ∉ adds [] (c.take i) := by rw [← fstP_keys]; exact look_none.mp hu
        have ix : c.idxOf v = i := idx_first c i hv fun z => hm (adds_nil_mem.mpr z)
        have eb : fstP c (i + 1) = fstP c i ++ [(v, V.int (i : Nat))] := by
          unfold fstP; rw [ea, add1, if_neg hm, List.map_append]
          show _ ++ [(v, V.int (c.idxOf v : Nat))] = _
          rw [ix]
        refine ⟨_, _, same_upd2 e13 nD, ?_, rfl⟩
        rw [put_kmp _ (by rw [fstP_keys]; exact hm), eb]; exact upd_same
    · obtain ⟨y6, y7, e2, hD2, rfl⟩ := h
      rw [show (iv c).length = c.length from List.length_map _] at hD2
      have lD : (kmp (fstP c c.length)).length = cnt c := by rw [fstP_len, List.take_length]; rfl
      have e12 := e1.trans e2
      have hCA2 := e2 _ _ hCA
      have dg : ∀ (H' : Hp) (v : Nat), H' D = some (.dK (kmp (fstP c c.length))) → v < cnt c → DGet H' D (.int v) (some (.int (c.idxOf v : Nat))) := fun H' v hd hv => by
        have := DGet.k (k := kI v) hd
        rw [val_kmp, fstP_all v (by
          obtain ⟨p, hp, e⟩ := num.all v hv
          exact e ▸ getD_in (by rw [lc]; exact hp))] at this
        exact this
      generalize kmp (fstP c c.length) = kvs at hD2 lD dg
      refine .inr ⟨kvs, hD2, ?_⟩
      refine ⟨CM, mc, .int 40, u, rfl, cr, cv, ?_⟩
      show Br (decide ((40 : Int) < (kvs.length : Nat))) _ _
      rw [decide_eq_false (by omega)]
      refine .no ?_
      dsimp only [tNext, tSeq, tAsg, gName]
      have fstlt : ∀ v, v < cnt c → c.idxOf v < R.length := fun v hv => (num.idx hv).1
      refine lc_rng (n := cnt c) (H1 := H2) (fun R' h => .inr ⟨kvs, hD2, by rw [lD]; exact h⟩) (by omega)
        (fun B i acc H4 => ∃ ls : List Addr, acc = ls.map V.ref ∧ ls.length = i ∧ i ≤ cnt c ∧ Same H2 H4 ∧ H4 B = some (.lst (ls.map V.ref)) ∧ ∀ j q, ls[j]? = some q → q ≠ B ∧ H4 q = some (.lst (iv (gls (qrows R c (cnt c)) j))))
        (fun B nB => ⟨[], rfl, rfl, Nat.zero_le _, same_upd nB, upd_same, fun j q z => nomatch z⟩) (fun B nB i acc H4 hi2 h => ?_) (fun B nB acc H4 h => ?_)
      · obtain ⟨ls, rfl, lls, _, e4, hB4, hls⟩ := h
        have pl := fstlt i hi2
        obtain ⟨qa, hqa⟩ : ∃ qa, rs[c.idxOf i]? = some qa := ⟨_, List.getElem?_eq_getElem (by omega)⟩
        have e14 := e12.trans e4
        have hrow := e14 _ _ (h4 _ qa hqa)
        have hCA4 := e4 _ _ hCA2
        have hD4 := e4 _ _ hD2
        have lrow := gls_len ok.rows pl
        refine ⟨rfl, ?_⟩
        refine lc_list (K := K) (a := qa) (xs := iv (gls R (c.idxOf i))) (H1 := H4) (fun R' hR' => ⟨D, _, rfl, dg H4 i hD4 hi2, rs.map V.ref, .ref qa, .inl (.inl (.inl (e14 _ _ h2))), atI_nat (by rw [List.getElem?_map, hqa]; rfl), hR'⟩) (.inl (.inl hrow))
          (fun B2 pre acc H5 => H4 B2 = none ∧ H5 = upd H4 B2 (.lst acc) ∧ ∃ gs rest, gls R (c.idxOf i) = gs ++ rest ∧ pre = iv gs ∧ acc = iv (gs.map fun g => c.getD g 0))
          (fun B2 pre acc H5 h => by obtain ⟨n, rfl, _⟩ := h; exact .inl (.inl (same_upd n _ _ hrow))) (fun B2 nB2 => ⟨nB2, rfl, [], _, rfl, rfl, rfl⟩) (fun B2 nB2 pre acc x suf H5 ex h => ?_) (fun B2 nB2 acc H5 h => ?_)
        · obtain ⟨_, rfl, gs, rest, eg, rfl, rfl⟩ := h
          have er : iv rest = x :: suf := by
            have e7 : iv gs ++ iv rest = iv gs ++ x :: suf := by rw [← ex, eg, iv_app]
            exact List.append_cancel_left e7
          obtain ⟨g, rest', rfl, rfl, rfl⟩ := List.map_eq_cons_iff.mp er
          have gl : g < R.length := gls_lt ok.rows (p := c.idxOf i) (by rw [eg]; simp)
          have lg : gs.length ≤ S.length := by
            have := congrArg List.length eg
            rw [List.length_append, lrow] at this
            omega
          refine ⟨rfl, iv c, .int (c.getD g 0 : Nat), .inl (.inl (.inl (same_upd nB2 _ _ hCA4))), atI_nat (by rw [List.getElem?_map, getD_some (show g < c.length by omega)]; rfl), ?_⟩
          exact ⟨_, upd_same, by rw [List.length_map, List.length_map]; omega, _, nB2, upd_upd, gs ++ [g], rest', by rw [eg]; simp, by rw [iv_app]; rfl, by rw [List.map_append, iv_app]; rfl⟩
        · obtain ⟨_, rfl, gs, rest, eg, ep, rfl⟩ := h
          obtain rfl := iv_inj ep
          have e5 : Same H4 (upd H4 B2 (.lst (iv ((gls R (c.idxOf i)).map fun g => c.getD g 0)))) := same_upd nB2
          have hB5 := e5 _ _ hB4
          have nBB2 : B ≠ B2 := ne_of_none hB4 nB2
          refine ⟨_, hB5, by rw [List.length_map]; omega, _, ls ++ [B2], by rw [List.map_append], by rw [List.length_append, lls]; rfl, hi2, same_upd2 (e4.trans e5) nB, by rw [upd_same, List.map_append]; rfl, fun j t ht => ?_⟩
          rcases Nat.lt_or_ge j ls.length with hl | hl
          · rw [List.getElem?_append_left hl] at ht
            obtain ⟨a1, a2⟩ := hls j t ht
            exact ⟨a1, by rw [upd_ne a1]; exact e5 _ _ a2⟩
          · rw [List.getElem?_append_right hl] at ht
            have e9 : j - ls.length = 0 := by
              have := (List.getElem?_eq_some_iff.mp ht).1
              simp at this; omega
            rw [e9] at ht
            have : B2 = t := by simpa using ht
            subst this
            have : j = i := by omega
            subst this
            rw [qrows_at hi2]
            exact ⟨nBB2.symm, by rw [upd_ne nBB2.symm]; exact upd_same⟩
      · obtain ⟨ls, rfl, lls, _, e4, hB4, hls⟩ := h
        have hD4 := e4 _ _ hD2
        have hk4 := (e12.trans e4) _ _ hk
        have hCA4 := e4 _ _ hCA2
        dsimp only [tRet, uCall, tCons]
        refine uvG rfl (uvG rfl ?_)
        refine lc_rng (n := cnt c) (H1 := H4) (fun R' h => .inr ⟨kvs, hD4, by rw [lD]; exact h⟩) (by omega)
          (fun B2 i acc H5 => H4 B2 = none ∧ i ≤ cnt c ∧ H5 = upd H4 B2 (.lst acc) ∧ acc = ((qkinds Kd c (cnt c)).take i).map V.bl)
          (fun B2 nB2 => ⟨nB2, Nat.zero_le _, rfl, rfl⟩) (fun B2 nB2 i acc H5 hi2 h => ?_) (fun B2 nB2 acc H5 h => ?_)
        · obtain ⟨_, _, rfl, rfl⟩ := h
          have e5 : Same H4 (upd H4 B2 (.lst (((qkinds Kd c (cnt c)).take i).map V.bl))) := same_upd nB2
          have pl := fstlt i hi2
          refine ⟨rfl, D, _, rfl, dg _ i (e5 _ _ hD4) hi2, Kd.map V.bl, .bl (kd Kd (c.idxOf i)), .inl (.inl (.inl (e5 _ _ hk4))), atI_nat (by rw [List.getElem?_map, kd_some ok.kinds pl]; rfl), ?_⟩
          refine ⟨_, upd_same, by rw [List.length_map, List.length_take]; omega, _, nB2, hi2, upd_upd, ?_⟩
          have hq : (qkinds Kd c (cnt c))[i]? = some (kd Kd (c.idxOf i)) := by rw [qkinds, List.getElem?_map, fsts_at hi2]; rfl
          rw [List.take_add_one, hq, List.map_append]; rfl
        · obtain ⟨_, _, rfl, rfl⟩ := h
          have lq : (qkinds Kd c (cnt c)).length = cnt c := by rw [qkinds, List.length_map, fsts_len]
          rw [List.take_of_length_le (by omega)]
          have e5 : Same H4 (upd H4 B2 (.lst ((qkinds Kd c (cnt c)).map V.bl))) := same_upd nB2
          have hB25 := upd_same (H := H4) (a := B2) (o := .lst ((qkinds Kd c (cnt c)).map V.bl))
          generalize upd H4 B2 (.lst ((qkinds Kd c (cnt c)).map V.bl)) = H5 at e5 hB25
          refine ⟨iv c, .int (c.getD s0 0 : Nat), .inl (.inl (.inl (e5 _ _ hCA4))), atI_nat (by rw [List.getElem?_map, getD_some (show s0 < c.length by omega)]; rfl), ?_⟩
          have qok := qrows_ok ok.rows num
          have c1 : 1 ≤ cnt c := cnt_pos (by omega)
          refine ⟨B, B2, c.getD s0 0, S, qrows R c (cnt c), qkinds Kd c (cnt c), rfl, ⟨ok.let_, qok, by rw [qrows_len]; exact c1, by rw [qrows_len]; omega, by rw [qrows_len]; exact lq⟩, by rw [qrows_len]; exact num.lt s0 hs,
            ⟨false, ls, .inl (.inl (e5 _ _ hB4)), by rw [qrows_len]; exact lls, fun i p hp => ⟨false, .inl (.inl (e5 _ _ (hls i p hp).2))⟩⟩, ⟨false, .inl (.inl hB25)⟩, fun H6 a e6 na mach => ?_⟩
          have e46 := (e12.trans e4).trans e5
          exact q H6 a _ _ (e46.trans e6) (Same.free e46 na) mach.m (least_of_cls ok.rows num cls hs)
theorem scLeast : FnScope ["self"] ["self"] (defScope sLeast) := ⟨rfl, rfl, rfl, by decide +kernel, rfl, by decide +kernel, by decide +kernel⟩
def spLeast (C : Addr) : Sp := fun vs H Q _ => ∃ (a : Addr) (S : List Nat) (R : Rows) (Kd : List Bool), vs = [.ref a] ∧ Mach C H a S R Kd ∧ ShOk S R Kd ∧ ∀ H' b A KA, Same H H' → H b = none → Mach C H' b S A KA → LeastOf S.length R Kd 0 A KA → Q (.ref b) H'
theorem ok_least {f : Addr} {fd : FuncData} {k : Nat} (F : Fun K "least" "Machine.least" sLeast f fd) (cM : ClsM K C) (HL : Has P w K mg base k "least_of" ["letters", "rows", "kinds", "start"] (spLeastOf C)) : FnG P w K mg base CX0 (k + 1) f fd ["self"] (spLeast C) := by
  refine okG F scLeast (fun vs H Q E h => ?_) (fun cdv A hA outer s H vs Q E hr h => ?_)
  · obtain ⟨a, S, R, Kd, rfl, _⟩ := h; rfl
  · obtain ⟨a, S, R, Kd, rfl, mm, ok, q⟩ := h
    refine ⟨_, pss_one (ps_ret (pe_callH HL hA hr (by rfl) (pa_cons (pe_fldU (uv 0)) (pa_cons (pe_fldU (uv 0)) (pa_cons (pe_fldU (uv 0)) (pa_cons pe_int pa_nil)))))), ?_⟩
    obtain ⟨dx, r, kk, rs, h1, h2, h3, h4, h5⟩ := id mm
    exact ⟨C, dx, _, .str (T S), h1, cM.cls, cM.nL, rfl, C, dx, _, .ref r, h1, cM.cls, cM.nR, rfl, C, dx, _, .ref kk, h1, cM.cls, cM.nK, rfl, r, kk, 0, S, R, Kd, rfl, ⟨rs, h2, h3, h4⟩, h5, ok, by have := ok.lo; omega, q⟩
end
end LK

/-! operators of own instances: a & b, a &= b where the class has no __iand__ -/
namespace LK
open PySem PySem.Spec PySem.Calls PyProof.Rows L2 Builtin
/-- the class and object, nothing else -/
def mro2 (K : PySem.W.Frag) (C : Addr) : Bool := (PySem.W.clsIn K C).any fun cd => cd.mro == [.ref C, .type "object"]
section
variable {prog : Program} {w : World} {A : Around} {E : Value → Shared → Prop} {s : Shared} {K : PySem.W.Frag} {x C L f : Addr} {h₀ : Heap} {m : Str → Option Value} {ox : Obj} {od : Option Obj} {b : Value}
theorem no_iop {M : Model} {h : Heap} {nm : String} {add : Bool} {cd : ClassData} (X : K.In h) (hc : PySem.W.clsIn K C = some cd) (hm : cd.mro = [.ref C, .type "object"]) (h1 : PySem.W.findIn K (.ref C) (dunderI nm) = some none)
    (h2 : PySem.W.findIn K (.type "object") (dunderI nm) = some none) : PySem.W.Looks M h (fillsInplaceSlot (.ref C) nm add) false := by
  intro A Q E s k q
  unfold fillsInplaceSlot
  refine wpAny_bind ((PySem.W.looks_clsIn X hc).andThen (f := fun cd => pure cd.mro) .now A _ E s k ?_)
  rw [hm, List.anyM_cons]
  refine wpAny_bind (wpAny_bind (PySem.W.looks_findIn X h1 A _ E s k ?_))
  refine wpAny_pure ?_
  simp only [Bool.false_eq_true, if_false]
  rw [List.anyM_cons]
  refine wpAny_bind (wpAny_bind (PySem.W.looks_findIn X h2 A _ E s k ?_))
  refine wpAny_pure ?_
  simp only [Bool.false_eq_true, if_false]
  rw [List.anyM_nil]
  exact wpAny_pure q
theorem iop_K {op : Operator} {Q : Value → Shared → Prop} (F : Fr h₀ L s.heap m) (X₀ : K.In h₀) (I : PySem.W.InstAt s.heap x ox C od) (hb : PySem.W.Looks (model prog w) s.heap (typeOf b) (.ref C)) (hc : mro2 K C = true)
    (hi1 : PySem.W.findIn K (.ref C) (dunderI op.info.2) = some none) (hi2 : PySem.W.findIn K (.type "object") (dunderI op.info.2) = some none)
    (hs : PySem.W.findIn K (.ref C) (PySem.dunder op.info.2) = some (some (.ref f))) (hf : PySem.W.isFn K (.ref f) = true)
    (h : wpAny (model prog w) A (call (.ref f) [.ref x, b]) (PySem.W.CmpBack Q) E s) : wpAny (model prog w) A (inplaceOp op (.ref x) b) Q E s := by
  have X := X₀.keeps F.keep
  obtain ⟨cd, hcd, hm⟩ := PySem.W.any_some hc
  have hm : cd.mro = [.ref C, .type "object"] := beq_iff_eq.mp hm
  unfold inplaceOp
  refine wpAny_holding ?_
  refine wpAny_bind (I.type.here (wpAny_bind ((no_iop X hcd hm hi1 hi2).here ?_)))
  simp only [Bool.false_eq_true, if_false]
  refine wpAny_bind ?_
  unfold binaryOp1
  refine wpAny_bind (I.type.here (wpAny_bind (hb.here (wpAny_bind ((PySem.W.fills_K X hcd hm hs).here ?_)))))
  simp only [beq_self_eq_true, if_true]
  refine wpAny_bind (wpAny_pure ?_)
  simp only [Bool.and_false, Bool.false_eq_true, if_false, Bool.false_and]
  refine wpAny_bind (wpAny_pure ?_)
  simp only [Bool.false_eq_true, if_false]
  refine wpAny_bind (m := tryMethod (.ref x) _ b) ?_
  unfold tryMethod
  refine wpAny_bind (PySem.W.special_fn X I hs (beq_iff_eq.mp hf) (wpAny_mono h (fun v s' hv => ?_) fun _ _ e => e))
  cases v <;> first | exact hv.elim | exact wpAny_pure (wpAny_pure (wpAny_pure hv))
end
section
variable {X : Cx} {k : Nat} {C : Addr} {sp : Sp} {p : Str} {op : Operator}
/-- a & b and the like, both of the class at C; an instance comes back -/
def binI (C : Addr) (sp : Sp) : R2 := fun x y H Q => match x, y with
  | .ref a, .ref b => (∃ dx fs, H a = some (.ins C dx fs)) ∧ (∃ dx fs, H b = some (.ins C dx fs)) ∧ sp [.ref a, .ref b] H (fun v H' => ∃ c, v = .ref c ∧ Q (.ref c) H') E0
  | _, _ => False
theorem binI_run {m : Str} {pins : List (Addr × Obj)} {σ : L2.St} {H : Hp} {s : Shared} {a b : Addr} {Q : VK} (F : HasM X.prog X.w X.K X.mg X.base k C m [p] sp) (hA : X.A.guards = some []) (hr : Room k X.A) (I : Inv X pins σ H s) (q : sp [.ref a, .ref b] H (fun v H' => ∃ c, v = .ref c ∧ Q (.ref c) H') E0) :
    ∃ f, PySem.W.findIn X.K (.ref C) m = some (some (.ref f)) ∧ PySem.W.isFn X.K (.ref f) = true ∧ wpAny (model X.prog X.w) X.A (call (.ref f) [.ref a, .ref b]) (PySem.W.CmpBack (EP X pins σ Q)) X.xe s := by
  obtain ⟨f, fd, F, hm, hb, _⟩ := F.ex
  refine ⟨f, hm.at_, hm.fn, wpAny_mono (runG (us := [.ref a, .ref b]) (ws := [.ref a, .ref b]) (kw := []) (CX := CX0) (E := E0) F hA hr pass0 I (fun n => ?_) (vs := [.ref a, .ref b]) (.cons rfl (.cons rfl .nil)) q) ?_ fun _ _ z => z⟩
  · have z := hb s [.ref a, .ref b] I.kIn (by simpa using n)
    simpa using z
  · rintro r s' ⟨z, H', I', rz, c, rfl, q'⟩
    obtain rfl : r = Value.ref c := rz
    exact ⟨.ref c, H', I', rfl, q'⟩
theorem o_bin (F : HasM X.prog X.w X.K X.mg X.base k C (PySem.dunder op.info.2) [p] sp) (hc : PySem.W.selfFirst X.K C = true) (hA : X.A.guards = some []) (hr : Room k X.A) : OpR X (binaryOp op) (binI C sp) := by
  intro pins s σ H x y v u Q I rx ry h
  unfold binI at h
  split at h
  · rename_i a b
    obtain ⟨⟨dx, fs, ea⟩, ⟨dx2, fs2, eb⟩, q⟩ := h
    obtain rfl : v = Value.ref a := rx
    obtain rfl : u = Value.ref b := ry
    obtain ⟨ox, od, J⟩ := inst_at I ea
    obtain ⟨ox2, od2, J2⟩ := inst_at I eb
    obtain ⟨m', hF⟩ := I.fr
    obtain ⟨f, h1, h2, h3⟩ := binI_run F hA hr I q
    exact PySem.W.binop_K hF I.ok.mod.kin J J2.type hc h1 h2 h3
  · exact h.elim
theorem o_ibin (F : HasM X.prog X.w X.K X.mg X.base k C (PySem.dunder op.info.2) [p] sp) (hc : mro2 X.K C = true) (hi1 : PySem.W.findIn X.K (.ref C) (dunderI op.info.2) = some none) (hi2 : PySem.W.findIn X.K (.type "object") (dunderI op.info.2) = some none) (hA : X.A.guards = some []) (hr : Room k X.A) :
    OpR X (inplaceOp op) (binI C sp) := by
  intro pins s σ H x y v u Q I rx ry h
  unfold binI at h
  split at h
  · rename_i a b
    obtain ⟨⟨dx, fs, ea⟩, ⟨dx2, fs2, eb⟩, q⟩ := h
    obtain rfl : v = Value.ref a := rx
    obtain rfl : u = Value.ref b := ry
    obtain ⟨ox, od, J⟩ := inst_at I ea
    obtain ⟨ox2, od2, J2⟩ := inst_at I eb
    obtain ⟨m', hF⟩ := I.fr
    obtain ⟨f, h1, h2, h3⟩ := binI_run F hA hr I q
    exact iop_K hF I.ok.mod.kin J J2.type hc hi1 hi2 h1 h2 h3
  · exact h.elim
end
end LK

/-! for x in zip(list, list), x a name: the tuple stays with the name, so each step makes a new one -/
namespace LK
open PySem PySem.Spec PySem.Calls PyProof.Rows L2 Builtin
/-- the zip's record while its last tuple T is not let go -/
abbrev IsZipH (h : Heap) (z TI TO T : Addr) (b : Bool) : Prop :=
  h.get? z = some { cls := .type "zip", dict := none, data := .fields #[rawInt T, .bool b, .bool false, .ref TI, .ref TO], slots := #[] }
section
variable {prog : Program} {w : World} {A : Around} {E : Value → Shared → Prop} {s : Shared}
theorem wpAny_alive {M : Model} {a : Addr} {o : Obj} {Q : Option Obj → Shared → Prop} (h : s.heap.get? a = some o) (q : Q (some o) s) : wpAny M A (loadIfAlive a) Q E s := fun Γ p hp => by
  show Sem.wp M Γ (.loadIfAlive a .pure) _ _ p s
  rw [Sem.wp_loadIfAlive, h]
  exact q
theorem held_busy {z TI TO T : Addr} {b : Bool} {oT : Obj} {Q : Bool → Shared → Prop} (hz : IsZipH s.heap z TI TO T b) (hT : s.heap.get? T = some oT) (q : ∀ h', IsZipH h' z TI TO T true → Heap.SameBut z s.heap h' → Q false { s with heap := h' }) :
    wpAny (model prog w) A (Builtin.SmallTypes.ownedTupleIsFree (.ref z)) Q E s := by
  unfold Builtin.SmallTypes.ownedTupleIsFree
  refine wpAny_bind (wpAny_field hz rfl (x := rawInt T) rfl ?_)
  show wpAny _ _ (loadIfAlive ((T : Nat) : Int).toNat >>= _) _ _ s
  refine wpAny_bind (wpAny_alive (o := oT) (by simpa using hT) ?_)
  simp only [Option.isNone_some, Bool.false_eq_true, if_false]
  refine wpAny_bind (wpAny_field hz rfl (x := .bool b) rfl ?_)
  cases b with
  | true =>
    refine wpAny_bind (wpAny_pure ?_)
    exact wpAny_pure (q s.heap hz (.refl _ _))
  | false =>
    refine wpAny_bind (wpAny_setField_rec hz (by simp) fun h1 hz1 hs1 => ?_)
    exact wpAny_pure (q h1 hz1 hs1)
theorem zipH_item {z TI TO T i1 i2 l1 l2 : Addr} {k1 k2 : Nat} {xs ys : Array Value} {x y : Value} {b : Bool} {oT : Obj} {Q : Value → Shared → Prop} (D : ZipApart z TI TO i1 i2 l1 l2) (hz : IsZipH s.heap z TI TO T b) (hT : s.heap.get? T = some oT) (hTI : IsPair s.heap TI (.ref i1) (.ref i2))
    (h1 : s.heap.IsListIter i1 l1 k1) (h2 : s.heap.IsListIter i2 l2 k2) (hl1 : s.heap.IsList l1 xs) (hl2 : s.heap.IsList l2 ys) (hx : xs[k1]? = some x) (hy : ys[k2]? = some y)
    (hQ : ∀ h', IsZipH h' z TI TO T true → h'.IsListIter i1 l1 (k1 + 1) → h'.IsListIter i2 l2 (k2 + 1) → IsPair h' s.heap.objs.size x y → h'.objs.size = s.heap.objs.size + 1 →
      (∀ c o, c ≠ z → c ≠ i1 → c ≠ i2 → s.heap.get? c = some o → h'.get? c = some o) → Q (.ref s.heap.objs.size) { s with heap := h' }) :
    wpAny (model prog w) A (Builtin.«zip.__next__» ⟨[.ref z], []⟩) (fun fin s' => ∃ v, fin = .done (.ret v) ∧ Q v s') E s := by
  show wpAny _ _ (field (.ref z) 2 >>= _) _ _ _
  refine wpAny_bind (wpAny_field hz rfl (x := .bool false) rfl ?_)
  show wpAny _ _ (field (.ref z) 3 >>= _) _ _ _
  refine wpAny_bind (wpAny_field hz rfl (x := .ref TI) rfl ?_)
  refine wpAny_bind (wpAny_seqItems hTI rfl ?_)
  show wpAny _ _ (Builtin.SmallTypes.ownedTupleIsFree (.ref z) >>= _) _ _ _
  refine wpAny_bind (held_busy hz hT fun h0 hz0 hs0 => ?_)
  simp only [Bool.false_eq_true, if_false]
  rw [← Array.forIn_toList]
  refine wpAny_bind ?_
  simp only [List.forIn_cons, List.forIn_nil]
  refine wpAny_bind (wpAny_bind (wpAny_holding ?_))
  show wpAny _ _ (Builtin.SmallTypes.nextOf (.ref i1) >>= _) _ _ _
  refine wpAny_bind (wpAny_nextOf_list_item (h1.extBut hs0.extBut D.i1z) (hl1.extBut hs0.extBut D.l1z) hx fun h3 a3 hs3 => wpAny_pure (wpAny_pure ?_))
  refine wpAny_bind (wpAny_bind (wpAny_holding ?_))
  show wpAny _ _ (Builtin.SmallTypes.nextOf (.ref i2) >>= _) _ _ _
  refine wpAny_bind (wpAny_nextOf_list_item ((h2.extBut hs0.extBut D.i2z).extBut hs3.extBut D.i12.symm) ((hl2.extBut hs0.extBut D.l2z).extBut hs3.extBut D.l2i1) hy fun h4 a4 hs4 => wpAny_pure (wpAny_pure ?_))
  refine wpAny_pure ?_
  dsimp only
  refine wpAny_bind (wpAny_newTuple (hsz := by show 2 ≤ sizeLine; decide) ?_)
  have hsz : h4.objs.size = s.heap.objs.size := by rw [hs4.1, hs3.1, hs0.1]
  have z4 : IsZipH h4 z TI TO T true := hs4.extBut _ _ D.i2z.symm (hs3.extBut _ _ D.i1z.symm hz0)
  refine wpAny_pure ⟨_, rfl, ?_⟩
  have k4 : ∀ c o, c ≠ z → c ≠ i1 → c ≠ i2 → s.heap.get? c = some o → h4.get? c = some o := fun c o c1 c2 c3 e => hs4.extBut _ _ c3 (hs3.extBut _ _ c2 (hs0.extBut _ _ c1 e))
  have i4 : h4.IsListIter i1 l1 (k1 + 1) := a3.extBut hs4.extBut D.i12
  have up : ∀ c o, h4.get? c = some o → (h4.push { cls := .type "tuple", data := .seq #[x, y] }).get? c = some o := fun c o e => Heap.get?_push_of_some _ e
  have nw : IsPair (h4.push { cls := .type "tuple", data := .seq #[x, y] }) h4.objs.size x y := Heap.get?_push_size _ rfl
  have sz : (h4.push { cls := .type "tuple", data := .seq #[x, y] }).objs.size = h4.objs.size + 1 := Heap.size_push ..
  rw [hsz] at nw sz
  show Q (.ref h4.objs.size) _
  rw [hsz]
  exact hQ _ (up _ _ z4) (i4.at fun o e => up _ o e) (a4.at fun o e => up _ o e) nw sz fun c o c1 c2 c3 e => up _ _ (k4 c o c1 c2 c3 e)
theorem zipH_end {z TI TO T i1 i2 l1 l2 : Addr} {k1 k2 : Nat} {xs ys : Array Value} {b : Bool} {oT : Obj} {Q : Fin → Shared → Prop} (hh : A.handled = none) (D : ZipApart z TI TO i1 i2 l1 l2) (hz : IsZipH s.heap z TI TO T b) (hT : s.heap.get? T = some oT) (hTI : IsPair s.heap TI (.ref i1) (.ref i2))
    (h1 : s.heap.IsListIter i1 l1 k1) (h2 : s.heap.IsListIter i2 l2 k2) (hl1 : s.heap.IsList l1 xs) (hl2 : s.heap.IsList l2 ys) (hend : xs[k1]? = none ∨ ys[k2]? = none)
    (hE : ∀ h' e, (∀ c o, c ≠ z → c ≠ i1 → c ≠ i2 → s.heap.get? c = some o → h'.get? c = some o) → (∃ o, h'.get? e = some o ∧ o.cls = .type "StopIteration") → E (.ref e) { s with heap := h' }) :
    wpAny (model prog w) A (Builtin.«zip.__next__» ⟨[.ref z], []⟩) Q E s := by
  show wpAny _ _ (field (.ref z) 2 >>= _) _ _ _
  refine wpAny_bind (wpAny_field hz rfl (x := .bool false) rfl ?_)
  show wpAny _ _ (field (.ref z) 3 >>= _) _ _ _
  refine wpAny_bind (wpAny_field hz rfl (x := .ref TI) rfl ?_)
  refine wpAny_bind (wpAny_seqItems hTI rfl ?_)
  show wpAny _ _ (Builtin.SmallTypes.ownedTupleIsFree (.ref z) >>= _) _ _ _
  refine wpAny_bind (held_busy hz hT fun h0 hz0 hs0 => ?_)
  simp only [Bool.false_eq_true, if_false]
  rw [← Array.forIn_toList]
  refine wpAny_bind ?_
  simp only [List.forIn_cons, List.forIn_nil]
  refine wpAny_bind (wpAny_bind (wpAny_holding ?_))
  show wpAny _ _ (Builtin.SmallTypes.nextOf (.ref i1) >>= _) _ _ _
  cases hx : xs[k1]? with
  | none =>
    exact wpAny_bind (wpAny_nextOf_list_end hh (h1.extBut hs0.extBut D.i1z) (hl1.extBut hs0.extBut D.l1z) hx fun h2' e hs2 he => hE h2' e (fun c o c1 c2 _ x => hs2 _ _ c2 (hs0.extBut _ _ c1 x)) he)
  | some x =>
    have hy : ys[k2]? = none := by
      rcases hend with h | h
      · rw [hx] at h; cases h
      · exact h
    refine wpAny_bind (wpAny_nextOf_list_item (h1.extBut hs0.extBut D.i1z) (hl1.extBut hs0.extBut D.l1z) hx fun h3 a3 hs3 => wpAny_pure (wpAny_pure ?_))
    refine wpAny_bind (wpAny_bind (wpAny_holding ?_))
    show wpAny _ _ (Builtin.SmallTypes.nextOf (.ref i2) >>= _) _ _ _
    exact wpAny_bind (wpAny_nextOf_list_end hh ((h2.extBut hs0.extBut D.i2z).extBut hs3.extBut D.i12.symm) ((hl2.extBut hs0.extBut D.l2z).extBut hs3.extBut D.l2i1) hy fun h4 e hs4 he => hE h4 e (fun c o c1 c2 c3 x => hs4 _ _ c3 (hs3.extBut _ _ c2 (hs0.extBut _ _ c1 x))) he)
theorem pyNext_zipH_item {z TI TO T i1 i2 l1 l2 : Addr} {k1 k2 : Nat} {xs ys : Array Value} {x y : Value} {b : Bool} {oT : Obj} {Q : Option Value → Shared → Prop} (D : ZipApart z TI TO i1 i2 l1 l2) (hz : IsZipH s.heap z TI TO T b) (hT : s.heap.get? T = some oT) (hTI : IsPair s.heap TI (.ref i1) (.ref i2))
    (h1 : s.heap.IsListIter i1 l1 k1) (h2 : s.heap.IsListIter i2 l2 k2) (hl1 : s.heap.IsList l1 xs) (hl2 : s.heap.IsList l2 ys) (hx : xs[k1]? = some x) (hy : ys[k2]? = some y)
    (hQ : ∀ h', IsZipH h' z TI TO T true → h'.IsListIter i1 l1 (k1 + 1) → h'.IsListIter i2 l2 (k2 + 1) → IsPair h' s.heap.objs.size x y → h'.objs.size = s.heap.objs.size + 1 →
      (∀ c o, c ≠ z → c ≠ i1 → c ≠ i2 → s.heap.get? c = some o → h'.get? c = some o) → Q (some (.ref s.heap.objs.size)) { s with heap := h' }) : wpAny (model prog w) A (pyNext (.ref z)) Q E s := by
  have ty : s.TypeIs (.ref z) "zip" := ⟨_, hz, rfl⟩
  unfold pyNext
  exact wpAny_bind (wpAny_attempt (wpAny_callSpecial?_slot (name := Str.ofString "__next__") ty F.slot_zip_next (wpAny_call_entry F.slot_zip_next ty F.entry_zip_next
    (zipH_item D hz hT hTI h1 h2 hl1 hl2 hx hy fun h' a1 a3 a4 a5 a6 a7 => wpAny_pure (hQ h' a1 a3 a4 a5 a6 a7)) (F.args_zip_next_1 _))))
theorem pyNext_zipH_end {z TI TO T i1 i2 l1 l2 : Addr} {k1 k2 : Nat} {xs ys : Array Value} {b : Bool} {oT : Obj} {Q : Option Value → Shared → Prop} (hh : A.handled = none) (D : ZipApart z TI TO i1 i2 l1 l2) (hz : IsZipH s.heap z TI TO T b) (hT : s.heap.get? T = some oT) (hTI : IsPair s.heap TI (.ref i1) (.ref i2))
    (h1 : s.heap.IsListIter i1 l1 k1) (h2 : s.heap.IsListIter i2 l2 k2) (hl1 : s.heap.IsList l1 xs) (hl2 : s.heap.IsList l2 ys) (hend : xs[k1]? = none ∨ ys[k2]? = none)
    (hQ : ∀ h', (∀ c o, c ≠ z → c ≠ i1 → c ≠ i2 → s.heap.get? c = some o → h'.get? c = some o) → Q none { s with heap := h' }) : wpAny (model prog w) A (pyNext (.ref z)) Q E s := by
  have ty : s.TypeIs (.ref z) "zip" := ⟨_, hz, rfl⟩
  unfold pyNext
  refine wpAny_bind (wpAny_attempt (wpAny_callSpecial?_slot (name := Str.ofString "__next__") ty F.slot_zip_next (wpAny_call_entry F.slot_zip_next ty F.entry_zip_next
    (zipH_end hh D hz hT hTI h1 h2 hl1 hl2 hend fun h' e hk he => ?_) (F.args_zip_next_1 _))))
  obtain ⟨o, ho, hc⟩ := he
  refine wpAny_bind (wpAny_isInstance (T := "StopIteration") (b := true) ⟨o, ho, hc⟩ isSubtype_stop ?_)
  exact wpAny_pure (hQ _ hk)
end
end LK

/-! zip of two lists, each pair stays with a name: the record of the zip says which tuple it handed out last, and that one may be alive or not -/
namespace LK
open PySem PySem.Spec PySem.Calls PyProof.Rows L2 Builtin
abbrev IsZipR (h : Heap) (z TI TO : Addr) (f0 : Value) (b : Bool) : Prop :=
  h.get? z = some { cls := .type "zip", dict := none, data := .fields #[f0, .bool b, .bool false, .ref TI, .ref TO], slots := #[] }
def ZFree (h : Heap) (f0 : Value) : Prop := f0 = .none ∨ ∃ T : Addr, f0 = rawInt T ∧ h.get? T = none
section
variable {prog : Program} {w : World} {A : Around} {E : Value → Shared → Prop} {s : Shared}
theorem wpAny_dead {M : Model} {a : Addr} {Q : Option Obj → Shared → Prop} (h : s.heap.get? a = none) (q : Q none s) : wpAny M A (loadIfAlive a) Q E s := fun Γ p hp => by
  show Sem.wp M Γ (.loadIfAlive a .pure) _ _ p s
  rw [Sem.wp_loadIfAlive, h]
  exact q
theorem zip_free {z TI TO : Addr} {f0 : Value} {b : Bool} {Q : Bool → Shared → Prop} (hz : IsZipR s.heap z TI TO f0 b) (hf : ZFree s.heap f0) (q : Q true s) :
    wpAny (model prog w) A (Builtin.SmallTypes.ownedTupleIsFree (.ref z)) Q E s := by
  unfold Builtin.SmallTypes.ownedTupleIsFree
  rcases hf with rfl | ⟨T, rfl, hT⟩
  · exact wpAny_bind (wpAny_field hz rfl (x := .none) rfl (wpAny_pure q))
  · refine wpAny_bind (wpAny_field hz rfl (x := rawInt T) rfl ?_)
    show wpAny _ _ (loadIfAlive ((T : Nat) : Int).toNat >>= _) _ _ s
    refine wpAny_bind (wpAny_dead (by simpa using hT) ?_)
    exact wpAny_pure q
theorem zipR_item {z TI TO i1 i2 l1 l2 : Addr} {k1 k2 : Nat} {xs ys : Array Value} {x y a b : Value} {Q : Value → Shared → Prop} (D : ZipApart z TI TO i1 i2 l1 l2)
    {f0 : Value} {bb : Bool} (hz : IsZipR s.heap z TI TO f0 bb) (hfree : ZFree s.heap f0) (hTI : IsPair s.heap TI (.ref i1) (.ref i2)) (hTO : IsPair s.heap TO a b)
    (h1 : s.heap.IsListIter i1 l1 k1) (h2 : s.heap.IsListIter i2 l2 k2) (hl1 : s.heap.IsList l1 xs) (hl2 : s.heap.IsList l2 ys) (hx : xs[k1]? = some x) (hy : ys[k2]? = some y)
    (hQ : ∀ h', IsZipR h' z TI TO (rawInt s.heap.objs.size) false → IsPair h' TO x y → h'.IsListIter i1 l1 (k1 + 1) → h'.IsListIter i2 l2 (k2 + 1) → IsPair h' s.heap.objs.size x y → h'.objs.size = s.heap.objs.size + 1 →
      (∀ c o, c ≠ z → c ≠ TO → c ≠ i1 → c ≠ i2 → s.heap.get? c = some o → h'.get? c = some o) → Q (.ref s.heap.objs.size) { s with heap := h' }) :
    wpAny (model prog w) A (Builtin.«zip.__next__» ⟨[.ref z], []⟩) (fun fin s' => ∃ v, fin = .done (.ret v) ∧ Q v s') E s := by
  show wpAny _ _ (field (.ref z) 2 >>= _) _ _ _
  refine wpAny_bind (wpAny_field hz rfl (x := .bool false) rfl ?_)
  show wpAny _ _ (field (.ref z) 3 >>= _) _ _ _
  refine wpAny_bind (wpAny_field hz rfl (x := .ref TI) rfl ?_)
  refine wpAny_bind (wpAny_seqItems hTI rfl ?_)
  show wpAny _ _ (Builtin.SmallTypes.ownedTupleIsFree (.ref z) >>= _) _ _ _
  refine wpAny_bind (zip_free hz hfree ?_)
  simp only [if_true]
  refine wpAny_bind (wpAny_rule ?_)
  refine wpAny_bind (wpAny_field hz rfl (x := .ref TO) rfl ?_)
  refine wpAny_bind (wpAny_setField_rec hz (by simp) fun h₁ hz₁ hs₁ => ?_)
  replace hz₁ : IsZipR h₁ z TI TO .ellipsis bb := hz₁
  refine wpAny_bind ?_
  simp only [List.zipIdx_cons, List.zipIdx_nil, List.forIn_cons, List.forIn_nil]

  refine wpAny_bind (wpAny_bind (wpAny_onRaise ?_))
  show wpAny _ _ (Builtin.SmallTypes.nextOf (.ref i1) >>= _) _ _ _
  refine wpAny_bind (wpAny_nextOf_list_item (h1.extBut hs₁.extBut D.i1z) (hl1.extBut hs₁.extBut D.l1z) hx fun h₂ h1₂ hs₂ => wpAny_pure ?_)
  have hTO₂ : IsPair h₂ TO a b := hs₂.extBut _ _ D.TOi1 (hs₁.extBut _ _ D.TOz hTO)
  refine wpAny_bind (wpAny_seqItems hTO₂ rfl ?_)
  refine wpAny_bind (wpAny_updateSeq_pair hTO₂ fun h₃ hTO₃ hs₃ => ?_)
  replace hTO₃ : IsPair h₃ TO x b := hTO₃
  refine wpAny_bind (wpAny_letGo (wpAny_pure ?_))

  refine wpAny_bind (wpAny_bind (wpAny_onRaise ?_))
  show wpAny _ _ (Builtin.SmallTypes.nextOf (.ref i2) >>= _) _ _ _
  refine wpAny_bind (wpAny_nextOf_list_item (((h2.extBut hs₁.extBut D.i2z).extBut hs₂.extBut D.i12.symm).extBut hs₃.extBut D.TOi2.symm)
    (((hl2.extBut hs₁.extBut D.l2z).extBut hs₂.extBut D.l2i1).extBut hs₃.extBut D.l2TO) hy fun h₄ h2₄ hs₄ => wpAny_pure ?_)
  have hTO₄ : IsPair h₄ TO x b := hs₄.extBut _ _ D.TOi2 hTO₃
  refine wpAny_bind (wpAny_seqItems hTO₄ rfl ?_)
  refine wpAny_bind (wpAny_updateSeq_pair hTO₄ fun h₅ hTO₅ hs₅ => ?_)
  replace hTO₅ : IsPair h₅ TO x y := hTO₅
  refine wpAny_bind (wpAny_letGo (wpAny_pure (wpAny_pure ?_)))

  refine wpAny_bind (wpAny_seqItems hTO₅ rfl ?_)
  refine wpAny_bind (wpAny_newTuple ?_)
  have hsz : h₅.objs.size = s.heap.objs.size := by rw [hs₅.1, hs₄.1, hs₃.1, hs₂.1, hs₁.1]
  have hz₅ : IsZipR h₅ z TI TO .ellipsis bb := hs₅.extBut _ _ D.TOz.symm (hs₄.extBut _ _ D.i2z.symm (hs₃.extBut _ _ D.TOz.symm (hs₂.extBut _ _ D.i1z.symm hz₁)))
  have hk₅ : ∀ c o, c ≠ z → c ≠ TO → c ≠ i1 → c ≠ i2 → s.heap.get? c = some o → h₅.get? c = some o := fun c o c1 c2 c3 c4 e =>
    hs₅.extBut _ _ c2 (hs₄.extBut _ _ c4 (hs₃.extBut _ _ c2 (hs₂.extBut _ _ c3 (hs₁.extBut _ _ c1 e))))
  have h1₅ : h₅.IsListIter i1 l1 (k1 + 1) := ((h1₂.extBut hs₃.extBut D.TOi1.symm).extBut hs₄.extBut D.i12).extBut hs₅.extBut D.TOi1.symm
  have h2₅ : h₅.IsListIter i2 l2 (k2 + 1) := h2₄.extBut hs₅.extBut D.TOi2.symm
  have hzlt : z < h₅.objs.size := Heap.lt_size hz₅
  have hTOlt : TO < h₅.objs.size := Heap.lt_size hTO₅
  have hi1lt : i1 < h₅.objs.size := by obtain ⟨_, e, _⟩ := h1₅; exact Heap.lt_size e
  have hi2lt : i2 < h₅.objs.size := by obtain ⟨_, e, _⟩ := h2₅; exact Heap.lt_size e
  show wpAny _ _ (Builtin.SmallTypes.ownedTupleHandOut (.ref z) (.ref h₅.objs.size) >>= _) _ _ _
  refine wpAny_bind ?_
  unfold Builtin.SmallTypes.ownedTupleHandOut
  have hz₆ : IsZipR (h₅.push { cls := .type "tuple", data := .seq #[x, y] }) z TI TO .ellipsis bb := Heap.get?_push_of_some _ hz₅
  refine wpAny_bind (wpAny_setField_rec hz₆ (by simp) fun h₇ hz₇ hs₇ => ?_)
  replace hz₇ : IsZipR h₇ z TI TO (rawInt h₅.objs.size) bb := hz₇
  refine wpAny_setField_rec hz₇ (by simp) fun h₈ hz₈ hs₈ => ?_
  replace hz₈ : IsZipR h₈ z TI TO (rawInt h₅.objs.size) false := hz₈
  have up : ∀ c o, c ≠ z → h₅.get? c = some o → h₈.get? c = some o := fun c o c1 e => hs₈.extBut _ _ c1 (hs₇.extBut _ _ c1 (Heap.get?_push_of_some _ e))
  have hT₈ : IsPair h₈ h₅.objs.size x y := hs₈.extBut _ _ (Nat.ne_of_gt hzlt) (hs₇.extBut _ _ (Nat.ne_of_gt hzlt) (Heap.get?_push_size _ rfl))
  have hz8 : h₈.objs.size = h₅.objs.size + 1 := by rw [hs₈.1, hs₇.1, Heap.size_push]
  rw [hsz] at hz₈ hT₈ hz8
  refine wpAny_pure ⟨_, rfl, ?_⟩
  show Q (.ref h₅.objs.size) _
  rw [hsz]
  exact hQ h₈ hz₈ (up _ _ D.TOz hTO₅) (h1₅.at fun o e => up _ o D.i1z e) (h2₅.at fun o e => up _ o D.i2z e) hT₈ hz8 fun c o c1 c2 c3 c4 e => up c o c1 (hk₅ c o c1 c2 c3 c4 e)

theorem zipR_end {z TI TO i1 i2 l1 l2 : Addr} {k1 k2 : Nat} {xs ys : Array Value} {a b : Value} {Q : Fin → Shared → Prop} (hh : A.handled = none) (D : ZipApart z TI TO i1 i2 l1 l2)
    {f0 : Value} {bb : Bool} (hz : IsZipR s.heap z TI TO f0 bb) (hfree : ZFree s.heap f0) (hTI : IsPair s.heap TI (.ref i1) (.ref i2)) (hTO : IsPair s.heap TO a b)
    (h1 : s.heap.IsListIter i1 l1 k1) (h2 : s.heap.IsListIter i2 l2 k2) (hl1 : s.heap.IsList l1 xs) (hl2 : s.heap.IsList l2 ys) (hend : xs[k1]? = none ∨ ys[k2]? = none)
    (hE : ∀ h' e, (∀ c o, c ≠ z → c ≠ TO → c ≠ i1 → c ≠ i2 → s.heap.get? c = some o → h'.get? c = some o) → (∃ o, h'.get? e = some o ∧ o.cls = .type "StopIteration") → E (.ref e) { s with heap := h' }) :
    wpAny (model prog w) A (Builtin.«zip.__next__» ⟨[.ref z], []⟩) Q E s := by
  show wpAny _ _ (field (.ref z) 2 >>= _) _ _ _
  refine wpAny_bind (wpAny_field hz rfl (x := .bool false) rfl ?_)
  show wpAny _ _ (field (.ref z) 3 >>= _) _ _ _
  refine wpAny_bind (wpAny_field hz rfl (x := .ref TI) rfl ?_)
  refine wpAny_bind (wpAny_seqItems hTI rfl ?_)
  show wpAny _ _ (Builtin.SmallTypes.ownedTupleIsFree (.ref z) >>= _) _ _ _
  refine wpAny_bind (zip_free hz hfree ?_)
  simp only [if_true]
  refine wpAny_bind (wpAny_rule ?_)
  refine wpAny_bind (wpAny_field hz rfl (x := .ref TO) rfl ?_)
  refine wpAny_bind (wpAny_setField_rec hz (by simp) fun h₁ hz₁ hs₁ => ?_)
  replace hz₁ : IsZipR h₁ z TI TO .ellipsis bb := hz₁
  refine wpAny_bind ?_
  simp only [List.zipIdx_cons, List.zipIdx_nil, List.forIn_cons, List.forIn_nil]
  refine wpAny_bind (wpAny_bind (wpAny_onRaise ?_))
  show wpAny _ _ (Builtin.SmallTypes.nextOf (.ref i1) >>= _) _ _ _
  cases hx : xs[k1]? with
  | none =>
    refine wpAny_bind (wpAny_nextOf_list_end hh (h1.extBut hs₁.extBut D.i1z) (hl1.extBut hs₁.extBut D.l1z) hx fun h₂ e hs₂ he => ?_)
    obtain ⟨oe, hoe, hce⟩ := he
    have hz₂ : IsZipR h₂ z TI TO .ellipsis bb := hs₂ _ _ D.i1z.symm hz₁
    have hez : e ≠ z := fun x => by subst x; rw [hz₂] at hoe; cases hoe; simp at hce
    refine wpAny_setField_rec hz₂ (by simp) fun h₃ _ hs₃ => hE h₃ e (fun c o c1 _ c3 _ x => hs₃.extBut _ _ c1 (hs₂ _ _ c3 (hs₁.extBut _ _ c1 x))) ⟨oe, hs₃.extBut _ _ hez hoe, hce⟩
  | some x =>
    have hy : ys[k2]? = none := by rcases hend with h | h; rw [hx] at h; cases h; exact h
    refine wpAny_bind (wpAny_nextOf_list_item (h1.extBut hs₁.extBut D.i1z) (hl1.extBut hs₁.extBut D.l1z) hx fun h₂ h1₂ hs₂ => wpAny_pure ?_)
    have hTO₂ : IsPair h₂ TO a b := hs₂.extBut _ _ D.TOi1 (hs₁.extBut _ _ D.TOz hTO)
    refine wpAny_bind (wpAny_seqItems hTO₂ rfl ?_)
    refine wpAny_bind (wpAny_updateSeq_pair hTO₂ fun h₃ hTO₃ hs₃ => ?_)
    refine wpAny_bind (wpAny_letGo (wpAny_pure ?_))
    refine wpAny_bind (wpAny_bind (wpAny_onRaise ?_))
    show wpAny _ _ (Builtin.SmallTypes.nextOf (.ref i2) >>= _) _ _ _
    refine wpAny_bind (wpAny_nextOf_list_end hh (((h2.extBut hs₁.extBut D.i2z).extBut hs₂.extBut D.i12.symm).extBut hs₃.extBut D.TOi2.symm)
      (((hl2.extBut hs₁.extBut D.l2z).extBut hs₂.extBut D.l2i1).extBut hs₃.extBut D.l2TO) hy fun h₄ e hs₄ he => ?_)
    obtain ⟨oe, hoe, hce⟩ := he
    have hz₄ : IsZipR h₄ z TI TO .ellipsis bb := hs₄ _ _ D.i2z.symm (hs₃.extBut _ _ D.TOz.symm (hs₂.extBut _ _ D.i1z.symm hz₁))
    have hez : e ≠ z := fun x => by subst x; rw [hz₄] at hoe; cases hoe; simp at hce
    refine wpAny_setField_rec hz₄ (by simp) fun h₅ _ hs₅ => hE h₅ e (fun c o c1 c2 c3 c4 x => hs₅.extBut _ _ c1 (hs₄ _ _ c4 (hs₃.extBut _ _ c2 (hs₂.extBut _ _ c3 (hs₁.extBut _ _ c1 x))))) ⟨oe, hs₅.extBut _ _ hez hoe, hce⟩

theorem pyNext_zipR_item {z TI TO i1 i2 l1 l2 : Addr} {k1 k2 : Nat} {xs ys : Array Value} {x y a b f0 : Value} {bb : Bool} {Q : Option Value → Shared → Prop} (D : ZipApart z TI TO i1 i2 l1 l2)
    (hz : IsZipR s.heap z TI TO f0 bb) (hf : ZFree s.heap f0) (hTI : IsPair s.heap TI (.ref i1) (.ref i2)) (hTO : IsPair s.heap TO a b)
    (h1 : s.heap.IsListIter i1 l1 k1) (h2 : s.heap.IsListIter i2 l2 k2) (hl1 : s.heap.IsList l1 xs) (hl2 : s.heap.IsList l2 ys) (hx : xs[k1]? = some x) (hy : ys[k2]? = some y)
    (hQ : ∀ h', IsZipR h' z TI TO (rawInt s.heap.objs.size) false → IsPair h' TO x y → h'.IsListIter i1 l1 (k1 + 1) → h'.IsListIter i2 l2 (k2 + 1) → IsPair h' s.heap.objs.size x y → h'.objs.size = s.heap.objs.size + 1 →
      (∀ c o, c ≠ z → c ≠ TO → c ≠ i1 → c ≠ i2 → s.heap.get? c = some o → h'.get? c = some o) → Q (some (.ref s.heap.objs.size)) { s with heap := h' }) :
    wpAny (model prog w) A (pyNext (.ref z)) Q E s := by
  have hT : s.TypeIs (.ref z) "zip" := ⟨_, hz, rfl⟩
  unfold pyNext
  exact wpAny_bind (wpAny_attempt (wpAny_callSpecial?_slot (name := Str.ofString "__next__") hT F.slot_zip_next
    (wpAny_call_entry F.slot_zip_next hT F.entry_zip_next
      (zipR_item D hz hf hTI hTO h1 h2 hl1 hl2 hx hy fun h' a1 a2 a3 a4 a5 a6 a7 => wpAny_pure (hQ h' a1 a2 a3 a4 a5 a6 a7)) (F.args_zip_next_1 _))))
theorem pyNext_zipR_end {z TI TO i1 i2 l1 l2 : Addr} {k1 k2 : Nat} {xs ys : Array Value} {a b f0 : Value} {bb : Bool} {Q : Option Value → Shared → Prop} (hh : A.handled = none) (D : ZipApart z TI TO i1 i2 l1 l2)
    (hz : IsZipR s.heap z TI TO f0 bb) (hf : ZFree s.heap f0) (hTI : IsPair s.heap TI (.ref i1) (.ref i2)) (hTO : IsPair s.heap TO a b)
    (h1 : s.heap.IsListIter i1 l1 k1) (h2 : s.heap.IsListIter i2 l2 k2) (hl1 : s.heap.IsList l1 xs) (hl2 : s.heap.IsList l2 ys) (hend : xs[k1]? = none ∨ ys[k2]? = none)
    (hQ : ∀ h', (∀ c o, c ≠ z → c ≠ TO → c ≠ i1 → c ≠ i2 → s.heap.get? c = some o → h'.get? c = some o) → Q none { s with heap := h' }) : wpAny (model prog w) A (pyNext (.ref z)) Q E s := by
  have hT : s.TypeIs (.ref z) "zip" := ⟨_, hz, rfl⟩
  unfold pyNext
  refine wpAny_bind (wpAny_attempt (wpAny_callSpecial?_slot (name := Str.ofString "__next__") hT F.slot_zip_next
    (wpAny_call_entry F.slot_zip_next hT F.entry_zip_next (zipR_end hh D hz hf hTI hTO h1 h2 hl1 hl2 hend fun h' e hk he => ?_) (F.args_zip_next_1 _))))
  obtain ⟨o, ho, hc⟩ := he
  refine wpAny_bind (wpAny_isInstance (T := "StopIteration") (b := true) ⟨o, ho, hc⟩ isSubtype_stop ?_)
  exact wpAny_pure (hQ _ hk)
/-- held or not -/
def ZHas (f0 : Value) : Prop := f0 = .none ∨ ∃ T : Addr, f0 = rawInt T
theorem pyNext_zipN_item {z TI TO i1 i2 l1 l2 : Addr} {k1 k2 : Nat} {xs ys : Array Value} {x y a b f0 : Value} {bb : Bool} {Q : Option Value → Shared → Prop} (D : ZipApart z TI TO i1 i2 l1 l2)
    (hz : IsZipR s.heap z TI TO f0 bb) (hf : ZHas f0) (hTI : IsPair s.heap TI (.ref i1) (.ref i2)) (hTO : IsPair s.heap TO a b)
    (h1 : s.heap.IsListIter i1 l1 k1) (h2 : s.heap.IsListIter i2 l2 k2) (hl1 : s.heap.IsList l1 xs) (hl2 : s.heap.IsList l2 ys) (hx : xs[k1]? = some x) (hy : ys[k2]? = some y)
    (hQ : ∀ h' f1 b1 u v, IsZipR h' z TI TO f1 b1 → ZHas f1 → IsPair h' TO u v → h'.IsListIter i1 l1 (k1 + 1) → h'.IsListIter i2 l2 (k2 + 1) → IsPair h' s.heap.objs.size x y → h'.objs.size = s.heap.objs.size + 1 →
      (∀ c o, c ≠ z → c ≠ TO → c ≠ i1 → c ≠ i2 → s.heap.get? c = some o → h'.get? c = some o) → Q (some (.ref s.heap.objs.size)) { s with heap := h' }) :
    wpAny (model prog w) A (pyNext (.ref z)) Q E s := by
  rcases hf with rfl | ⟨T, rfl⟩
  · exact pyNext_zipR_item D hz (.inl rfl) hTI hTO h1 h2 hl1 hl2 hx hy fun h' a1 a2 a3 a4 a5 a6 a7 => hQ h' _ _ _ _ a1 (.inr ⟨_, rfl⟩) a2 a3 a4 a5 a6 a7
  · cases hT : s.heap.get? T with
    | none => exact pyNext_zipR_item D hz (.inr ⟨T, rfl, hT⟩) hTI hTO h1 h2 hl1 hl2 hx hy fun h' a1 a2 a3 a4 a5 a6 a7 => hQ h' _ _ _ _ a1 (.inr ⟨_, rfl⟩) a2 a3 a4 a5 a6 a7
    | some oT => exact pyNext_zipH_item D hz hT hTI h1 h2 hl1 hl2 hx hy fun h' a1 a3 a4 a5 a6 a7 => hQ h' _ _ _ _ a1 (.inr ⟨_, rfl⟩) (a7 _ _ D.TOz D.TOi1 D.TOi2 hTO) a3 a4 a5 a6 fun c o c1 _ c3 c4 e => a7 c o c1 c3 c4 e
theorem pyNext_zipN_end {z TI TO i1 i2 l1 l2 : Addr} {k1 k2 : Nat} {xs ys : Array Value} {a b f0 : Value} {bb : Bool} {Q : Option Value → Shared → Prop} (hh : A.handled = none) (D : ZipApart z TI TO i1 i2 l1 l2)
    (hz : IsZipR s.heap z TI TO f0 bb) (hf : ZHas f0) (hTI : IsPair s.heap TI (.ref i1) (.ref i2)) (hTO : IsPair s.heap TO a b)
    (h1 : s.heap.IsListIter i1 l1 k1) (h2 : s.heap.IsListIter i2 l2 k2) (hl1 : s.heap.IsList l1 xs) (hl2 : s.heap.IsList l2 ys) (hend : xs[k1]? = none ∨ ys[k2]? = none)
    (hQ : ∀ h', (∀ c o, c ≠ z → c ≠ TO → c ≠ i1 → c ≠ i2 → s.heap.get? c = some o → h'.get? c = some o) → Q none { s with heap := h' }) : wpAny (model prog w) A (pyNext (.ref z)) Q E s := by
  rcases hf with rfl | ⟨T, rfl⟩
  · exact pyNext_zipR_end hh D hz (.inl rfl) hTI hTO h1 h2 hl1 hl2 hend hQ
  · cases hT : s.heap.get? T with
    | none => exact pyNext_zipR_end hh D hz (.inr ⟨T, rfl, hT⟩) hTI hTO h1 h2 hl1 hl2 hend hQ
    | some oT => exact pyNext_zipH_end hh D hz hT hTI h1 h2 hl1 hl2 hend fun h' k => hQ h' fun c o c1 _ c3 c4 e => k c o c1 c3 c4 e
theorem zipR_iter {z TI TO : Addr} {f0 : Value} {bb : Bool} {Q : Value → Shared → Prop} (h : IsZipR s.heap z TI TO f0 bb) (hQ : Q (.ref z) s) : wpAny (model prog w) A (pyIter (.ref z)) Q E s := by
  have hT : s.TypeIs (.ref z) "zip" := ⟨_, h, rfl⟩
  refine wpAny_pyIter_slot hT F.slot_zip_iter (wpAny_call_entry F.slot_zip_iter hT F.entry_zip_iter ?_ (F.args_zip_iter_1 _))
  show wpAny _ _ (ret (.ref z)) _ _ s
  exact wpAny_pure ⟨_, rfl, "zip", _, hT, F.slot_zip_next.lookup, hQ⟩
end
/-- the loop's record at turn i -/
def StZN (z TI TO i1 i2 a b : Addr) (i : Nat) (h : Heap) : Prop :=
  (∃ f0 bb, IsZipR h z TI TO f0 bb ∧ ZHas f0) ∧ IsPair h TI (.ref i1) (.ref i2) ∧ (∃ x y, IsPair h TO x y) ∧ h.IsListIter i1 a i ∧ h.IsListIter i2 b i
theorem turn_zipN {P : Program} {w : World} {K : PySem.W.Frag} {nm : String} {tpos : Pos} {a b z TI TO i1 i2 : Addr} (D : ZipApart z TI TO i1 i2 a b) :
    Turn P w K (.Name nm tpos) (Itz K a b) [z, TI, TO, i1, i2] z (StZN z TI TO i1 i2 a b) where
  mem := by simp
  obj := fun i h st c hc => by
    obtain ⟨⟨f0, bb, hz, _⟩, hTI, ⟨x, y, hTO⟩, ⟨o1, e1, _, d1⟩, ⟨o2, e2, _, d2⟩⟩ := st
    have e' : c = z ∨ c = TI ∨ c = TO ∨ c = i1 ∨ c = i2 := by simpa using hc
    rcases e' with q | q | q | q | q
    · rw [q]; exact ⟨_, hz, fun v q => nomatch q⟩
    · rw [q]; exact ⟨_, hTI, fun v q => nomatch q⟩
    · rw [q]; exact ⟨_, hTO, fun v q => nomatch q⟩
    · rw [q]; exact ⟨o1, e1, fun v q => by rw [d1] at q; cases q⟩
    · rw [q]; exact ⟨o2, e2, fun v q => by rw [d2] at q; cases q⟩
  keep := fun i h h' st k => by
    obtain ⟨⟨f0, bb, hz, hf⟩, hTI, ⟨x, y, hTO⟩, h1, h2⟩ := st
    exact ⟨⟨f0, bb, k z (by simp) _ hz, hf⟩, k TI (by simp) _ hTI, ⟨x, y, k TO (by simp) _ hTO⟩, h1.at fun o q => k i1 (by simp) o q, h2.at fun o q => k i2 (by simp) o q⟩
  item := by
    intro X hP hw hK hc i pins s σ H E I hf st hg
    subst hP hw hK
    obtain ⟨⟨f0, bb, hz, hf0⟩, hTI, ⟨x0, y0, hTO⟩, h1, h2⟩ := st
    obtain ⟨xs, ys, x, y, hqx, hqy, hx, hy⟩ := hg
    obtain ⟨its, rv, p, _⟩ := I.list hqx
    obtain ⟨its2, rv2, p2, _⟩ := I.list hqy
    obtain ⟨u, hu, ru⟩ := rv.get hx
    obtain ⟨u2, hu2, ru2⟩ := rv2.get hy
    have hzl : z < s.heap.objs.size := Heap.lt_size hz
    refine pyNext_zipN_item D hz hf0 hTI hTO h1 h2 p.isList p2.isList (x := u) (y := u2) (by simpa using hu) (by simpa using hu2) fun h' f1 b1 u' v' z' hf1 TO' h1' h2' hT hsz hk => ?_
    refine ⟨_, rfl, wpAny_pure ?_⟩
    have new : ObjOk X.prog X.w (upd H s.heap.objs.size (.tup [x, y])) h' s.heap.objs.size (.tup [x, y]) :=
      ⟨by show 2 ≤ sizeLine; decide, [u, u2], .cons ru (.cons ru2 .nil), ⟨_, hT, rfl, _, rfl⟩⟩
    have I1 : Inv X pins σ (upd H s.heap.objs.size (.tup [x, y])) { s with heap := h' } :=
      I.turnedNew (t' := s.toks) (ch := [z, TI, TO, i1, i2]) (fun c o hb q => hk c o (fun q' => hb (by simp [q'])) (fun q' => hb (by simp [q'])) (fun q' => hb (by simp [q'])) (fun q' => hb (by simp [q'])) q) hf (Nat.le_refl _) new
    refine ⟨.ref s.heap.objs.size, _, I1, rfl, ⟨_, x, y, rfl, I.hok.fresh (Nat.le_refl _), rfl, fun l hl => by rw [I.list_inj hl hqx]; exact hx, fun l hl => by rw [I.list_inj hl hqy]; exact hy⟩, ⟨⟨f1, b1, z', hf1⟩, ?_, ⟨u', v', TO'⟩, h1', h2'⟩, fun c hcm => ?_⟩
    · exact hk _ _ D.TIz D.TITO D.TIi1 D.TIi2 hTI
    · have hlt : c < s.heap.objs.size := by
        have e' : c = z ∨ c = TI ∨ c = TO ∨ c = i1 ∨ c = i2 := by simpa using hcm
        rcases e' with q | q | q | q | q
        · rw [q]; exact hzl
        · rw [q]; exact Heap.lt_size hTI
        · rw [q]; exact Heap.lt_size hTO
        · rw [q]; obtain ⟨_, e1, _⟩ := h1; exact Heap.lt_size e1
        · rw [q]; obtain ⟨_, e2, _⟩ := h2; exact Heap.lt_size e2
      rw [upd_ne (Nat.ne_of_lt hlt)]
      exact (hf c hcm).1
  done := by
    intro X hP hw hK hc i pins s σ H E I hf st hg
    subst hP hw hK
    obtain ⟨⟨f0, bb, hz, hf0⟩, hTI, ⟨x0, y0, hTO⟩, h1, h2⟩ := st
    obtain ⟨xs, ys, hqx, hqy, hend⟩ := hg
    obtain ⟨its, rv, p, _⟩ := I.list hqx
    obtain ⟨its2, rv2, p2, _⟩ := I.list hqy
    have l1 := rv.length
    have l2 := rv2.length
    have he : its.toArray[i]? = none ∨ its2.toArray[i]? = none := by
      rcases hend with q | q
      · exact .inl (by simp; omega)
      · exact .inr (by simp; omega)
    exact pyNext_zipN_end (I.ok.hd hc) D hz hf0 hTI hTO h1 h2 p.isList p2.isList he fun h' hk => ⟨rfl, I.turnedL (t' := s.toks) (ch := [z, TI, TO, i1, i2]) (fun c o hb q =>
      hk c o (fun q' => hb (by simp [q'])) (fun q' => hb (by simp [q'])) (fun q' => hb (by simp [q'])) (fun q' => hb (by simp [q'])) q) hf⟩
  self := fun A i s Q E st h => by
    obtain ⟨⟨f0, bb, hz, _⟩, _⟩ := st
    exact zipR_iter hz h
/-- zip of two lists, the target a name -/
theorem pi_zipN {X : Cx} {e e2 : Expr} {ta : TA} {p pos tpos : Pos} {nm : String} (hg : Gl X "zip") (hm : X.mg "zip" = none) (ha : PA X [e, e2] ta)
    (hs : starEach [e, e2] X.env = (false, eval e X.env) :: starEach [e2] X.env := by rfl) (hpl : (backTo pos (starEach [e2] X.env)).any (·.1) = false := by rfl) :
    PI X (.Name nm tpos) (.Call (.Name "zip" p) [e, e2] [] pos) (iZip X.K ta) := by
  refine ⟨fun pins s σ H R I h => ?_⟩
  refine Call_ (ld_blt I hg hm PyProof.Rows.boot_zip (PyProof.Rows.callWith_type1 (thn (ha.run pos pins s σ H _ I h) fun us s1 ⟨vs, H1, I1, r1, q1⟩ => ?_) hs hpl))
  obtain ⟨a, b, xs, ys, ex, hqx, hqy, q⟩ := q1
  subst ex
  cases r1 with
  | cons r rr =>
    cases rr with
    | cons r' rr =>
      cases rr
      cases r
      cases r'
      obtain ⟨its, rv, p1, _⟩ := I1.list hqx
      obtain ⟨its2, rv2, p2, _⟩ := I1.list hqy
      have la : a < s1.heap.objs.size := p1.lt
      have lb : b < s1.heap.objs.size := p2.lt
      refine call_zip_2 p1.isList p2.isList fun h' hz hTI hTO h1 h2 hsz hk => wpAny_pyIter_zip hz ?_
      have I2 : Inv X pins σ H1 { s1 with heap := h' } := I1.kept (t' := s1.toks) hk
      refine ⟨s1.heap.objs.size + 4, [s1.heap.objs.size + 4, s1.heap.objs.size + 2, s1.heap.objs.size + 3, s1.heap.objs.size, s1.heap.objs.size + 1], _, _, H1, rfl, I2, turn_zipN (PySem.W.ktu_apart s1.heap.objs.size a b la lb), ⟨⟨_, _, hz, .inl rfl⟩, hTI, ⟨_, _, hTO⟩, h1, h2⟩, fun c hcm => ?_, q⟩
      have e' : c = s1.heap.objs.size + 4 ∨ c = s1.heap.objs.size + 2 ∨ c = s1.heap.objs.size + 3 ∨ c = s1.heap.objs.size ∨ c = s1.heap.objs.size + 1 := by simpa using hcm
      have hle : s1.heap.objs.size ≤ c := by
        rcases e' with z | z | z | z | z
        · rw [z]; exact Nat.le_add_right _ _
        · rw [z]; exact Nat.le_add_right _ _
        · rw [z]; exact Nat.le_add_right _ _
        · rw [z]; exact Nat.le_refl _
        · rw [z]; exact Nat.le_add_right _ _
      exact I1.fpOk hle (I1.hok.fresh hle)
end LK

/-! two machines run side by side: rows of pairs of places, a pair written as one number; dicts with pairs as keys and numbers -/
namespace LK
open PySem PySem.Spec PyProof.Rows L2
def dec (n2 c : Nat) : Nat × Nat := (c / n2, c % n2)
def enc (n2 : Nat) (g : Nat × Nat) : Nat := g.1 * n2 + g.2
theorem dec_enc {n2 : Nat} {g : Nat × Nat} (h : g.2 < n2) : dec n2 (enc n2 g) = g := by
  obtain ⟨a, b⟩ := g
  have h : b < n2 := h
  have h0 : 0 < n2 := by omega
  show ((a * n2 + b) / n2, (a * n2 + b) % n2) = (a, b)
  rw [Nat.mul_comm a n2, Nat.mul_add_div h0, Nat.div_eq_of_lt h, Nat.mul_add_mod, Nat.mod_eq_of_lt h]
  rfl
theorem enc_dec {n2 c : Nat} : enc n2 (dec n2 c) = c := by
  show c / n2 * n2 + c % n2 = c
  rw [Nat.mul_comm]; exact Nat.div_add_mod c n2
theorem dec_inj {n2 a b : Nat} : dec n2 a = dec n2 b ↔ a = b :=
  ⟨fun h => by have := congrArg (enc n2) h; rwa [enc_dec, enc_dec] at this, fun h => by rw [h]⟩
theorem enc_lt {n1 n2 : Nat} {g : Nat × Nat} (h1 : g.1 < n1) (h2 : g.2 < n2) : enc n2 g < n1 * n2 := by
  show g.1 * n2 + g.2 < n1 * n2
  calc g.1 * n2 + g.2 < g.1 * n2 + n2 := by omega
    _ = (g.1 + 1) * n2 := by rw [Nat.add_mul, Nat.one_mul]
    _ ≤ n1 * n2 := Nat.mul_le_mul_right _ (by omega)
theorem dec_lt {n1 n2 c : Nat} (h : c < n1 * n2) : (dec n2 c).1 < n1 ∧ (dec n2 c).2 < n2 := by
  have h0 : 0 < n2 := by
    rcases Nat.eq_zero_or_pos n2 with z | z
    · rw [z] at h; simp at h
    · exact z
  exact ⟨Nat.div_lt_of_lt_mul (by rw [Nat.mul_comm]; exact h), Nat.mod_lt _ h0⟩
def PRow (R1 R2 : Rows) (g : Nat × Nat) : List (Nat × Nat) := (gls R1 g.1).zip (gls R2 g.2)
def PR (R1 R2 : Rows) : Rows := (List.range (R1.length * R2.length)).map fun c => (PRow R1 R2 (dec R2.length c)).map (enc R2.length)
section
variable {R1 R2 : Rows} {m : Nat}
theorem pr_len : (PR R1 R2).length = R1.length * R2.length := by rw [PR, List.length_map, List.length_range]
theorem pr_gls {c : Nat} (h : c < R1.length * R2.length) : gls (PR R1 R2) c = (PRow R1 R2 (dec R2.length c)).map (enc R2.length) := by
  unfold gls PR
  rw [List.getD_eq_getElem?_getD, List.getElem?_map, List.getElem?_range h]; rfl
theorem prow_len (ok1 : RowsOk R1 m) (ok2 : RowsOk R2 m) {g : Nat × Nat} (h1 : g.1 < R1.length) (h2 : g.2 < R2.length) : (PRow R1 R2 g).length = m := by
  rw [PRow, List.length_zip, gls_len ok1 h1, gls_len ok2 h2, Nat.min_self]
theorem prow_lt (ok1 : RowsOk R1 m) (ok2 : RowsOk R2 m) {g x : Nat × Nat} (h : x ∈ PRow R1 R2 g) : x.1 < R1.length ∧ x.2 < R2.length := by
  obtain ⟨a, b⟩ := x
  have := List.of_mem_zip h
  exact ⟨gls_lt ok1 this.1, gls_lt ok2 this.2⟩
theorem pr_ok (ok1 : RowsOk R1 m) (ok2 : RowsOk R2 m) : RowsOk (PR R1 R2) m := by
  constructor
  · intro r hr
    obtain ⟨c, hc, rfl⟩ := List.mem_map.mp hr
    obtain ⟨h1, h2⟩ := dec_lt (List.mem_range.mp hc)
    rw [List.length_map, prow_len ok1 ok2 h1 h2]
  · intro r hr x hx
    obtain ⟨c, hc, rfl⟩ := List.mem_map.mp hr
    obtain ⟨g, hg, rfl⟩ := List.mem_map.mp hx
    obtain ⟨h1, h2⟩ := prow_lt ok1 ok2 hg
    rw [pr_len]
    exact enc_lt h1 h2
end
/-- the numbers of pairs -/
def kmN (n2 : Nat) : Nat → List Nat → List (List Key × V)
  | _, [] => []
  | k, c :: F => (kP (dec n2 c), .int (k : Nat)) :: kmN n2 (k + 1) F
section
variable {n2 : Nat}
theorem len_kmN : ∀ (F : List Nat) (k : Nat), (kmN n2 k F).length = F.length
  | [], _ => rfl
  | _ :: F, k => congrArg (· + 1) (len_kmN F (k + 1))
theorem val_kmN (c : Nat) : ∀ (F : List Nat) (k : Nat), valV (kmN n2 k F) (kP (dec n2 c)) = if c ∈ F then some (.int ((k + F.idxOf c : Nat) : Int)) else none
  | [], _ => rfl
  | a :: F, k => by
    have ih := val_kmN c F (k + 1)
    by_cases e : a = c
    · subst e
      rw [if_pos (by simp)]
      exact (valV_pos (p := (kP (dec n2 a), V.int (k : Nat))) rfl).trans (by rw [List.idxOf_cons_self]; rfl)
    · refine (valV_neg (p := (kP (dec n2 a), V.int (k : Nat))) fun z => e (dec_inj.mp (kP_iff.mp z))).trans (ih.trans ?_)
      by_cases h : c ∈ F
      · rw [if_pos h, if_pos (by simp [h]), List.idxOf_cons, show (a == c) = false by simpa using e]
        have : k + 1 + F.idxOf c = k + (F.idxOf c + 1) := by omega
        rw [this]; rfl
      · rw [if_neg h, if_neg (by simp [h, Ne.symm e])]
theorem val_some {F : List Nat} {c : Nat} (h : c ∈ F) : valV (kmN n2 0 F) (kP (dec n2 c)) = some (.int ((F.idxOf c : Nat) : Int)) := by
  rw [val_kmN, if_pos h, Nat.zero_add]
theorem has_kmN {F : List Nat} {c : Nat} : (valV (kmN n2 0 F) (kP (dec n2 c))).isSome = decide (c ∈ F) := by
  rw [val_kmN]
  by_cases h : c ∈ F
  · rw [if_pos h, decide_eq_true h]; rfl
  · rw [if_neg h, decide_eq_false h]; rfl
theorem kmN_app : ∀ (F G : List Nat) (k : Nat), kmN n2 k (F ++ G) = kmN n2 k F ++ kmN n2 (k + F.length) G
  | [], G, k => rfl
  | a :: F, G, k => by
    have : k + (F.length + 1) = k + 1 + F.length := by omega
    show _ :: kmN n2 (k + 1) (F ++ G) = _ :: (kmN n2 (k + 1) F ++ kmN n2 (k + (F.length + 1)) G)
    rw [kmN_app F G (k + 1), this]
theorem put_kmN {F : List Nat} {c : Nat} (h : c ∉ F) : putK (kmN n2 0 F) (kP (dec n2 c)) (.int ((F.length : Nat) : Int)) = kmN n2 0 (F ++ [c]) := by
  rw [putK_new _ (by rw [val_kmN, if_neg h]), kmN_app, Nat.zero_add]; rfl
theorem keys_kmN {H : Hp} : ∀ {F : List Nat} {k : Nat} {bs : List Addr}, IsKeys H (kmN n2 k F) bs → PrAt H bs (F.map (dec n2))
  | [], k, bs, h => by
    cases h
    exact ⟨rfl, fun n t g a => by simp at a⟩
  | c :: F, k, bs, h => by
    cases h with
    | cons hb ht =>
      rename_i b bs
      have ih := keys_kmN ht
      refine ⟨congrArg (· + 1) ih.1, fun n t g a e => ?_⟩
      cases n with
      | zero =>
        simp at a e
        subst a; subst e
        exact hb
      | succ n => exact ih.2 n t g (by simpa using a) (by simpa using e)
theorem idx_pre {F L : List Nat} {c : Nat} (h : F <+: L) (hc : c ∈ F) : L.idxOf c = F.idxOf c := by
  obtain ⟨t, rfl⟩ := h
  rw [List.idxOf_append, if_pos hc]
end
end LK

/-! _paired: the pairs that are come to, in the order in which they are met, and their rows -/
namespace LK
open PySem PySem.Spec PyProof.Rows L2 LamX ClX
open scoped List
/-- zip of two lists -/
theorem for_zLN {K : PySem.W.Frag} {ta : TA} {a b : Addr} {xs ys : List V} {g : TG} {tb : TS} {D : Ends} {σ : L2.St} {H H1 : Hp} (h : ∀ R : List V → Hp → Prop, R [.ref a, .ref b] H1 → ta σ H R) (hl : xs.length = ys.length) (Iv : Nat → L2.St → Hp → Prop) (h0 : Iv 0 σ H1)
    (hq : ∀ i σ H, Iv i σ H → SqL K H a xs ∧ SqL K H b ys)
    (hs : ∀ (i : Nat) (x y : V) (p : Addr) (σ : L2.St) (H : Hp), xs[i]? = some x → ys[i]? = some y → Iv i σ H → H p = none → g (.ref p) σ (upd H p (.tup [x, y])) fun σ2 H2 => tb { D with nx := Iv (i + 1), ct := Iv (i + 1), bk := D.nx } σ2 H2)
    (he : ∀ σ H, Iv xs.length σ H → D.nx σ H) : tFor (iZip K ta) g tb D σ H := h _ ⟨a, b, xs, ys, rfl, (hq _ _ _ h0).1, (hq _ _ _ h0).2, RZ.for_zipL hl Iv h0 hq hs he⟩
/-- a statement whose end is said -/
def clSV (t : TS) : TS := fun D σ H => ∃ N0 : L2.St → Hp → Prop, t { D with nx := N0 } σ H ∧ ∀ σ' H', N0 σ' H' → D.nx σ' H'
theorem ps_clV {X : Cx} {st : Stmt} {t : TS} (h : PS X st t) : PS X st (clSV t) := by
  refine ⟨fun pins s σ H D I z => ?_⟩
  obtain ⟨N0, h0, m⟩ := z
  refine wpAny_mono (h.run pins s σ H { D with nx := N0 } I h0) (fun fl s' q => ?_) (fun _ _ z => z)
  match fl, q with
  | .next, q => obtain ⟨σ', H', J, n⟩ := q; exact ⟨σ', H', J, m _ _ n⟩
  | .brk, q => exact q
  | .cont, q => exact q
  | .ret v, q => exact q
def rKeysT : List V → Hp → VK → Prop := fun xs H Q => ∃ d kvs, xs = [V.ref d] ∧ Rd H d (.dT kvs) ∧ ∀ p bs, H p = none → IsKeys H kvs bs → Q (.ref p) (upd H p (.lst (bs.map V.ref)))
theorem c_keysT {X : Cx} (hc : X.calm = true) : CallR X (.type "list") rKeysT := call_list_dT hc
abbrev nPr : List Str := ["one", "other", "one_rows", "other_rows", "numbers", "rows", "waiting", "longer", "place", "other_place", "row", "pair"]
theorem scPaired : FnScope nPr ["one", "other"] (defScope sPaired) := ⟨rfl, rfl, rfl, by decide +kernel, rfl, by decide +kernel, by decide +kernel⟩
section
variable {P : Program} {w : World} {K : PySem.W.Frag} {mg : Str → Option Value} {base : Heap} {C : Addr}
/-- rows of numbers that are met, by where they lie: the first of them -/
def RwAt (H0 H : Hp) (B : Addr) (ls : List Addr) (PRs : Rows) (i : Nat) : Prop := ls.length = i ∧ ∀ (j : Nat) (q : Addr), ls[j]? = some q → q ≠ B ∧ H0 q = none ∧ ∃ c, (met PRs 0)[j]? = some c ∧ H q = some (.lst (iv ((gls PRs c).map fun x => (met PRs 0).idxOf x)))
theorem RwAt.ext {H0 H H' : Hp} {B : Addr} {ls : List Addr} {PRs : Rows} {i : Nat} (h : RwAt H0 H B ls PRs i) (e : Same H H') : RwAt H0 H' B ls PRs i :=
  ⟨h.1, fun j q hq => by
    obtain ⟨a, b, c, d, f⟩ := h.2 j q hq
    exact ⟨a, b, c, d, e _ _ f⟩⟩
theorem RwAt.put {H0 H : Hp} {B Z : Addr} {ls : List Addr} {PRs : Rows} {i : Nat} {o : HO} (h : RwAt H0 H B ls PRs i) (n : ∀ q ∈ ls, q ≠ Z) : RwAt H0 (upd H Z o) B ls PRs i :=
  ⟨h.1, fun j q hq => by
    obtain ⟨a, b, c, d, f⟩ := h.2 j q hq
    exact ⟨a, b, c, d, by rw [upd_ne (n q (List.mem_of_getElem? hq))]; exact f⟩⟩
theorem RwAt.snoc {H0 H : Hp} {B Z : Addr} {ls : List Addr} {PRs : Rows} {i c : Nat} (h : RwAt H0 H B ls PRs i) (n : Z ≠ B) (n0 : H0 Z = none) (hc : (met PRs 0)[i]? = some c) (hz : H Z = some (.lst (iv ((gls PRs c).map fun x => (met PRs 0).idxOf x)))) : RwAt H0 H B (ls ++ [Z]) PRs (i + 1) := by
  refine ⟨by rw [List.length_append, h.1]; rfl, fun j q hq => ?_⟩
  by_cases hj : j < ls.length
  · rw [List.getElem?_append_left hj] at hq
    exact h.2 j q hq
  · rw [List.getElem?_append_right (by omega)] at hq
    have l0 := h.1
    have j0 : j - ls.length = 0 := by
      have := (List.getElem?_eq_some_iff.mp hq).1
      simp at this; omega
    rw [j0] at hq
    simp at hq
    subst hq
    obtain rfl : j = i := by omega
    exact ⟨n, n0, c, hc, hz⟩
/-- what _paired tells -/
def spPaired (C : Addr) : Sp := fun vs H Q _ => ∃ (a b : Addr) (S : List Nat) (R1 R2 : Rows) (K1 K2 : List Bool), vs = [.ref a, .ref b] ∧ Mach C H a S R1 K1 ∧ Mach C H b S R2 K2 ∧ ShOk S R1 K1 ∧ ShOk S R2 K2 ∧
  ∀ H' T W Ps (ls bs : List Addr), Same H H' → H' T = some (.tup [.ref W, .ref Ps]) → H' W = some (.lst (ls.map V.ref)) → RwAt H H' W ls (PR R1 R2) (met (PR R1 R2) 0).length → H' Ps = some (.lst (bs.map V.ref)) → PrAt H' bs ((met (PR R1 R2) 0).map (dec R2.length)) → Q (.ref T) H'
theorem ok_paired {f : Addr} {fd : FuncData} {k : Nat} (F : Fun K "_paired" "_paired" sPaired f fd) (M : Mx mg) (cM : ClsM K C) (iM : IsM K C) (gM : mg "Machine" = some (.ref C)) (HS : Has P w K mg base (k + 1) "need_same_letters" ["one", "other"] (spSameLet C))
    (HR : HasM P w K mg base (k + 1) C "rows" [] (spRows C)) : FnG P w K mg base CX0 (k + 2) f fd ["one", "other"] (spPaired C) := by
  refine okG F scPaired (fun vs H Q E h => ?_) (fun cdv A hA outer s H vs Q E hr h => ?_)
  · obtain ⟨a, b, S, R1, R2, K1, K2, rfl, _⟩ := h; rfl
  · obtain ⟨a, b, S, R1, R2, K1, K2, rfl, m1, m2, ok1, ok2, q⟩ := h
    have nd := scPaired.nd
    have sl := sizeLine_eq
    refine ⟨_, pss_cons (ps_ifU (pt_not (pt_u (pe_callB call_isi (by rfl) M.isi b_isi (pa_cons (uv 1) (pa_cons (pe_glob (v := .ref C) (by rfl) gM rfl) pa_nil))))) (pss_one ps_never) pss_nil)
      (pss_cons (ps_expr (pe_callH HS hA hr (by rfl) (pa_cons (uv 0) (pa_cons (uv 1) pa_nil))))
      (pss_cons (ps_par (i := 2) (j := 3) (by rfl) nd rfl rfl (by decide) rfl rfl (pa_cons (pe_mH0 HR cM.cls hA hr (uv 0)) (pa_cons (pe_mH0 HR cM.cls hA hr (uv 1)) pa_nil)) (by rfl))
      (pss_cons (ps_set (i := 4) nd rfl (.inl rfl) (pe_disp1 hr.units0 (pe_tup (pa_cons pe_int (pa_cons pe_int pa_nil))) pe_int))
      (pss_cons (ps_set (i := 5) nd rfl (.inl rfl) (pe_lst pa_nil))
      (pss_cons (ps_set (i := 6) nd rfl (.inl rfl) (pe_lst (pa_cons (pe_tup (pa_cons pe_int (pa_cons pe_int pa_nil))) pa_nil)))
      (pss_cons (ps_while PassesOwn.never (pt_truth (uv 6) (by intro _; rfl))
        (pss_cons (ps_set (i := 7) nd rfl (.inl rfl) (pe_lst pa_nil))
        (pss_cons (ps_for PassesOwn.never rfl (pi_list (uv 6)) (pg_tup rfl (pgs_cons (pg_name (i := 8) nd rfl (.inl rfl)) (pgs_cons (pg_name (i := 9) nd rfl (.inl rfl)) pgs_nil)))
          (pss_cons (ps_set (i := 10) nd rfl (.inl rfl) (pe_lst pa_nil))
          (pss_cons (ps_for PassesOwn.never rfl (pi_zipN (by rfl) M.zip (pa_cons (pe_ixU (uv 2) (uv 8)) (pa_cons (pe_ixU (uv 3) (uv 9)) pa_nil))) (pg_name (i := 11) nd rfl (.inl rfl))
            (pss_cons (ps_clV (ps_ifU (pt_cmp (pc_dnotin (Room.u1 hr) (uv 11) (uv 4)))
              (pss_cons (ps_dput (Room.u1 hr) (uv 4) (uv 11) (pe_callB call_len_dT (by rfl) M.len b_len (pa_cons (uv 4) pa_nil)) rfl)
              (pss_one (ps_expr (pe_bm PySem.F.plainAttrs_list PySem.F.slot_list_append PySem.F.type_list_append mt_append (uv 7) (pa_cons (uv 11) pa_nil))))) pss_nil))
            (pss_one (ps_expr (pe_bm PySem.F.plainAttrs_list PySem.F.slot_list_append PySem.F.type_list_append mt_append (uv 10) (pa_cons (pe_dget (Room.u1 hr) (uv 4) (uv 11) (fun _ _ => rfl)) pa_nil))))))
          (pss_one (ps_expr (pe_bm PySem.F.plainAttrs_list PySem.F.slot_list_append PySem.F.type_list_append mt_append (uv 5) (pa_cons (uv 10) pa_nil)))))))
        (pss_one (ps_set (i := 6) nd rfl (.inl rfl) (uv 7))))))
      (pss_one (ps_ret (pe_tup (pa_cons (uv 5) (pa_cons (pe_callTy (r := rKeysT) (c_keysT rfl) (by rfl) M.list b_list (pa_cons (uv 4) pa_nil)) pa_nil))))))))))), ?_⟩
    obtain ⟨dx, ra, ka, rsa, h1, _⟩ := id m1
    obtain ⟨dx', rb, kb, rsb, g1, _⟩ := id m2
    have lo1 := ok1.lo
    have lo2 := ok2.lo
    have hi1 := ok1.hi
    have hi2 := ok2.hi
    have hNM : R1.length * R2.length ≤ 1600 := Nat.le_trans (Nat.mul_le_mul hi1 hi2) (by decide)
    have okP : RowsOk (PR R1 R2) S.length := pr_ok ok1.rows ok2.rows
    have lP : (PR R1 R2).length = R1.length * R2.length := pr_len
    have h0P : 0 < (PR R1 R2).length := by rw [lP]; exact Nat.mul_pos (by omega) (by omega)
    have flen : ∀ i, (fnd (PR R1 R2) 0 i).length ≤ R1.length * R2.length := fun i => lP ▸ fnd_len okP h0P i
    have flt : ∀ i, ∀ x ∈ fnd (PR R1 R2) 0 i, x < R1.length * R2.length := fun i x hx => lP ▸ fnd_lt okP h0P i x hx
    refine ⟨_, _, _, _, true, rfl, .own C, iM.ty _ _ _ _ g1 (mf_none (by decide +kernel) (by decide +kernel) (by decide +kernel)), iM.yes, ⟨(fun z => nomatch z), fun _ => ⟨a, b, S, R1, R2, K1, K2, rfl, m1, m2, ?_⟩⟩⟩
    refine ⟨dx, _, h1, mf_none (by decide +kernel) (by decide +kernel) (by decide +kernel), a, S, R1, K1, rfl, m1, by omega, fun H1 r1 ls1 e1 nr1 hr1 ll1 hls1 _ => ?_⟩
    refine ⟨dx', _, e1 _ _ g1, mf_none (by decide +kernel) (by decide +kernel) (by decide +kernel), b, S, R2, K2, rfl, m2.ext e1, by omega, fun H2 r2 ls2 e2 nr2 hr2 ll2 hls2 _ => ?_⟩
    refine ⟨_, _, rfl, ?_⟩
    have eS : Same H H2 := e1.trans e2
    have sr1 := e2 _ _ hr1
    have sl1 : ∀ i q, ls1[i]? = some q → H2 q = some (.lst (iv (gls R1 i))) := fun i q hq => e2 _ _ (hls1 i q hq).2.2
    have sl2 : ∀ i q, ls2[i]? = some q → H2 q = some (.lst (iv (gls R2 i))) := fun i q hq => (hls2 i q hq).2.2
    have sr2 := hr2
    clear hls2 hls1 hr2 hr1 nr2 nr1 e1 e2
    intro D nD
    refine ⟨by show 2 ≤ sizeLine; omega, fun t0 nt0 => ?_⟩
    have hDt0 : D ≠ t0 := fun e => by rw [← e, upd_same] at nt0; cases nt0
    have nt0s : H2 t0 = none := by rw [upd_ne hDt0.symm] at nt0; exact nt0
    refine ⟨by rw [upd_ne hDt0]; exact upd_same, t0, kP (0, 0), rfl, upd_same, ?_⟩
    have eA : Same H2 (upd (upd (upd H2 D (.dT [])) t0 (.tup [.int 0, .int 0])) D (.dT [(kP (0, 0), V.int 0)])) := by
      intro c o hc
      have n1 := ne_of_none hc nD
      rw [upd_ne n1, upd_ne (ne_of_none hc nt0s), upd_ne n1]; exact hc
    have hDA : (upd (upd (upd H2 D (.dT [])) t0 (.tup [.int 0, .int 0])) D (.dT [(kP (0, 0), V.int 0)])) D = some (.dT [(kP (0, 0), V.int 0)]) := upd_same
    generalize (upd (upd (upd H2 D (.dT [])) t0 (.tup [.int 0, .int 0])) D (.dT [(kP (0, 0), V.int 0)])) = HA at eA hDA ⊢
    have d00 : dec R2.length 0 = (0, 0) := by show (0 / R2.length, 0 % R2.length) = (0, 0); rw [Nat.zero_div, Nat.zero_mod]
    have hDA : HA D = some (.dT (kmN R2.length 0 (fnd (PR R1 R2) 0 0))) := by
      rw [hDA]
      show some (HO.dT [(kP (0, 0), V.int 0)]) = some (.dT [(kP (dec R2.length 0), V.int ((0 : Nat) : Int))])
      rw [d00]; rfl
    refine ⟨by show 0 ≤ sizeLine; omega, fun W nW => ?_⟩
    have hDW : D ≠ W := ne_of_none hDA nW
    have nWs : H2 W = none := Same.free eA nW
    have eW : Same H2 (upd HA W (.lst [])) := same_upd2 eA nWs
    have hDW2 : (upd HA W (.lst [])) D = some (.dT (kmN R2.length 0 (fnd (PR R1 R2) 0 0))) := by rw [upd_ne hDW]; exact hDA
    have hWW : (upd HA W (.lst [])) W = some (.lst []) := upd_same
    generalize upd HA W (.lst []) = HW at eW hDW2 hWW ⊢
    refine ⟨by show 2 ≤ sizeLine; omega, fun t1 nt1 => ⟨by show 1 ≤ sizeLine; omega, fun L nL => ?_⟩⟩
    have nt1s : H2 t1 = none := Same.free eW nt1
    have hDt1 : D ≠ t1 := ne_of_none hDW2 nt1
    have hWt1 : W ≠ t1 := ne_of_none hWW nt1
    have hLt1 : L ≠ t1 := fun e => by rw [e, upd_same] at nL; cases nL
    have nLW : HW L = none := by rw [upd_ne hLt1] at nL; exact nL
    have nLs : H2 L = none := Same.free eW nLW
    have hDL : D ≠ L := ne_of_none hDW2 nLW
    have hWL : W ≠ L := ne_of_none hWW nLW
    have eB : Same H2 (upd (upd HW t1 (.tup [.int 0, .int 0])) L (.lst [.ref t1])) := same_upd2 (same_upd2 eW nt1s) nLs
    have hDB : (upd (upd HW t1 (.tup [.int 0, .int 0])) L (.lst [.ref t1])) D = some (.dT (kmN R2.length 0 (fnd (PR R1 R2) 0 0))) := by rw [upd_ne hDL, upd_ne hDt1]; exact hDW2
    have hWB : (upd (upd HW t1 (.tup [.int 0, .int 0])) L (.lst [.ref t1])) W = some (.lst []) := by rw [upd_ne hWL, upd_ne hWt1]; exact hWW
    have hLB : (upd (upd HW t1 (.tup [.int 0, .int 0])) L (.lst [.ref t1])) L = some (.lst ([t1].map V.ref)) := upd_same
    have htB : PrAt (upd (upd HW t1 (.tup [.int 0, .int 0])) L (.lst [.ref t1])) [t1] (((fnd (PR R1 R2) 0 0).drop 0).map (dec R2.length)) := by
      refine ⟨rfl, fun n t g ht hg => ?_⟩
      cases n with
      | zero =>
        simp [fnd] at ht hg
        subst ht; subst hg
        rw [d00, upd_ne hLt1.symm]; exact upd_same
      | succ n => simp at ht
    generalize (upd (upd HW t1 (.tup [.int 0, .int 0])) L (.lst [.ref t1])) = HB at eB hDB hWB hLB htB ⊢
    dsimp only [tSeq, tAsg, gName]
    show tWhile _ _ _ _ _
    refine wh (m0 := R1.length * R2.length) (fun mm σ H3 => ∃ (i : Nat) (L : Addr) (ts ls : List Addr) (y7 y8 y9 y10 y11 : Option V), R1.length * R2.length - i ≤ mm ∧ i ≤ (fnd (PR R1 R2) 0 i).length ∧ Same H2 H3 ∧ H3 D = some (.dT (kmN R2.length 0 (fnd (PR R1 R2) 0 i))) ∧
        H3 L = some (.lst (ts.map V.ref)) ∧ PrAt H3 ts (((fnd (PR R1 R2) 0 i).drop i).map (dec R2.length)) ∧ H3 W = some (.lst (ls.map V.ref)) ∧ RwAt H H3 W ls (PR R1 R2) i ∧ H2 L = none ∧ L ≠ D ∧ L ≠ W ∧
        σ = [some (.ref a), some (.ref b), some (.ref r1), some (.ref r2), some (.ref D), some (.ref W), some (.ref L), y7, y8, y9, y10, y11])
      ⟨0, L, [t1], [], none, none, none, none, none, by omega, Nat.zero_le _, eB, hDB, hLB, htB, hWB, ⟨rfl, fun j q z => by simp at z⟩, nLs, hDL.symm, hWL.symm, rfl⟩ (fun mm σ H3 iv2 => ?_) (fun σ H Q Q' hm h => ?_)
    case refine_2 =>
      simp only [uVar] at h ⊢
      split at h
      · obtain ⟨kk, a, b⟩ := h; exact ⟨kk, a, hm _ _ b⟩
      · exact h.elim
    clear eA hDA nt1 nL nt1s hDt1 hLt1 nLW nLs hDL eB hDB hLB htB nt0 hDt0 nt0s L hWL hWt1 hWB hWW eW hDW2
    obtain ⟨i, L, ts, ls, y7, y8, y9, y10, y11, hmm, hi, eC, hD, hL, ht, hW, hrw, nL, hLD, hLW, rfl⟩ := iv2
    have lts : ts.length = (fnd (PR R1 R2) 0 i).length - i := by rw [ht.1, List.length_map, List.length_drop]
    have fl := flen i
    by_cases hts : ts = []
    · refine ⟨false, .inl ⟨_, .inl (.inl hL), by rw [hts]; rfl⟩, ?_⟩
      show (if false = true then _ else _)
      rw [if_neg Bool.false_ne_true]
      have fi : (fnd (PR R1 R2) 0 i).length = i := by rw [hts] at lts; have : 0 = _ := lts; omega
      have em : fnd (PR R1 R2) 0 i = met (PR R1 R2) 0 := fnd_met okP h0P (by omega)
      rw [em] at hD fi
      refine ⟨D, _, rfl, .inl hD, fun p bs np hk => ?_⟩
      have hDp : D ≠ p := ne_of_none hD np
      have eP : Same H3 (upd H3 p (.lst (bs.map V.ref))) := same_upd np
      have hk2 := (keys_kmN hk).ext eP
      have hW2 := eP _ _ hW
      have hrw2 := hrw.ext eP
      have hp2 : (upd H3 p (.lst (bs.map V.ref))) p = some (.lst (bs.map V.ref)) := upd_same
      have e5 := (eS.trans eC).trans eP
      generalize upd H3 p (.lst (bs.map V.ref)) = H4 at eP hk2 hW2 hrw2 hp2 e5
      refine ⟨by show 2 ≤ sizeLine; omega, fun T nT => ?_⟩
      have eT : Same H4 (upd H4 T (.tup [.ref W, .ref p])) := same_upd nT
      exact q _ T W p ls bs (e5.trans eT) upd_same (eT _ _ hW2) (by rw [fi]; exact hrw2.ext eT) (eT _ _ hp2) (hk2.ext eT)
    have e3 : (!((ts.map V.ref).isEmpty)) = true := by
      cases ts with
      | nil => exact absurd rfl hts
      | cons _ _ => rfl
    have htp : 0 < ts.length := List.length_pos_iff.mpr hts
    refine ⟨true, .inl ⟨_, .inl (.inl hL), e3.symm⟩, ?_⟩
    show (if true = true then _ else _)
    rw [if_pos rfl]
    refine ⟨by show 0 ≤ sizeLine; omega, fun B nB => ?_⟩
    have hBD : B ≠ D := fun e => by rw [e, hD] at nB; cases nB
    have hBL : B ≠ L := fun e => by rw [e, hL] at nB; cases nB
    have hBW : B ≠ W := fun e => by rw [e, hW] at nB; cases nB
    have nBs : H2 B = none := Same.free eC nB
    dsimp only [tNext, tSeq]
    refine for_list (K := K) (a := L) (xs := ts.map V.ref) (H1 := upd H3 B (.lst [])) (by exact fun _ h => h) (.inl (.inl (by rw [upd_ne hBL.symm]; exact hL)))
      (fun pre σ H4 => ∃ (j : Nat) (tb ls : List Addr) (y8 y9 y10 y11 : Option V), pre = (ts.take j).map V.ref ∧ j ≤ ts.length ∧ Same H2 H4 ∧ H4 D = some (.dT (kmN R2.length 0 (fnd (PR R1 R2) 0 (i + j)))) ∧ H4 L = some (.lst (ts.map V.ref)) ∧ H4 B = some (.lst (tb.map V.ref)) ∧ H4 W = some (.lst (ls.map V.ref)) ∧
        PrAt H4 ts (((fnd (PR R1 R2) 0 i).drop i).map (dec R2.length)) ∧ PrAt H4 tb (((fnd (PR R1 R2) 0 (i + j)).drop (fnd (PR R1 R2) 0 i).length).map (dec R2.length)) ∧ RwAt H H4 W ls (PR R1 R2) (i + j) ∧ (∀ q ∈ ls, q ≠ B) ∧
        σ = [some (.ref a), some (.ref b), some (.ref r1), some (.ref r2), some (.ref D), some (.ref W), some (.ref L), some (.ref B), y8, y9, y10, y11])
      (fun pre σ H4 h => ?_) ⟨0, [], ls, y8, y9, y10, y11, rfl, Nat.zero_le _, same_upd2 eC nBs, ?_, ?_, upd_same, ?_, ?_, ?_, ?_, ?_, rfl⟩ (fun pre x suf σ H4 ex h => ?_) (fun σ H4 h => ?_)
    · obtain ⟨_, _, _, _, _, _, _, _, _, _, _, h, _⟩ := h; exact .inl (.inl h)
    · rw [upd_ne hBD.symm]; exact hD
    · rw [upd_ne hBL.symm]; exact hL
    · rw [upd_ne hBW.symm]; exact hW
    · exact ht.put fun vs z => by rw [nB] at z; cases z
    · exact ⟨by rw [Nat.add_zero, List.drop_length]; rfl, fun n t g z => by simp at z⟩
    · refine hrw.put fun q hq z => ?_
      obtain ⟨n, hn⟩ := List.mem_iff_getElem?.mp hq
      obtain ⟨_, _, c, _, hc⟩ := hrw.2 n q hn
      rw [z, nB] at hc; cases hc
    · intro q hq z
      obtain ⟨n, hn⟩ := List.mem_iff_getElem?.mp hq
      obtain ⟨_, _, c, _, hc⟩ := hrw.2 n q hn
      rw [z, nB] at hc; cases hc
    · clear hrw hW hD nB eC ls
      obtain ⟨j, tb, ls, y8, y9, y10, y11, rfl, hj, e5, hD5, hL5, hB5, hW5, ht5, htb5, hrw5, hls5, rfl⟩ := h
      have lj : ((ts.take j).map V.ref).length = j := by rw [List.length_map, List.length_take]; omega
      have hj2 : j < ts.length := by
        have := congrArg List.length ex
        rw [List.length_append, lj, List.length_map, List.length_cons] at this
        omega
      have hx : (ts.map V.ref)[j]? = some x := by rw [ex, List.getElem?_append_right (by omega), lj, Nat.sub_self]; rfl
      rw [List.getElem?_map] at hx
      obtain ⟨t, htj, rfl⟩ := Option.map_eq_some_iff.mp hx
      obtain ⟨c, hci⟩ : ∃ c, (fnd (PR R1 R2) 0 i)[i + j]? = some c := ⟨_, List.getElem?_eq_getElem (by omega)⟩
      have hgj : (((fnd (PR R1 R2) 0 i).drop i).map (dec R2.length))[j]? = some (dec R2.length c) := by rw [List.getElem?_map, List.getElem?_drop, hci]; rfl
      have hT := ht5.2 j t _ htj hgj
      have pre1 : fnd (PR R1 R2) 0 i <+: fnd (PR R1 R2) 0 (i + j) := fnd_pre (by omega)
      have hcj : (fnd (PR R1 R2) 0 (i + j))[i + j]? = some c := by
        obtain ⟨z, ez⟩ := pre1
        rw [← ez, List.getElem?_append_left (by omega)]; exact hci
      have cN : c < R1.length * R2.length := flt _ c (List.mem_of_getElem? hcj)
      have hstep : fnd (PR R1 R2) 0 (i + (j + 1)) = adds (fnd (PR R1 R2) 0 (i + j)) (gls (PR R1 R2) c) := fnd_step hcj
      have ij : i + j < R1.length * R2.length := by have := flen i; omega
      have preM : ∀ n, n ≤ R1.length * R2.length → fnd (PR R1 R2) 0 n <+: met (PR R1 R2) 0 := fun n hn => fnd_pre (by rw [lP]; exact hn)
      have cM2 : (met (PR R1 R2) 0)[i + j]? = some c := by
        obtain ⟨z, ez⟩ := preM (i + j) (by omega)
        rw [← ez, List.getElem?_append_left (List.getElem?_eq_some_iff.mp hcj).1]; exact hcj
      have pg := pr_gls (R1 := R1) (R2 := R2) cN
      obtain ⟨lt1, lt2⟩ := dec_lt cN
      obtain ⟨p1, p2, hp⟩ : ∃ p1 p2, dec R2.length c = (p1, p2) := ⟨_, _, rfl⟩
      rw [hp] at lt1 lt2 pg hT
      have lt1 : p1 < R1.length := lt1
      have lt2 : p2 < R2.length := lt2
      have hT : H4 t = some (.tup [.int (p1 : Nat), .int (p2 : Nat)]) := hT
      have pg : gls (PR R1 R2) c = ((gls R1 p1).zip (gls R2 p2)).map (enc R2.length) := pg
      have lg1 := gls_len ok1.rows lt1
      have lg2 := gls_len ok2.rows lt2
      refine ⟨t, _, rfl, .inl (.inl hT), rfl, _, _, rfl, _, _, rfl, rfl, ?_⟩
      refine ⟨by show 0 ≤ sizeLine; omega, fun Rw nRw => ?_⟩
      have e6 : Same H4 (upd H4 Rw (.lst [])) := same_upd nRw
      have hRw6 : (upd H4 Rw (.lst [])) Rw = some (.lst (iv [])) := upd_same
      have hDR : D ≠ Rw := ne_of_none hD5 nRw
      have hLR : L ≠ Rw := ne_of_none hL5 nRw
      have hBR : B ≠ Rw := ne_of_none hB5 nRw
      have hWR : W ≠ Rw := ne_of_none hW5 nRw
      have nRs : H2 Rw = none := Same.free e5 nRw
      have nRH : H Rw = none := Same.free eS nRs
      have hlR : ∀ q ∈ ls, q ≠ Rw := fun q hq => by
        obtain ⟨n, hn⟩ := List.mem_iff_getElem?.mp hq
        obtain ⟨_, _, c, _, hc⟩ := hrw5.2 n q hn
        exact ne_of_none hc nRw
      have e56 := e5.trans e6
      have hD6 := e6 _ _ hD5
      have hL6 := e6 _ _ hL5
      have hB6 := e6 _ _ hB5
      have hW6 := e6 _ _ hW5
      have ht6 := ht5.ext e6
      have htb6 := htb5.ext e6
      have hrw6 := hrw5.ext e6
      generalize upd H4 Rw (.lst []) = H5 at e6 hRw6 e56 hD6 hL6 hB6 hW6 ht6 htb6 hrw6 ⊢
      clear hT hrw5 htb5 ht5 hW5 hB5 hL5 hD5
      obtain ⟨q1, hq1⟩ : ∃ q1, ls1[p1]? = some q1 := ⟨_, List.getElem?_eq_getElem (by omega)⟩
      obtain ⟨q2, hq2⟩ : ∃ q2, ls2[p2]? = some q2 := ⟨_, List.getElem?_eq_getElem (by omega)⟩
      have sq1 := sl1 p1 q1 hq1
      have sq2 := sl2 p2 q2 hq2
      have lPc : (gls (PR R1 R2) c).length = S.length := by rw [pg, List.length_map, List.length_zip, lg1, lg2, Nat.min_self]
      have adN : ∀ n, (adds (fnd (PR R1 R2) 0 (i + j)) ((gls (PR R1 R2) c).take n)).length ≤ R1.length * R2.length := fun n => lP ▸ adds_len okP h0P (List.take_append_drop n (gls (PR R1 R2) c)).symm
      have adM : ∀ n, adds (fnd (PR R1 R2) 0 (i + j)) ((gls (PR R1 R2) c).take n) <+: met (PR R1 R2) 0 := fun n => by
        refine List.IsPrefix.trans ?_ (preM (i + (j + 1)) (by omega))
        rw [hstep]
        conv => rhs; rw [← List.take_append_drop n (gls (PR R1 R2) c)]
        unfold adds
        rw [List.foldl_append]
        exact adds_pre
      dsimp only [tNext, tSeq]
      refine for_zLN (K := K) (a := q1) (b := q2) (xs := iv (gls R1 p1)) (ys := iv (gls R2 p2)) (H1 := H5)
        (fun R' hR' => ⟨ls1.map V.ref, .ref q1, .inl (.inl (.inl (e56 _ _ sr1))), atI_nat (by rw [List.getElem?_map, hq1]; rfl), ls2.map V.ref, .ref q2, .inl (.inl (.inl (e56 _ _ sr2))), atI_nat (by rw [List.getElem?_map, hq2]; rfl), hR'⟩)
        (by rw [List.length_map, List.length_map, lg1, lg2])
        (fun n σ H6 => ∃ (tb : List Addr) (y11 : Option V), n ≤ S.length ∧ Same H2 H6 ∧ H6 D = some (.dT (kmN R2.length 0 (adds (fnd (PR R1 R2) 0 (i + j)) ((gls (PR R1 R2) c).take n)))) ∧ H6 L = some (.lst (ts.map V.ref)) ∧ H6 B = some (.lst (tb.map V.ref)) ∧ H6 W = some (.lst (ls.map V.ref)) ∧
          PrAt H6 ts (((fnd (PR R1 R2) 0 i).drop i).map (dec R2.length)) ∧ PrAt H6 tb (((adds (fnd (PR R1 R2) 0 (i + j)) ((gls (PR R1 R2) c).take n)).drop (fnd (PR R1 R2) 0 i).length).map (dec R2.length)) ∧ RwAt H H6 W ls (PR R1 R2) (i + j) ∧
          H6 Rw = some (.lst (iv (((gls (PR R1 R2) c).take n).map fun x => (met (PR R1 R2) 0).idxOf x))) ∧
          σ = [some (.ref a), some (.ref b), some (.ref r1), some (.ref r2), some (.ref D), some (.ref W), some (.ref L), some (.ref B), some (.int (p1 : Nat)), some (.int (p2 : Nat)), some (.ref Rw), y11])
        ⟨tb, y11, Nat.zero_le _, e56, hD6, hL6, hB6, hW6, ht6, htb6, hrw6, hRw6, rfl⟩ (fun n σ H6 h => by obtain ⟨_, _, _, h, _⟩ := h; exact ⟨.inl (.inl (h _ _ sq1)), .inl (.inl (h _ _ sq2))⟩) (fun n u y pr σ H6 hu2 hy h npr => ?_) (fun σ H6 h => ?_)
      · clear hRw6 hrw6 htb6 ht6 hW6 hB6 hL6 hD6 e56 e6
        obtain ⟨tb, y11, hnS, e7, hD7, hL7, hB7, hW7, ht7, htb7, hrw7, hRw7, rfl⟩ := h
        rw [List.getElem?_map] at hu2 hy
        obtain ⟨g1, hg1, rfl⟩ := Option.map_eq_some_iff.mp hu2
        obtain ⟨g2, hg2, rfl⟩ := Option.map_eq_some_iff.mp hy
        have hn : n < S.length := by have := (List.getElem?_eq_some_iff.mp hg1).1; omega
        have gl1 := gls_lt ok1.rows (List.mem_of_getElem? hg1)
        have gl2 := gls_lt ok2.rows (List.mem_of_getElem? hg2)
        have de : dec R2.length (enc R2.length (g1, g2)) = (g1, g2) := dec_enc gl2
        have hgn : (gls (PR R1 R2) c)[n]? = some (enc R2.length (g1, g2)) := by rw [pg, List.getElem?_map, (List.getElem?_zip_eq_some (z := (g1, g2))).mpr ⟨hg1, hg2⟩]; rfl
        have htk : (gls (PR R1 R2) c).take (n + 1) = (gls (PR R1 R2) c).take n ++ [enc R2.length (g1, g2)] := by rw [List.take_add_one, hgn]; rfl
        have adS : adds (fnd (PR R1 R2) 0 (i + j)) ((gls (PR R1 R2) c).take (n + 1)) = add1 (adds (fnd (PR R1 R2) 0 (i + j)) ((gls (PR R1 R2) c).take n)) (enc R2.length (g1, g2)) := by rw [htk, adds_app]
        have aN := adN n
        have aM := adM (n + 1)
        have pF : (fnd (PR R1 R2) 0 i).length ≤ (adds (fnd (PR R1 R2) 0 (i + j)) ((gls (PR R1 R2) c).take n)).length := (pre1.trans adds_pre).length_le
        rw [adS, htk]
        rw [adS] at aM
        generalize adds (fnd (PR R1 R2) 0 (i + j)) ((gls (PR R1 R2) c).take n) = G at hD7 htb7 aN aM pF ⊢
        generalize enc R2.length (g1, g2) = ee at de aM ⊢
        have e8 : Same H6 (upd H6 pr (.tup [.int (g1 : Nat), .int (g2 : Nat)])) := same_upd npr
        have hpr := upd_same (H := H6) (a := pr) (o := .tup [.int (g1 : Nat), .int (g2 : Nat)])
        have hBp : B ≠ pr := ne_of_none hB7 npr
        have hDp : D ≠ pr := ne_of_none hD7 npr
        have hRp : Rw ≠ pr := ne_of_none hRw7 npr
        have e9 := e7.trans e8
        have hD8 := e8 _ _ hD7
        have hL8 := e8 _ _ hL7
        have hB8 := e8 _ _ hB7
        have hW8 := e8 _ _ hW7
        have ht8 := ht7.ext e8
        have htb8 := htb7.ext e8
        have hrw8 := hrw7.ext e8
        have hRw8 := e8 _ _ hRw7
        generalize upd H6 pr (.tup [.int (g1 : Nat), .int (g2 : Nat)]) = H7 at e8 hpr e9 hD8 hL8 hB8 hW8 ht8 htb8 hrw8 hRw8 ⊢
        clear hRw7 hrw7 htb7 ht7 hW7 hB7 hL7 hD7 e7
        have nDq : ∀ q ∈ ls, q ≠ D := fun q hq z => by
          obtain ⟨n, hn⟩ := List.mem_iff_getElem?.mp hq
          obtain ⟨_, _, c, _, hc⟩ := hrw8.2 n q hn
          rw [z, hD8] at hc; cases hc
        have hRB : Rw ≠ B := hBR.symm
        refine ⟨fun σ' H8 => ∃ tb : List Addr, Same H2 H8 ∧ H8 D = some (.dT (kmN R2.length 0 (add1 G ee))) ∧ H8 L = some (.lst (ts.map V.ref)) ∧ H8 B = some (.lst (tb.map V.ref)) ∧ H8 W = some (.lst (ls.map V.ref)) ∧
          PrAt H8 ts (((fnd (PR R1 R2) 0 i).drop i).map (dec R2.length)) ∧ PrAt H8 tb (((add1 G ee).drop (fnd (PR R1 R2) 0 i).length).map (dec R2.length)) ∧ RwAt H H8 W ls (PR R1 R2) (i + j) ∧
          H8 Rw = some (.lst (iv (((gls (PR R1 R2) c).take n).map fun x => (met (PR R1 R2) 0).idxOf x))) ∧ H8 pr = some (.tup [.int (g1 : Nat), .int (g2 : Nat)]) ∧
          σ' = [some (.ref a), some (.ref b), some (.ref r1), some (.ref r2), some (.ref D), some (.ref W), some (.ref L), some (.ref B), some (.int (p1 : Nat)), some (.int (p2 : Nat)), some (.ref Rw), some (.ref pr)], ?_, ?_⟩
        · refine ⟨D, _, rfl, DGet.t (k := kP (g1, g2)) hD8 hpr, _, rfl, ?_⟩
          rw [← de, has_kmN]
          refine .nd (fun hg => ?_) (fun hg => ?_)
          · refine ⟨D, _, rfl, hD8, D, _, rfl, DPut.t (k := kP (g1, g2)) hD8 hpr (by rw [len_kmN]; omega), ?_⟩
            rw [show putK (kmN R2.length 0 G) (kP (g1, g2)) (.int (((kmN R2.length 0 G).length : Nat) : Int)) = kmN R2.length 0 (G ++ [ee]) by rw [← de, len_kmN]; exact put_kmN hg]
            have a1 : add1 G ee = G ++ [ee] := if_neg hg
            have nDt : ∀ vs, H7 D ≠ some (.tup vs) := fun vs z => by rw [hD8] at z; cases z
            have hB9 : (upd H7 D (.dT (kmN R2.length 0 (G ++ [ee])))) B = some (.lst (tb.map V.ref)) := by rw [upd_ne hBD]; exact hB8
            have hL9 : (upd H7 D (.dT (kmN R2.length 0 (G ++ [ee])))) L = some (.lst (ts.map V.ref)) := by rw [upd_ne hLD]; exact hL8
            have hW9 : (upd H7 D (.dT (kmN R2.length 0 (G ++ [ee])))) W = some (.lst (ls.map V.ref)) := by rw [upd_ne hDW.symm]; exact hW8
            have hp9 : (upd H7 D (.dT (kmN R2.length 0 (G ++ [ee])))) pr = some (.tup [.int (g1 : Nat), .int (g2 : Nat)]) := by rw [upd_ne hDp.symm]; exact hpr
            have hR9 : (upd H7 D (.dT (kmN R2.length 0 (G ++ [ee])))) Rw = some (.lst (iv (((gls (PR R1 R2) c).take n).map fun x => (met (PR R1 R2) 0).idxOf x))) := by rw [upd_ne hDR.symm]; exact hRw8
            have hD9 : (upd H7 D (.dT (kmN R2.length 0 (G ++ [ee])))) D = some (.dT (kmN R2.length 0 (G ++ [ee]))) := upd_same
            have e10 : Same H2 (upd H7 D (.dT (kmN R2.length 0 (G ++ [ee])))) := same_upd2 e9 nD
            have ht9 := ht8.put (o := .dT (kmN R2.length 0 (G ++ [ee]))) nDt
            have htb9 := htb8.put (o := .dT (kmN R2.length 0 (G ++ [ee]))) nDt
            have hrw9 := hrw8.put (o := .dT (kmN R2.length 0 (G ++ [ee]))) nDq
            generalize upd H7 D (.dT (kmN R2.length 0 (G ++ [ee]))) = H8 at hB9 hL9 hW9 hp9 hR9 hD9 e10 ht9 htb9 hrw9 ⊢
            have nBt : ∀ vs, H8 B ≠ some (.tup vs) := fun vs z => by rw [hB9] at z; cases z
            refine ⟨.inl ⟨rfl, _, .inl (.inl hB9)⟩, B, _, _, rfl, rfl, hB9, by rw [List.length_map, htb9.1, List.length_map, List.length_drop]; omega, ?_⟩
            refine ⟨tb ++ [pr], same_upd2 e10 nBs, ?_, ?_, ?_, ?_, ht9.put nBt, ?_, hrw9.put hls5, ?_, ?_, rfl⟩
            · rw [upd_ne hBD.symm, a1]; exact hD9
            · rw [upd_ne hBL.symm]; exact hL9
            · rw [upd_same, List.map_append]; rfl
            · rw [upd_ne hBW.symm]; exact hW9
            · rw [a1, List.drop_append_of_le_length pF, List.map_append]
              exact (htb9.put nBt).snoc (g := dec R2.length ee) (by rw [de, upd_ne hBp.symm]; exact hp9)
            · rw [upd_ne hRB]; exact hR9
            · rw [upd_ne hBp.symm]; exact hp9
          · have a1 : add1 G ee = G := if_pos hg
            exact ⟨tb, e9, by rw [a1]; exact hD8, hL8, hB8, hW8, ht8, by rw [a1]; exact htb8, hrw8, hRw8, hpr, rfl⟩
        · rintro σ' H8 ⟨tb, e10, hD9, hL9, hB9, hW9, ht9, htb9, hrw9, hR9, hp9, rfl⟩
          have hee : ee ∈ add1 G ee := mem_add1.mpr (.inr rfl)
          have dg : DGet H8 D (.ref pr) (some (.int (((met (PR R1 R2) 0).idxOf ee : Nat) : Int))) := by
            have := DGet.t (k := kP (g1, g2)) hD9 hp9
            rw [← de, val_some hee, ← idx_pre aM hee] at this
            exact this
          have nRt : ∀ vs, H8 Rw ≠ some (.tup vs) := fun vs z => by rw [hR9] at z; cases z
          have l3 := ok1.let_.hi
          refine ⟨.inl ⟨rfl, _, .inl (.inl hR9)⟩, D, _, rfl, dg, Rw, _, _, rfl, rfl, hR9, by rw [List.length_map, List.length_map, List.length_take]; omega, ?_⟩
          refine ⟨tb, _, hn, same_upd2 e10 nRs, ?_, ?_, ?_, ?_, ht9.put nRt, htb9.put nRt, hrw9.put hlR, ?_, rfl⟩
          · rw [upd_ne hDR]; exact hD9
          · rw [upd_ne hLR]; exact hL9
          · rw [upd_ne hBR]; exact hB9
          · rw [upd_ne hWR]; exact hW9
          · rw [upd_same, List.map_append]; unfold iv; rw [List.map_append]; rfl
      · obtain ⟨tb, y11, hnS, e7, hD7, hL7, hB7, hW7, ht7, htb7, hrw7, hRw7, rfl⟩ := h
        have tk : (gls (PR R1 R2) c).take (iv (gls R1 p1)).length = gls (PR R1 R2) c := List.take_of_length_le (by rw [lPc, List.length_map, lg1]; exact Nat.le_refl _)
        rw [tk, ← hstep] at hD7 htb7
        rw [tk] at hRw7
        refine ⟨.inl ⟨rfl, _, .inl (.inl hW7)⟩, W, _, _, rfl, rfl, hW7, ?_, ?_⟩
        · rw [List.length_map, hrw7.1]; omega
        refine ⟨j + 1, tb, ls ++ [Rw], _, _, _, _, ?_, hj2, same_upd2 e7 nWs, ?_, ?_, ?_, ?_, ?_, ?_, ?_, ?_, rfl⟩
        · rw [List.take_add_one, htj, List.map_append]; rfl
        · rw [upd_ne hDW]; exact hD7
        · rw [upd_ne hLW]; exact hL7
        · rw [upd_ne hBW]; exact hB7
        · rw [upd_same, List.map_append]; rfl
        · exact ht7.put fun vs z => by rw [hW7] at z; cases z
        · exact htb7.put fun vs z => by rw [hW7] at z; cases z
        · exact (hrw7.put (o := .lst (ls.map V.ref ++ [.ref Rw])) fun q hq => (hrw7.2 _ q (List.mem_iff_getElem?.mp hq).choose_spec).1).snoc hWR.symm nRH cM2 (by rw [upd_ne hWR.symm]; exact hRw7)
        · intro q hq
          rcases List.mem_append.mp hq with z | z
          · exact hls5 q z
          · simp at z; rw [z]; exact hBR.symm
    · obtain ⟨j, tb, ls2, y8, y9, y10, y11, ej, hj, e5, hD5, hL5, hB5, hW5, ht5, htb5, hrw5, hls5, rfl⟩ := h
      have ej : j = ts.length := by
        have := congrArg List.length ej
        rw [List.length_map, List.length_map, List.length_take] at this
        omega
      have e6 : i + j = (fnd (PR R1 R2) 0 i).length := by omega
      rw [e6] at hD5 htb5 hrw5
      have fl2 := flen (fnd (PR R1 R2) 0 i).length
      refine ⟨R1.length * R2.length - (fnd (PR R1 R2) 0 i).length, by omega, (fnd (PR R1 R2) 0 i).length, B, tb, ls2, _, _, _, _, _, Nat.le_refl _, (fnd_pre (by omega)).length_le, e5, hD5, hB5, htb5, hW5, hrw5, nBs, hBD, hBW, rfl⟩
end
end LK

/-! _kinds_of; &, |, - of machines -/
namespace LK
open PySem PySem.Spec PyProof.Rows L2 LamX ClX
open scoped List
/-- tuples of pairs of kinds, by where they lie -/
def BpAt (H : Hp) (ks : List Addr) (ps : List (Bool × Bool)) : Prop := ks.length = ps.length ∧ ∀ (n : Nat) (t : Addr) (g : Bool × Bool), ks[n]? = some t → ps[n]? = some g → H t = some (.tup [.bl g.1, .bl g.2])
theorem BpAt.ext {H H' : Hp} {ks : List Addr} {ps : List (Bool × Bool)} (h : BpAt H ks ps) (e : Same H H') : BpAt H' ks ps := ⟨h.1, fun n t g a b => e _ _ (h.2 n t g a b)⟩
theorem BpAt.put {H : Hp} {ks : List Addr} {ps : List (Bool × Bool)} {Z : Addr} {o : HO} (h : BpAt H ks ps) (hx : ∀ vs, H Z ≠ some (.tup vs)) : BpAt (upd H Z o) ks ps :=
  ⟨h.1, fun n t g a b => by
    have := h.2 n t g a b
    rw [upd_ne (fun z => hx _ (z ▸ this))]; exact this⟩
theorem BpAt.snoc {H : Hp} {ts : List Addr} {gs : List (Bool × Bool)} {t : Addr} {g : Bool × Bool} (h : BpAt H ts gs) (ht : H t = some (.tup [.bl g.1, .bl g.2])) : BpAt H (ts ++ [t]) (gs ++ [g]) := by
  refine ⟨by simp [h.1], fun n p e' a b => ?_⟩
  by_cases hn : n < ts.length
  · rw [List.getElem?_append_left hn] at a
    rw [List.getElem?_append_left (by rw [← h.1]; exact hn)] at b
    exact h.2 n p e' a b
  · have hl := h.1
    rw [List.getElem?_append_right (by omega)] at a
    rw [List.getElem?_append_right (by omega)] at b
    have n0 : n - ts.length = 0 := by
      have := (List.getElem?_eq_some_iff.mp a).1
      simp at this; omega
    rw [n0] at a
    rw [← hl, n0] at b
    simp at a b
    subst a; subst b; exact ht
abbrev nKO : List Str := ["one", "other", "pairs", "kinds", "other_kinds", "place", "other_place"]
theorem scKindsOf : FnScope nKO ["one", "other", "pairs"] (defScope sKindsOf) := ⟨rfl, rfl, rfl, by decide +kernel, rfl, by decide +kernel, by decide +kernel⟩
section
variable {P : Program} {w : World} {K : PySem.W.Frag} {mg : Str → Option Value} {base : Heap} {C : Addr}
/-- the kinds of pairs of places -/
def spKindsOf (C : Addr) : Sp := fun vs H Q _ => ∃ (a b Ps : Addr) (S : List Nat) (R1 R2 : Rows) (K1 K2 : List Bool) (bs : List Addr) (gs : List (Nat × Nat)), vs = [.ref a, .ref b, .ref Ps] ∧ Mach C H a S R1 K1 ∧ Mach C H b S R2 K2 ∧ ShOk S R1 K1 ∧ ShOk S R2 K2 ∧
  H Ps = some (.lst (bs.map V.ref)) ∧ PrAt H bs gs ∧ (∀ g ∈ gs, g.1 < R1.length ∧ g.2 < R2.length) ∧ gs.length ≤ 1600 ∧
  ∀ H' p (ks : List Addr), Same H H' → H' p = some (.lst (ks.map V.ref)) → BpAt H' ks (gs.map fun g => (kd K1 g.1, kd K2 g.2)) → Q (.ref p) H'
theorem ok_kindsOf {f : Addr} {fd : FuncData} {k : Nat} (F : Fun K "_kinds_of" "_kinds_of" sKindsOf f fd) (M : Mx mg) (cM : ClsM K C)
    (HK : HasM P w K mg base (k + 1) C "kinds" [] (spKinds C)) : FnG P w K mg base CX0 (k + 2) f fd ["one", "other", "pairs"] (spKindsOf C) := by
  refine okG F scKindsOf (fun vs H Q E h => ?_) (fun cdv A hA outer s H vs Q E hr h => ?_)
  · obtain ⟨a, b, Ps, S, R1, R2, K1, K2, bs, gs, rfl, _⟩ := h; rfl
  · obtain ⟨a, b, Ps, S, R1, R2, K1, K2, bs, gs, rfl, m1, m2, ok1, ok2, hPs, hbs, hg, hlen, q⟩ := h
    have nd := scKindsOf.nd
    have sl := sizeLine_eq
    refine ⟨_, pss_cons (ps_asg (pe_tup (pa_cons (pe_mH0 HK cM.cls hA hr (uv 0)) (pa_cons (pe_mH0 HK cM.cls hA hr (uv 1)) pa_nil))) (pg_tup rfl (pgs_cons (pg_name (i := 3) nd rfl (.inr rfl)) (pgs_cons (pg_name (i := 4) nd rfl (.inr rfl)) pgs_nil))) rfl)
      (pss_one (ps_ret (pe_lc (own := [("place", 5), ("other_place", 6)]) (g := gTup K 2 (gCons (gName 5) (gCons (gName 6) gNil))) (tt := tYes) rfl nd (pi_list (uv 2)) (blkOk_by (N := nKO) (sc := defScope sKindsOf) (by decide +kernel))
        (fun _ _ _ _ _ => pg_tup rfl (pgs_cons (pg_name (i := 5) nd rfl (.inl rfl)) (pgs_cons (pg_name (i := 6) nd rfl (.inl rfl)) pgs_nil))) (fun _ _ _ _ _ => pts_nil)
        (fun _ _ _ _ _ => pe_tup (pa_cons (pe_ixK (K := K) rfl (uv 3) (uv 5)) (pa_cons (pe_ixK (K := K) rfl (uv 4) (uv 6)) pa_nil)))))), ?_⟩
    obtain ⟨dx, ra, ka, rsa, h1, _⟩ := id m1
    obtain ⟨dx', rb, kb, rsb, g1, _⟩ := id m2
    have hi1 := ok1.hi
    have hi2 := ok2.hi
    refine ⟨dx, _, h1, mf_none (by decide +kernel) (by decide +kernel) (by decide +kernel), a, S, R1, K1, rfl, m1, fun k1 nk1 => ?_⟩
    have e3 : Same H (upd H k1 (.lst (K1.map V.bl))) := same_upd nk1
    refine ⟨dx', _, e3 _ _ g1, mf_none (by decide +kernel) (by decide +kernel) (by decide +kernel), b, S, R2, K2, rfl, m2.ext e3, fun k2 nk2 => ?_⟩
    have e4 : Same (upd H k1 (.lst (K1.map V.bl))) (upd (upd H k1 (.lst (K1.map V.bl))) k2 (.lst (K2.map V.bl))) := same_upd nk2
    have e34 := e3.trans e4
    have sk1 := e4 _ _ (upd_same (H := H) (a := k1) (o := .lst (K1.map V.bl)))
    have sk2 := upd_same (H := upd H k1 (.lst (K1.map V.bl))) (a := k2) (o := .lst (K2.map V.bl))
    have hPs2 := e34 _ _ hPs
    have hbs2 := hbs.ext e34
    generalize (upd (upd H k1 (.lst (K1.map V.bl))) k2 (.lst (K2.map V.bl))) = Hs at e34 sk1 sk2 hPs2 hbs2 ⊢
    refine ⟨by show 2 ≤ sizeLine; omega, fun t0 nt0 => ?_⟩
    refine ⟨t0, _, rfl, .inl (.inl upd_same), rfl, _, _, rfl, _, _, rfl, rfl, ?_⟩
    have e5 : Same Hs (upd Hs t0 (.tup [.ref k1, .ref k2])) := same_upd nt0
    have e6 := e34.trans e5
    have tk1 := e5 _ _ sk1
    have tk2 := e5 _ _ sk2
    have hPs3 := e5 _ _ hPs2
    have hbs3 := hbs2.ext e5
    generalize upd Hs t0 (.tup [.ref k1, .ref k2]) = Ht at e5 e6 tk1 tk2 hPs3 hbs3 ⊢
    clear e5 hbs2 hPs2 sk2 sk1 e34 e4 e3
    dsimp only [tRet]
    refine lc_list (K := K) (a := Ps) (xs := bs.map V.ref) (H1 := Ht) (by exact fun _ h => h) (.inl (.inl hPs3))
      (fun D pre acc H3 => ∃ (j : Nat) (ks : List Addr), pre = (bs.take j).map V.ref ∧ j ≤ bs.length ∧ acc = ks.map V.ref ∧ Same Ht H3 ∧ H3 D = some (.lst (ks.map V.ref)) ∧ BpAt H3 ks ((gs.take j).map fun g => (kd K1 g.1, kd K2 g.2)))
      (fun D pre acc H3 h => by obtain ⟨_, _, _, _, _, h, _⟩ := h; exact .inl (.inl (h _ _ hPs3)))
      (fun D nD => ⟨0, [], rfl, Nat.zero_le _, rfl, same_upd nD, upd_same, rfl, fun n t g z => by simp at z⟩)
      (fun D nD pre acc x suf H3 ex h => ?_) (fun D nD acc H3 h => ?_)
    · obtain ⟨j, ks, rfl, hj, rfl, e7, hD, hks⟩ := h
      have lj : ((bs.take j).map V.ref).length = j := by rw [List.length_map, List.length_take]; omega
      have hj2 : j < bs.length := by
        have := congrArg List.length ex
        rw [List.length_append, lj, List.length_map, List.length_cons] at this
        omega
      have hx : (bs.map V.ref)[j]? = some x := by rw [ex, List.getElem?_append_right (by omega), lj, Nat.sub_self]; rfl
      rw [List.getElem?_map] at hx
      obtain ⟨t, htj, rfl⟩ := Option.map_eq_some_iff.mp hx
      obtain ⟨g, hgj⟩ : ∃ g, gs[j]? = some g := ⟨_, List.getElem?_eq_getElem (by rw [← hbs3.1]; exact hj2)⟩
      have hT := e7 _ _ (hbs3.2 j t g htj hgj)
      obtain ⟨lt1, lt2⟩ := hg g (List.mem_of_getElem? hgj)
      refine ⟨t, _, rfl, .inl (.inl hT), rfl, _, _, rfl, _, _, rfl, rfl, rfl, ?_⟩
      refine ⟨K1.map V.bl, .bl (kd K1 g.1), .inl (.inl (.inl (e7 _ _ tk1))), atI_nat (by rw [List.getElem?_map, kd_some ok1.kinds lt1]; rfl), ?_⟩
      refine ⟨K2.map V.bl, .bl (kd K2 g.2), .inl (.inl (.inl (e7 _ _ tk2))), atI_nat (by rw [List.getElem?_map, kd_some ok2.kinds lt2]; rfl), ?_⟩
      refine ⟨by show 2 ≤ sizeLine; omega, fun T2 nT2 => ?_⟩
      have e8 : Same H3 (upd H3 T2 (.tup [.bl (kd K1 g.1), .bl (kd K2 g.2)])) := same_upd nT2
      have nDT : D ≠ T2 := ne_of_none hD nT2
      have nDH : Ht D = none := by assumption
      have lks : ks.length = j := by rw [hks.1, List.length_map, List.length_take]; have := hbs3.1; omega
      refine ⟨ks.map V.ref, e8 _ _ hD, by rw [List.length_map]; have := hbs3.1; omega, (ks ++ [T2]).map V.ref, j + 1, ks ++ [T2], ?_, hj2, rfl, same_upd2 (e7.trans e8) nDH, ?_, ?_⟩
      · rw [List.take_add_one, htj, List.map_append]; rfl
      · rw [upd_same, List.map_append]; rfl
      · rw [List.take_add_one, hgj, List.map_append]
        exact ((hks.ext e8).put fun vs z => by rw [e8 _ _ hD] at z; cases z).snoc (g := (kd K1 g.1, kd K2 g.2)) (by rw [upd_ne nDT.symm]; exact upd_same)
    · obtain ⟨j, ks, ej, hj, rfl, e7, hD, hks⟩ := h
      have ej : bs.length = j := by
        have := congrArg List.length ej
        rw [List.length_map, List.length_map, List.length_take] at this
        omega
      have : gs.take j = gs := List.take_of_length_le (by rw [← ej, hbs3.1]; exact Nat.le_refl _)
      rw [this] at hks
      exact q _ D ks (e6.trans e7) hD hks
end
end LK

/-! &, |, - of machines -/
namespace LK
open PySem PySem.Spec PyProof.Rows L2 LamX ClX
open scoped List
abbrev pL (R1 R2 : Rows) : List Nat := met (PR R1 R2) 0
abbrev pR (R1 R2 : Rows) : Rows := rn (PR R1 R2) (pL R1 R2)
abbrev pK (op : Bool → Bool → Bool) (R1 R2 : Rows) (K1 K2 : List Bool) : List Bool := (pL R1 R2).map fun c => op (kd K1 (dec R2.length c).1) (kd K2 (dec R2.length c).2)
section
variable {S : List Nat} {R1 R2 : Rows} {K1 K2 : List Bool} {op : Bool → Bool → Bool}
theorem pr_pos (ok1 : ShOk S R1 K1) (ok2 : ShOk S R2 K2) : 0 < (PR R1 R2).length := by
  rw [pr_len]
  have := ok1.lo
  have := ok2.lo
  exact Nat.mul_pos (by omega) (by omega)
theorem pL_len (ok1 : ShOk S R1 K1) (ok2 : ShOk S R2 K2) : (pL R1 R2).length ≤ R1.length * R2.length := pr_len (R1 := R1) (R2 := R2) ▸ fnd_len (pr_ok ok1.rows ok2.rows) (pr_pos ok1 ok2) _
theorem pL_lt (ok1 : ShOk S R1 K1) (ok2 : ShOk S R2 K2) {c : Nat} (h : c ∈ pL R1 R2) : (dec R2.length c).1 < R1.length ∧ (dec R2.length c).2 < R2.length :=
  dec_lt (pr_len (R1 := R1) (R2 := R2) ▸ fnd_lt (pr_ok ok1.rows ok2.rows) (pr_pos ok1 ok2) _ c h)
theorem pr_sh (ok1 : ShOk S R1 K1) (ok2 : ShOk S R2 K2) (h : R1.length * R2.length ≤ 40) : ShOk S (pR R1 R2) (pK op R1 R2 K1 K2) := by
  have hl := pL_len ok1 ok2
  refine ⟨ok1.let_, rn_ok (pr_ok ok1.rows ok2.rows) (pr_pos ok1 ok2) (fun x => Iff.rfl), ?_, by rw [rn_len]; omega, by rw [List.length_map, rn_len]⟩
  rw [rn_len]; exact List.length_pos_of_mem (fnd_head _)
theorem pr_wh (ok1 : ShOk S R1 K1) (ok2 : ShOk S R2 K2) : Whole (pR R1 R2) := rn_whole (pr_ok ok1.rows ok2.rows) (pr_pos ok1 ok2) met_nd (fun x => Iff.rfl) met_zero
theorem RwAt.rows {K : PySem.W.Frag} {H0 H : Hp} {W : Addr} {ls : List Addr} (hW : H W = some (.lst (ls.map V.ref))) (h : RwAt H0 H W ls (PR R1 R2) (pL R1 R2).length) : RowsAt K H W (pR R1 R2) := by
  refine ⟨false, ls, .inl (.inl hW), by rw [rn_len]; exact h.1, fun i p hp => ⟨false, ?_⟩⟩
  obtain ⟨_, _, c, hc, e⟩ := h.2 i p hp
  rw [rn_gls hc]
  exact .inl (.inl e)
end
section
variable {K : PySem.W.Frag} {g : TG} {te : TE} {vs : List Nat} {σ : L2.St} {H : Hp} {Q : VK} {t : TE}
theorem lc_listY (h : t σ H fun v H1 => ∃ (a : Addr) (xs : List V), v = .ref a ∧ SqL K H1 a xs ∧ ∃ R : Addr → List V → List V → Hp → Prop, (∀ D pre acc H, R D pre acc H → SqL K H a xs) ∧ (∀ D, H1 D = none → R D [] [] (upd H1 D (.lst []))) ∧
    (∀ D, H1 D = none → ∀ pre acc x suf H, xs = pre ++ x :: suf → R D pre acc H → g x (wipe σ vs) H fun σ2 H2 => wipe σ2 vs = wipe σ vs ∧ te σ2 H2 fun y H4 =>
      ∃ acc, H4 D = some (.lst acc) ∧ acc.length < sizeLine ∧ ∃ a, R D (pre ++ [x]) a (upd H4 D (.lst (acc ++ [y])))) ∧
    (∀ D, H1 D = none → ∀ acc H, R D xs acc H → Q (.ref D) H)) : tLc (iList K (cl t)) g tYes te vs σ H Q := by
  refine ⟨_, h, fun v H1 z => ?_⟩
  obtain ⟨a, xs, rfl, hx, R, hP, h0, hs, he⟩ := z
  exact ⟨a, rfl, ⟨_, hx⟩, fun D nD => lc_wk wk_list (fun pre acc H => R D pre acc H) (hP D) (h0 D nD) (hs D nD) (he D nD)⟩
end
theorem var_at {i : Nat} {σ : L2.St} {H : Hp} {Q : VK} {v : V} (h : σ[i]? = some (some v)) (q : Q v H) : uVar i σ H Q := by unfold uVar; rw [h]; exact q
/-- a machine of two -/
def spTwo (C : Addr) (op : Bool → Bool → Bool) : Sp := fun vs H Q _ => ∃ (a b : Addr) (S : List Nat) (R1 R2 : Rows) (K1 K2 : List Bool), vs = [.ref a, .ref b] ∧ Mach C H a S R1 K1 ∧ Mach C H b S R2 K2 ∧ ShOk S R1 K1 ∧ ShOk S R2 K2 ∧ R1.length * R2.length ≤ 40 ∧
  ∀ H' m, Same H H' → H m = none → MachN C H H' m S (pR R1 R2) (pK op R1 R2 K1 K2) → Q (.ref m) H'
abbrev nTwo : List Str := ["self", "other", "rows", "pairs", "one", "two"]
section
variable {P : Program} {w : World} {K : PySem.W.Frag} {mg : Str → Option Value} {base : Heap} {C : Addr}
theorem scAnd : FnScope nTwo ["self", "other"] (defScope sAnd) := ⟨rfl, rfl, rfl, by decide +kernel, rfl, by decide +kernel, by decide +kernel⟩
theorem ok_and {f : Addr} {fd : FuncData} {k : Nat} (F : Fun K "__and__" "Machine.__and__" sAnd f fd) (M : Mx mg) (cM : ClsM K C) (HP : Has P w K mg base (k + 1) "_paired" ["one", "other"] (spPaired C)) (HK : Has P w K mg base (k + 1) "_kinds_of" ["one", "other", "pairs"] (spKindsOf C)) (HI : HasI P w K mg base k "Machine" C ["letters", "rows", "kinds"] (spInit K C)) :
    FnG P w K mg base CX0 (k + 2) f fd ["self", "other"] (spTwo C (fun a b => a && b)) := by
  refine okG F scAnd (fun vs H Q E h => ?_) (fun cdv A hA outer s H vs Q E hr h => ?_)
  · obtain ⟨a, b, S, R1, R2, K1, K2, rfl, _⟩ := h; rfl
  · obtain ⟨a, b, S, R1, R2, K1, K2, rfl, m1, m2, ok1, ok2, hN, q⟩ := h
    have nd := scAnd.nd
    have sl := sizeLine_eq
    refine ⟨_, pss_cons (ps_asg (pe_callH HP hA hr (by rfl) (pa_cons (uv 0) (pa_cons (uv 1) pa_nil))) (pg_tup rfl (pgs_cons (pg_name (i := 2) nd rfl (.inl rfl)) (pgs_cons (pg_name (i := 3) nd rfl (.inl rfl)) pgs_nil))) rfl)
      (pss_one (ps_ret (pe_mkI HI hA hr (by rfl) (pa_cons (pe_fldU (uv 0)) (pa_cons (uv 2) (pa_cons (pe_lc (own := [("one", 4), ("two", 5)]) (g := gTup K 2 (gCons (gName 4) (gCons (gName 5) gNil))) (tt := tYes) rfl nd (pi_list (pe_cl (pe_callH HK hA hr (by rfl) (pa_cons (uv 0) (pa_cons (uv 1) (pa_cons (uv 3) pa_nil)))))) (blkOk_by (N := nTwo) (sc := defScope sAnd) (by decide +kernel))
        (fun _ _ _ _ _ => pg_tup rfl (pgs_cons (pg_name (i := 4) nd rfl (.inl rfl)) (pgs_cons (pg_name (i := 5) nd rfl (.inl rfl)) pgs_nil))) (fun _ _ _ _ _ => pts_nil)
        (fun _ _ _ _ _ => pe_cl (pe_andU (uv 4) (pe_one (uv 5))))) pa_nil)))))), ?_⟩
    refine ⟨a, b, S, R1, R2, K1, K2, rfl, m1, m2, ok1, ok2, fun H1 t W Ps ls bs e1 ht hW hrw hPs hbs => ?_⟩
    obtain ⟨dx, r, kk, rs, h1, _⟩ := id m1
    refine ⟨t, _, rfl, .inl (.inl ht), rfl, _, _, rfl, _, _, rfl, rfl, ?_⟩
    refine ⟨C, dx, _, .str (T S), e1 _ _ h1, cM.cls, cM.nL, rfl, ?_⟩
    have hl := pL_len ok1 ok2
    dsimp only [tCons]
    refine var_at (v := .ref W) rfl ?_
    refine lc_listY (K := K) ?_
    refine ⟨a, b, Ps, S, R1, R2, K1, K2, bs, _, rfl, m1.ext e1, m2.ext e1, ok1, ok2, hPs, hbs, fun g hg => ?_, by rw [List.length_map]; exact Nat.le_trans hl (by omega), fun H2 p ks e2 hp hks => ?_⟩
    · obtain ⟨c, hc, rfl⟩ := List.mem_map.mp hg
      exact pL_lt ok1 ok2 hc
    rw [List.map_map] at hks
    have lks : ks.length = (pL R1 R2).length := by rw [hks.1, List.length_map]
    refine ⟨p, ks.map V.ref, rfl, .inl (.inl hp), fun D pre acc H3 => ∃ (j : Nat), pre = (ks.take j).map V.ref ∧ j ≤ ks.length ∧ acc = ((pK (fun a b => a && b) R1 R2 K1 K2).take j).map V.bl ∧ Same H2 H3 ∧ H3 D = some (.lst acc),
      fun D pre acc H3 h => by obtain ⟨_, _, _, _, h, _⟩ := h; exact .inl (.inl (h _ _ hp)), fun D nD => ⟨0, rfl, Nat.zero_le _, rfl, same_upd nD, upd_same⟩, fun D nD pre acc x suf H3 ex h => ?_, fun D nD acc H3 h => ?_⟩
    · obtain ⟨j, rfl, hj, rfl, e7, hD⟩ := h
      have lj : ((ks.take j).map V.ref).length = j := by rw [List.length_map, List.length_take]; omega
      have hj2 : j < ks.length := by
        have := congrArg List.length ex
        rw [List.length_append, lj, List.length_map, List.length_cons] at this
        omega
      have hx : (ks.map V.ref)[j]? = some x := by rw [ex, List.getElem?_append_right (by omega), lj, Nat.sub_self]; rfl
      rw [List.getElem?_map] at hx
      obtain ⟨t2, htj, rfl⟩ := Option.map_eq_some_iff.mp hx
      obtain ⟨c, hcj⟩ : ∃ c, (pL R1 R2)[j]? = some c := ⟨_, List.getElem?_eq_getElem (by omega)⟩
      have hT : H3 t2 = some (.tup [.bl (kd K1 (dec R2.length c).1), .bl (kd K2 (dec R2.length c).2)]) := e7 _ _ (hks.2 j t2 (kd K1 (dec R2.length c).1, kd K2 (dec R2.length c).2) htj (by rw [List.getElem?_map, hcj]; rfl))
      have hK : (pK (fun a b => a && b) R1 R2 K1 K2)[j]? = some ((fun a b => a && b) (kd K1 (dec R2.length c).1) (kd K2 (dec R2.length c).2)) := by rw [List.getElem?_map, hcj]; rfl
      refine ⟨t2, _, rfl, .inl (.inl hT), rfl, _, _, rfl, _, _, rfl, rfl, rfl, ?_⟩
      have fin : ∃ acc0, H3 D = some (.lst acc0) ∧ acc0.length < sizeLine ∧ ∃ a0, ∃ (j' : Nat), ((ks.take j).map V.ref ++ [V.ref t2]) = (ks.take j').map V.ref ∧ j' ≤ ks.length ∧ a0 = ((pK (fun a b => a && b) R1 R2 K1 K2).take j').map V.bl ∧ Same H2 (upd H3 D (.lst (acc0 ++ [.bl ((fun a b => a && b) (kd K1 (dec R2.length c).1) (kd K2 (dec R2.length c).2))]))) ∧ (upd H3 D (.lst (acc0 ++ [.bl ((fun a b => a && b) (kd K1 (dec R2.length c).1) (kd K2 (dec R2.length c).2))]))) D = some (.lst a0) := by
        refine ⟨_, hD, by rw [List.length_map, List.length_take, List.length_map]; omega, _, j + 1, ?_, hj2, rfl, same_upd2 e7 nD, ?_⟩
        · rw [List.take_add_one, htj, List.map_append]; rfl
        · rw [upd_same, List.take_add_one, hK, List.map_append]; rfl
      obtain ⟨acc0, f1, f2, a0, j', f3, f4, f5, f6, f7⟩ := fin
      refine ⟨fun v H' => v = .bl ((fun a b => a && b) (kd K1 (dec R2.length c).1) (kd K2 (dec R2.length c).2)) ∧ H' = H3, ?_, ?_⟩
      · cases kd K1 (dec R2.length c).1 <;> cases kd K2 (dec R2.length c).2
        all_goals (show Br _ _ _; first | (refine Br.no ?_; exact ⟨rfl, rfl⟩) | (refine Br.yes ?_; exact ⟨rfl, rfl⟩))
      · rintro v H' ⟨rfl, rfl⟩
        exact ⟨acc0, f1, f2, a0, j', f3, f4, f5, f6, f7⟩
    · obtain ⟨j, ej, hj, rfl, e7, hD⟩ := h
      have ej : ks.length = j := by
        have := congrArg List.length ej
        rw [List.length_map, List.length_map, List.length_take] at this
        omega
      have : (pK (fun a b => a && b) R1 R2 K1 K2).take j = pK (fun a b => a && b) R1 R2 K1 K2 := List.take_of_length_le (by rw [← ej, lks, List.length_map]; exact Nat.le_refl _)
      rw [this] at hD
      have e27 := e2.trans e7
      refine ⟨rfl, ?_⟩
      refine mach_newN (pr_sh ok1 ok2 hN) (pr_wh ok1 ok2) ((hrw.ext e27).rows (e27 _ _ hW)) ⟨false, .inl (.inl hD)⟩ fun H5 m e5 nm mach => q H5 m ((e1.trans e27).trans e5) (Same.free (e1.trans e27) nm) (mach.of (e1.trans e27))
theorem scOr : FnScope nTwo ["self", "other"] (defScope sOr) := ⟨rfl, rfl, rfl, by decide +kernel, rfl, by decide +kernel, by decide +kernel⟩
theorem ok_or {f : Addr} {fd : FuncData} {k : Nat} (F : Fun K "__or__" "Machine.__or__" sOr f fd) (M : Mx mg) (cM : ClsM K C) (HP : Has P w K mg base (k + 1) "_paired" ["one", "other"] (spPaired C)) (HK : Has P w K mg base (k + 1) "_kinds_of" ["one", "other", "pairs"] (spKindsOf C)) (HI : HasI P w K mg base k "Machine" C ["letters", "rows", "kinds"] (spInit K C)) :
    FnG P w K mg base CX0 (k + 2) f fd ["self", "other"] (spTwo C (fun a b => a || b)) := by
  refine okG F scOr (fun vs H Q E h => ?_) (fun cdv A hA outer s H vs Q E hr h => ?_)
  · obtain ⟨a, b, S, R1, R2, K1, K2, rfl, _⟩ := h; rfl
  · obtain ⟨a, b, S, R1, R2, K1, K2, rfl, m1, m2, ok1, ok2, hN, q⟩ := h
    have nd := scOr.nd
    have sl := sizeLine_eq
    refine ⟨_, pss_cons (ps_asg (pe_callH HP hA hr (by rfl) (pa_cons (uv 0) (pa_cons (uv 1) pa_nil))) (pg_tup rfl (pgs_cons (pg_name (i := 2) nd rfl (.inl rfl)) (pgs_cons (pg_name (i := 3) nd rfl (.inl rfl)) pgs_nil))) rfl)
      (pss_one (ps_ret (pe_mkI HI hA hr (by rfl) (pa_cons (pe_fldU (uv 0)) (pa_cons (uv 2) (pa_cons (pe_lc (own := [("one", 4), ("two", 5)]) (g := gTup K 2 (gCons (gName 4) (gCons (gName 5) gNil))) (tt := tYes) rfl nd (pi_list (pe_cl (pe_callH HK hA hr (by rfl) (pa_cons (uv 0) (pa_cons (uv 1) (pa_cons (uv 3) pa_nil)))))) (blkOk_by (N := nTwo) (sc := defScope sOr) (by decide +kernel))
        (fun _ _ _ _ _ => pg_tup rfl (pgs_cons (pg_name (i := 4) nd rfl (.inl rfl)) (pgs_cons (pg_name (i := 5) nd rfl (.inl rfl)) pgs_nil))) (fun _ _ _ _ _ => pts_nil)
        (fun _ _ _ _ _ => pe_cl (pe_orU (uv 4) (pe_one (uv 5))))) pa_nil)))))), ?_⟩
    refine ⟨a, b, S, R1, R2, K1, K2, rfl, m1, m2, ok1, ok2, fun H1 t W Ps ls bs e1 ht hW hrw hPs hbs => ?_⟩
    obtain ⟨dx, r, kk, rs, h1, _⟩ := id m1
    refine ⟨t, _, rfl, .inl (.inl ht), rfl, _, _, rfl, _, _, rfl, rfl, ?_⟩
    refine ⟨C, dx, _, .str (T S), e1 _ _ h1, cM.cls, cM.nL, rfl, ?_⟩
    have hl := pL_len ok1 ok2
    dsimp only [tCons]
    refine var_at (v := .ref W) rfl ?_
    refine lc_listY (K := K) ?_
    refine ⟨a, b, Ps, S, R1, R2, K1, K2, bs, _, rfl, m1.ext e1, m2.ext e1, ok1, ok2, hPs, hbs, fun g hg => ?_, by rw [List.length_map]; exact Nat.le_trans hl (by omega), fun H2 p ks e2 hp hks => ?_⟩
    · obtain ⟨c, hc, rfl⟩ := List.mem_map.mp hg
      exact pL_lt ok1 ok2 hc
    rw [List.map_map] at hks
    have lks : ks.length = (pL R1 R2).length := by rw [hks.1, List.length_map]
    refine ⟨p, ks.map V.ref, rfl, .inl (.inl hp), fun D pre acc H3 => ∃ (j : Nat), pre = (ks.take j).map V.ref ∧ j ≤ ks.length ∧ acc = ((pK (fun a b => a || b) R1 R2 K1 K2).take j).map V.bl ∧ Same H2 H3 ∧ H3 D = some (.lst acc),
      fun D pre acc H3 h => by obtain ⟨_, _, _, _, h, _⟩ := h; exact .inl (.inl (h _ _ hp)), fun D nD => ⟨0, rfl, Nat.zero_le _, rfl, same_upd nD, upd_same⟩, fun D nD pre acc x suf H3 ex h => ?_, fun D nD acc H3 h => ?_⟩
    · obtain ⟨j, rfl, hj, rfl, e7, hD⟩ := h
      have lj : ((ks.take j).map V.ref).length = j := by rw [List.length_map, List.length_take]; omega
      have hj2 : j < ks.length := by
        have := congrArg List.length ex
        rw [List.length_append, lj, List.length_map, List.length_cons] at this
        omega
      have hx : (ks.map V.ref)[j]? = some x := by rw [ex, List.getElem?_append_right (by omega), lj, Nat.sub_self]; rfl
      rw [List.getElem?_map] at hx
      obtain ⟨t2, htj, rfl⟩ := Option.map_eq_some_iff.mp hx
      obtain ⟨c, hcj⟩ : ∃ c, (pL R1 R2)[j]? = some c := ⟨_, List.getElem?_eq_getElem (by omega)⟩
      have hT : H3 t2 = some (.tup [.bl (kd K1 (dec R2.length c).1), .bl (kd K2 (dec R2.length c).2)]) := e7 _ _ (hks.2 j t2 (kd K1 (dec R2.length c).1, kd K2 (dec R2.length c).2) htj (by rw [List.getElem?_map, hcj]; rfl))
      have hK : (pK (fun a b => a || b) R1 R2 K1 K2)[j]? = some ((fun a b => a || b) (kd K1 (dec R2.length c).1) (kd K2 (dec R2.length c).2)) := by rw [List.getElem?_map, hcj]; rfl
      refine ⟨t2, _, rfl, .inl (.inl hT), rfl, _, _, rfl, _, _, rfl, rfl, rfl, ?_⟩
      have fin : ∃ acc0, H3 D = some (.lst acc0) ∧ acc0.length < sizeLine ∧ ∃ a0, ∃ (j' : Nat), ((ks.take j).map V.ref ++ [V.ref t2]) = (ks.take j').map V.ref ∧ j' ≤ ks.length ∧ a0 = ((pK (fun a b => a || b) R1 R2 K1 K2).take j').map V.bl ∧ Same H2 (upd H3 D (.lst (acc0 ++ [.bl ((fun a b => a || b) (kd K1 (dec R2.length c).1) (kd K2 (dec R2.length c).2))]))) ∧ (upd H3 D (.lst (acc0 ++ [.bl ((fun a b => a || b) (kd K1 (dec R2.length c).1) (kd K2 (dec R2.length c).2))]))) D = some (.lst a0) := by
        refine ⟨_, hD, by rw [List.length_map, List.length_take, List.length_map]; omega, _, j + 1, ?_, hj2, rfl, same_upd2 e7 nD, ?_⟩
        · rw [List.take_add_one, htj, List.map_append]; rfl
        · rw [upd_same, List.take_add_one, hK, List.map_append]; rfl
      obtain ⟨acc0, f1, f2, a0, j', f3, f4, f5, f6, f7⟩ := fin
      refine ⟨fun v H' => v = .bl ((fun a b => a || b) (kd K1 (dec R2.length c).1) (kd K2 (dec R2.length c).2)) ∧ H' = H3, ?_, ?_⟩
      · cases kd K1 (dec R2.length c).1 <;> cases kd K2 (dec R2.length c).2
        all_goals (show Br _ _ _; first | (refine Br.no ?_; exact ⟨rfl, rfl⟩) | (refine Br.yes ?_; exact ⟨rfl, rfl⟩))
      · rintro v H' ⟨rfl, rfl⟩
        exact ⟨acc0, f1, f2, a0, j', f3, f4, f5, f6, f7⟩
    · obtain ⟨j, ej, hj, rfl, e7, hD⟩ := h
      have ej : ks.length = j := by
        have := congrArg List.length ej
        rw [List.length_map, List.length_map, List.length_take] at this
        omega
      have : (pK (fun a b => a || b) R1 R2 K1 K2).take j = pK (fun a b => a || b) R1 R2 K1 K2 := List.take_of_length_le (by rw [← ej, lks, List.length_map]; exact Nat.le_refl _)
      rw [this] at hD
      have e27 := e2.trans e7
      refine ⟨rfl, ?_⟩
      refine mach_newN (pr_sh ok1 ok2 hN) (pr_wh ok1 ok2) ((hrw.ext e27).rows (e27 _ _ hW)) ⟨false, .inl (.inl hD)⟩ fun H5 m e5 nm mach => q H5 m ((e1.trans e27).trans e5) (Same.free (e1.trans e27) nm) (mach.of (e1.trans e27))
theorem scSub : FnScope nTwo ["self", "other"] (defScope sSub) := ⟨rfl, rfl, rfl, by decide +kernel, rfl, by decide +kernel, by decide +kernel⟩
theorem ok_sub {f : Addr} {fd : FuncData} {k : Nat} (F : Fun K "__sub__" "Machine.__sub__" sSub f fd) (M : Mx mg) (cM : ClsM K C) (HP : Has P w K mg base (k + 1) "_paired" ["one", "other"] (spPaired C)) (HK : Has P w K mg base (k + 1) "_kinds_of" ["one", "other", "pairs"] (spKindsOf C)) (HI : HasI P w K mg base k "Machine" C ["letters", "rows", "kinds"] (spInit K C)) :
    FnG P w K mg base CX0 (k + 2) f fd ["self", "other"] (spTwo C (fun a b => a && !b)) := by
  refine okG F scSub (fun vs H Q E h => ?_) (fun cdv A hA outer s H vs Q E hr h => ?_)
  · obtain ⟨a, b, S, R1, R2, K1, K2, rfl, _⟩ := h; rfl
  · obtain ⟨a, b, S, R1, R2, K1, K2, rfl, m1, m2, ok1, ok2, hN, q⟩ := h
    have nd := scSub.nd
    have sl := sizeLine_eq
    refine ⟨_, pss_cons (ps_asg (pe_callH HP hA hr (by rfl) (pa_cons (uv 0) (pa_cons (uv 1) pa_nil))) (pg_tup rfl (pgs_cons (pg_name (i := 2) nd rfl (.inl rfl)) (pgs_cons (pg_name (i := 3) nd rfl (.inl rfl)) pgs_nil))) rfl)
      (pss_one (ps_ret (pe_mkI HI hA hr (by rfl) (pa_cons (pe_fldU (uv 0)) (pa_cons (uv 2) (pa_cons (pe_lc (own := [("one", 4), ("two", 5)]) (g := gTup K 2 (gCons (gName 4) (gCons (gName 5) gNil))) (tt := tYes) rfl nd (pi_list (pe_cl (pe_callH HK hA hr (by rfl) (pa_cons (uv 0) (pa_cons (uv 1) (pa_cons (uv 3) pa_nil)))))) (blkOk_by (N := nTwo) (sc := defScope sSub) (by decide +kernel))
        (fun _ _ _ _ _ => pg_tup rfl (pgs_cons (pg_name (i := 4) nd rfl (.inl rfl)) (pgs_cons (pg_name (i := 5) nd rfl (.inl rfl)) pgs_nil))) (fun _ _ _ _ _ => pts_nil)
        (fun _ _ _ _ _ => pe_cl (pe_andU (uv 4) (pe_one (pe_notU (uv 5)))))) pa_nil)))))), ?_⟩
    refine ⟨a, b, S, R1, R2, K1, K2, rfl, m1, m2, ok1, ok2, fun H1 t W Ps ls bs e1 ht hW hrw hPs hbs => ?_⟩
    obtain ⟨dx, r, kk, rs, h1, _⟩ := id m1
    refine ⟨t, _, rfl, .inl (.inl ht), rfl, _, _, rfl, _, _, rfl, rfl, ?_⟩
    refine ⟨C, dx, _, .str (T S), e1 _ _ h1, cM.cls, cM.nL, rfl, ?_⟩
    have hl := pL_len ok1 ok2
    dsimp only [tCons]
    refine var_at (v := .ref W) rfl ?_
    refine lc_listY (K := K) ?_
    refine ⟨a, b, Ps, S, R1, R2, K1, K2, bs, _, rfl, m1.ext e1, m2.ext e1, ok1, ok2, hPs, hbs, fun g hg => ?_, by rw [List.length_map]; exact Nat.le_trans hl (by omega), fun H2 p ks e2 hp hks => ?_⟩
    · obtain ⟨c, hc, rfl⟩ := List.mem_map.mp hg
      exact pL_lt ok1 ok2 hc
    rw [List.map_map] at hks
    have lks : ks.length = (pL R1 R2).length := by rw [hks.1, List.length_map]
    refine ⟨p, ks.map V.ref, rfl, .inl (.inl hp), fun D pre acc H3 => ∃ (j : Nat), pre = (ks.take j).map V.ref ∧ j ≤ ks.length ∧ acc = ((pK (fun a b => a && !b) R1 R2 K1 K2).take j).map V.bl ∧ Same H2 H3 ∧ H3 D = some (.lst acc),
      fun D pre acc H3 h => by obtain ⟨_, _, _, _, h, _⟩ := h; exact .inl (.inl (h _ _ hp)), fun D nD => ⟨0, rfl, Nat.zero_le _, rfl, same_upd nD, upd_same⟩, fun D nD pre acc x suf H3 ex h => ?_, fun D nD acc H3 h => ?_⟩
    · obtain ⟨j, rfl, hj, rfl, e7, hD⟩ := h
      have lj : ((ks.take j).map V.ref).length = j := by rw [List.length_map, List.length_take]; omega
      have hj2 : j < ks.length := by
        have := congrArg List.length ex
        rw [List.length_append, lj, List.length_map, List.length_cons] at this
        omega
      have hx : (ks.map V.ref)[j]? = some x := by rw [ex, List.getElem?_append_right (by omega), lj, Nat.sub_self]; rfl
      rw [List.getElem?_map] at hx
      obtain ⟨t2, htj, rfl⟩ := Option.map_eq_some_iff.mp hx
      obtain ⟨c, hcj⟩ : ∃ c, (pL R1 R2)[j]? = some c := ⟨_, List.getElem?_eq_getElem (by omega)⟩
      have hT : H3 t2 = some (.tup [.bl (kd K1 (dec R2.length c).1), .bl (kd K2 (dec R2.length c).2)]) := e7 _ _ (hks.2 j t2 (kd K1 (dec R2.length c).1, kd K2 (dec R2.length c).2) htj (by rw [List.getElem?_map, hcj]; rfl))
      have hK : (pK (fun a b => a && !b) R1 R2 K1 K2)[j]? = some ((fun a b => a && !b) (kd K1 (dec R2.length c).1) (kd K2 (dec R2.length c).2)) := by rw [List.getElem?_map, hcj]; rfl
      refine ⟨t2, _, rfl, .inl (.inl hT), rfl, _, _, rfl, _, _, rfl, rfl, rfl, ?_⟩
      have fin : ∃ acc0, H3 D = some (.lst acc0) ∧ acc0.length < sizeLine ∧ ∃ a0, ∃ (j' : Nat), ((ks.take j).map V.ref ++ [V.ref t2]) = (ks.take j').map V.ref ∧ j' ≤ ks.length ∧ a0 = ((pK (fun a b => a && !b) R1 R2 K1 K2).take j').map V.bl ∧ Same H2 (upd H3 D (.lst (acc0 ++ [.bl ((fun a b => a && !b) (kd K1 (dec R2.length c).1) (kd K2 (dec R2.length c).2))]))) ∧ (upd H3 D (.lst (acc0 ++ [.bl ((fun a b => a && !b) (kd K1 (dec R2.length c).1) (kd K2 (dec R2.length c).2))]))) D = some (.lst a0) := by
        refine ⟨_, hD, by rw [List.length_map, List.length_take, List.length_map]; omega, _, j + 1, ?_, hj2, rfl, same_upd2 e7 nD, ?_⟩
        · rw [List.take_add_one, htj, List.map_append]; rfl
        · rw [upd_same, List.take_add_one, hK, List.map_append]; rfl
      obtain ⟨acc0, f1, f2, a0, j', f3, f4, f5, f6, f7⟩ := fin
      refine ⟨fun v H' => v = .bl ((fun a b => a && !b) (kd K1 (dec R2.length c).1) (kd K2 (dec R2.length c).2)) ∧ H' = H3, ?_, ?_⟩
      · cases kd K1 (dec R2.length c).1 <;> cases kd K2 (dec R2.length c).2
        all_goals (show Br _ _ _; first | (refine Br.no ?_; exact ⟨rfl, rfl⟩) | (refine Br.yes ?_; exact ⟨rfl, rfl⟩))
      · rintro v H' ⟨rfl, rfl⟩
        exact ⟨acc0, f1, f2, a0, j', f3, f4, f5, f6, f7⟩
    · obtain ⟨j, ej, hj, rfl, e7, hD⟩ := h
      have ej : ks.length = j := by
        have := congrArg List.length ej
        rw [List.length_map, List.length_map, List.length_take] at this
        omega
      have : (pK (fun a b => a && !b) R1 R2 K1 K2).take j = pK (fun a b => a && !b) R1 R2 K1 K2 := List.take_of_length_le (by rw [← ej, lks, List.length_map]; exact Nat.le_refl _)
      rw [this] at hD
      have e27 := e2.trans e7
      refine ⟨rfl, ?_⟩
      refine mach_newN (pr_sh ok1 ok2 hN) (pr_wh ok1 ok2) ((hrw.ext e27).rows (e27 _ _ hW)) ⟨false, .inl (.inl hD)⟩ fun H5 m e5 nm mach => q H5 m ((e1.trans e27).trans e5) (Same.free (e1.trans e27) nm) (mach.of (e1.trans e27))
end
end LK

/-! _first_with_kinds and parting where the empty text parts; promises of two kinds -/
namespace LK
open PySem PySem.Spec PyProof.Rows L2 LamX ClX
open scoped List
section
variable {P : Program} {w : World} {K : PySem.W.Frag} {mg : Str → Option Value} {base : Heap} {C : Addr} {CX : CXT}
/-- the empty text leads both to kinds that are wanted -/
def spFirstNow (C : Addr) : Sp := fun vs H Q _ => ∃ (a b wa : Addr) (S : List Nat) (R1 R2 : Rows) (K1 K2 : List Bool) (wt : List (Bool × Bool)), vs = [.ref a, .ref b, .ref wa] ∧ Mach C H a S R1 K1 ∧ Mach C H b S R2 K2 ∧ ShOk S R1 K1 ∧ ShOk S R2 K2 ∧ WAt H wa wt ∧
  (kd K1 0, kd K2 0) ∈ wt ∧ ∀ H', Same H H' → Q (.str (T [])) H'
theorem ok_firstNow {f : Addr} {fd : FuncData} {k : Nat} (F : Fun K "_first_with_kinds" "_first_with_kinds" sFirstWith f fd) (M : Mx mg) (cM : ClsM K C) (HL : HasP P w K mg base k C "letters" (getSp C "_letters")) (HR : HasM P w K mg base (k + 1) C "rows" [] (spRows C))
    (HK : HasM P w K mg base (k + 1) C "kinds" [] (spKinds C)) : FnG P w K mg base CX0 (k + 2) f fd ["one", "other", "wanted"] (spFirstNow C) := by
  refine okG F scFirstWith (fun vs H Q E h => ?_) (fun cdv A hA outer s H vs Q E hr h => ?_)
  · obtain ⟨a, b, wa, S, R1, R2, K1, K2, wt, rfl, _⟩ := h; rfl
  · obtain ⟨a, b, wa, S, R1, R2, K1, K2, wt, rfl, m1, m2, ok1, ok2, hw, hno, q⟩ := h
    have nd := scFirstWith.nd
    have sl := sizeLine_eq
    have hu := Room.u64 hr
    refine ⟨_, pss_cons (ps_par (i := 3) (j := 4) (by rfl) nd rfl rfl (by decide) rfl rfl (pa_cons (pe_mH0 HR cM.cls hA hr (uv 0)) (pa_cons (pe_mH0 HR cM.cls hA hr (uv 1)) pa_nil)) (by rfl))
      (pss_cons (ps_par (i := 5) (j := 6) (by rfl) nd rfl rfl (by decide) rfl rfl (pa_cons (pe_mH0 HK cM.cls hA hr (uv 0)) (pa_cons (pe_mH0 HK cM.cls hA hr (uv 1)) pa_nil)) (by rfl))
      (pss_cons (ps_set (i := 7) nd rfl (.inl rfl) (pe_disp1 hr.units0 (pe_tup (pa_cons pe_int (pa_cons pe_int pa_nil))) (ustr [])))
      (pss_cons (ps_set (i := 8) nd rfl (.inl rfl) (pe_lst (pa_cons (pe_tup (pa_cons pe_int (pa_cons pe_int pa_nil))) pa_nil)))
      (pss_cons (ps_while PassesOwn.never (pt_truth (uv 8) (by intro _; rfl))
        (pss_cons (ps_set (i := 9) nd rfl (.inl rfl) (pe_lst pa_nil))
        (pss_cons (ps_for PassesOwn.never rfl (pi_list (uv 8)) (pg_tup rfl (pgs_cons (pg_name (i := 10) nd rfl (.inl rfl)) (pgs_cons (pg_name (i := 11) nd rfl (.inl rfl)) pgs_nil)))
          (pss_cons (ps_set (i := 12) nd rfl (.inl rfl) (pe_dget (Room.u1 hr) (uv 7) (pe_tup (pa_cons (uv 10) (pa_cons (uv 11) pa_nil))) (fun _ _ => rfl)))
          (pss_cons (ps_ifU (pt_cu (r := rInDT K) (op_inDT (Room.u65 hr)) (pe_tup (pa_cons (pe_ixU (uv 5) (uv 10)) (pa_cons (pe_ixU (uv 6) (uv 11)) pa_nil))) (uv 2)) (pss_one (ps_ret (uv 12))) pss_nil)
          (pss_one (ps_for PassesOwn.never rfl (pi_zipS3 (by rfl) M.zip (pa_cons (pe_propH HL cM.cls (hr.mono (by omega)) (uv 0)) (pa_cons (pe_ixU (uv 3) (uv 10)) (pa_cons (pe_ixU (uv 4) (uv 11)) pa_nil)))) (pg_tup rfl (pgs_cons (pg_name (i := 13) nd rfl (.inl rfl)) (pgs_cons (pg_name (i := 14) nd rfl (.inl rfl)) (pgs_cons (pg_name (i := 15) nd rfl (.inl rfl)) pgs_nil))))
            (pss_one (ps_ifU (pt_cmp (pc_dnotin (Room.u1 hr) (pe_tup (pa_cons (uv 14) (pa_cons (uv 15) pa_nil))) (uv 7)))
              (pss_cons (ps_dput (Room.u1 hr) (uv 7) (pe_tup (pa_cons (uv 14) (pa_cons (uv 15) pa_nil))) (pe_op o_add (uv 12) (uv 13)) rfl)
              (pss_one (ps_expr (pe_bm PySem.F.plainAttrs_list PySem.F.slot_list_append PySem.F.type_list_append mt_append (uv 9) (pa_cons (pe_tup (pa_cons (uv 14) (pa_cons (uv 15) pa_nil))) pa_nil))))) pss_nil)))))))
        (pss_one (ps_set (i := 8) nd rfl (.inl rfl) (uv 9))))))
      (pss_one (ps_ret pe_non)))))), ?_⟩
    obtain ⟨dx, ra, ka, rsa, h1, _⟩ := id m1
    obtain ⟨dx', rb, kb, rsb, g1, _⟩ := id m2
    have lo1 := ok1.lo
    have lo2 := ok2.lo
    have hi1 := ok1.hi
    have hi2 := ok2.hi
    have hNM : R1.length * R2.length ≤ 1600 := Nat.le_trans (Nat.mul_le_mul hi1 hi2) (by decide)
    refine ⟨dx, _, h1, mf_none (by decide +kernel) (by decide +kernel) (by decide +kernel), a, S, R1, K1, rfl, m1, by omega, fun H1 r1 ls1 e1 nr1 hr1 ll1 hls1 _ => ?_⟩
    refine ⟨dx', _, e1 _ _ g1, mf_none (by decide +kernel) (by decide +kernel) (by decide +kernel), b, S, R2, K2, rfl, m2.ext e1, by omega, fun H2 r2 ls2 e2 nr2 hr2 ll2 hls2 _ => ?_⟩
    refine ⟨_, _, rfl, ?_⟩
    have e12 := e1.trans e2
    refine ⟨dx, _, e12 _ _ h1, mf_none (by decide +kernel) (by decide +kernel) (by decide +kernel), a, S, R1, K1, rfl, m1.ext e12, fun k1 nk1 => ?_⟩
    have e3 : Same H2 (upd H2 k1 (.lst (K1.map V.bl))) := same_upd nk1
    refine ⟨dx', _, e3 _ _ (e12 _ _ g1), mf_none (by decide +kernel) (by decide +kernel) (by decide +kernel), b, S, R2, K2, rfl, (m2.ext e12).ext e3, fun k2 nk2 => ?_⟩
    refine ⟨_, _, rfl, ?_⟩
    have e4 : Same (upd H2 k1 (.lst (K1.map V.bl))) (upd (upd H2 k1 (.lst (K1.map V.bl))) k2 (.lst (K2.map V.bl))) := same_upd nk2
    have e34 := e3.trans e4
    have eS : Same H (upd (upd H2 k1 (.lst (K1.map V.bl))) k2 (.lst (K2.map V.bl))) := e12.trans e34
    have sr1 := e34 _ _ (e2 _ _ hr1)
    have sr2 := e34 _ _ hr2
    have sl1 : ∀ i q, ls1[i]? = some q → (upd (upd H2 k1 (.lst (K1.map V.bl))) k2 (.lst (K2.map V.bl))) q = some (.lst (iv (gls R1 i))) := fun i q hq => e34 _ _ (e2 _ _ (hls1 i q hq).2.2)
    have sl2 : ∀ i q, ls2[i]? = some q → (upd (upd H2 k1 (.lst (K1.map V.bl))) k2 (.lst (K2.map V.bl))) q = some (.lst (iv (gls R2 i))) := fun i q hq => e34 _ _ (hls2 i q hq).2.2
    have sk1 := e4 _ _ (upd_same (H := H2) (a := k1) (o := .lst (K1.map V.bl)))
    have sk2 := upd_same (H := upd H2 k1 (.lst (K1.map V.bl))) (a := k2) (o := .lst (K2.map V.bl))
    have sw := hw.ext eS
    have sm1 := eS _ _ h1
    have sm2 := eS _ _ g1
    clear e3 e4 e34 nk2 nk1 e12 hls2 hls1 hr2 hr1 nr2 nr1 e1 e2 hw
    generalize (upd (upd H2 k1 (.lst (K1.map V.bl))) k2 (.lst (K2.map V.bl))) = Hs at *
    intro D nD
    refine ⟨by show 2 ≤ sizeLine; omega, fun t0 nt0 => ?_⟩
    have hDt0 : D ≠ t0 := fun e => by rw [← e, upd_same] at nt0; cases nt0
    have nt0s : Hs t0 = none := by rw [upd_ne hDt0.symm] at nt0; exact nt0
    refine ⟨by rw [upd_ne hDt0]; exact upd_same, t0, kP (0, 0), rfl, upd_same, ?_⟩
    have eA : Same Hs (upd (upd (upd Hs D (.dT [])) t0 (.tup [.int 0, .int 0])) D (.dT [(kP (0, 0), V.str (T []))])) := by
      intro c o hc
      have n1 := ne_of_none hc nD
      rw [upd_ne n1, upd_ne (ne_of_none hc nt0s), upd_ne n1]; exact hc
    have hDA : (upd (upd (upd Hs D (.dT [])) t0 (.tup [.int 0, .int 0])) D (.dT [(kP (0, 0), V.str (T []))])) D = some (.dT [(kP (0, 0), V.str (T []))]) := upd_same
    generalize (upd (upd (upd Hs D (.dT [])) t0 (.tup [.int 0, .int 0])) D (.dT [(kP (0, 0), V.str (T []))])) = HA at eA hDA ⊢
    have hDA : HA D = some (.dT (kmpP [((0, 0), [])])) := hDA
    refine ⟨by show 2 ≤ sizeLine; omega, fun t1 nt1 => ⟨by show 1 ≤ sizeLine; omega, fun L nL => ?_⟩⟩
    have nt1s : Hs t1 = none := Same.free eA nt1
    have hDt1 : D ≠ t1 := ne_of_none hDA nt1
    have hLt1 : L ≠ t1 := fun e => by rw [e, upd_same] at nL; cases nL
    have nLA : HA L = none := by rw [upd_ne hLt1] at nL; exact nL
    have nLs : Hs L = none := Same.free eA nLA
    have hDL : D ≠ L := ne_of_none hDA nLA
    have eB : Same Hs (upd (upd HA t1 (.tup [.int 0, .int 0])) L (.lst [.ref t1])) := same_upd2 (same_upd2 eA nt1s) nLs
    have hDB : (upd (upd HA t1 (.tup [.int 0, .int 0])) L (.lst [.ref t1])) D = some (.dT (kmpP [((0, 0), [])])) := by rw [upd_ne hDL, upd_ne hDt1]; exact hDA
    have hLB : (upd (upd HA t1 (.tup [.int 0, .int 0])) L (.lst [.ref t1])) L = some (.lst ([t1].map V.ref)) := upd_same
    have htB : PrAt (upd (upd HA t1 (.tup [.int 0, .int 0])) L (.lst [.ref t1])) [t1] [(0, 0)] := ⟨rfl, fun n t g ht hg => by
      cases n with
      | zero =>
        simp at ht hg
        subst ht; subst hg
        rw [upd_ne hLt1.symm]; exact upd_same
      | succ n => simp at ht⟩
    generalize (upd (upd HA t1 (.tup [.int 0, .int 0])) L (.lst [.ref t1])) = HB at eB hDB hLB htB ⊢
    dsimp only [tSeq, tAsg, gName]
    show tWhile _ _ _ _ _
    refine wh (m0 := 0) (fun mm σ H2 => Same Hs H2 ∧ H2 D = some (.dT (kmpP [((0, 0), [])])) ∧ H2 L = some (.lst ([t1].map V.ref)) ∧ PrAt H2 [t1] [(0, 0)] ∧
        σ = [some (.ref a), some (.ref b), some (.ref wa), some (.ref r1), some (.ref r2), some (.ref k1), some (.ref k2), some (.ref D), some (.ref L), none, none, none, none, none, none, none])
      ⟨eB, hDB, hLB, htB, rfl⟩ (fun mm σ H2 iv2 => ?_) (fun σ H Q Q' hm h => ?_)
    case refine_2 =>
      simp only [uVar] at h ⊢
      split at h
      · obtain ⟨kk, a, b⟩ := h; exact ⟨kk, a, hm _ _ b⟩
      · exact h.elim
    obtain ⟨eC, hD, hL, ht, rfl⟩ := iv2
    refine ⟨true, .inl ⟨_, .inl (.inl hL), rfl⟩, ?_⟩
    show (if true = true then _ else _)
    rw [if_pos rfl]
    refine ⟨by show 0 ≤ sizeLine; omega, fun B nB => ?_⟩
    have hBL : B ≠ L := fun e => by rw [e, hL] at nB; cases nB
    dsimp only [tNext, tSeq]
    have eB2 : Same H2 (upd H2 B (.lst [])) := same_upd nB
    refine for_list (K := K) (a := L) (xs := [t1].map V.ref) (H1 := upd H2 B (.lst [])) (by exact fun _ h => h) (.inl (.inl (eB2 _ _ hL)))
      (fun pre σ H3 => pre = [] ∧ Same H2 H3 ∧ σ = [some (.ref a), some (.ref b), some (.ref wa), some (.ref r1), some (.ref r2), some (.ref k1), some (.ref k2), some (.ref D), some (.ref L), some (.ref B), none, none, none, none, none, none])
      (fun pre σ H3 h => by exact .inl (.inl (h.2.1 _ _ hL))) ⟨rfl, eB2, rfl⟩ (fun pre x suf σ H3 ex h => ?_) (fun σ H3 h => by exact nomatch h.1)
    obtain ⟨rfl, e5, rfl⟩ := h
    have hx : x = .ref t1 := by
      have : [V.ref t1] = x :: suf := ex
      injection this with h1 h2
      exact h1.symm
    subst hx
    have hT : H3 t1 = some (.tup [.int ((0 : Nat) : Int), .int ((0 : Nat) : Int)]) := e5 _ _ (ht.2 0 t1 (0, 0) rfl rfl)
    have hD5 := e5 _ _ hD
    refine ⟨t1, _, rfl, .inl (.inl hT), rfl, _, _, rfl, _, _, rfl, rfl, ?_⟩
    refine ⟨by show 2 ≤ sizeLine; omega, fun T1 nT1 => ?_⟩
    have e6 : Same H3 (upd H3 T1 (.tup [.int ((0 : Nat) : Int), .int ((0 : Nat) : Int)])) := same_upd nT1
    have dg : DGet (upd H3 T1 (.tup [.int ((0 : Nat) : Int), .int ((0 : Nat) : Int)])) D (.ref T1) (some (.str (T []))) := by
      have := DGet.t (k := kP (0, 0)) (e6 _ _ hD5) (upd_same (H := H3) (a := T1) (o := .tup [.int ((0 : Nat) : Int), .int ((0 : Nat) : Int)]))
      rw [val_kmpP] at this
      exact this
    refine ⟨D, .str (T []), rfl, dg, ?_⟩
    generalize upd H3 T1 (.tup [.int ((0 : Nat) : Int), .int ((0 : Nat) : Int)]) = H4 at e6 dg ⊢
    have e56 := (eC.trans e5).trans e6
    refine ⟨K1.map V.bl, .bl (kd K1 0), .inl (.inl (.inl (e56 _ _ sk1))), atI_nat (by rw [List.getElem?_map, kd_some ok1.kinds (by omega)]; rfl), ?_⟩
    refine ⟨K2.map V.bl, .bl (kd K2 0), .inl (.inl (.inl (e56 _ _ sk2))), atI_nat (by rw [List.getElem?_map, kd_some ok2.kinds (by omega)]; rfl), ?_⟩
    refine ⟨by show 2 ≤ sizeLine; omega, fun T2 nT2 => ?_⟩
    have e7 : Same H4 (upd H4 T2 (.tup [.bl (kd K1 0), .bl (kd K2 0)])) := same_upd nT2
    refine ⟨encBB (kd K1 0, kd K2 0), wt.map encBB, .tup (.inl (.inl upd_same)) (.cons (.bl _) (.cons (.bl _) .nil)), ((sw.ext e56).ext e7).dp, (flat_bb _).shaped (by decide), (flat_bbs wt).shaped (by decide), ?_⟩
    show Br ((wt.map encBB).any fun z => PyData.eqv z (encBB (kd K1 0, kd K2 0))) _ _
    rw [any_bb, decide_eq_true hno]
    exact .yes (q _ (eS.trans (e56.trans e7)))
/-- the empty text parts them -/
def spPartNow (C : Addr) : Sp := fun vs H Q _ => ∃ (a b : Addr) (S : List Nat) (R1 R2 : Rows) (K1 K2 : List Bool), vs = [.ref a, .ref b] ∧ Mach C H a S R1 K1 ∧ Mach C H b S R2 K2 ∧ ShOk S R1 K1 ∧ ShOk S R2 K2 ∧ kd K1 0 ≠ kd K2 0 ∧ ∀ H', Same H H' → Q (.str (T [])) H'
theorem ok_partNow {f : Addr} {fd : FuncData} {k : Nat} (F : Fun K "parting" "parting" sParting f fd) (HS : Has P w K mg base k "need_same_letters" ["one", "other"] (spSameLet C)) (HF : Has P w K mg base k "_first_with_kinds" ["one", "other", "wanted"] (spFirstNow C)) : FnG P w K mg base CX0 (k + 1) f fd ["one", "other"] (spPartNow C) := by
  refine okG F scParting (fun vs H Q E h => ?_) (fun cdv A hA outer s H vs Q E hr h => ?_)
  · obtain ⟨a, b, S, R1, R2, K1, K2, rfl, _⟩ := h; rfl
  · obtain ⟨a, b, S, R1, R2, K1, K2, rfl, m1, m2, ok1, ok2, sm, q⟩ := h
    have sl := sizeLine_eq
    refine ⟨_, pss_cons (ps_expr (pe_callH HS hA hr (by rfl) (pa_cons (uv 0) (pa_cons (uv 1) pa_nil))))
      (pss_one (ps_ret (pe_callH HF hA hr (by rfl) (pa_cons (uv 0) (pa_cons (uv 1) (pa_cons (pe_tup (pa_cons (pe_tup (pa_cons pe_bl (pa_cons pe_bl pa_nil))) (pa_cons (pe_tup (pa_cons pe_bl (pa_cons pe_bl pa_nil))) pa_nil))) pa_nil)))))), ?_⟩
    refine ⟨a, b, S, R1, R2, K1, K2, rfl, m1, m2, ?_⟩
    refine ⟨by show 2 ≤ sizeLine; omega, fun t1 n1 => ⟨by show 2 ≤ sizeLine; omega, fun t2 n2 => ⟨by show 2 ≤ sizeLine; omega, fun t3 n3 => ?_⟩⟩⟩
    have e1 : Same H (upd H t1 (.tup [.bl true, .bl false])) := same_upd n1
    have e2 : Same (upd H t1 (.tup [.bl true, .bl false])) (upd (upd H t1 (.tup [.bl true, .bl false])) t2 (.tup [.bl false, .bl true])) := same_upd n2
    have e3 : Same (upd (upd H t1 (.tup [.bl true, .bl false])) t2 (.tup [.bl false, .bl true])) (upd (upd (upd H t1 (.tup [.bl true, .bl false])) t2 (.tup [.bl false, .bl true])) t3 (.tup [.ref t1, .ref t2])) := same_upd n3
    have h1 := e3 _ _ (e2 _ _ (upd_same (H := H) (a := t1) (o := .tup [.bl true, .bl false])))
    have h2 := e3 _ _ (upd_same (H := upd H t1 (.tup [.bl true, .bl false])) (a := t2) (o := .tup [.bl false, .bl true]))
    have e := (e1.trans e2).trans e3
    refine ⟨a, b, t3, S, R1, R2, K1, K2, [(true, false), (false, true)], rfl, m1.ext e, m2.ext e, ok1, ok2, ⟨[t1, t2], upd_same, rfl, fun n t g ht hg => ?_⟩, ?_, fun H' e' => q H' (e.trans e')⟩
    · match n, ht, hg with
      | 0, ht, hg => simp at ht hg; subst ht; subst hg; exact h1
      | 1, ht, hg => simp at ht hg; subst ht; subst hg; exact h2
      | n + 2, ht, hg => simp at ht
    · cases h1 : kd K1 0 <;> cases h2 : kd K2 0 <;> rw [h1, h2] at sm <;> simp at sm ⊢
end
end LK

/-! _law_pairs: the same pairs, found by a list -/
namespace LK
open PySem PySem.Spec PyProof.Rows L2 LamX ClX
open scoped List
abbrev encNN (g : Nat × Nat) : PyData := .tuple [.int (g.1 : Nat), .int (g.2 : Nat)]
theorem eqv_nn (a b : Nat × Nat) : PyData.eqv (encNN a) (encNN b) = decide (a = b) := by
  obtain ⟨a1, a2⟩ := a
  obtain ⟨b1, b2⟩ := b
  show (((a1 : Int) == (b1 : Int)) && ((((a2 : Int) == (b2 : Int))) && true)) = _
  rw [Bool.eq_iff_iff, Bool.and_true, Bool.and_eq_true, beq_iff_eq, beq_iff_eq, decide_eq_true_eq, Prod.mk.injEq]
  omega
theorem any_nn (l : List (Nat × Nat)) (g : Nat × Nat) : ((l.map encNN).any fun z => PyData.eqv z (encNN g)) = decide (g ∈ l) := by
  rw [List.any_map, Bool.eq_iff_iff, List.any_eq_true, decide_eq_true_eq]
  constructor
  · rintro ⟨x, hx, e⟩
    have e : PyData.eqv (encNN x) (encNN g) = true := e
    rw [eqv_nn, decide_eq_true_eq] at e
    exact e ▸ hx
  · intro h
    exact ⟨g, h, by show PyData.eqv (encNN g) (encNN g) = true; rw [eqv_nn]; exact decide_eq_true rfl⟩
theorem flat_nn (g : Nat × Nat) : Flat 1 (encNN g) := flat_tup (n := 0) fun d hd => by
  simp at hd
  rcases hd with rfl | rfl <;> exact flat_int _
theorem flat_nns (l : List (Nat × Nat)) : Flat 2 (.list (l.map encNN)) := flat_list (n := 1) fun d hd => by
  obtain ⟨g, _, rfl⟩ := List.mem_map.mp hd
  exact flat_nn g
theorem dpAll_nn {K : PySem.W.Frag} {H : Hp} : ∀ {ts : List Addr} {gs : List (Nat × Nat)}, PrAt H ts gs → DpAll K H (ts.map V.ref) (gs.map encNN)
  | [], [], _ => .nil
  | [], _ :: _, h => by cases h.1
  | _ :: _, [], h => by cases h.1
  | t :: ts, g :: gs, h => .cons (.tup (.inl (.inl (h.2 0 t g rfl rfl))) (.cons (.int _) (.cons (.int _) .nil))) (dpAll_nn ⟨by simpa using h.1, fun n t g a b => h.2 (n + 1) t g (by simpa using a) (by simpa using b)⟩)
theorem PrAt.dp {K : PySem.W.Frag} {H : Hp} {L : Addr} {ts : List Addr} {gs : List (Nat × Nat)} (h : PrAt H ts gs) (hL : H L = some (.lst (ts.map V.ref))) : Dp K H (.ref L) (.list (gs.map encNN)) := .lst (.inl (.inl hL)) (dpAll_nn h)
section
variable {X : Cx} {K : PySem.W.Frag}
theorem o_ninD (hK : X.K = K) (hu : X.A.units + 65 < cLine) : OpR X (compareOp .NotIn) (rNotInD K) := hK ▸ op_notInD hu
theorem mt_indexDK (hK : X.K = K) (hu : X.A.units + 65 < cLine) : MtR X "list.index" (rIndexD K) := hK ▸ mt_indexD hu
theorem pi_zipNK {e e2 : Expr} {ta : TA} {p pos tpos : Pos} {nm : String} (hK : X.K = K) (hg : Gl X "zip") (hm : X.mg "zip" = none) (ha : PA X [e, e2] ta)
    (hs : starEach [e, e2] X.env = (false, eval e X.env) :: starEach [e2] X.env := by rfl) (hpl : (backTo pos (starEach [e2] X.env)).any (·.1) = false := by rfl) :
    PI X (.Name nm tpos) (.Call (.Name "zip" p) [e, e2] [] pos) (iZip K ta) := hK ▸ pi_zipN hg hm ha hs hpl
end
/-- a comprehension over zip of two lists, the pair stays with a name -/
theorem lc_zLN {K : PySem.W.Frag} {ta : TA} {g : TG} {te : TE} {vs : List Nat} {σ : L2.St} {H H1 : Hp} {Q : VK} {a b : Addr} {xs ys : List V} (h : ∀ R : List V → Hp → Prop, R [.ref a, .ref b] H1 → ta σ H R) (hl : xs.length = ys.length) (hx : SqL K H1 a xs) (hy : SqL K H1 b ys) (R : Addr → Nat → List V → Hp → Prop)
    (hP : ∀ D i acc H, R D i acc H → SqL K H a xs ∧ SqL K H b ys) (h0 : ∀ D, H1 D = none → R D 0 [] (upd H1 D (.lst [])))
    (hs : ∀ D, H1 D = none → ∀ (i : Nat) acc x y p H, xs[i]? = some x → ys[i]? = some y → R D i acc H → H p = none → g (.ref p) (wipe σ vs) (upd H p (.tup [x, y])) fun σ2 H2 => wipe σ2 vs = wipe σ vs ∧ te σ2 H2 fun y H4 =>
      ∃ acc, H4 D = some (.lst acc) ∧ acc.length < sizeLine ∧ ∃ a, R D (i + 1) a (upd H4 D (.lst (acc ++ [y]))))
    (he : ∀ D, H1 D = none → ∀ acc H, R D xs.length acc H → Q (.ref D) H) : tLc (iZip K ta) g tYes te vs σ H Q := by
  refine h _ ⟨a, b, xs, ys, rfl, hx, hy, fun D nD => ?_⟩
  refine ⟨fun i m H => m = xs.length - i ∧ i ≤ xs.length ∧ ∃ acc, R D i acc H, ⟨xs.length, rfl, Nat.zero_le _, [], h0 D nD⟩, ?_⟩
  rintro i m H ⟨rfl, hi, acc, iv⟩
  obtain ⟨qx, qy⟩ := hP D i acc H iv
  by_cases lt : i < xs.length
  · have hxi : xs[i]? = some xs[i] := List.getElem?_eq_getElem lt
    have hyi : ys[i]? = some (ys[i]'(by omega)) := List.getElem?_eq_getElem (by omega)
    refine .inr ⟨⟨xs, ys, _, _, qx, qy, hxi, hyi⟩, fun H' => ∃ acc, R D (i + 1) acc H', fun H' z => ⟨xs.length - (i + 1), by omega, rfl, lt, z⟩, ?_⟩
    intro v H' y
    obtain ⟨T, x', y', rfl, hT, rfl, f1, f2⟩ := y
    exact hs D nD i acc x' y' T H (f1 xs qx) (f2 ys qy) iv hT
  · have e : i = xs.length := by omega
    subst e
    exact .inl ⟨⟨xs, ys, qx, qy, .inl (Nat.le_refl _)⟩, he D nD acc H iv⟩
abbrev nLPr : List Str := ["_law_sheets", "_law_found", "_law_at", "_law_mine", "_law_yours", "_law_pair", "_law_rows"]
theorem scLPairs : FnScope nLPr ["_law_sheets"] (defScope sLPairs) := ⟨rfl, rfl, rfl, by decide +kernel, rfl, by decide +kernel, by decide +kernel⟩
abbrev scLP1 : Scope := { kind := .function, names := [(".0", .local), ("_law_mine", .local), ("_law_yours", .local), ("zip", .globalImplicit), ("_law_found", .free), ("_law_sheets", .free)], isGenerator := false, isCoroutine := false }
section
variable {P : Program} {w : World} {K : PySem.W.Frag} {mg : Str → Option Value} {base : Heap} {C : Addr}
/-- two sheets run side by side -/
def spLPairs : Sp := fun vs H Q _ => ∃ (s t1 t2 : Addr) (S : List Nat) (R1 R2 : Rows) (K1 K2 : List Bool), vs = [.ref s] ∧ H s = some (.lst [.ref t1, .ref t2]) ∧ SheetAt H t1 R1 K1 ∧ SheetAt H t2 R2 K2 ∧ ShOk S R1 K1 ∧ ShOk S R2 K2 ∧
  ∀ H' T W Ps (ls bs : List Addr), Same H H' → H' T = some (.tup [.ref W, .ref Ps]) → H' W = some (.lst (ls.map V.ref)) → RwAt H H' W ls (PR R1 R2) (pL R1 R2).length → H' Ps = some (.lst (bs.map V.ref)) → PrAt H' bs ((pL R1 R2).map (dec R2.length)) → Q (.ref T) H'
theorem ok_lpairs {f : Addr} {fd : FuncData} {k : Nat} (F : Fun K "_law_pairs" "_law_pairs" sLPairs f fd) (M : Mx mg) : FnG P w K mg base CX0 (k + 1) f fd ["_law_sheets"] spLPairs := by
  refine okG F scLPairs (fun vs H Q E h => ?_) (fun cdv A hA outer s H vs Q E hr h => ?_)
  · obtain ⟨s, t1, t2, S, R1, R2, K1, K2, rfl, _⟩ := h; rfl
  · obtain ⟨sa, t1, t2, S, R1, R2, K1, K2, rfl, hsa, sh1, sh2, ok1, ok2, q⟩ := h
    have nd := scLPairs.nd
    have sl := sizeLine_eq
    have hu := Room.u65 hr
    refine ⟨_, pss_cons (ps_asg (pe_tup (pa_cons (pe_lst (pa_cons (pe_tup (pa_cons pe_int (pa_cons pe_int pa_nil))) pa_nil)) (pa_cons pe_int pa_nil))) (pg_tup rfl (pgs_cons (pg_name (i := 1) nd rfl (.inr rfl)) (pgs_cons (pg_name (i := 2) nd rfl (.inl rfl)) pgs_nil))) rfl)
      (pss_cons (ps_while PassesOwn.never (pt_cl (pt_cu o_lt (uv 2) (pe_callB c_len (by rfl) M.len b_len (pa_cons (uv 1) pa_nil))))
        (pss_cons (ps_asg (pe_ixU (uv 1) (uv 2)) (pg_tup rfl (pgs_cons (pg_name (i := 3) nd rfl (.inl rfl)) (pgs_cons (pg_name (i := 4) nd rfl (.inl rfl)) pgs_nil))) rfl)
        (pss_cons (ps_for PassesOwn.never rfl (pi_zipN (by rfl) M.zip (pa_cons (pe_ixU (pe_ixU (pe_ixU (uv 0) pe_int) pe_int) (uv 3)) (pa_cons (pe_ixU (pe_ixU (pe_ixU (uv 0) pe_int) pe_int) (uv 4)) pa_nil))) (pg_name (i := 5) nd rfl (.inl rfl))
          (pss_one (ps_ifU (pt_cu (r := rNotInD K) (o_ninD rfl hu) (uv 5) (uv 1))
            (pss_one (ps_expr (pe_bm PySem.F.plainAttrs_list PySem.F.slot_list_append PySem.F.type_list_append mt_append (uv 1) (pa_cons (uv 5) pa_nil)))) pss_nil)))
        (pss_one (ps_set (i := 2) nd rfl (.inl rfl) (pe_op o_add (uv 2) pe_int))))))
      (pss_cons (ps_setLc (i := 6) (own := [("_law_mine", 3), ("_law_yours", 4)]) (g := gTup K 2 (gCons (gName 3) (gCons (gName 4) gNil))) (by rfl) nd rfl rfl (sw_true rfl rfl rfl (by decide +kernel)) (pi_list (uv 1)) (blkOk_by (N := nLPr) (sc := defScope sLPairs) (by decide +kernel))
        (fun _ _ _ _ _ => pg_tup rfl (pgs_cons (pg_name (i := 3) nd rfl (.inl rfl)) (pgs_cons (pg_name (i := 4) nd rfl (.inl rfl)) pgs_nil))) (fun _ _ _ _ _ => pts_nil)
        (fun _ _ _ _ _ => pe_lc (own := [("_law_pair", 5)]) (g := gName 5) (tt := tYes) rfl nd (pi_zipNK (K := K) rfl (by rfl) M.zip (pa_cons (pe_ixK (K := K) rfl (pe_ixK (K := K) rfl (pe_ixK (K := K) rfl (uv 0) pe_int) pe_int) (uv 3)) (pa_cons (pe_ixK (K := K) rfl (pe_ixK (K := K) rfl (pe_ixK (K := K) rfl (uv 0) pe_int) pe_int) (uv 4)) pa_nil)))
          (blkOk_in (N := nLPr) (sc := scLP1) (by decide +kernel)) (fun _ _ _ _ _ => pg_name (i := 5) nd rfl (Or.inl rfl)) (fun _ _ _ _ _ => pts_nil)
          (fun _ _ _ _ _ => pe_bmK (K := K) rfl PySem.F.plainAttrs_list PySem.F.slot_list_index PySem.F.type_list_index (mt_indexDK (K := K) rfl hu) (uv 1) (pa_cons (uv 5) pa_nil))))
      (pss_one (ps_ret (pe_tup (pa_cons (uv 6) (pa_cons (uv 1) pa_nil))))))), ?_⟩
    obtain ⟨ra, ka, ht1, ⟨rs1, hr1, lr1, hrw1⟩, hk1⟩ := id sh1
    obtain ⟨rb, kb, ht2, ⟨rs2, hr2, lr2, hrw2⟩, hk2⟩ := id sh2
    have lo1 := ok1.lo
    have lo2 := ok2.lo
    have hi1 := ok1.hi
    have hi2 := ok2.hi
    have hNM : R1.length * R2.length ≤ 1600 := Nat.le_trans (Nat.mul_le_mul hi1 hi2) (by decide)
    have okP : RowsOk (PR R1 R2) S.length := pr_ok ok1.rows ok2.rows
    have lP : (PR R1 R2).length = R1.length * R2.length := pr_len
    have h0P : 0 < (PR R1 R2).length := pr_pos ok1 ok2
    have flen : ∀ i, (fnd (PR R1 R2) 0 i).length ≤ R1.length * R2.length := fun i => lP ▸ fnd_len okP h0P i
    have flt : ∀ i, ∀ x ∈ fnd (PR R1 R2) 0 i, x < R1.length * R2.length := fun i x hx => lP ▸ fnd_lt okP h0P i x hx
    have d00 : dec R2.length 0 = (0, 0) := by show (0 / R2.length, 0 % R2.length) = (0, 0); rw [Nat.zero_div, Nat.zero_mod]
    have sT1 : SqT K H t1 [.ref ra, .ref ka] := .inl (.inl ht1)
    refine ⟨by show 2 ≤ sizeLine; omega, fun t0 nt0 => ⟨by show 1 ≤ sizeLine; omega, fun L nL => ⟨by show 2 ≤ sizeLine; omega, fun T nT => ?_⟩⟩⟩
    have e0 : Same H (upd H t0 (.tup [.int 0, .int 0])) := same_upd nt0
    have hLt : L ≠ t0 := fun e => by rw [e, upd_same] at nL; cases nL
    have nLH : H L = none := by rw [upd_ne hLt] at nL; exact nL
    have e1 : Same (upd H t0 (.tup [.int 0, .int 0])) (upd (upd H t0 (.tup [.int 0, .int 0])) L (.lst [.ref t0])) := same_upd nL
    have ht0 := e1 _ _ (upd_same (H := H) (a := t0) (o := .tup [.int 0, .int 0]))
    have hL1 := upd_same (H := upd H t0 (.tup [.int 0, .int 0])) (a := L) (o := .lst [.ref t0])
    have e01 := e0.trans e1
    refine ⟨T, _, rfl, .inl (.inl upd_same), rfl, _, _, rfl, _, _, rfl, rfl, ?_⟩
    have e2 : Same (upd (upd H t0 (.tup [.int 0, .int 0])) L (.lst [.ref t0])) (upd (upd (upd H t0 (.tup [.int 0, .int 0])) L (.lst [.ref t0])) T (.tup [.ref L, .int 0])) := same_upd nT
    have eB := e01.trans e2
    have hLB : _ = some (HO.lst ([t0].map V.ref)) := e2 _ _ hL1
    have htB : PrAt (upd (upd (upd H t0 (.tup [.int 0, .int 0])) L (.lst [.ref t0])) T (.tup [.ref L, .int 0])) [t0] ((fnd (PR R1 R2) 0 0).map (dec R2.length)) := by
      refine ⟨rfl, fun n t g ht hg => ?_⟩
      cases n with
      | zero =>
        simp [fnd] at ht hg
        subst ht; subst hg
        rw [d00]; exact e2 _ _ ht0
      | succ n => simp at ht
    generalize (upd (upd (upd H t0 (.tup [.int 0, .int 0])) L (.lst [.ref t0])) T (.tup [.ref L, .int 0])) = HB at eB hLB htB ⊢
    clear e0 e1 e2 e01 ht0 hL1 nT
    show tWhile _ _ _ _ _
    refine wh (m0 := R1.length * R2.length) (fun mm σ H2 => ∃ (i : Nat) (ts : List Addr) (y3 y4 y5 : Option V), mm = R1.length * R2.length - i ∧ i ≤ (fnd (PR R1 R2) 0 i).length ∧ Same H H2 ∧ H2 L = some (.lst (ts.map V.ref)) ∧ PrAt H2 ts ((fnd (PR R1 R2) 0 i).map (dec R2.length)) ∧
        σ = [some (.ref sa), some (.ref L), some (.int (i : Nat)), y3, y4, y5, none])
      ⟨0, [t0], none, none, none, rfl, Nat.zero_le _, eB, hLB, htB, rfl⟩ (fun mm σ H2 iv2 => ?_) (fun σ H Q Q' hm h => ?_)
    case refine_2 =>
      obtain ⟨Q0, h0, m0⟩ := h
      exact ⟨Q0, h0, fun v H' z => hm _ _ (m0 v H' z)⟩
    clear eB hLB htB
    obtain ⟨i, ts, y3, y4, y5, rfl, hi, eC, hL, ht, rfl⟩ := iv2
    have lts : ts.length = (fnd (PR R1 R2) 0 i).length := by rw [ht.1, List.length_map]
    have fl := flen i
    refine ⟨fun b H' => b = decide ((i : Int) < ((ts.map V.ref).length : Int)) ∧ H' = H2, .inl ⟨ts.map V.ref, .inl (.inl (.inl hL)), rfl, rfl⟩, fun b H' z => ?_⟩
    obtain ⟨rfl, rfl⟩ := z
    have ltm : (ts.map V.ref).length = ts.length := List.length_map _
    by_cases hlt : i < ts.length
    · rw [if_pos (decide_eq_true (by rw [ltm]; omega))]
      obtain ⟨t, htj⟩ : ∃ t, ts[i]? = some t := ⟨_, List.getElem?_eq_getElem hlt⟩
      obtain ⟨c, hci⟩ : ∃ c, (fnd (PR R1 R2) 0 i)[i]? = some c := ⟨_, List.getElem?_eq_getElem (by omega)⟩
      have hT := ht.2 i t (dec R2.length c) htj (by rw [List.getElem?_map, hci]; rfl)
      have cN : c < R1.length * R2.length := flt _ c (List.mem_of_getElem? hci)
      have hstep : fnd (PR R1 R2) 0 (i + 1) = adds (fnd (PR R1 R2) 0 i) (gls (PR R1 R2) c) := fnd_step hci
      have pg := pr_gls (R1 := R1) (R2 := R2) cN
      obtain ⟨lt1, lt2⟩ := dec_lt cN
      obtain ⟨p1, p2, hp⟩ : ∃ p1 p2, dec R2.length c = (p1, p2) := ⟨_, _, rfl⟩
      rw [hp] at lt1 lt2 pg hT
      have lt1 : p1 < R1.length := lt1
      have lt2 : p2 < R2.length := lt2
      have hT : H' t = some (.tup [.int (p1 : Nat), .int (p2 : Nat)]) := hT
      have pg : gls (PR R1 R2) c = ((gls R1 p1).zip (gls R2 p2)).map (enc R2.length) := pg
      have lg1 := gls_len ok1.rows lt1
      have lg2 := gls_len ok2.rows lt2
      obtain ⟨q1, hq1⟩ : ∃ q1, rs1[p1]? = some q1 := ⟨_, List.getElem?_eq_getElem (by omega)⟩
      obtain ⟨q2, hq2⟩ : ∃ q2, rs2[p2]? = some q2 := ⟨_, List.getElem?_eq_getElem (by omega)⟩
      have sq1 := hrw1 p1 q1 hq1
      have sq2 := hrw2 p2 q2 hq2
      refine ⟨ts.map V.ref, .ref t, .inl (.inl (.inl hL)), atI_nat (by rw [List.getElem?_map, htj]; rfl), ?_⟩
      refine ⟨t, _, rfl, .inl (.inl hT), rfl, _, _, rfl, _, _, rfl, rfl, ?_⟩
      have lPc : (gls (PR R1 R2) c).length = S.length := by rw [pg, List.length_map, List.length_zip, lg1, lg2, Nat.min_self]
      dsimp only [tNext, tSeq]
      refine for_zLN (K := K) (a := q1) (b := q2) (xs := iv (gls R1 p1)) (ys := iv (gls R2 p2)) (H1 := H')
        (fun R' hR' => ⟨_, .ref t1, .inl (.inl (.inl (eC _ _ hsa))), rfl, _, .ref ra, .inr (.inl (.inl (eC _ _ ht1))), rfl, rs1.map V.ref, .ref q1, .inl (.inl (.inl (eC _ _ hr1))), atI_nat (by rw [List.getElem?_map, hq1]; rfl),
          _, .ref t2, .inl (.inl (.inl (eC _ _ hsa))), rfl, _, .ref rb, .inr (.inl (.inl (eC _ _ ht2))), rfl, rs2.map V.ref, .ref q2, .inl (.inl (.inl (eC _ _ hr2))), atI_nat (by rw [List.getElem?_map, hq2]; rfl), hR'⟩)
        (by rw [List.length_map, List.length_map, lg1, lg2])
        (fun n σ H6 => ∃ (tb : List Addr) (y5 : Option V), n ≤ S.length ∧ Same H H6 ∧ H6 L = some (.lst (tb.map V.ref)) ∧ PrAt H6 tb ((adds (fnd (PR R1 R2) 0 i) ((gls (PR R1 R2) c).take n)).map (dec R2.length)) ∧
          σ = [some (.ref sa), some (.ref L), some (.int (i : Nat)), some (.int (p1 : Nat)), some (.int (p2 : Nat)), y5, none])
        ⟨ts, y5, Nat.zero_le _, eC, hL, ht, rfl⟩ (fun n σ H6 h => by obtain ⟨_, _, _, h, _⟩ := h; exact ⟨.inl (.inl (h _ _ sq1)), .inl (.inl (h _ _ sq2))⟩) (fun n u y pr σ H6 hu2 hy h npr => ?_) (fun σ H6 h => ?_)
      · obtain ⟨tb, y5, hnS, e7, hL7, ht7, rfl⟩ := h
        rw [List.getElem?_map] at hu2 hy
        obtain ⟨g1, hg1, rfl⟩ := Option.map_eq_some_iff.mp hu2
        obtain ⟨g2, hg2, rfl⟩ := Option.map_eq_some_iff.mp hy
        have hn : n < S.length := by have := (List.getElem?_eq_some_iff.mp hg1).1; omega
        have gl2 := gls_lt ok2.rows (List.mem_of_getElem? hg2)
        have de : dec R2.length (enc R2.length (g1, g2)) = (g1, g2) := dec_enc gl2
        have hgn : (gls (PR R1 R2) c)[n]? = some (enc R2.length (g1, g2)) := by rw [pg, List.getElem?_map, (List.getElem?_zip_eq_some (z := (g1, g2))).mpr ⟨hg1, hg2⟩]; rfl
        have htk : (gls (PR R1 R2) c).take (n + 1) = (gls (PR R1 R2) c).take n ++ [enc R2.length (g1, g2)] := by rw [List.take_add_one, hgn]; rfl
        have adS : adds (fnd (PR R1 R2) 0 i) ((gls (PR R1 R2) c).take (n + 1)) = add1 (adds (fnd (PR R1 R2) 0 i) ((gls (PR R1 R2) c).take n)) (enc R2.length (g1, g2)) := by rw [htk, adds_app]
        have aN : (adds (fnd (PR R1 R2) 0 i) ((gls (PR R1 R2) c).take n)).length ≤ R1.length * R2.length := lP ▸ adds_len okP h0P (List.take_append_drop n (gls (PR R1 R2) c)).symm
        rw [adS]
        generalize adds (fnd (PR R1 R2) 0 i) ((gls (PR R1 R2) c).take n) = G at ht7 aN ⊢
        generalize enc R2.length (g1, g2) = ee at de ⊢
        have e8 : Same H6 (upd H6 pr (.tup [.int (g1 : Nat), .int (g2 : Nat)])) := same_upd npr
        have hpr := upd_same (H := H6) (a := pr) (o := .tup [.int (g1 : Nat), .int (g2 : Nat)])
        have hLp : L ≠ pr := ne_of_none hL7 npr
        have e9 := e7.trans e8
        have hL8 := e8 _ _ hL7
        have ht8 := ht7.ext e8
        generalize upd H6 pr (.tup [.int (g1 : Nat), .int (g2 : Nat)]) = H7 at e8 hpr e9 hL8 ht8 ⊢
        have lG := ht8.1
        rw [List.length_map] at lG
        refine ⟨encNN (g1, g2), (G.map (dec R2.length)).map encNN, .tup (.inl (.inl hpr)) (.cons (.int _) (.cons (.int _) .nil)), ht8.dp hL8, (flat_nn _).shaped (by decide), (flat_nns _).shaped (by decide), ?_⟩
        show Br (!(((G.map (dec R2.length)).map encNN).any fun z => PyData.eqv z (encNN (g1, g2)))) _ _
        rw [any_nn, show decide ((g1, g2) ∈ G.map (dec R2.length)) = decide (ee ∈ G) from decide_eq_decide.mpr ⟨fun h => by obtain ⟨c', h1, h2⟩ := List.mem_map.mp h; rw [← de] at h2; rw [dec_inj.mp h2] at h1; exact h1, fun h => List.mem_map.mpr ⟨ee, h, de⟩⟩]
        refine .nd (fun hg => ?_) (fun hg => ?_)
        · have a1 : add1 G ee = G ++ [ee] := if_neg hg
          have nLt : ∀ vs, H7 L ≠ some (.tup vs) := fun vs z => by rw [hL8] at z; cases z
          refine ⟨.inl ⟨rfl, _, .inl (.inl hL8)⟩, L, _, _, rfl, rfl, hL8, by rw [List.length_map, lG]; omega, ?_⟩
          refine ⟨tb ++ [pr], _, hn, same_upd2 e9 nLH, by rw [upd_same, List.map_append]; rfl, ?_, rfl⟩
          rw [a1, List.map_append]
          exact (ht8.put nLt).snoc (g := dec R2.length ee) (by rw [de, upd_ne hLp.symm]; exact hpr)
        · have a1 : add1 G ee = G := if_pos hg
          exact ⟨tb, _, hn, e9, hL8, by rw [a1]; exact ht8, rfl⟩
      · obtain ⟨tb, y5, hnS, e7, hL7, ht7, rfl⟩ := h
        have tk : (gls (PR R1 R2) c).take (iv (gls R1 p1)).length = gls (PR R1 R2) c := List.take_of_length_le (by rw [lPc, List.length_map, lg1]; exact Nat.le_refl _)
        rw [tk, ← hstep] at ht7
        have l2 := (fnd_pre (R := PR R1 R2) (s := 0) (i := i) (j := i + 1) (by omega)).length_le
        exact ⟨R1.length * R2.length - (i + 1), by omega, i + 1, tb, _, _, _, rfl, by omega, e7, hL7, ht7, rfl⟩
    · rw [if_neg (by rw [decide_eq_false (by rw [ltm]; omega)]; decide)]
      have em : fnd (PR R1 R2) 0 i = pL R1 R2 := fnd_met okP h0P (by omega)
      rw [em] at ht lts
      have hlL := pL_len ok1 ok2
      have idxL : ∀ c0, c0 ∈ pL R1 R2 → (∃ z, ((pL R1 R2).map (dec R2.length)).map encNN = z ∧ z[(pL R1 R2).idxOf c0]? = some (encNN (dec R2.length c0)) ∧ ∀ (m : Nat) (z' : PyData), m < (pL R1 R2).idxOf c0 → z[m]? = some z' → PyData.eqv z' (encNN (dec R2.length c0)) = false) := fun c0 hc0 => by
        refine ⟨_, rfl, ?_, fun m z' hm hz => ?_⟩
        · rw [List.getElem?_map, List.getElem?_map, idx_get hc0]; rfl
        · rw [List.getElem?_map, List.getElem?_map] at hz
          obtain ⟨y, hy, rfl⟩ := Option.map_eq_some_iff.mp hz
          obtain ⟨y', hy', rfl⟩ := Option.map_eq_some_iff.mp hy
          rw [eqv_nn, decide_eq_false_iff_not, dec_inj]
          rintro rfl
          have := idx_le hy'
          omega
      have clo : ∀ c0 g, c0 ∈ pL R1 R2 → g ∈ gls (PR R1 R2) c0 → g ∈ pL R1 R2 := fun c0 g h1 h2 => met_closed okP h0P h1 h2
      dsimp only [tSeq, tAsg, gName]
      refine lc_list (K := K) (a := L) (xs := ts.map V.ref) (H1 := H') (by exact fun _ h => h) (.inl (.inl hL))
        (fun D pre acc H3 => ∃ (j : Nat) (ls : List Addr), pre = (ts.take j).map V.ref ∧ j ≤ ts.length ∧ acc = ls.map V.ref ∧ Same H' H3 ∧ H3 D = some (.lst (ls.map V.ref)) ∧ RwAt H H3 D ls (PR R1 R2) j)
        (fun D pre acc H3 h => by obtain ⟨_, _, _, _, _, h, _⟩ := h; exact .inl (.inl (h _ _ hL)))
        (fun D nD => ⟨0, [], rfl, Nat.zero_le _, rfl, same_upd nD, upd_same, rfl, fun j q z => by simp at z⟩)
        (fun D nD pre acc x suf H3 ex h => ?_) (fun D nD acc H3 h => ?_)
      · obtain ⟨j, ls, rfl, hj, rfl, e7, hD, hrw⟩ := h
        have lj : ((ts.take j).map V.ref).length = j := by rw [List.length_map, List.length_take]; omega
        have hj2 : j < ts.length := by
          have := congrArg List.length ex
          rw [List.length_append, lj, List.length_map, List.length_cons] at this
          omega
        have hx : (ts.map V.ref)[j]? = some x := by rw [ex, List.getElem?_append_right (by omega), lj, Nat.sub_self]; rfl
        rw [List.getElem?_map] at hx
        obtain ⟨t, htj, rfl⟩ := Option.map_eq_some_iff.mp hx
        obtain ⟨c, hci⟩ : ∃ c, (pL R1 R2)[j]? = some c := ⟨_, List.getElem?_eq_getElem (by omega)⟩
        have cL := List.mem_of_getElem? hci
        have hT := e7 _ _ (ht.2 j t (dec R2.length c) htj (by rw [List.getElem?_map, hci]; rfl))
        have cN : c < R1.length * R2.length := flt _ c cL
        have pg := pr_gls (R1 := R1) (R2 := R2) cN
        obtain ⟨lt1, lt2⟩ := dec_lt cN
        obtain ⟨p1, p2, hp⟩ : ∃ p1 p2, dec R2.length c = (p1, p2) := ⟨_, _, rfl⟩
        rw [hp] at lt1 lt2 pg hT
        have lt1 : p1 < R1.length := lt1
        have lt2 : p2 < R2.length := lt2
        have hT : H3 t = some (.tup [.int (p1 : Nat), .int (p2 : Nat)]) := hT
        have pg : gls (PR R1 R2) c = ((gls R1 p1).zip (gls R2 p2)).map (enc R2.length) := pg
        have lg1 := gls_len ok1.rows lt1
        have lg2 := gls_len ok2.rows lt2
        have l3 := ok1.let_.hi
        obtain ⟨q1, hq1⟩ : ∃ q1, rs1[p1]? = some q1 := ⟨_, List.getElem?_eq_getElem (by omega)⟩
        obtain ⟨q2, hq2⟩ : ∃ q2, rs2[p2]? = some q2 := ⟨_, List.getElem?_eq_getElem (by omega)⟩
        have lPc : (gls (PR R1 R2) c).length = S.length := by rw [pg, List.length_map, List.length_zip, lg1, lg2, Nat.min_self]
        have e17 := eC.trans e7
        have sq1 := e17 _ _ (hrw1 p1 q1 hq1)
        have sq2 := e17 _ _ (hrw2 p2 q2 hq2)
        have hL3 := e7 _ _ hL
        have ht3 := ht.ext e7
        refine ⟨t, _, rfl, .inl (.inl hT), rfl, _, _, rfl, _, _, rfl, rfl, rfl, ?_⟩
        refine lc_zLN (K := K) (a := q1) (b := q2) (xs := iv (gls R1 p1)) (ys := iv (gls R2 p2)) (H1 := H3)
          (fun R' hR' => ⟨_, .ref t1, .inl (.inl (.inl (e17 _ _ hsa))), rfl, _, .ref ra, .inr (.inl (.inl (e17 _ _ ht1))), rfl, rs1.map V.ref, .ref q1, .inl (.inl (.inl (e17 _ _ hr1))), atI_nat (by rw [List.getElem?_map, hq1]; rfl),
            _, .ref t2, .inl (.inl (.inl (e17 _ _ hsa))), rfl, _, .ref rb, .inr (.inl (.inl (e17 _ _ ht2))), rfl, rs2.map V.ref, .ref q2, .inl (.inl (.inl (e17 _ _ hr2))), atI_nat (by rw [List.getElem?_map, hq2]; rfl), hR'⟩)
          (by rw [List.length_map, List.length_map, lg1, lg2]) (.inl (.inl sq1)) (.inl (.inl sq2))
          (fun B n acc H4 => n ≤ S.length ∧ Same H3 H4 ∧ H4 B = some (.lst acc) ∧ acc = iv (((gls (PR R1 R2) c).take n).map fun x => (met (PR R1 R2) 0).idxOf x))
          (fun B n acc H4 h => by exact ⟨.inl (.inl (h.2.1 _ _ sq1)), .inl (.inl (h.2.1 _ _ sq2))⟩) (fun B nB => ⟨Nat.zero_le _, same_upd nB, upd_same, rfl⟩) (fun B nB n acc u y pr H4 hu2 hy h npr => ?_) (fun B nB acc H4 h => ?_)
        · obtain ⟨hnS, e8, hB, rfl⟩ := h
          rw [List.getElem?_map] at hu2 hy
          obtain ⟨g1, hg1, rfl⟩ := Option.map_eq_some_iff.mp hu2
          obtain ⟨g2, hg2, rfl⟩ := Option.map_eq_some_iff.mp hy
          have hn : n < S.length := by have := (List.getElem?_eq_some_iff.mp hg1).1; omega
          have gl2 := gls_lt ok2.rows (List.mem_of_getElem? hg2)
          have de : dec R2.length (enc R2.length (g1, g2)) = (g1, g2) := dec_enc gl2
          have hgn : (gls (PR R1 R2) c)[n]? = some (enc R2.length (g1, g2)) := by rw [pg, List.getElem?_map, (List.getElem?_zip_eq_some (z := (g1, g2))).mpr ⟨hg1, hg2⟩]; rfl
          have htk : (gls (PR R1 R2) c).take (n + 1) = (gls (PR R1 R2) c).take n ++ [enc R2.length (g1, g2)] := by rw [List.take_add_one, hgn]; rfl
          have eeL := clo c _ cL (List.mem_of_getElem? hgn)
          rw [htk]
          generalize enc R2.length (g1, g2) = ee at de eeL ⊢
          have e9 : Same H4 (upd H4 pr (.tup [.int (g1 : Nat), .int (g2 : Nat)])) := same_upd npr
          have hpr := upd_same (H := H4) (a := pr) (o := .tup [.int (g1 : Nat), .int (g2 : Nat)])
          have hB9 := e9 _ _ hB
          have e10 := e8.trans e9
          have hL9 := e10 _ _ hL3
          have ht9 := ht3.ext e10
          generalize upd H4 pr (.tup [.int (g1 : Nat), .int (g2 : Nat)]) = H5 at e9 hpr hB9 e10 hL9 ht9 ⊢
          obtain ⟨z, ez, hz1, hz2⟩ := idxL ee eeL
          rw [de] at hz1 hz2
          have sB : z = ((pL R1 R2).map (dec R2.length)).map encNN := ez.symm
          refine ⟨rfl, .inl ⟨rfl, _, .inl (.inl hL9)⟩, L, .ref pr, encNN (g1, g2), z, _, _, rfl, rfl, by rw [sB]; exact ht9.dp hL9, .tup (.inl (.inl hpr)) (.cons (.int _) (.cons (.int _) .nil)), by rw [sB]; exact (flat_nns _).shaped (by decide), (flat_nn _).shaped (by decide), hz1, by rw [eqv_nn]; exact decide_eq_true rfl, hz2, ?_⟩
          refine ⟨_, hB9, by rw [List.length_map, List.length_map, List.length_take]; omega, _, hn, same_upd2 e10 nB, upd_same, ?_⟩
          rw [List.map_append]; unfold iv; rw [List.map_append]; rfl
        · obtain ⟨hnS, e8, hB, rfl⟩ := h
          have tk : (gls (PR R1 R2) c).take (iv (gls R1 p1)).length = gls (PR R1 R2) c := List.take_of_length_le (by rw [lPc, List.length_map, lg1]; exact Nat.le_refl _)
          rw [tk] at hB
          have nBH : H B = none := Same.free e17 nB
          have hBD : B ≠ D := fun z => by rw [z, hD] at nB; cases nB
          have nDH' : H' D = none := by assumption
          have lls := hrw.1
          refine ⟨ls.map V.ref, e8 _ _ hD, by rw [List.length_map]; omega, (ls ++ [B]).map V.ref, j + 1, ls ++ [B], ?_, hj2, rfl, same_upd2 (e7.trans e8) nDH', ?_, ?_⟩
          · rw [List.take_add_one, htj, List.map_append]; rfl
          · rw [upd_same, List.map_append]; rfl
          · exact ((hrw.ext e8).put fun q hq => (hrw.2 _ q (List.mem_iff_getElem?.mp hq).choose_spec).1).snoc hBD nBH hci (by rw [upd_ne hBD]; exact hB)
      · obtain ⟨j, ls, ej, hj, rfl, e7, hD, hrw⟩ := h
        have ej : ts.length = j := by
          have := congrArg List.length ej
          rw [List.length_map, List.length_map, List.length_take] at this
          omega
        refine ⟨by show 2 ≤ sizeLine; omega, fun T nT => ?_⟩
        have eT : Same H3 (upd H3 T (.tup [.ref D, .ref L])) := same_upd nT
        have e37 := e7.trans eT
        exact q _ T D L ls ts (eC.trans e37) upd_same (eT _ _ hD) (by rw [← lts, ej]; exact hrw.ext eT) (e37 _ _ hL) (ht.ext e37)
end
end LK

/-! _law_due -/
namespace LK
open PySem PySem.Spec PyProof.Rows L2 LamX ClX
open scoped List
section
variable {K : PySem.W.Frag} {t : TE} {g : TG} {te : TE} {vs : List Nat} {σ : L2.St} {H H1 : Hp} {Q : VK}
/-- a comprehension over pairs of kinds -/
theorem lc_bp {op : Bool → Bool → Bool} {a : Addr} {ks : List Addr} {ps : List (Bool × Bool)} (h : ∀ R : VK, R (.ref a) H1 → t σ H R) (hL : H1 a = some (.lst (ks.map V.ref))) (hb : BpAt H1 ks ps) (hn : ps.length < sizeLine)
    (hg : ∀ (t2 : Addr) (b1 b2 : Bool) (H' : Hp) (Qy : VK), H' t2 = some (.tup [.bl b1, .bl b2]) → Qy (.bl (op b1 b2)) H' → g (.ref t2) (wipe σ vs) H' fun σ2 H2 => wipe σ2 vs = wipe σ vs ∧ te σ2 H2 Qy)
    (he : ∀ (D : Addr) (H' : Hp), H1 D = none → Same H1 H' → H' D = some (.lst (ps.map fun g => V.bl (op g.1 g.2))) → Q (.ref D) H') : tLc (iList K t) g tYes te vs σ H Q := by
  have lks := hb.1
  refine lc_list (K := K) (a := a) (xs := ks.map V.ref) (H1 := H1) h (.inl (.inl hL))
    (fun D pre acc H3 => ∃ (j : Nat), pre = (ks.take j).map V.ref ∧ j ≤ ks.length ∧ acc = ((ps.map fun g => V.bl (op g.1 g.2)).take j) ∧ Same H1 H3 ∧ H3 D = some (.lst acc))
    (fun D pre acc H3 h => by obtain ⟨_, _, _, _, h, _⟩ := h; exact .inl (.inl (h _ _ hL))) (fun D nD => ⟨0, rfl, Nat.zero_le _, rfl, same_upd nD, upd_same⟩) (fun D nD pre acc x suf H3 ex h => ?_) (fun D nD acc H3 h => ?_)
  · obtain ⟨j, rfl, hj, rfl, e7, hD⟩ := h
    have lj : ((ks.take j).map V.ref).length = j := by rw [List.length_map, List.length_take]; omega
    have hj2 : j < ks.length := by
      have := congrArg List.length ex
      rw [List.length_append, lj, List.length_map, List.length_cons] at this
      omega
    have hx : (ks.map V.ref)[j]? = some x := by rw [ex, List.getElem?_append_right (by omega), lj, Nat.sub_self]; rfl
    rw [List.getElem?_map] at hx
    obtain ⟨t2, htj, rfl⟩ := Option.map_eq_some_iff.mp hx
    obtain ⟨⟨b1, b2⟩, hcj⟩ : ∃ c, ps[j]? = some c := ⟨_, List.getElem?_eq_getElem (by omega)⟩
    have hT : H3 t2 = some (.tup [.bl b1, .bl b2]) := e7 _ _ (hb.2 j t2 (b1, b2) htj hcj)
    refine hg t2 b1 b2 H3 _ hT ⟨_, hD, by rw [List.length_take, List.length_map]; omega, _, j + 1, ?_, hj2, rfl, same_upd2 e7 nD, ?_⟩
    · rw [List.take_add_one, htj, List.map_append]; rfl
    · rw [upd_same, List.take_add_one, List.getElem?_map, hcj]; rfl
  · obtain ⟨j, ej, hj, rfl, e7, hD⟩ := h
    have ej : ks.length = j := by
      have := congrArg List.length ej
      rw [List.length_map, List.length_map, List.length_take] at this
      omega
    rw [List.take_of_length_le (by rw [← ej, lks, List.length_map]; exact Nat.le_refl _)] at hD
    exact he D H3 nD e7 hD
end
abbrev nDue : List Str := ["_law_signs", "_law_sheets", "_law_rows", "_law_found", "_law_kinds", "_law_both", "_law_either", "_law_mine", "_law_yours", "_law_one", "_law_other"]
theorem scDue : FnScope nDue ["_law_signs", "_law_sheets"] (defScope sDue) := ⟨rfl, rfl, rfl, by decide +kernel, rfl, by decide +kernel, by decide +kernel⟩
abbrev opA : Bool → Bool → Bool := fun a b => a && b
abbrev opO : Bool → Bool → Bool := fun a b => a || b
abbrev opS : Bool → Bool → Bool := fun a b => a && !b
section
variable {P : Program} {w : World} {K : PySem.W.Frag} {mg : Str → Option Value} {base : Heap} {C : Addr}
/-- the three machines that are due -/
def spDue (C : Addr) : Sp := fun vs H Q _ => ∃ (s t1 t2 : Addr) (S : List Nat) (R1 R2 : Rows) (K1 K2 : List Bool), vs = [.str (T S), .ref s] ∧ H s = some (.lst [.ref t1, .ref t2]) ∧ SheetAt H t1 R1 K1 ∧ SheetAt H t2 R2 K2 ∧ ShOk S R1 K1 ∧ ShOk S R2 K2 ∧ R1.length * R2.length ≤ 40 ∧
  ∀ H' p m1 m2 m3, Same H H' → H' p = some (.lst [.ref m1, .ref m2, .ref m3]) → Mach C H' m1 S (pR R1 R2) (pK opA R1 R2 K1 K2) → Mach C H' m2 S (pR R1 R2) (pK opO R1 R2 K1 K2) → Mach C H' m3 S (pR R1 R2) (pK opS R1 R2 K1 K2) → Q (.ref p) H'
theorem ok_due {f : Addr} {fd : FuncData} {k : Nat} (F : Fun K "_law_due" "_law_due" sDue f fd) (M : Mx mg) (cM : ClsM K C) (HLP : Has P w K mg base (k + 1) "_law_pairs" ["_law_sheets"] spLPairs) (HI : HasI P w K mg base k "Machine" C ["letters", "rows", "kinds"] (spInit K C)) :
    FnG P w K mg base CX0 (k + 2) f fd ["_law_signs", "_law_sheets"] (spDue C) := by
  refine okG F scDue (fun vs H Q E h => ?_) (fun cdv A hA outer s H vs Q E hr h => ?_)
  · obtain ⟨s, t1, t2, S, R1, R2, K1, K2, rfl, _⟩ := h; rfl
  · obtain ⟨sa, t1, t2, S, R1, R2, K1, K2, rfl, hsa, sh1, sh2, ok1, ok2, hN, q⟩ := h
    have nd := scDue.nd
    have sl := sizeLine_eq
    refine ⟨_, pss_cons (ps_asg (pe_callH HLP hA hr (by rfl) (pa_cons (uv 1) pa_nil)) (pg_tup rfl (pgs_cons (pg_name (i := 2) nd rfl (.inl rfl)) (pgs_cons (pg_name (i := 3) nd rfl (.inl rfl)) pgs_nil))) rfl)
      (pss_cons (ps_setLc (i := 4) (own := [("_law_mine", 7), ("_law_yours", 8)]) (g := gTup K 2 (gCons (gName 7) (gCons (gName 8) gNil))) (by rfl) nd rfl rfl (sw_true rfl rfl rfl (by decide +kernel)) (pi_list (uv 3)) (blkOk_by (N := nDue) (sc := defScope sDue) (by decide +kernel))
        (fun _ _ _ _ _ => pg_tup rfl (pgs_cons (pg_name (i := 7) nd rfl (.inl rfl)) (pgs_cons (pg_name (i := 8) nd rfl (.inl rfl)) pgs_nil))) (fun _ _ _ _ _ => pts_nil)
        (fun _ _ _ _ _ => pe_tup (pa_cons (pe_ixK (K := K) rfl (pe_ixK (K := K) rfl (pe_ixK (K := K) rfl (uv 1) pe_int) pe_int) (uv 7)) (pa_cons (pe_ixK (K := K) rfl (pe_ixK (K := K) rfl (pe_ixK (K := K) rfl (uv 1) pe_int) pe_int) (uv 8)) pa_nil))))
      (pss_cons (ps_set (i := 5) nd rfl (.inl rfl) (pe_mkI HI hA hr (by rfl) (pa_cons (uv 0) (pa_cons (uv 2) (pa_cons (pe_lc (own := [("_law_one", 9), ("_law_other", 10)]) (g := gTup K 2 (gCons (gName 9) (gCons (gName 10) gNil))) (tt := tYes) rfl nd (pi_list (uv 4)) (blkOk_by (N := nDue) (sc := defScope sDue) (by decide +kernel))
        (fun _ _ _ _ _ => pg_tup rfl (pgs_cons (pg_name (i := 9) nd rfl (.inl rfl)) (pgs_cons (pg_name (i := 10) nd rfl (.inl rfl)) pgs_nil))) (fun _ _ _ _ _ => pts_nil) (fun _ _ _ _ _ => pe_andU (uv 9) (pe_one (uv 10)))) pa_nil)))))
      (pss_cons (ps_set (i := 6) nd rfl (.inl rfl) (pe_mkI HI hA hr (by rfl) (pa_cons (uv 0) (pa_cons (uv 2) (pa_cons (pe_lc (own := [("_law_one", 9), ("_law_other", 10)]) (g := gTup K 2 (gCons (gName 9) (gCons (gName 10) gNil))) (tt := tYes) rfl nd (pi_list (uv 4)) (blkOk_by (N := nDue) (sc := defScope sDue) (by decide +kernel))
        (fun _ _ _ _ _ => pg_tup rfl (pgs_cons (pg_name (i := 9) nd rfl (.inl rfl)) (pgs_cons (pg_name (i := 10) nd rfl (.inl rfl)) pgs_nil))) (fun _ _ _ _ _ => pts_nil) (fun _ _ _ _ _ => pe_orU (uv 9) (pe_one (uv 10)))) pa_nil)))))
      (pss_one (ps_ret (pe_lst (pa_cons (uv 5) (pa_cons (uv 6) (pa_cons (pe_mkI HI hA hr (by rfl) (pa_cons (uv 0) (pa_cons (uv 2) (pa_cons (pe_lc (own := [("_law_one", 9), ("_law_other", 10)]) (g := gTup K 2 (gCons (gName 9) (gCons (gName 10) gNil))) (tt := tYes) rfl nd (pi_list (uv 4)) (blkOk_by (N := nDue) (sc := defScope sDue) (by decide +kernel))
        (fun _ _ _ _ _ => pg_tup rfl (pgs_cons (pg_name (i := 9) nd rfl (.inl rfl)) (pgs_cons (pg_name (i := 10) nd rfl (.inl rfl)) pgs_nil))) (fun _ _ _ _ _ => pts_nil) (fun _ _ _ _ _ => pe_andU (uv 9) (pe_one (pe_notU (uv 10))))) pa_nil)))) pa_nil))))))))), ?_⟩
    obtain ⟨ra, ka, ht1, hRL1, hk1⟩ := id sh1
    obtain ⟨rb, kb, ht2, hRL2, hk2⟩ := id sh2
    have hl := pL_len ok1 ok2
    refine ⟨sa, t1, t2, S, R1, R2, K1, K2, rfl, hsa, sh1, sh2, ok1, ok2, fun H1 tt W Ps ls bs e1 htt hW hrw hPs hbs => ?_⟩
    refine ⟨tt, _, rfl, .inl (.inl htt), rfl, _, _, rfl, _, _, rfl, rfl, ?_⟩
    have e1hsa := e1 _ _ hsa
    have tk1 := e1 _ _ hk1
    have tk2 := e1 _ _ hk2
    have te1 := e1 _ _ ht1
    have te2 := e1 _ _ ht2
    have lbs := hbs.1
    rw [List.length_map] at lbs
    dsimp only [tSeq, tAsg, gName]
    refine lc_list (K := K) (a := Ps) (xs := bs.map V.ref) (H1 := H1) (by exact fun _ h => h) (.inl (.inl hPs))
      (fun D pre acc H3 => ∃ (j : Nat) (ks : List Addr), pre = (bs.take j).map V.ref ∧ j ≤ bs.length ∧ acc = ks.map V.ref ∧ Same H1 H3 ∧ H3 D = some (.lst (ks.map V.ref)) ∧ BpAt H3 ks (((pL R1 R2).take j).map fun c => (kd K1 (dec R2.length c).1, kd K2 (dec R2.length c).2)))
      (fun D pre acc H3 h => by obtain ⟨_, _, _, _, _, h, _⟩ := h; exact .inl (.inl (h _ _ hPs)))
      (fun D nD => ⟨0, [], rfl, Nat.zero_le _, rfl, same_upd nD, upd_same, rfl, fun n t g z => by simp at z⟩)
      (fun D nD pre acc x suf H3 ex h => ?_) (fun D nD acc H3 h => ?_)
    · obtain ⟨j, ks, rfl, hj, rfl, e7, hD, hks⟩ := h
      have lj : ((bs.take j).map V.ref).length = j := by rw [List.length_map, List.length_take]; omega
      have hj2 : j < bs.length := by
        have := congrArg List.length ex
        rw [List.length_append, lj, List.length_map, List.length_cons] at this
        omega
      have hx : (bs.map V.ref)[j]? = some x := by rw [ex, List.getElem?_append_right (by omega), lj, Nat.sub_self]; rfl
      rw [List.getElem?_map] at hx
      obtain ⟨t, htj, rfl⟩ := Option.map_eq_some_iff.mp hx
      obtain ⟨c, hcj⟩ : ∃ c, (pL R1 R2)[j]? = some c := ⟨_, List.getElem?_eq_getElem (by omega)⟩
      have hT := e7 _ _ (hbs.2 j t (dec R2.length c) htj (by rw [List.getElem?_map, hcj]; rfl))
      obtain ⟨lt1, lt2⟩ := pL_lt ok1 ok2 (List.mem_of_getElem? hcj)
      refine ⟨t, _, rfl, .inl (.inl hT), rfl, _, _, rfl, _, _, rfl, rfl, rfl, ?_⟩
      refine ⟨_, .ref t1, .inl (.inl (.inl (e7 _ _ e1hsa))), rfl, _, .ref ka, .inr (.inl (.inl (e7 _ _ te1))), rfl, K1.map V.bl, .bl (kd K1 (dec R2.length c).1), .inl (.inl (.inl (e7 _ _ tk1))), atI_nat (by rw [List.getElem?_map, kd_some ok1.kinds lt1]; rfl), ?_⟩
      refine ⟨_, .ref t2, .inl (.inl (.inl (e7 _ _ e1hsa))), rfl, _, .ref kb, .inr (.inl (.inl (e7 _ _ te2))), rfl, K2.map V.bl, .bl (kd K2 (dec R2.length c).2), .inl (.inl (.inl (e7 _ _ tk2))), atI_nat (by rw [List.getElem?_map, kd_some ok2.kinds lt2]; rfl), ?_⟩
      refine ⟨by show 2 ≤ sizeLine; omega, fun T2 nT2 => ?_⟩
      have e8 : Same H3 (upd H3 T2 (.tup [.bl (kd K1 (dec R2.length c).1), .bl (kd K2 (dec R2.length c).2)])) := same_upd nT2
      have nDT : D ≠ T2 := ne_of_none hD nT2
      have nDH : H1 D = none := by assumption
      have lks : ks.length = j := by rw [hks.1, List.length_map, List.length_take]; omega
      refine ⟨ks.map V.ref, e8 _ _ hD, by rw [List.length_map]; omega, (ks ++ [T2]).map V.ref, j + 1, ks ++ [T2], ?_, hj2, rfl, same_upd2 (e7.trans e8) nDH, ?_, ?_⟩
      · rw [List.take_add_one, htj, List.map_append]; rfl
      · rw [upd_same, List.map_append]; rfl
      · rw [List.take_add_one, hcj, List.map_append]
        exact ((hks.ext e8).put fun vs z => by rw [e8 _ _ hD] at z; cases z).snoc (g := (kd K1 (dec R2.length c).1, kd K2 (dec R2.length c).2)) (by rw [upd_ne nDT.symm]; exact upd_same)
    obtain ⟨j, ks, ej, hj, rfl, e7, hD, hks⟩ := h
    have ej : bs.length = j := by
      have := congrArg List.length ej
      rw [List.length_map, List.length_map, List.length_take] at this
      omega
    have : (pL R1 R2).take j = pL R1 R2 := List.take_of_length_le (by rw [← ej, lbs]; exact Nat.le_refl _)
    rw [this] at hks
    have hn : ((pL R1 R2).map fun c => (kd K1 (dec R2.length c).1, kd K2 (dec R2.length c).2)).length < sizeLine := by rw [List.length_map]; omega
    have hW3 := e7 _ _ hW
    have hrw3 := hrw.ext e7
    have e17 := e1.trans e7
    clear hPs hbs htt hW hrw te1 te2 tk1 tk2 e1hsa this
    dsimp only [tSeq, tAsg, gName, tCons]
    refine var_at (v := .str (T S)) rfl ?_
    refine var_at (v := .ref W) rfl ?_
    refine lc_bp (K := K) (op := opA) (a := D) (H1 := H3) (by exact fun _ h => h) hD hks hn (fun t2 b1 b2 H' Qy hT hy => ?_) (fun D1 H4 nD1 e8 hD1 => ?_)
    · refine ⟨t2, _, rfl, .inl (.inl hT), rfl, _, _, rfl, _, _, rfl, rfl, rfl, ?_⟩
      cases b1 <;> cases b2
      all_goals (show Br _ _ _; first | (refine Br.no ?_; exact hy) | (refine Br.yes ?_; exact hy))
    rw [List.map_map] at hD1
    refine ⟨rfl, ?_⟩
    refine mach_newN (Kd := pK opA R1 R2 K1 K2) (pr_sh ok1 ok2 hN) (pr_wh ok1 ok2) ((hrw3.ext e8).rows (e8 _ _ hW3)) ⟨false, .inl (.inl (by rw [hD1, List.map_map]; rfl))⟩ fun H5 m1 e9 nm1 mach1 => ?_
    have e89 := e8.trans e9
    have a1 := mach1.m
    first | dsimp only [tSeq, tAsg, gName, tCons] | skip
    refine var_at (v := .str (T S)) rfl ?_
    refine var_at (v := .ref W) rfl ?_
    refine lc_bp (K := K) (op := opO) (a := D) (H1 := H5) (by exact fun _ h => h) (e89 _ _ hD) (hks.ext e89) hn (fun t2 b1 b2 H' Qy hT hy => ?_) (fun D2 H6 nD2 e10 hD2 => ?_)
    · refine ⟨t2, _, rfl, .inl (.inl hT), rfl, _, _, rfl, _, _, rfl, rfl, rfl, ?_⟩
      cases b1 <;> cases b2
      all_goals (show Br _ _ _; first | (refine Br.no ?_; exact hy) | (refine Br.yes ?_; exact hy))
    rw [List.map_map] at hD2
    refine ⟨rfl, ?_⟩
    have e810 := e89.trans e10
    refine mach_newN (Kd := pK opO R1 R2 K1 K2) (pr_sh ok1 ok2 hN) (pr_wh ok1 ok2) ((hrw3.ext e810).rows (e810 _ _ hW3)) ⟨false, .inl (.inl (by rw [hD2, List.map_map]; rfl))⟩ fun H7 m2 e11 nm2 mach2 => ?_
    have e811 := e810.trans e11
    have a2 := mach2.m
    have a1 := a1.ext (e10.trans e11)
    dsimp only [tRet, tLst, tCons]
    refine var_at (v := .ref m1) rfl ?_
    refine var_at (v := .ref m2) rfl ?_
    refine var_at (v := .str (T S)) rfl ?_
    refine var_at (v := .ref W) rfl ?_
    refine lc_bp (K := K) (op := opS) (a := D) (H1 := H7) (by exact fun _ h => h) (e811 _ _ hD) (hks.ext e811) hn (fun t2 b1 b2 H' Qy hT hy => ?_) (fun D3 H8 nD3 e12 hD3 => ?_)
    · refine ⟨t2, _, rfl, .inl (.inl hT), rfl, _, _, rfl, _, _, rfl, rfl, rfl, ?_⟩
      cases b1 <;> cases b2
      all_goals (show Br _ _ _; first | (refine Br.no ?_; exact hy) | (refine Br.yes ?_; exact hy))
    rw [List.map_map] at hD3
    refine ⟨rfl, ?_⟩
    have e812 := e811.trans e12
    refine mach_newN (Kd := pK opS R1 R2 K1 K2) (pr_sh ok1 ok2 hN) (pr_wh ok1 ok2) ((hrw3.ext e812).rows (e812 _ _ hW3)) ⟨false, .inl (.inl (by rw [hD3, List.map_map]; rfl))⟩ fun H9 m3 e13 nm3 mach3 => ?_
    have e1213 := e12.trans e13
    refine ⟨by show 3 ≤ sizeLine; omega, fun p np => ?_⟩
    have eP : Same H9 (upd H9 p (.lst [.ref m1, .ref m2, .ref m3])) := same_upd np
    exact q _ p m1 m2 m3 (e17.trans ((e811.trans e1213).trans eP)) upd_same (a1.ext (e1213.trans eP)) (a2.ext (e1213.trans eP)) (mach3.m.ext eP)
end
end LK

/-! _law_and, _law_or, _law_less -/
namespace LK
open PySem PySem.Spec PyProof.Rows L2 LamX ClX
open scoped List
/-- what the operators ask of the class -/
structure OpsC (K : PySem.W.Frag) (C : Addr) : Prop where
  first : PySem.W.selfFirst K C = true
  mro : mro2 K C = true
  ia : PySem.W.findIn K (.ref C) (dunderI Operator.BitAnd.info.2) = some none
  oa : PySem.W.findIn K (.type "object") (dunderI Operator.BitAnd.info.2) = some none
  io : PySem.W.findIn K (.ref C) (dunderI Operator.BitOr.info.2) = some none
  oo : PySem.W.findIn K (.type "object") (dunderI Operator.BitOr.info.2) = some none
  is : PySem.W.findIn K (.ref C) (dunderI Operator.Sub.info.2) = some none
  os : PySem.W.findIn K (.type "object") (dunderI Operator.Sub.info.2) = some none
section
variable {P : Program} {w : World} {K : PySem.W.Frag} {mg : Str → Option Value} {base : Heap} {C : Addr}
theorem scLAnd : FnScope ["_law_one", "_law_other"] ["_law_one", "_law_other"] (defScope sLAnd) := ⟨rfl, rfl, rfl, by decide +kernel, rfl, by decide +kernel, by decide +kernel⟩
theorem ok_land {f : Addr} {fd : FuncData} {k : Nat} (F : Fun K "_law_and" "_law_and" sLAnd f fd) (oC : OpsC K C) (HO : HasM P w K mg base k C "__and__" ["other"] (spTwo C opA)) : FnG P w K mg base CX0 (k + 1) f fd ["_law_one", "_law_other"] (spTwo C opA) := by
  refine okG F scLAnd (fun vs H Q E h => ?_) (fun cdv A hA outer s H vs Q E hr h => ?_)
  · obtain ⟨a, b, S, R1, R2, K1, K2, rfl, _⟩ := h; rfl
  · obtain ⟨a, b, S, R1, R2, K1, K2, rfl, m1, m2, ok1, ok2, hN, q⟩ := h
    have nd := scLAnd.nd
    refine ⟨_, pss_cons (ps_aug (i := 0) nd rfl (.inl rfl) (uv 1) (o_ibin (op := .BitAnd) HO oC.mro oC.ia oC.oa hA hr)) (pss_one (ps_ret (uv 0))), ?_⟩
    obtain ⟨dx, _, _, _, h1, _⟩ := id m1
    obtain ⟨dx', _, _, _, g1, _⟩ := id m2
    refine ⟨_, rfl, ⟨_, _, h1⟩, ⟨_, _, g1⟩, a, b, S, R1, R2, K1, K2, rfl, m1, m2, ok1, ok2, hN, fun H' m e nm mm => ⟨m, rfl, ?_⟩⟩
    exact q H' m e nm mm
theorem scLOr : FnScope ["_law_one", "_law_other"] ["_law_one", "_law_other"] (defScope sLOr) := ⟨rfl, rfl, rfl, by decide +kernel, rfl, by decide +kernel, by decide +kernel⟩
theorem ok_lor {f : Addr} {fd : FuncData} {k : Nat} (F : Fun K "_law_or" "_law_or" sLOr f fd) (oC : OpsC K C) (HO : HasM P w K mg base k C "__or__" ["other"] (spTwo C opO)) : FnG P w K mg base CX0 (k + 1) f fd ["_law_one", "_law_other"] (spTwo C opO) := by
  refine okG F scLOr (fun vs H Q E h => ?_) (fun cdv A hA outer s H vs Q E hr h => ?_)
  · obtain ⟨a, b, S, R1, R2, K1, K2, rfl, _⟩ := h; rfl
  · obtain ⟨a, b, S, R1, R2, K1, K2, rfl, m1, m2, ok1, ok2, hN, q⟩ := h
    have nd := scLOr.nd
    refine ⟨_, pss_cons (ps_aug (i := 0) nd rfl (.inl rfl) (uv 1) (o_ibin (op := .BitOr) HO oC.mro oC.io oC.oo hA hr)) (pss_one (ps_ret (uv 0))), ?_⟩
    obtain ⟨dx, _, _, _, h1, _⟩ := id m1
    obtain ⟨dx', _, _, _, g1, _⟩ := id m2
    refine ⟨_, rfl, ⟨_, _, h1⟩, ⟨_, _, g1⟩, a, b, S, R1, R2, K1, K2, rfl, m1, m2, ok1, ok2, hN, fun H' m e nm mm => ⟨m, rfl, ?_⟩⟩
    exact q H' m e nm mm
theorem scLLess : FnScope ["_law_one", "_law_other"] ["_law_one", "_law_other"] (defScope sLLess) := ⟨rfl, rfl, rfl, by decide +kernel, rfl, by decide +kernel, by decide +kernel⟩
theorem ok_lless {f : Addr} {fd : FuncData} {k : Nat} (F : Fun K "_law_less" "_law_less" sLLess f fd) (oC : OpsC K C) (HO : HasM P w K mg base k C "__sub__" ["other"] (spTwo C opS)) : FnG P w K mg base CX0 (k + 1) f fd ["_law_one", "_law_other"] (spTwo C opS) := by
  refine okG F scLLess (fun vs H Q E h => ?_) (fun cdv A hA outer s H vs Q E hr h => ?_)
  · obtain ⟨a, b, S, R1, R2, K1, K2, rfl, _⟩ := h; rfl
  · obtain ⟨a, b, S, R1, R2, K1, K2, rfl, m1, m2, ok1, ok2, hN, q⟩ := h
    have nd := scLLess.nd
    refine ⟨_, pss_cons (ps_aug (i := 0) nd rfl (.inl rfl) (uv 1) (o_ibin (op := .Sub) HO oC.mro oC.is oC.os hA hr)) (pss_one (ps_ret (uv 0))), ?_⟩
    obtain ⟨dx, _, _, _, h1, _⟩ := id m1
    obtain ⟨dx', _, _, _, g1, _⟩ := id m2
    refine ⟨_, rfl, ⟨_, _, h1⟩, ⟨_, _, g1⟩, a, b, S, R1, R2, K1, K2, rfl, m1, m2, ok1, ok2, hN, fun H' m e nm mm => ⟨m, rfl, ?_⟩⟩
    exact q H' m e nm mm
end
end LK

/-! what machines of two take -/
namespace LK
open PySem PySem.Spec PyProof.Rows L2
open scoped List
section
variable {S : List Nat} {R1 R2 : Rows} {K1 K2 : List Bool} {op : Bool → Bool → Bool}
theorem led_go (R : Rows) (p : Nat) : ∀ l : List Nat, led S R p l = go R p (l.map fun c => S.idxOf c) := by
  intro l
  unfold led go
  rw [List.foldl_map]
theorem col_idx {l : List Nat} (h : ∀ c ∈ l, c ∈ S) : Col S.length (l.map fun c => S.idxOf c) := fun i hi => by
  obtain ⟨c, hc, rfl⟩ := List.mem_map.mp hi
  exact List.idxOf_lt_length_iff.mpr (h c hc)
theorem pr_go (ok1 : ShOk S R1 K1) (ok2 : ShOk S R2 K2) {is : List Nat} (c : Col S.length is) : (pL R1 R2)[go (pR R1 R2) 0 is]? = some (enc R2.length (go R1 0 is, go R2 0 is)) := by
  have lo1 := ok1.lo
  have lo2 := ok2.lo
  have okP := pr_ok ok1.rows ok2.rows
  have h0P := pr_pos ok1 ok2
  have key : ∀ n (is : List Nat), is.length = n → Col S.length is → (pL R1 R2)[go (pR R1 R2) 0 is]? = some (enc R2.length (go R1 0 is, go R2 0 is)) := by
    intro n
    induction n with
    | zero =>
      intro is h _
      obtain rfl := List.eq_nil_of_length_eq_zero h
      show (pL R1 R2)[0]? = some (0 * R2.length + 0)
      rw [Nat.zero_mul]; exact met_zero
    | succ n ih =>
      intro is h c
      rcases List.eq_nil_or_concat is with rfl | ⟨js, i, rfl⟩
      · cases h
      rw [List.concat_eq_append] at h c ⊢
      have cj : Col S.length js := fun x hx => c x (List.mem_append_left _ hx)
      have ci : i < S.length := c i (by simp)
      have := ih js (by simpa using h) cj
      have l1 := go_lt ok1.rows (p := 0) (by omega) cj
      have l2 := go_lt ok2.rows (p := 0) (by omega) cj
      rw [go_app, go_app, go_app, go_one, go_one, go_one]
      generalize go R1 0 js = a at this l1
      generalize go R2 0 js = b at this l2
      have eL : enc R2.length (a, b) < R1.length * R2.length := enc_lt l1 l2
      have de : dec R2.length (enc R2.length (a, b)) = (a, b) := dec_enc l2
      have g1 : (gls R1 a)[i]? = some ((gls R1 a).getD i 0) := by
        have := gls_len ok1.rows l1
        rw [List.getD_eq_getElem?_getD, List.getElem?_eq_getElem (by omega)]; rfl
      have g2 : (gls R2 b)[i]? = some ((gls R2 b).getD i 0) := by
        have := gls_len ok2.rows l2
        rw [List.getD_eq_getElem?_getD, List.getElem?_eq_getElem (by omega)]; rfl
      have hz : (gls (PR R1 R2) (enc R2.length (a, b)))[i]? = some (enc R2.length ((gls R1 a).getD i 0, (gls R2 b).getD i 0)) := by
        rw [pr_gls eL, de, List.getElem?_map, PRow, (List.getElem?_zip_eq_some (z := ((gls R1 a).getD i 0, (gls R2 b).getD i 0))).mpr ⟨g1, g2⟩]; rfl
      have hr : (gls (pR R1 R2) (go (pR R1 R2) 0 js)).getD i 0 = (pL R1 R2).idxOf (enc R2.length ((gls R1 a).getD i 0, (gls R2 b).getD i 0)) := by
        rw [rn_gls this, List.getD_eq_getElem?_getD, List.getElem?_map, hz]; rfl
      rw [hr]
      exact idx_get (met_closed okP h0P (List.mem_of_getElem? this) (List.mem_of_getElem? hz))
  exact key _ is rfl c
theorem pk_go (ok1 : ShOk S R1 K1) (ok2 : ShOk S R2 K2) {is : List Nat} (c : Col S.length is) : kd (pK op R1 R2 K1 K2) (go (pR R1 R2) 0 is) = op (kd K1 (go R1 0 is)) (kd K2 (go R2 0 is)) := by
  have lo2 := ok2.lo
  have l2 := go_lt ok2.rows (p := 0) (by omega) c
  rw [kd, List.getD_eq_getElem?_getD, List.getElem?_map, pr_go ok1 ok2 c]
  show op (kd K1 (dec R2.length (enc R2.length (go R1 0 is, go R2 0 is))).1) (kd K2 (dec R2.length (enc R2.length (go R1 0 is, go R2 0 is))).2) = _
  rw [dec_enc (g := (go R1 0 is, go R2 0 is)) l2]
theorem pk_led (ok1 : ShOk S R1 K1) (ok2 : ShOk S R2 K2) {l : List Nat} (h : ∀ c ∈ l, c ∈ S) : kd (pK op R1 R2 K1 K2) (led S (pR R1 R2) 0 l) = op (kd K1 (led S R1 0 l)) (kd K2 (led S R2 0 l)) := by
  rw [led_go, led_go, led_go]; exact pk_go ok1 ok2 (col_idx h)
end
end LK

/-! _law_two_right -/
namespace LK
open PySem PySem.Spec PyProof.Rows L2 LamX ClX
open scoped List
theorem di_mach {K : PySem.W.Frag} {C : Addr} {H : Hp} {a b : Addr} {S : List Nat} {R : Rows} {Kd : List Bool} (m1 : Mach C H a S R Kd) (m2 : Mach C H b S R Kd) (hz : R.length ≤ 1000) : DI C (spEq K C) (.ref a) (.ref b) H := by
  obtain ⟨dx, _, _, _, h1, _⟩ := id m1
  obtain ⟨dy, _, _, _, h2, _⟩ := id m2
  refine ⟨a, b, dx, dy, _, _, rfl, rfl, fun H' e => ⟨e _ _ h1, e _ _ h2, a, .ref b, S, R, Kd, rfl, m1.ext e, hz, .inl ⟨b, S, R, Kd, rfl, m2.ext e, hz, fun H2 e2 => ⟨?_, e2⟩⟩⟩⟩
  rw [decide_eq_true ⟨rfl, rfl, rfl⟩]
theorem spk_len {S : List Nat} {R : Rows} {Kd : List Bool} (ok : ShOk S R Kd) : (spk S R Kd).length ≤ 20000 := by
  have r1 := rep_let ok.let_
  have r2 := (shn_rows ok).len
  have r3 := (shn_kinds ok).len
  have k1 : (Str.empty ++ Str.ofString "Machine(").length = 8 := by decide +kernel
  have k2 : (Str.ofString ", ").length = 2 := by decide +kernel
  have k3 : (Str.ofString ")").length = 1 := by decide +kernel
  have ad : ∀ x y : Str, (x ++ y).length = x.length + y.length := fun x y => PySem.strLen_append x y
  unfold spk
  rw [ad, ad, ad, ad, ad, ad, k1, k2, k3]
  omega
/-- two lists of places alike -/

theorem len2 {x y : Str} (hx : x.length ≤ 20000) (hy : y.length ≤ 20000) : (listText [x, y]).length ≤ sizeLine := by
  have sl := sizeLine_eq
  have ad : ∀ x y : Str, (x ++ y).length = x.length + y.length := fun x y => PySem.strLen_append x y
  have k0 : (Str.ofString "[").length = 1 := by decide +kernel
  have k1 : (Str.ofString "]").length = 1 := by decide +kernel
  have k2 : (Str.ofString ", ").length = 2 := by decide +kernel
  have k3 : (Str.ofString "").length = 0 := by decide +kernel
  show (textFrom 0 "[" [x, y] ++ "]").length ≤ _
  simp only [textFrom, ad, k0, k1, k2, k3]
  simp [k2, k3]
  omega
theorem len3 {x y z : Str} (hx : x.length ≤ 20000) (hy : y.length ≤ 20000) (hz : z.length ≤ 20000) : (listText [x, y, z]).length ≤ sizeLine := by
  have sl := sizeLine_eq
  have ad : ∀ x y : Str, (x ++ y).length = x.length + y.length := fun x y => PySem.strLen_append x y
  have k0 : (Str.ofString "[").length = 1 := by decide +kernel
  have k1 : (Str.ofString "]").length = 1 := by decide +kernel
  have k2 : (Str.ofString ", ").length = 2 := by decide +kernel
  have k3 : (Str.ofString "").length = 0 := by decide +kernel
  show (textFrom 0 "[" [x, y, z] ++ "]").length ≤ _
  simp only [textFrom, ad, k0, k1, k2, k3]
  simp [k2, k3]
  omega
/-- machines in a row -/
def MsAt (C : Addr) (H : Hp) (ms : List Addr) (S : List Nat) (ps : List (Rows × List Bool)) : Prop := ms.length = ps.length ∧ ∀ (n : Nat) (m : Addr) (g : Rows × List Bool), ms[n]? = some m → ps[n]? = some g → Mach C H m S g.1 g.2 ∧ ShOk S g.1 g.2
theorem MsAt.ext {C : Addr} {H H' : Hp} {ms : List Addr} {S : List Nat} {ps : List (Rows × List Bool)} (h : MsAt C H ms S ps) (e : Same H H') : MsAt C H' ms S ps := ⟨h.1, fun n m g a b => ⟨(h.2 n m g a b).1.ext e, (h.2 n m g a b).2⟩⟩
theorem MachN.put {C : Addr} {H0 H : Hp} {a L : Addr} {S : List Nat} {R : Rows} {Kd : List Bool} {o o' : HO} (h : MachN C H0 H a S R Kd) (n : H0 a = none) (hL : H0 L = some o) : Mach C (upd H L o') a S R Kd := by
  have ne : ∀ b, H0 b = none → b ≠ L := fun b hb z => by rw [z, hL] at hb; cases hb
  obtain ⟨dx, r, k, rs, h1, h2, h3, h4, h5, h6, h7⟩ := h
  exact ⟨dx, r, k, rs, by rw [upd_ne (ne _ n)]; exact h1, by rw [upd_ne (ne _ h6)]; exact h2, h3, fun i p hp => by rw [upd_ne (ne _ (h4 i p hp).2)]; exact (h4 i p hp).1, by rw [upd_ne (ne _ h7)]; exact h5⟩
theorem MsAt.app {C : Addr} {H : Hp} {ms : List Addr} {S : List Nat} {ps : List (Rows × List Bool)} {m : Addr} {R : Rows} {Kd : List Bool} (h : MsAt C H ms S ps) (mm : Mach C H m S R Kd) (ok : ShOk S R Kd) : MsAt C H (ms ++ [m]) S (ps ++ [(R, Kd)]) := by
  refine ⟨by rw [List.length_append, List.length_append, h.1]; rfl, fun n m' g a b => ?_⟩
  have l := h.1
  by_cases hn : n < ms.length
  · rw [List.getElem?_append_left hn] at a
    rw [List.getElem?_append_left (by omega)] at b
    exact h.2 n m' g a b
  · rw [List.getElem?_append_right (by omega)] at a
    rw [List.getElem?_append_right (by omega)] at b
    have n0 : n - ms.length = 0 := by
      have := (List.getElem?_eq_some_iff.mp a).1
      simp at this; omega
    rw [n0] at a
    rw [← l, n0] at b
    simp at a b
    subst a; subst b
    exact ⟨mm, ok⟩
theorem MsAt.nil {C : Addr} {H : Hp} {S : List Nat} : MsAt C H [] S [] := ⟨rfl, fun n m g a => by simp at a⟩
theorem MsAt.cons {C : Addr} {H : Hp} {ms : List Addr} {S : List Nat} {ps : List (Rows × List Bool)} {m : Addr} {R : Rows} {Kd : List Bool} (mm : Mach C H m S R Kd) (ok : ShOk S R Kd) (h : MsAt C H ms S ps) : MsAt C H (m :: ms) S ((R, Kd) :: ps) :=
  ⟨congrArg (· + 1) h.1, fun n m' g a b => by
    cases n with
    | zero =>
      simp at a b
      subst a; subst b
      exact ⟨mm, ok⟩
    | succ n => exact h.2 n m' g (by simpa using a) (by simpa using b)⟩
theorem MsAt.rl {C : Addr} {H : Hp} {L : Addr} {ms : List Addr} {S : List Nat} {ps : List (Rows × List Bool)} {ts : List Str} {Q : VK} (h : MsAt C H ms S ps) (hL : H L = some (.lst (ms.map V.ref))) (n0 : ms ≠ []) (lt : ts.length = ms.length) (hts : ∀ (i : Nat) (t : Str) (R : Rows) (Kd : List Bool), ts[i]? = some t → ps[i]? = some (R, Kd) → t = spk S R Kd)
    (hl : (listText ts).length ≤ sizeLine) (q : ∀ H', Same H H' → Q (.str (listText ts)) H') : reprLI C (spRepr C) [.ref L] H Q := by
  unfold reprLI
  refine ⟨ms, ts, hL, n0, lt, fun i m t h1 h2 H2 e => ?_, hl, q⟩
  obtain ⟨⟨R, Kd⟩, hg⟩ : ∃ g, ps[i]? = some g := ⟨_, List.getElem?_eq_getElem (by rw [← h.1]; exact (List.getElem?_eq_some_iff.mp h1).1)⟩
  obtain ⟨mm, ok⟩ := h.2 i m (R, Kd) h1 hg
  have mm := mm.ext e
  obtain ⟨dx, _, _, _, g1, _⟩ := id mm
  have ht := hts i t R Kd h2 hg
  subst ht
  exact ⟨dx, _, g1, m, S, R, Kd, rfl, mm, ok, rfl, Ext.rfl'⟩
theorem MsAt.prs {K : PySem.W.Frag} {C : Addr} {H : Hp} {ms ns : List Addr} {S : List Nat} {ps : List (Rows × List Bool)} (h : MsAt C H ms S ps) (k : MsAt C H ns S ps) : Prs (DI C (spEq K C)) (ms.map V.ref) (ns.map V.ref) H := by
  refine ⟨by rw [List.length_map, List.length_map, h.1, k.1], fun i x y h1 h2 => ?_⟩
  rw [List.getElem?_map] at h1 h2
  obtain ⟨m, hm, rfl⟩ := Option.map_eq_some_iff.mp h1
  obtain ⟨n, hn, rfl⟩ := Option.map_eq_some_iff.mp h2
  obtain ⟨g, hg⟩ : ∃ g, ps[i]? = some g := ⟨_, List.getElem?_eq_getElem (by rw [← h.1]; exact (List.getElem?_eq_some_iff.mp hm).1)⟩
  obtain ⟨m1, ok⟩ := h.2 i m g hm hg
  have := ok.hi
  exact di_mach m1 (k.2 i n g hn hg).1 (by omega)
abbrev nTwR : List Str := ["_law_signs", "_law_sheets", "_law_one", "_law_other", "_law_texts_here", "_law_kept", "_law_due_here", "_law_turn", "_law_told", "_law_text", "_law_mine", "_law_yours", "_law_made"]
theorem scTwoR : FnScope nTwR ["_law_signs", "_law_sheets", "_law_one", "_law_other", "_law_texts_here"] (defScope sTwoR) := ⟨rfl, rfl, rfl, by decide +kernel, rfl, by decide +kernel, by decide +kernel⟩
section
variable {P : Program} {w : World} {K : PySem.W.Frag} {mg : Str → Option Value} {base : Heap} {C : Addr}
def spTwoR (C : Addr) : Sp := fun vs H Q _ => ∃ (s t1 t2 a b l : Addr) (S : List Nat) (R1 R2 : Rows) (K1 K2 : List Bool) (Ts : List (List Nat)), vs = [.str (T S), .ref s, .ref a, .ref b, .ref l] ∧ H s = some (.lst [.ref t1, .ref t2]) ∧ SheetAt H t1 R1 K1 ∧ SheetAt H t2 R2 K2 ∧ ShOk S R1 K1 ∧ ShOk S R2 K2 ∧ R1.length * R2.length ≤ 40 ∧
  Mach C H a S R1 K1 ∧ Mach C H b S R2 K2 ∧ H l = some (.lst (lts Ts)) ∧ (∀ x ∈ Ts, x.length ≤ 1000000 ∧ ∀ c ∈ x, c ∈ S) ∧ Ts.length ≤ 1000 ∧ ∀ H', Same H H' → Q (.bl true) H'
theorem ok_twoR {f : Addr} {fd : FuncData} {k : Nat} (F : Fun K "_law_two_right" "_law_two_right" sTwoR f fd) (M : Mx mg) (cM : ClsM K C) (eC : EqC K C) (oC : OpsC K C) (HRr : HasR P w K mg base k C "__repr__" (spRepr C)) (HQ : HasM P w K mg base k C "__eq__" ["other"] (spEq K C))
    (HAn : HasM P w K mg base (k + 1) C "__and__" ["other"] (spTwo C opA)) (HOr : HasM P w K mg base (k + 1) C "__or__" ["other"] (spTwo C opO)) (HSu : HasM P w K mg base (k + 1) C "__sub__" ["other"] (spTwo C opS))
    (HLA : Has P w K mg base (k + 1) "_law_and" ["_law_one", "_law_other"] (spTwo C opA)) (HLO : Has P w K mg base (k + 1) "_law_or" ["_law_one", "_law_other"] (spTwo C opO)) (HLL : Has P w K mg base (k + 1) "_law_less" ["_law_one", "_law_other"] (spTwo C opS))
    (HDu : Has P w K mg base (k + 1) "_law_due" ["_law_signs", "_law_sheets"] (spDue C)) (HTk : HasM P w K mg base (k + 1) C "takes" ["text"] (spTakes C)) :
    FnG P w K mg base CX0 (k + 3) f fd ["_law_signs", "_law_sheets", "_law_one", "_law_other", "_law_texts_here"] (spTwoR C) := by
  refine okG F scTwoR (fun vs H Q E h => ?_) (fun cdv A hA outer s H vs Q E hr h => ?_)
  · obtain ⟨s, t1, t2, a, b, l, S, R1, R2, K1, K2, Ts, rfl, _⟩ := h; rfl
  · obtain ⟨sa, t1, t2, a, b, l, S, R1, R2, K1, K2, Ts, rfl, hsa, sh1, sh2, ok1, ok2, hN, m1, m2, hTs, hch, hTn, q⟩ := h
    have nd := scTwoR.nd
    have sl := sizeLine_eq
    have hu := Room.u64 hr
    have hr1 : Room (k + 1) _ := hr.mono (by omega)
    refine ⟨_, pss_cons (ps_par (i := 5) (j := 6) (by rfl) nd rfl rfl (by decide) rfl rfl (pa_cons (pe_callB (c_reprLI HRr hA hr) (by rfl) M.repr b_repr (pa_cons (pe_lst (pa_cons (uv 2) (pa_cons (uv 3) pa_nil))) pa_nil)) (pa_cons (pe_callH HDu hA hr1 (by rfl) (pa_cons (uv 0) (pa_cons (uv 1) pa_nil))) pa_nil)) (by rfl))
      (pss_cons (ps_for PassesOwn.never rfl (pi_range1 (by rfl) M.range (pa_cons pe_int pa_nil)) (pg_name (i := 7) nd rfl (.inl rfl))
        (pss_cons (ps_set (i := 8) nd rfl (.inl rfl) (pe_cl (pe_ifU (pt_cu (o_eq hr.units) (uv 7) pe_int) (pe_lst (pa_cons (pe_op (r := binI C (spTwo C opA)) (o_bin (op := .BitAnd) HAn oC.first hA hr1) (uv 2) (uv 3)) (pa_cons (pe_op (r := binI C (spTwo C opO)) (o_bin (op := .BitOr) HOr oC.first hA hr1) (uv 2) (uv 3)) (pa_cons (pe_op (r := binI C (spTwo C opS)) (o_bin (op := .Sub) HSu oC.first hA hr1) (uv 2) (uv 3)) pa_nil))))
            (pe_lst (pa_cons (pe_callH HLA hA hr1 (by rfl) (pa_cons (uv 2) (pa_cons (uv 3) pa_nil))) (pa_cons (pe_callH HLO hA hr1 (by rfl) (pa_cons (uv 2) (pa_cons (uv 3) pa_nil))) pa_nil))))))
        (pss_cons (ps_clV (ps_ifU (pt_cu (o_eq hr.units) (uv 7) pe_int) (pss_one (ps_expr (pe_bm PySem.F.plainAttrs_list PySem.F.slot_list_append PySem.F.type_list_append mt_append (uv 8) (pa_cons (pe_callH HLL hA hr1 (by rfl) (pa_cons (uv 2) (pa_cons (uv 3) pa_nil))) pa_nil)))) pss_nil))
        (pss_one (ps_ifU (pt_cl (PW.pt (pw_orU (pt_cu (r := eqU K true) (o_ne hu) (pe_callB (c_reprLI HRr hA hr) (by rfl) M.repr b_repr (pa_cons (uv 8) pa_nil)) (pe_callB (c_reprLI HRr hA hr) (by rfl) M.repr b_repr (pa_cons (uv 6) pa_nil)))
            (pw_orU (pt_cu (r := eqLI C (spEq K C) true) (o_neLI HQ hA hr1) (uv 8) (uv 6))
            (pw_or1 (pt_cu (r := eqU K true) (o_ne hu) (pe_callB (c_reprLI HRr hA hr) (by rfl) M.repr b_repr (pa_cons (pe_lst (pa_cons (uv 2) (pa_cons (uv 3) pa_nil))) pa_nil)) (uv 5))))))) (pss_one (ps_ret pe_bl)) pss_nil)))))
      (pss_cons (ps_for PassesOwn.never rfl (pi_list (uv 4)) (pg_name (i := 9) nd rfl (.inr rfl))
        (pss_cons (ps_par (i := 10) (j := 11) (by rfl) nd rfl rfl (by decide) rfl rfl (pa_cons (pe_mH HTk cM.cls hA hr1 (uv 2) (pa_cons (uv 9) pa_nil)) (pa_cons (pe_mH HTk cM.cls hA hr1 (uv 3) (pa_cons (uv 9) pa_nil)) pa_nil)) (by rfl))
        (pss_one (ps_ifU (pt_cl (pt_cu (r := eqU K true) (o_ne hu) (pe_lc (own := [("_law_made", 12)]) (g := gName 12) (tt := tYes) rfl nd (pi_list (uv 6)) (blkOk_by (N := nTwR) (sc := defScope sTwoR) (by decide +kernel))
            (fun _ _ _ _ _ => pg_name (i := 12) nd rfl (Or.inl rfl)) (fun _ _ _ _ _ => pts_nil) (fun _ _ _ _ _ => pe_mH HTk cM.cls hA hr1 (uv 12) (pa_cons (uv 9) pa_nil)))
            (pe_lst (pa_cons (pe_cl (pe_andU (uv 10) (pe_one (uv 11)))) (pa_cons (pe_cl (pe_orU (uv 10) (pe_one (uv 11)))) (pa_cons (pe_cl (pe_andU (uv 10) (pe_one (pe_notU (uv 11))))) pa_nil)))))) (pss_one (ps_ret pe_bl)) pss_nil))))
      (pss_one (ps_ret pe_bl)))), ?_⟩
    have okP : ∀ op, ShOk S (pR R1 R2) (pK op R1 R2 K1 K2) := fun op => pr_sh ok1 ok2 hN
    obtain ⟨K3, hK3⟩ : ∃ K3 : List (Rows × List Bool), K3 = [(pR R1 R2, pK opA R1 R2 K1 K2), (pR R1 R2, pK opO R1 R2 K1 K2), (pR R1 R2, pK opS R1 R2 K1 K2)] := ⟨_, rfl⟩
    obtain ⟨x1, hx1⟩ : ∃ x, x = spk S R1 K1 := ⟨_, rfl⟩
    obtain ⟨x2, hx2⟩ : ∃ x, x = spk S R2 K2 := ⟨_, rfl⟩
    obtain ⟨z1, hz1⟩ : ∃ x, x = spk S (pR R1 R2) (pK opA R1 R2 K1 K2) := ⟨_, rfl⟩
    obtain ⟨z2, hz2⟩ : ∃ x, x = spk S (pR R1 R2) (pK opO R1 R2 K1 K2) := ⟨_, rfl⟩
    obtain ⟨z3, hz3⟩ : ∃ x, x = spk S (pR R1 R2) (pK opS R1 R2 K1 K2) := ⟨_, rfl⟩
    have l3 : (listText [z1, z2, z3]).length ≤ sizeLine := len3 (hz1 ▸ spk_len (okP _)) (hz2 ▸ spk_len (okP _)) (hz3 ▸ spk_len (okP _))
    have l2 : (listText [x1, x2]).length ≤ sizeLine := len2 (hx1 ▸ spk_len ok1) (hx2 ▸ spk_len ok2)
    have h2 : ∀ (i : Nat) (t : Str) (R : Rows) (Kd : List Bool), [x1, x2][i]? = some t → [(R1, K1), (R2, K2)][i]? = some (R, Kd) → t = spk S R Kd := fun i t R Kd u v => by
      match i, u, v with
      | 0, u, v => injection u with u; injection v with v; injection v with v1 v2; rw [← u, ← v1, ← v2, hx1]
      | 1, u, v => injection u with u; injection v with v; injection v with v1 v2; rw [← u, ← v1, ← v2, hx2]
      | n + 2, u, v => cases u
    have h3 : ∀ (i : Nat) (t : Str) (R : Rows) (Kd : List Bool), [z1, z2, z3][i]? = some t → K3[i]? = some (R, Kd) → t = spk S R Kd := fun i t R Kd u v => by
      rw [hK3] at v
      match i, u, v with
      | 0, u, v => injection u with u; injection v with v; injection v with v1 v2; rw [← u, ← v1, ← v2, hz1]
      | 1, u, v => injection u with u; injection v with v; injection v with v1 v2; rw [← u, ← v1, ← v2, hz2]
      | 2, u, v => injection u with u; injection v with v; injection v with v1 v2; rw [← u, ← v1, ← v2, hz3]
      | n + 3, u, v => cases u
    have two : ∀ {H' : Hp}, Same H H' → MsAt C H' [a, b] S [(R1, K1), (R2, K2)] := fun e => .cons (m1.ext e) ok1 (.cons (m2.ext e) ok2 .nil)
    refine ⟨by show 2 ≤ sizeLine; omega, fun L0 nL0 => ?_⟩
    have e0 : Same H (upd H L0 (.lst [.ref a, .ref b])) := same_upd nL0
    dsimp only [tNil]
    refine (two e0).rl (ms := [a, b]) (ts := [x1, x2]) upd_same (by simp) rfl h2 l2 fun H1 e1 => ?_
    have e01 := e0.trans e1
    refine ⟨sa, t1, t2, S, R1, R2, K1, K2, rfl, e01 _ _ hsa, sh1.ext e01, sh2.ext e01, ok1, ok2, hN, fun H2 p d1 d2 d3 e2 hp dm1 dm2 dm3 => ?_⟩
    refine ⟨_, _, rfl, ?_⟩
    have eD := e01.trans e2
    have dms : MsAt C H2 [d1, d2, d3] S K3 := hK3 ▸ .cons dm1 (okP _) (.cons dm2 (okP _) (.cons dm3 (okP _) .nil))
    have hp : H2 p = some (.lst ([d1, d2, d3].map V.ref)) := hp
    clear e0 e1 e01 e2
    dsimp only [tSeq]
    refine for_rng (n := 2) (H1 := H2) (fun R' h => h) (by omega) (fun i σ H3 => ∃ (y7 y8 : Option V), Same H2 H3 ∧ σ = [some (.str (T S)), some (.ref sa), some (.ref a), some (.ref b), some (.ref l), some (.str (listText [x1, x2])), some (.ref p), y7, y8, none, none, none, none])
      ⟨none, none, Same.refl _, rfl⟩ (fun i σ H3 hi r => ?_) (fun σ H3 r => ?_)
    · obtain ⟨y7, y8, e3, rfl⟩ := r
      have eH3 := eD.trans e3
      obtain ⟨dx, _, _, _, h1, _⟩ := id m1
      obtain ⟨dx', _, _, _, g1, _⟩ := id m2
      have i2 : i = 0 ∨ i = 1 := by omega
      refine ⟨fun v H' => ∃ (L : Addr) (ms : List Addr) (H0 : Hp), v = .ref L ∧ H3 L = none ∧ Same H3 H0 ∧ H0 L = none ∧ Same H0 H' ∧ H' L = some (.lst (ms.map V.ref)) ∧ MsAt C H0 ms S (K3.take (3 - i)), ?_, fun v H' z => ?_⟩
      · rcases i2 with rfl | rfl
        · show Br true _ _
          refine Br.yes ?_
          refine ⟨⟨_, _, eH3 _ _ h1⟩, ⟨_, _, eH3 _ _ g1⟩, a, b, S, R1, R2, K1, K2, rfl, m1.ext eH3, m2.ext eH3, ok1, ok2, hN, fun H4 x ex nx mx => ⟨x, rfl, ?_⟩⟩
          have e4 := eH3.trans ex
          refine ⟨⟨_, _, e4 _ _ h1⟩, ⟨_, _, e4 _ _ g1⟩, a, b, S, R1, R2, K1, K2, rfl, m1.ext e4, m2.ext e4, ok1, ok2, hN, fun H5 y ey ny my => ⟨y, rfl, ?_⟩⟩
          have e5 := e4.trans ey
          refine ⟨⟨_, _, e5 _ _ h1⟩, ⟨_, _, e5 _ _ g1⟩, a, b, S, R1, R2, K1, K2, rfl, m1.ext e5, m2.ext e5, ok1, ok2, hN, fun H6 z ez nz mz => ⟨z, rfl, ?_⟩⟩
          refine ⟨by show 3 ≤ sizeLine; omega, fun L nL => ?_⟩
          have eL : Same H6 (upd H6 L (.lst [.ref x, .ref y, .ref z])) := same_upd nL
          have e36 := (ex.trans ey).trans ez
          refine ⟨L, [x, y, z], H6, rfl, Same.free e36 nL, e36, nL, eL, upd_same, ?_⟩
          rw [hK3]
          exact .cons (mx.m.ext (ey.trans ez)) (okP _) (.cons (my.m.ext ez) (okP _) (.cons mz.m (okP _) .nil))
        · show Br false _ _
          refine Br.no ?_
          refine ⟨a, b, S, R1, R2, K1, K2, rfl, m1.ext eH3, m2.ext eH3, ok1, ok2, hN, fun H4 x ex nx mx => ?_⟩
          have e4 := eH3.trans ex
          refine ⟨a, b, S, R1, R2, K1, K2, rfl, m1.ext e4, m2.ext e4, ok1, ok2, hN, fun H5 y ey ny my => ?_⟩
          refine ⟨by show 2 ≤ sizeLine; omega, fun L nL => ?_⟩
          have eL : Same H5 (upd H5 L (.lst [.ref x, .ref y])) := same_upd nL
          have e35 := ex.trans ey
          refine ⟨L, [x, y], H5, rfl, Same.free e35 nL, e35, nL, eL, upd_same, ?_⟩
          rw [hK3]
          exact .cons (mx.m.ext ey) (okP _) (.cons my.m (okP _) .nil)
      obtain ⟨L, ms, H0, rfl, nL3, e30, nL0', e0', hL, hms⟩ := z
      have e4 := e30.trans e0'
      have eH4 := eH3.trans e4
      refine ⟨fun σ' H5 => ∃ (ms : List Addr), Same H3 H5 ∧ H5 L = some (.lst (ms.map V.ref)) ∧ MsAt C H5 ms S K3 ∧ σ' = [some (.str (T S)), some (.ref sa), some (.ref a), some (.ref b), some (.ref l), some (.str (listText [x1, x2])), some (.ref p), some (.int (i : Nat)), some (.ref L), none, none, none, none], ?_, ?_⟩
      · rcases i2 with rfl | rfl
        · show Br false _ _
          refine Br.no ?_
          refine ⟨ms, e4, hL, MsAt.ext ?_ e0', rfl⟩
          rw [hK3] at hms ⊢; exact hms
        · show Br true _ _
          refine Br.yes ?_
          refine ⟨.inl ⟨rfl, _, .inl (.inl hL)⟩, a, b, S, R1, R2, K1, K2, rfl, m1.ext eH4, m2.ext eH4, ok1, ok2, hN, fun H5 z ez nz mz => ?_⟩
          have hL5 := ez _ _ hL
          have lms : ms.length = 2 := by rw [hms.1, hK3]; rfl
          refine ⟨L, _, _, rfl, rfl, hL5, by rw [List.length_map]; omega, ?_⟩
          refine ⟨ms ++ [z], same_upd2 (e4.trans ez) nL3, by rw [upd_same, List.map_append]; rfl, ?_, rfl⟩
          have mz' := mz.put (o' := .lst (ms.map V.ref ++ [.ref z])) nz hL
          have := (hms.ext (same_upd2 (o := .lst (ms.map V.ref ++ [.ref z])) (e0'.trans ez) nL0')).app mz' (okP _)
          rw [hK3] at this ⊢
          exact this
      · rintro σ' H5 ⟨ms, e5, hL5, hms5, rfl⟩
        have eH5 := eD.trans (e3.trans e5)
        have hp5 := (e3.trans e5) _ _ hp
        have dms5 := dms.ext (e3.trans e5)
        have msn : ms ≠ [] := fun z => by rw [z, hK3] at hms5; cases hms5.1
        have lms : [z1, z2, z3].length = ms.length := by rw [hms5.1, hK3]; rfl
        refine ⟨fun b H' => b = false ∧ Same H5 H', ?_, fun b H' z => ?_⟩
        · dsimp only [uOr, uT, tOp, tCB, tCons, tNil]
          refine var_at (v := .ref L) rfl ?_
          refine (MsAt.rl (ts := [z1, z2, z3]) hms5 hL5 msn lms h3 l3 fun H6 e6 => ?_)
          have hp6 := e6 _ _ hp5
          refine var_at (v := .ref p) rfl ?_
          refine ((dms5.ext e6).rl (ts := [z1, z2, z3]) hp6 (by simp) rfl h3 l3 fun H7 e7 => ?_)
          have e57 := e6.trans e7
          show Br (!decide _) _ _
          rw [decide_eq_true rfl]
          refine Br.no ?_
          refine var_at (v := .ref L) rfl ?_
          refine var_at (v := .ref p) rfl ?_
          refine ⟨L, p, _, _, rfl, rfl, e57 _ _ hL5, e57 _ _ hp5, (hms5.ext e57).prs (dms5.ext e57), fun H8 e8 => .no ?_⟩
          have e58 := e57.trans e8
          refine ⟨by show 2 ≤ sizeLine; omega, fun L4 nL4 => ?_⟩
          have eL4 : Same H8 (upd H8 L4 (.lst [.ref a, .ref b])) := same_upd nL4
          refine ((two ((eH5.trans e58).trans eL4)).rl (ms := [a, b]) (ts := [x1, x2]) upd_same (by simp) rfl h2 l2 fun H9 e9 => ?_)
          show _ ∧ Same H5 H9
          refine ⟨?_, (e58.trans eL4).trans e9⟩
          show (!decide _) = false
          rw [decide_eq_true rfl]; rfl
        obtain ⟨rfl, e6⟩ := z
        refine Br.no ?_
        exact ⟨_, _, (e3.trans e5).trans e6, rfl⟩
    · obtain ⟨y7, y8, e3, rfl⟩ := r
      have eH3 := eD.trans e3
      obtain ⟨dx, _, _, _, h1, _⟩ := id m1
      obtain ⟨dx', _, _, _, g1, _⟩ := id m2
      dsimp only [tSeq]
      refine for_list (K := K) (a := l) (xs := lts Ts) (H1 := H3) (by exact fun _ h => h) (.inl (.inl (eH3 _ _ hTs)))
        (fun pre σ H4 => ∃ (y9 y10 y11 : Option V), Same H3 H4 ∧ σ = [some (.str (T S)), some (.ref sa), some (.ref a), some (.ref b), some (.ref l), some (.str (listText [x1, x2])), some (.ref p), y7, y8, y9, y10, y11, none])
        (fun pre σ H4 h => by obtain ⟨_, _, _, h, _⟩ := h; exact .inl (.inl ((eH3.trans h) _ _ hTs))) ⟨none, none, none, Same.refl _, rfl⟩ (fun pre x suf σ H4 ex h => ?_) (fun σ H4 h => ?_)
      · obtain ⟨y9, y10, y11, e4, rfl⟩ := h
        have eH4 := eH3.trans e4
        obtain ⟨pp, tx, qq, el, _, rfl⟩ := split_map (enc := fun t => V.str (T t)) ex
        have htx : tx ∈ Ts := by rw [el]; simp
        obtain ⟨lx, cx⟩ := hch tx htx
        refine ⟨dx, _, eH4 _ _ h1, mf_none (by decide +kernel) (by decide +kernel) (by decide +kernel), a, tx, S, R1, K1, rfl, m1.ext eH4, ok1.mok, cx, lx, fun H5 e5 => ?_⟩
        have eH5 := eH4.trans e5
        refine ⟨dx', _, eH5 _ _ g1, mf_none (by decide +kernel) (by decide +kernel) (by decide +kernel), b, tx, S, R2, K2, rfl, m2.ext eH5, ok2.mok, cx, lx, fun H6 e6 => ?_⟩
        refine ⟨_, _, rfl, ?_⟩
        have e46 := e5.trans e6
        have eD6 := (e3.trans e4).trans e46
        have hA := pk_led (op := opA) ok1 ok2 cx
        have hO := pk_led (op := opO) ok1 ok2 cx
        have hS := pk_led (op := opS) ok1 ok2 cx
        change kd (pK opA R1 R2 K1 K2) (led S (pR R1 R2) 0 tx) = opA (K1.getD (led S R1 0 tx) false) (K2.getD (led S R2 0 tx) false) at hA
        change kd (pK opO R1 R2 K1 K2) (led S (pR R1 R2) 0 tx) = opO (K1.getD (led S R1 0 tx) false) (K2.getD (led S R2 0 tx) false) at hO
        change kd (pK opS R1 R2 K1 K2) (led S (pR R1 R2) 0 tx) = opS (K1.getD (led S R1 0 tx) false) (K2.getD (led S R2 0 tx) false) at hS
        generalize K1.getD (led S R1 0 tx) false = u1 at hA hO hS ⊢
        generalize K2.getD (led S R2 0 tx) false = u2 at hA hO hS ⊢
        have dms6 := dms.ext eD6
        have hp6 := eD6 _ _ hp
        refine ⟨fun b H' => b = false ∧ Same H6 H', ?_, fun b H' z => ?_⟩
        · dsimp only [uT, tOp]
          refine lc_mapS (K := K) (α := Addr × Bool) (enc := fun x => V.ref x.1) (out := fun x => V.bl x.2) (ls := [(d1, opA u1 u2), (d2, opO u1 u2), (d3, opS u1 u2)]) (a := p) (H1 := H6) (fun R' h => h) hp6 (by show 3 < sizeLine; omega) (fun H7 x hx e7 Qy hq => ?_) (fun D H7 nD e7 hD => ?_)
          · have hm : Mach C H7 x.1 S (pR R1 R2) (pK opA R1 R2 K1 K2) ∧ x.2 = opA u1 u2 ∨ Mach C H7 x.1 S (pR R1 R2) (pK opO R1 R2 K1 K2) ∧ x.2 = opO u1 u2 ∨ Mach C H7 x.1 S (pR R1 R2) (pK opS R1 R2 K1 K2) ∧ x.2 = opS u1 u2 := by
              simp only [List.mem_cons, List.not_mem_nil, or_false] at hx
              have e27 := eD6.trans e7
              rcases hx with rfl | rfl | rfl
              · exact .inl ⟨dm1.ext e27, rfl⟩
              · exact .inr (.inl ⟨dm2.ext e27, rfl⟩)
              · exact .inr (.inr ⟨dm3.ext e27, rfl⟩)
            rcases hm with ⟨mm, ev⟩ | ⟨mm, ev⟩ | ⟨mm, ev⟩
            · obtain ⟨dy, _, _, _, k1, _⟩ := id mm
              refine ⟨rfl, dy, _, k1, mf_none (by decide +kernel) (by decide +kernel) (by decide +kernel), x.1, tx, S, pR R1 R2, _, rfl, mm, (okP _).mok, cx, lx, fun H8 e8 => ?_⟩
              have := hq H8 e8
              rw [ev, ← hA] at this
              exact this
            · obtain ⟨dy, _, _, _, k1, _⟩ := id mm
              refine ⟨rfl, dy, _, k1, mf_none (by decide +kernel) (by decide +kernel) (by decide +kernel), x.1, tx, S, pR R1 R2, _, rfl, mm, (okP _).mok, cx, lx, fun H8 e8 => ?_⟩
              have := hq H8 e8
              rw [ev, ← hO] at this
              exact this
            · obtain ⟨dy, _, _, _, k1, _⟩ := id mm
              refine ⟨rfl, dy, _, k1, mf_none (by decide +kernel) (by decide +kernel) (by decide +kernel), x.1, tx, S, pR R1 R2, _, rfl, mm, (okP _).mok, cx, lx, fun H8 e8 => ?_⟩
              have := hq H8 e8
              rw [ev, ← hS] at this
              exact this
          · refine ⟨fun v H' => v = .bl (opA u1 u2) ∧ H' = H7, ?_, fun v H' z => ?_⟩
            · cases u1 <;> cases u2
              all_goals (show Br _ _ _; first | (refine Br.no ?_; exact ⟨rfl, rfl⟩) | (refine Br.yes ?_; exact ⟨rfl, rfl⟩))
            obtain ⟨rfl, rfl⟩ := z
            refine ⟨fun v H'' => v = .bl (opO u1 u2) ∧ H'' = H', ?_, fun v H'' z => ?_⟩
            · cases u1 <;> cases u2
              all_goals (show Br _ _ _; first | (refine Br.no ?_; exact ⟨rfl, rfl⟩) | (refine Br.yes ?_; exact ⟨rfl, rfl⟩))
            obtain ⟨rfl, rfl⟩ := z
            refine ⟨fun v H' => v = .bl (opS u1 u2) ∧ H' = H'', ?_, fun v H' z => ?_⟩
            · cases u1 <;> cases u2
              all_goals (show Br _ _ _; first | (refine Br.no ?_; exact ⟨rfl, rfl⟩) | (refine Br.yes ?_; exact ⟨rfl, rfl⟩))
            obtain ⟨rfl, rfl⟩ := z
            refine ⟨by show 3 ≤ sizeLine; omega, fun G nG => ?_⟩
            have eG : Same H' (upd H' G (.lst [.bl (opA u1 u2), .bl (opO u1 u2), .bl (opS u1 u2)])) := same_upd nG
            refine ⟨encB [opA u1 u2, opO u1 u2, opS u1 u2], encB [opA u1 u2, opO u1 u2, opS u1 u2], dp_kinds (eG _ _ hD), dp_kinds upd_same, (flat_kinds _).shaped (by decide), (flat_kinds _).shaped (by decide), ?_⟩
            rw [eqv_kindsB, decide_eq_true rfl]
            exact ⟨rfl, e7.trans eG⟩
        obtain ⟨rfl, e7⟩ := z
        refine Br.no ?_
        exact ⟨_, _, _, e4.trans (e46.trans e7), rfl⟩
      · obtain ⟨y9, y10, y11, e4, rfl⟩ := h
        exact q _ (eH3.trans e4)
end
end LK

/-! machines by what they take: &, |, -, ~ -/
namespace LK
open PySem PySem.Spec PyProof.Rows L2 LamX ClX
open scoped List
/-- a machine of at most n places that takes what f says -/
def Tk (C : Addr) (H : Hp) (m : Addr) (S : List Nat) (n : Nat) (f : List Nat → Bool) : Prop := ∃ (R : Rows) (Kd : List Bool), Mach C H m S R Kd ∧ ShOk S R Kd ∧ Whole R ∧ R.length ≤ n ∧ ∀ is, Col S.length is → kd Kd (go R 0 is) = f is
theorem Tk.ext {C : Addr} {H H' : Hp} {m : Addr} {S : List Nat} {n : Nat} {f : List Nat → Bool} (h : Tk C H m S n f) (e : Same H H') : Tk C H' m S n f := by
  obtain ⟨R, Kd, a, b⟩ := h
  exact ⟨R, Kd, a.ext e, b⟩
theorem Tk.ins {C : Addr} {H : Hp} {m : Addr} {S : List Nat} {n : Nat} {f : List Nat → Bool} (h : Tk C H m S n f) : ∃ dx fs, H m = some (.ins C dx fs) := by
  obtain ⟨R, Kd, a, _⟩ := h
  obtain ⟨dx, _, _, _, h1, _⟩ := a
  exact ⟨dx, _, h1⟩
/-- two that take the same -/
theorem Tk.same {C : Addr} {H : Hp} {a b : Addr} {S : List Nat} {n1 n2 : Nat} {f g : List Nat → Bool} (h1 : Tk C H a S n1 f) (h2 : Tk C H b S n2 g) (e : ∀ is, f is = g is) :
    ∃ (R1 R2 : Rows) (K1 K2 : List Bool), Mach C H a S R1 K1 ∧ Mach C H b S R2 K2 ∧ ShOk S R1 K1 ∧ ShOk S R2 K2 ∧ SameL S.length R1 K1 0 R2 K2 0 := by
  obtain ⟨R1, K1, m1, ok1, w1, l1, f1⟩ := h1
  obtain ⟨R2, K2, m2, ok2, w2, l2, f2⟩ := h2
  exact ⟨R1, R2, K1, K2, m1, m2, ok1, ok2, fun is c => by rw [f1 is c, f2 is c, e]⟩
end LK

/-! _law_rules_right: readings that yield machines by what they take -/
namespace LK
open PySem PySem.Spec PyProof.Rows L2 LamX ClX
open scoped List
/-- all stays but at what X names -/
def But1 (X : Addr → Prop) (H H' : Hp) : Prop := ∀ b o, ¬ X b → H b = some o → H' b = some o
/-- Tk that stays when what X names is written -/
def TkX (X : Addr → Prop) (C : Addr) (H : Hp) (m : Addr) (S : List Nat) (n : Nat) (f : List Nat → Bool) : Prop := Tk C H m S n f ∧ ∀ H', But1 X H H' → Tk C H' m S n f
theorem TkX.ext {X : Addr → Prop} {C : Addr} {H H' : Hp} {m : Addr} {S : List Nat} {n : Nat} {f : List Nat → Bool} (h : TkX X C H m S n f) (e : Same H H') : TkX X C H' m S n f :=
  ⟨h.1.ext e, fun H2 b => h.2 H2 fun c o n hc => b c o n (e c o hc)⟩
/-- what X names is there -/
def Old (X : Addr → Prop) (H : Hp) : Prop := ∀ b, X b → ∃ o, H b = some o
theorem Old.ext {X : Addr → Prop} {H H' : Hp} (h : Old X H) (e : Same H H') : Old X H' := fun b x => by obtain ⟨o, ho⟩ := h b x; exact ⟨o, e _ _ ho⟩
theorem machN_but {X : Addr → Prop} {C : Addr} {H0 H H' : Hp} {a : Addr} {S : List Nat} {R : Rows} {Kd : List Bool} (h : MachN C H0 H a S R Kd) (n : H0 a = none) (old : Old X H0) (e : But1 X H H') : Mach C H' a S R Kd := by
  have ne : ∀ b, H0 b = none → ¬ X b := fun b hb z => by obtain ⟨o, ho⟩ := old b z; rw [ho] at hb; cases hb
  obtain ⟨dx, r, k, rs, h1, h2, h3, h4, h5, h6, h7⟩ := h
  exact ⟨dx, r, k, rs, e _ _ (ne _ n) h1, e _ _ (ne _ h6) h2, h3, fun i p hp => e _ _ (ne _ (h4 i p hp).2) (h4 i p hp).1, e _ _ (ne _ h7) h5⟩
theorem TkX.two {X : Addr → Prop} {C : Addr} {H : Hp} {a b : Addr} {S : List Nat} {n1 n2 : Nat} {f g : List Nat → Bool} {op : Bool → Bool → Bool} {Q : VK} (h1 : TkX X C H a S n1 f) (h2 : TkX X C H b S n2 g) (old : Old X H) (hn : n1 * n2 ≤ 40)
    (q : ∀ H' m, Same H H' → TkX X C H' m S (n1 * n2) (fun is => op (f is) (g is)) → Q (.ref m) H') : binI C (spTwo C op) (.ref a) (.ref b) H Q := by
  have i1 := h1.1.ins
  have i2 := h2.1.ins
  obtain ⟨R1, K1, m1, ok1, w1, l1, f1⟩ := h1.1
  obtain ⟨R2, K2, m2, ok2, w2, l2, f2⟩ := h2.1
  have hN : R1.length * R2.length ≤ n1 * n2 := Nat.mul_le_mul l1 l2
  refine ⟨i1, i2, a, b, S, R1, R2, K1, K2, rfl, m1, m2, ok1, ok2, by omega, fun H' m e nm mm => ⟨m, rfl, q H' m e ?_⟩⟩
  have key : ∀ H2, Mach C H2 m S (pR R1 R2) (pK op R1 R2 K1 K2) → Tk C H2 m S (n1 * n2) (fun is => op (f is) (g is)) := fun H2 mk => ⟨_, _, mk, pr_sh ok1 ok2 (by omega), pr_wh ok1 ok2, by rw [rn_len]; exact Nat.le_trans (pL_len ok1 ok2) hN, fun is c => by rw [pk_go ok1 ok2 c, f1 is c, f2 is c]⟩
  exact ⟨key _ mm.m, fun H2 b2 => key _ (machN_but mm nm old b2)⟩
theorem TkX.inv {X : Addr → Prop} {C : Addr} {H : Hp} {a : Addr} {S : List Nat} {n : Nat} {f : List Nat → Bool} {Q : VK} (h : TkX X C H a S n f) (old : Old X H) (q : ∀ H' m, Same H H' → TkX X C H' m S n (fun is => !f is) → Q (.ref m) H') : invI C (spInv C) (.ref a) H Q := by
  obtain ⟨dx, fs, i1⟩ := h.1.ins
  obtain ⟨R, Kd, mm, ok, wh, l, hf⟩ := h.1
  refine ⟨dx, fs, i1, a, S, R, Kd, rfl, mm, ok, wh, fun H' m e nm mN => q H' m e ?_⟩
  have key : ∀ H2, Mach C H2 m S R (Kd.map not) → Tk C H2 m S n (fun is => !f is) := fun H2 mk => ⟨R, Kd.map not, mk, ⟨ok.let_, ok.rows, ok.lo, ok.hi, by rw [List.length_map]; exact ok.kinds⟩, wh, l, fun is c => by
    have lo := ok.lo
    have lt := go_lt ok.rows (p := 0) (by omega) c
    show kd (Kd.map not) (go R 0 is) = !f is
    rw [← hf is c]
    show (Kd.map not).getD (go R 0 is) false = _
    rw [List.getD_eq_getElem?_getD, List.getElem?_map, kd_some ok.kinds lt]; rfl⟩
  exact ⟨key _ mN.m, fun H2 b2 => key _ (machN_but mN nm old b2)⟩
section
variable {X : Addr → Prop} {C : Addr} {S : List Nat} {B : Hp} {σ : L2.St} {t t1 t2 : TE} {ta : TA} {n n1 n2 k : Nat} {f g : List Nat → Bool} {op : Bool → Bool → Bool}
/-- a reading that yields such a machine -/
def TkE (X : Addr → Prop) (C : Addr) (S : List Nat) (B : Hp) (σ : L2.St) (t : TE) (n : Nat) (f : List Nat → Bool) : Prop := ∀ (H : Hp) (Q : VK), Same B H → (∀ H' m, Same H H' → TkX X C H' m S n f → Q (.ref m) H') → t σ H Q
theorem TkE.v {i : Nat} {a : Addr} (hσ : σ[i]? = some (some (.ref a))) (h : TkX X C B a S n f) : TkE X C S B σ (uVar i) n f := fun H Q e q => var_at hσ (q H a (Same.refl _) (h.ext e))
theorem TkE.b (old : Old X B) (h1 : TkE X C S B σ t1 n1 f) (h2 : TkE X C S B σ t2 n2 g) (hn : n1 * n2 ≤ 40) : TkE X C S B σ (tOp (binI C (spTwo C op)) t1 t2) (n1 * n2) (fun is => op (f is) (g is)) := fun H Q e q =>
  h1 H _ e fun H1 m1 e1 k1 => h2 H1 _ (e.trans e1) fun H2 m2 e2 k2 => (k1.ext e2).two k2 (old.ext ((e.trans e1).trans e2)) hn fun H3 m e3 k3 => q H3 m ((e1.trans e2).trans e3) k3
theorem TkE.i (old : Old X B) (h : TkE X C S B σ t n f) : TkE X C S B σ (tUn (invI C (spInv C)) t) n (fun is => !f is) := fun H Q e q =>
  h H _ e fun H1 m1 e1 k1 => k1.inv (old.ext (e.trans e1)) fun H2 m e2 k2 => q H2 m (e1.trans e2) k2
/-- a pair of machines that take the same -/
def PairOk (X : Addr → Prop) (C : Addr) (S : List Nat) (H : Hp) (p : Addr) : Prop := ∃ (m1 m2 : Addr) (n1 n2 : Nat) (f g : List Nat → Bool), H p = some (.tup [.ref m1, .ref m2]) ∧ ¬ X p ∧ TkX X C H m1 S n1 f ∧ TkX X C H m2 S n2 g ∧ ∀ is, f is = g is
theorem PairOk.ext {H H' : Hp} {p : Addr} (h : PairOk X C S H p) (e : Same H H') : PairOk X C S H' p := by
  obtain ⟨m1, m2, n1, n2, f, g, h1, h2, h3, h4, h5⟩ := h
  exact ⟨m1, m2, n1, n2, f, g, e _ _ h1, h2, h3.ext e, h4.ext e, h5⟩
def TkP (X : Addr → Prop) (C : Addr) (S : List Nat) (B : Hp) (σ : L2.St) (t : TE) : Prop := ∀ (H : Hp) (Q : VK), Same B H → (∀ H' p, Same H H' → PairOk X C S H' p → Q (.ref p) H') → t σ H Q
theorem TkP.mk (old : Old X B) (h1 : TkE X C S B σ t1 n1 f) (h2 : TkE X C S B σ t2 n2 g) (e : ∀ is, f is = g is) : TkP X C S B σ (tTup (tCons t1 (tCons t2 tNil))) := fun H Q eB q => by
  refine h1 H _ eB fun H1 m1 e1 k1 => h2 H1 _ (eB.trans e1) fun H2 m2 e2 k2 => ⟨by show 2 ≤ sizeLine; rw [sizeLine_eq]; omega, fun p np => ?_⟩
  have eP : Same H2 (upd H2 p (.tup [.ref m1, .ref m2])) := same_upd np
  refine q _ p ((e1.trans e2).trans eP) ⟨m1, m2, n1, n2, f, g, upd_same, fun z => ?_, (k1.ext e2).ext eP, k2.ext eP, e⟩
  obtain ⟨o, ho⟩ := (old.ext ((eB.trans e1).trans e2)) p z
  rw [ho] at np; cases np
def TkA (X : Addr → Prop) (C : Addr) (S : List Nat) (B : Hp) (σ : L2.St) (ta : TA) (k : Nat) : Prop := ∀ (H : Hp) (Q : List V → Hp → Prop), Same B H → (∀ H' (ps : List Addr), Same H H' → (∀ p ∈ ps, PairOk X C S H' p) → ps.length = k → Q (ps.map V.ref) H') → ta σ H Q
theorem TkA.nil : TkA X C S B σ tNil 0 := fun H Q e q => q H [] (Same.refl _) (fun p z => nomatch z) rfl
theorem TkA.cons (hp : TkP X C S B σ t) (ha : TkA X C S B σ ta k) : TkA X C S B σ (tCons t ta) (k + 1) := fun H Q e q =>
  hp H _ e fun H1 p e1 k1 => ha H1 _ (e.trans e1) fun H2 ps e2 k2 l => q H2 (p :: ps) (e1.trans e2) (fun x hx => by
    rcases List.mem_cons.mp hx with rfl | hx
    · exact k1.ext e2
    · exact k2 x hx) (congrArg (· + 1) l)
theorem TkA.lst (h : TkA X C S B σ ta k) (hk : k ≤ 100) (H : Hp) (Q : VK) (e : Same B H) (q : ∀ H' L (ps : List Addr), Same H H' → H L = none → H' L = some (.lst (ps.map V.ref)) → (∀ p ∈ ps, PairOk X C S H' p) → ps.length = k → Q (.ref L) H') : tLst ta σ H Q := by
  have sl := sizeLine_eq
  refine h H _ e fun H1 ps e1 k1 l => ⟨by rw [List.length_map]; omega, fun L nL => ?_⟩
  have eL : Same H1 (upd H1 L (.lst (ps.map V.ref))) := same_upd nL
  exact q _ L ps (e1.trans eL) (Same.free e1 nL) upd_same (fun p hp => (k1 p hp).ext eL) l
end
end LK

/-! _law_rules_right -/
namespace LK
open PySem PySem.Spec PyProof.Rows L2 LamX ClX
open scoped List
theorem notFirstZ {K : PySem.W.Frag} {C : Addr} : PySem.W.notFirst K C (.ref C) = true := by simp [PySem.W.notFirst]
theorem mach_cmp {K : PySem.W.Frag} {C : Addr} {neg : Bool} {H : Hp} {a b : Addr} {S : List Nat} {R1 R2 : Rows} {K1 K2 : List Bool} {Q : VK} (iM : IsM K C) (m1 : Mach C H a S R1 K1) (m2 : Mach C H b S R2 K2) (h1 : R1.length ≤ 40) (h2 : R2.length ≤ 40)
    (q : ∀ H', Same H H' → Q (.bl (if neg then !decide (R1 = R2 ∧ K1 = K2) else decide (R1 = R2 ∧ K1 = K2))) H') : eqI K C (spEq K C) neg (.ref a) (.ref b) H Q := by
  obtain ⟨dx, _, _, _, i1, _⟩ := id m1
  obtain ⟨dx2, _, _, _, i2, _⟩ := id m2
  refine ⟨dx, _, _, i1, iM.ty _ _ _ _ i2 (mf_none (by decide +kernel) (by decide +kernel) (by decide +kernel)), notFirstZ, a, .ref b, S, R1, K1, rfl, m1, by omega, .inl ⟨b, S, R2, K2, rfl, m2, by omega, fun H' e => ⟨_, rfl, ?_⟩⟩⟩
  have e2 : decide (S = S ∧ R1 = R2 ∧ K1 = K2) = decide (R1 = R2 ∧ K1 = K2) := by simp
  rw [e2]
  exact q H' e
theorem mach_same {K : PySem.W.Frag} {C : Addr} {neg : Bool} {H : Hp} {a b : Addr} {S : List Nat} {R1 : Rows} {K1 : List Bool} {Q : VK} (iM : IsM K C) (m1 : Mach C H a S R1 K1) (m2 : Mach C H b S R1 K1) (h1 : R1.length ≤ 40) (q : ∀ H', Same H H' → Q (.bl (!neg)) H') : eqI K C (spEq K C) neg (.ref a) (.ref b) H Q := by
  refine mach_cmp iM m1 m2 h1 h1 fun H' e => ?_
  have e2 : (if neg = true then !decide (R1 = R1 ∧ K1 = K1) else decide (R1 = R1 ∧ K1 = K1)) = !neg := by
    rw [decide_eq_true ⟨rfl, rfl⟩]; cases neg <;> rfl
  rw [e2]; exact q H' e
/-- a pair of machines that take the same -/
def PairF (C : Addr) (S : List Nat) (H : Hp) (p : Addr) : Prop := ∃ (m1 m2 : Addr) (n1 n2 : Nat) (f g : List Nat → Bool), H p = some (.tup [.ref m1, .ref m2]) ∧ Tk C H m1 S n1 f ∧ Tk C H m2 S n2 g ∧ ∀ is, f is = g is
theorem PairF.ext {C : Addr} {S : List Nat} {H H' : Hp} {p : Addr} (h : PairF C S H p) (e : Same H H') : PairF C S H' p := by
  obtain ⟨m1, m2, n1, n2, f, g, h1, h2, h3, h4⟩ := h
  exact ⟨m1, m2, n1, n2, f, g, e _ _ h1, h2.ext e, h3.ext e, h4⟩
theorem TkP.go {X : Addr → Prop} {C : Addr} {S : List Nat} {B : Hp} {σ : L2.St} {t : TE} (h : TkP X C S B σ t) (H : Hp) (Q : VK) (e : Same B H) (q : ∀ H' p, Same H H' → PairOk X C S H' p → Q (.ref p) H') : t σ H Q := h H Q e q
theorem PairOk.but {X : Addr → Prop} {C : Addr} {S : List Nat} {H H' : Hp} {p : Addr} (h : PairOk X C S H p) (b : But1 X H H') : PairF C S H' p := by
  obtain ⟨m1, m2, n1, n2, f, g, h1, h2, h3, h4, h5⟩ := h
  exact ⟨m1, m2, n1, n2, f, g, b _ _ h2 h1, h3.2 _ b, h4.2 _ b, h5⟩
abbrev nRul : List Str := ["_law_one", "_law_other", "_law_third", "_law_pairs_here", "_law_mine", "_law_yours"]
theorem scRules : FnScope nRul ["_law_one", "_law_other", "_law_third"] (defScope sRules) := ⟨rfl, rfl, rfl, by decide +kernel, rfl, by decide +kernel, by decide +kernel⟩
section
variable {P : Program} {w : World} {K : PySem.W.Frag} {mg : Str → Option Value} {base : Heap} {C : Addr}
def spRules (C : Addr) : Sp := fun vs H Q _ => ∃ (a b c : Addr) (S : List Nat) (f0 f1 f2 : List Nat → Bool), vs = [.ref a, .ref b, .ref c] ∧ Tk C H a S 2 f0 ∧ Tk C H b S 2 f1 ∧ Tk C H c S 2 f2 ∧ ∀ H', Same H H' → Q (.bl true) H'
theorem ok_rules {f : Addr} {fd : FuncData} {k : Nat} (F : Fun K "_law_rules_right" "_law_rules_right" sRules f fd) (M : Mx mg) (cM : ClsM K C) (iM : IsM K C) (eC : EqC K C) (oC : OpsC K C) (HQ : HasM P w K mg base (k + 1) C "__eq__" ["other"] (spEq K C))
    (HAn : HasM P w K mg base (k + 1) C "__and__" ["other"] (spTwo C opA)) (HOr : HasM P w K mg base (k + 1) C "__or__" ["other"] (spTwo C opO)) (HSu : HasM P w K mg base (k + 1) C "__sub__" ["other"] (spTwo C opS)) (HIv : HasM P w K mg base (k + 1) C "__invert__" [] (spInv C))
    (HSm : Has P w K mg base (k + 1) "is_same" ["one", "other"] (spIsSameYes C)) (HPt : Has P w K mg base (k + 1) "parting" ["one", "other"] (spPartNone C)) (HLe : HasM P w K mg base (k + 1) C "least" [] (spLeast C)) :
    FnG P w K mg base CX0 (k + 3) f fd ["_law_one", "_law_other", "_law_third"] (spRules C) := by
  refine okG F scRules (fun vs H Q E h => ?_) (fun cdv A hA outer s H vs Q E hr h => ?_)
  · obtain ⟨a, b, c, S, f0, f1, f2, rfl, _⟩ := h; rfl
  · obtain ⟨a, b, c, S, f0, f1, f2, rfl, t0, t1, t2, q⟩ := h
    have nd := scRules.nd
    have sl := sizeLine_eq
    have hr1 : Room (k + 1) _ := hr.mono (by omega)
    refine ⟨_, pss_cons (ps_set (i := 3) nd rfl (.inl rfl) (pe_lst (pa_cons (pe_tup (pa_cons (pe_op (r := binI C (spTwo C opA)) (o_bin (op := .BitAnd) HAn oC.first hA hr1) (uv 0) (uv 1)) (pa_cons (pe_op (r := binI C (spTwo C opA)) (o_bin (op := .BitAnd) HAn oC.first hA hr1) (uv 1) (uv 0)) pa_nil))) (pa_cons (pe_tup (pa_cons (pe_op (r := binI C (spTwo C opO)) (o_bin (op := .BitOr) HOr oC.first hA hr1) (uv 0) (uv 1)) (pa_cons (pe_op (r := binI C (spTwo C opO)) (o_bin (op := .BitOr) HOr oC.first hA hr1) (uv 1) (uv 0)) pa_nil))) (pa_cons (pe_tup (pa_cons (pe_op (r := binI C (spTwo C opS)) (o_bin (op := .Sub) HSu oC.first hA hr1) (uv 0) (uv 1)) (pa_cons (pe_op (r := binI C (spTwo C opA)) (o_bin (op := .BitAnd) HAn oC.first hA hr1) (uv 0) (pe_un (r := invI C (spInv C)) (un_invI HIv hA hr1) (uv 1))) pa_nil))) pa_nil)))))
      (pss_cons (ps_set (i := 3) nd rfl (.inl rfl) (pe_op o_add (uv 3) (pe_lst (pa_cons (pe_tup (pa_cons (pe_un (r := invI C (spInv C)) (un_invI HIv hA hr1) (pe_op (r := binI C (spTwo C opA)) (o_bin (op := .BitAnd) HAn oC.first hA hr1) (uv 0) (uv 1))) (pa_cons (pe_op (r := binI C (spTwo C opO)) (o_bin (op := .BitOr) HOr oC.first hA hr1) (pe_un (r := invI C (spInv C)) (un_invI HIv hA hr1) (uv 0)) (pe_un (r := invI C (spInv C)) (un_invI HIv hA hr1) (uv 1))) pa_nil))) (pa_cons (pe_tup (pa_cons (pe_un (r := invI C (spInv C)) (un_invI HIv hA hr1) (pe_op (r := binI C (spTwo C opO)) (o_bin (op := .BitOr) HOr oC.first hA hr1) (uv 0) (uv 1))) (pa_cons (pe_op (r := binI C (spTwo C opA)) (o_bin (op := .BitAnd) HAn oC.first hA hr1) (pe_un (r := invI C (spInv C)) (un_invI HIv hA hr1) (uv 0)) (pe_un (r := invI C (spInv C)) (un_invI HIv hA hr1) (uv 1))) pa_nil))) (pa_cons (pe_tup (pa_cons (pe_op (r := binI C (spTwo C opS)) (o_bin (op := .Sub) HSu oC.first hA hr1) (uv 0) (uv 0)) (pa_cons (pe_op (r := binI C (spTwo C opA)) (o_bin (op := .BitAnd) HAn oC.first hA hr1) (uv 0) (pe_un (r := invI C (spInv C)) (un_invI HIv hA hr1) (uv 0))) pa_nil))) pa_nil))))))
      (pss_cons (ps_set (i := 3) nd rfl (.inl rfl) (pe_op o_add (uv 3) (pe_lst (pa_cons (pe_tup (pa_cons (pe_op (r := binI C (spTwo C opA)) (o_bin (op := .BitAnd) HAn oC.first hA hr1) (uv 0) (uv 0)) (pa_cons (uv 0) pa_nil))) (pa_cons (pe_tup (pa_cons (pe_op (r := binI C (spTwo C opO)) (o_bin (op := .BitOr) HOr oC.first hA hr1) (uv 0) (uv 0)) (pa_cons (uv 0) pa_nil))) (pa_cons (pe_tup (pa_cons (pe_op (r := binI C (spTwo C opO)) (o_bin (op := .BitOr) HOr oC.first hA hr1) (uv 0) (pe_op (r := binI C (spTwo C opA)) (o_bin (op := .BitAnd) HAn oC.first hA hr1) (uv 0) (uv 1))) (pa_cons (uv 0) pa_nil))) (pa_cons (pe_tup (pa_cons (pe_op (r := binI C (spTwo C opS)) (o_bin (op := .Sub) HSu oC.first hA hr1) (uv 0) (pe_op (r := binI C (spTwo C opS)) (o_bin (op := .Sub) HSu oC.first hA hr1) (uv 0) (uv 1))) (pa_cons (pe_op (r := binI C (spTwo C opA)) (o_bin (op := .BitAnd) HAn oC.first hA hr1) (uv 0) (uv 1)) pa_nil))) pa_nil)))))))
      (pss_cons (ps_set (i := 3) nd rfl (.inl rfl) (pe_op o_add (uv 3) (pe_lst (pa_cons (pe_tup (pa_cons (pe_op (r := binI C (spTwo C opA)) (o_bin (op := .BitAnd) HAn oC.first hA hr1) (pe_op (r := binI C (spTwo C opA)) (o_bin (op := .BitAnd) HAn oC.first hA hr1) (uv 0) (uv 1)) (uv 2)) (pa_cons (pe_op (r := binI C (spTwo C opA)) (o_bin (op := .BitAnd) HAn oC.first hA hr1) (uv 0) (pe_op (r := binI C (spTwo C opA)) (o_bin (op := .BitAnd) HAn oC.first hA hr1) (uv 1) (uv 2))) pa_nil))) (pa_cons (pe_tup (pa_cons (pe_op (r := binI C (spTwo C opO)) (o_bin (op := .BitOr) HOr oC.first hA hr1) (pe_op (r := binI C (spTwo C opO)) (o_bin (op := .BitOr) HOr oC.first hA hr1) (uv 0) (uv 1)) (uv 2)) (pa_cons (pe_op (r := binI C (spTwo C opO)) (o_bin (op := .BitOr) HOr oC.first hA hr1) (uv 0) (pe_op (r := binI C (spTwo C opO)) (o_bin (op := .BitOr) HOr oC.first hA hr1) (uv 1) (uv 2))) pa_nil))) pa_nil)))))
      (pss_cons (ps_expr (pe_bm PySem.F.plainAttrs_list PySem.F.slot_list_append PySem.F.type_list_append mt_append (uv 3) (pa_cons (pe_tup (pa_cons (pe_op (r := binI C (spTwo C opA)) (o_bin (op := .BitAnd) HAn oC.first hA hr1) (uv 0) (pe_op (r := binI C (spTwo C opO)) (o_bin (op := .BitOr) HOr oC.first hA hr1) (uv 1) (uv 2))) (pa_cons (pe_op (r := binI C (spTwo C opO)) (o_bin (op := .BitOr) HOr oC.first hA hr1) (pe_op (r := binI C (spTwo C opA)) (o_bin (op := .BitAnd) HAn oC.first hA hr1) (uv 0) (uv 1)) (pe_op (r := binI C (spTwo C opA)) (o_bin (op := .BitAnd) HAn oC.first hA hr1) (uv 0) (uv 2))) pa_nil))) pa_nil)))
      (pss_cons (ps_expr (pe_bm PySem.F.plainAttrs_list PySem.F.slot_list_append PySem.F.type_list_append mt_append (uv 3) (pa_cons (pe_tup (pa_cons (pe_op (r := binI C (spTwo C opS)) (o_bin (op := .Sub) HSu oC.first hA hr1) (uv 0) (pe_op (r := binI C (spTwo C opO)) (o_bin (op := .BitOr) HOr oC.first hA hr1) (uv 1) (uv 2))) (pa_cons (pe_op (r := binI C (spTwo C opS)) (o_bin (op := .Sub) HSu oC.first hA hr1) (pe_op (r := binI C (spTwo C opS)) (o_bin (op := .Sub) HSu oC.first hA hr1) (uv 0) (uv 1)) (uv 2)) pa_nil))) pa_nil)))
      (pss_cons (ps_for PassesOwn.never rfl (pi_list (uv 3)) (pg_tup rfl (pgs_cons (pg_name (i := 4) nd rfl (.inl rfl)) (pgs_cons (pg_name (i := 5) nd rfl (.inl rfl)) pgs_nil)))
        (pss_one (ps_ifU (pt_cl (PW.pt (pw_orU (pt_not (pt_u (pe_callH HSm hA hr1 (by rfl) (pa_cons (uv 4) (pa_cons (uv 5) pa_nil))))) (pw_orU (pt_cu o_isnot (pe_callH HPt hA hr1 (by rfl) (pa_cons (uv 4) (pa_cons (uv 5) pa_nil))) pe_non) (pw_or1 (pt_cu (r := eqI K C (spEq K C) true) (o_neI HQ eC hA hr) (pe_mH0 HLe cM.cls hA hr1 (uv 4)) (pe_mH0 HLe cM.cls hA hr1 (uv 5)))))))) (pss_one (ps_ret pe_bl)) pss_nil)))
      (pss_one (ps_ret pe_bl)))))))), ?_⟩
    have kk : ∀ {x : Addr} {f : List Nat → Bool}, Tk C H x S 2 f → TkX (fun _ => False) C H x S 2 f := fun h => ⟨h, fun H' b => h.ext fun c o hc => b c o (fun z => z) hc⟩
    have k0 := kk t0
    have k1 := kk t1
    have k2 := kk t2
    have old : Old (fun _ => False) H := fun b x => x.elim
    have bF : ∀ (H' H'' : Hp), Same H' H'' → But1 (fun _ => False) H' H'' := fun H' H'' e b o _ hb => e b o hb
    dsimp only [tSeq, tAsg, gName]
    refine TkA.lst (X := fun _ => False) (C := C) (S := S) (B := H) (k := 3) (.cons (.mk old (.b old (.v (by rfl) k0) (.v (by rfl) k1) (by decide)) (.b old (.v (by rfl) k1) (.v (by rfl) k0) (by decide)) (fun is => by first | (dsimp only [opA, opO, opS]; done) | (dsimp only [opA, opO, opS]; cases f0 is <;> cases f1 is <;> cases f2 is <;> rfl))) (.cons (.mk old (.b old (.v (by rfl) k0) (.v (by rfl) k1) (by decide)) (.b old (.v (by rfl) k1) (.v (by rfl) k0) (by decide)) (fun is => by first | (dsimp only [opA, opO, opS]; done) | (dsimp only [opA, opO, opS]; cases f0 is <;> cases f1 is <;> cases f2 is <;> rfl))) (.cons (.mk old (.b old (.v (by rfl) k0) (.v (by rfl) k1) (by decide)) (.b old (.v (by rfl) k0) (.i old (.v (by rfl) k1)) (by decide)) (fun is => by first | (dsimp only [opA, opO, opS]; done) | (dsimp only [opA, opO, opS]; cases f0 is <;> cases f1 is <;> cases f2 is <;> rfl))) .nil))) (by omega) H _ (Same.refl _) fun H1 L1 ps1 e1 nL1 hL1 hp1 l1 => ?_
    dsimp only [tSeq, tAsg, gName, tOp]
    refine var_at (v := .ref L1) rfl ?_
    refine TkA.lst (X := fun _ => False) (C := C) (S := S) (B := H) (k := 3) (.cons (.mk old (.i old (.b old (.v (by rfl) k0) (.v (by rfl) k1) (by decide))) (.b old (.i old (.v (by rfl) k0)) (.i old (.v (by rfl) k1)) (by decide)) (fun is => by first | (dsimp only [opA, opO, opS]; done) | (dsimp only [opA, opO, opS]; cases f0 is <;> cases f1 is <;> cases f2 is <;> rfl))) (.cons (.mk old (.i old (.b old (.v (by rfl) k0) (.v (by rfl) k1) (by decide))) (.b old (.i old (.v (by rfl) k0)) (.i old (.v (by rfl) k1)) (by decide)) (fun is => by first | (dsimp only [opA, opO, opS]; done) | (dsimp only [opA, opO, opS]; cases f0 is <;> cases f1 is <;> cases f2 is <;> rfl))) (.cons (.mk old (.b old (.v (by rfl) k0) (.v (by rfl) k0) (by decide)) (.b old (.v (by rfl) k0) (.i old (.v (by rfl) k0)) (by decide)) (fun is => by first | (dsimp only [opA, opO, opS]; done) | (dsimp only [opA, opO, opS]; cases f0 is <;> cases f1 is <;> cases f2 is <;> rfl))) .nil))) (by omega) H1 _ e1 fun H2 L2 ps2 e2 nL2 hL2 hp2 l2 => ?_
    refine ⟨_, _, e2 _ _ hL1, hL2, by rw [List.length_map, List.length_map]; omega, fun L3 n3 => ?_⟩
    rw [← List.map_append]
    have e3 : Same H2 (upd H2 L3 (.lst ((ps1 ++ ps2).map V.ref))) := same_upd n3
    have hL3 := upd_same (H := H2) (a := L3) (o := .lst ((ps1 ++ ps2).map V.ref))
    have hp3 : ∀ p ∈ ps1 ++ ps2, PairOk (fun _ => False) C S (upd H2 L3 (.lst ((ps1 ++ ps2).map V.ref))) p := fun p hp => (List.mem_append.mp hp).elim (fun z => ((hp1 p z).ext e2).ext e3) fun z => (hp2 p z).ext e3
    have l3 : (ps1 ++ ps2).length = 6 := by rw [List.length_append, l1, l2]
    generalize upd H2 L3 (.lst ((ps1 ++ ps2).map V.ref)) = H3 at e3 hL3 hp3 ⊢
    generalize ps1 ++ ps2 = ps3 at hL3 hp3 l3 ⊢
    have e13 := (e1.trans e2).trans e3
    dsimp only [tSeq, tAsg, gName, tOp]
    refine var_at (v := .ref L3) rfl ?_
    refine TkA.lst (X := fun _ => False) (C := C) (S := S) (B := H) (k := 4) (.cons (.mk old (.b old (.v (by rfl) k0) (.v (by rfl) k0) (by decide)) (.v (by rfl) k0) (fun is => by first | (dsimp only [opA, opO, opS]; done) | (dsimp only [opA, opO, opS]; cases f0 is <;> cases f1 is <;> cases f2 is <;> rfl))) (.cons (.mk old (.b old (.v (by rfl) k0) (.v (by rfl) k0) (by decide)) (.v (by rfl) k0) (fun is => by first | (dsimp only [opA, opO, opS]; done) | (dsimp only [opA, opO, opS]; cases f0 is <;> cases f1 is <;> cases f2 is <;> rfl))) (.cons (.mk old (.b old (.v (by rfl) k0) (.b old (.v (by rfl) k0) (.v (by rfl) k1) (by decide)) (by decide)) (.v (by rfl) k0) (fun is => by first | (dsimp only [opA, opO, opS]; done) | (dsimp only [opA, opO, opS]; cases f0 is <;> cases f1 is <;> cases f2 is <;> rfl))) (.cons (.mk old (.b old (.v (by rfl) k0) (.b old (.v (by rfl) k0) (.v (by rfl) k1) (by decide)) (by decide)) (.b old (.v (by rfl) k0) (.v (by rfl) k1) (by decide)) (fun is => by first | (dsimp only [opA, opO, opS]; done) | (dsimp only [opA, opO, opS]; cases f0 is <;> cases f1 is <;> cases f2 is <;> rfl))) .nil)))) (by omega) H3 _ e13 fun H4 L4 ps4 e4 nL4 hL4 hp4 l4 => ?_
    refine ⟨_, _, e4 _ _ hL3, hL4, by rw [List.length_map, List.length_map]; omega, fun L5 n5 => ?_⟩
    rw [← List.map_append]
    have e5 : Same H4 (upd H4 L5 (.lst ((ps3 ++ ps4).map V.ref))) := same_upd n5
    have hL5 := upd_same (H := H4) (a := L5) (o := .lst ((ps3 ++ ps4).map V.ref))
    have hp5 : ∀ p ∈ ps3 ++ ps4, PairOk (fun _ => False) C S (upd H4 L5 (.lst ((ps3 ++ ps4).map V.ref))) p := fun p hp => (List.mem_append.mp hp).elim (fun z => ((hp3 p z).ext e4).ext e5) fun z => (hp4 p z).ext e5
    have l5 : (ps3 ++ ps4).length = 10 := by rw [List.length_append, l3, l4]
    generalize upd H4 L5 (.lst ((ps3 ++ ps4).map V.ref)) = H5 at e5 hL5 hp5 ⊢
    generalize ps3 ++ ps4 = ps5 at hL5 hp5 l5 ⊢
    have e15 := (e13.trans e4).trans e5
    dsimp only [tSeq, tAsg, gName, tOp]
    refine var_at (v := .ref L5) rfl ?_
    refine TkA.lst (X := fun _ => False) (C := C) (S := S) (B := H) (k := 2) (.cons (.mk old (.b old (.b old (.v (by rfl) k0) (.v (by rfl) k1) (by decide)) (.v (by rfl) k2) (by decide)) (.b old (.v (by rfl) k0) (.b old (.v (by rfl) k1) (.v (by rfl) k2) (by decide)) (by decide)) (fun is => by first | (dsimp only [opA, opO, opS]; done) | (dsimp only [opA, opO, opS]; cases f0 is <;> cases f1 is <;> cases f2 is <;> rfl))) (.cons (.mk old (.b old (.b old (.v (by rfl) k0) (.v (by rfl) k1) (by decide)) (.v (by rfl) k2) (by decide)) (.b old (.v (by rfl) k0) (.b old (.v (by rfl) k1) (.v (by rfl) k2) (by decide)) (by decide)) (fun is => by first | (dsimp only [opA, opO, opS]; done) | (dsimp only [opA, opO, opS]; cases f0 is <;> cases f1 is <;> cases f2 is <;> rfl))) .nil)) (by omega) H5 _ e15 fun H6 L6 ps6 e6 nL6 hL6 hp6 l6 => ?_
    refine ⟨_, _, e6 _ _ hL5, hL6, by rw [List.length_map, List.length_map]; omega, fun L n7 => ?_⟩
    rw [← List.map_append]
    have e16 := e15.trans e6
    have nLH : H L = none := Same.free e16 n7
    have hp7 : ∀ p ∈ ps5 ++ ps6, PairF C S H6 p := fun p hp => (List.mem_append.mp hp).elim (fun z => ((hp5 p z).ext e6).but (bF _ _ (Same.refl _))) fun z => (hp6 p z).but (bF _ _ (Same.refl _))
    have l7 : (ps5 ++ ps6).length = 12 := by rw [List.length_append, l5, l6]
    have e7 : Same H6 (upd H6 L (.lst ((ps5 ++ ps6).map V.ref))) := same_upd n7
    have hL7 := upd_same (H := H6) (a := L) (o := .lst ((ps5 ++ ps6).map V.ref))
    generalize upd H6 L (.lst ((ps5 ++ ps6).map V.ref)) = H7 at e7 hL7 ⊢
    generalize ps5 ++ ps6 = ps7 at hL7 hp7 l7 ⊢
    clear hp6 hp5 hp4 hp3 hp2 hp1 hL6 hL5 hL4 hL3 hL2 hL1 old k0 k1 k2
    have e17 := e16.trans e7
    have kL : ∀ {G : Hp} {x : Addr} {f : List Nat → Bool}, Same H G → Tk C H x S 2 f → TkX (fun b => b = L) C G x S 2 f := fun e h => ⟨h.ext e, fun H' b => h.ext fun c o hc => b c o (fun z => by have z : c = L := z; rw [z, nLH] at hc; cases hc) (e c o hc)⟩
    have k0 := kL e17 t0
    have k1 := kL e17 t1
    have k2 := kL e17 t2
    have old : Old (fun b => b = L) H7 := fun b z => by have z : b = L := z; rw [z]; exact ⟨_, hL7⟩
    dsimp only [tSeq, tDrop, tBM, tCons]
    refine var_at (v := .ref L) rfl ?_
    refine ⟨.inl ⟨rfl, _, .inl (.inl hL7)⟩, ?_⟩
    refine TkP.go (X := fun b => b = L) (C := C) (S := S) (B := H7) (.mk old (.b old (.v (by rfl) k0) (.b old (.v (by rfl) k1) (.v (by rfl) k2) (by decide)) (by decide)) (.b old (.b old (.v (by rfl) k0) (.v (by rfl) k1) (by decide)) (.b old (.v (by rfl) k0) (.v (by rfl) k2) (by decide)) (by decide)) (fun is => by first | (dsimp only [opA, opO, opS]; done) | (dsimp only [opA, opO, opS]; cases f0 is <;> cases f1 is <;> cases f2 is <;> rfl))) H7 _ (Same.refl _) fun H8 p8 e8 kp8 => ?_
    refine ⟨L, _, _, rfl, rfl, e8 _ _ hL7, by rw [List.length_map]; omega, ?_⟩
    have bL8 : But1 (fun b => b = L) H8 (upd H8 L (.lst (ps7.map V.ref ++ [.ref p8]))) := fun b o n hb => by rw [upd_ne n]; exact hb
    have pf8 := kp8.but bL8
    have e68 : Same H6 (upd H8 L (.lst (ps7.map V.ref ++ [.ref p8]))) := same_upd2 (e7.trans e8) n7
    have e08 := e16.trans e68
    have hL8 : (upd H8 L (.lst (ps7.map V.ref ++ [.ref p8]))) L = some (.lst ((ps7 ++ [p8]).map V.ref)) := by rw [upd_same, List.map_append]; rfl
    generalize upd H8 L (.lst (ps7.map V.ref ++ [.ref p8])) = H9 at bL8 pf8 e68 e08 hL8 ⊢
    have l8 : (ps7 ++ [p8]).length = 13 := by rw [List.length_append, l7]; rfl
    have hp8 : ∀ p ∈ ps7, PairF C S H9 p := fun p hp => (hp7 p hp).ext e68
    clear k0 k1 k2 old
    have k0 := kL e08 t0
    have k1 := kL e08 t1
    have k2 := kL e08 t2
    have old : Old (fun b => b = L) H9 := fun b z => by have z : b = L := z; rw [z]; exact ⟨_, hL8⟩
    dsimp only [tSeq, tDrop, tBM, tCons]
    refine var_at (v := .ref L) rfl ?_
    refine ⟨.inl ⟨rfl, _, .inl (.inl hL8)⟩, ?_⟩
    refine TkP.go (X := fun b => b = L) (C := C) (S := S) (B := H9) (.mk old (.b old (.v (by rfl) k0) (.b old (.v (by rfl) k1) (.v (by rfl) k2) (by decide)) (by decide)) (.b old (.b old (.v (by rfl) k0) (.v (by rfl) k1) (by decide)) (.v (by rfl) k2) (by decide)) (fun is => by first | (dsimp only [opA, opO, opS]; done) | (dsimp only [opA, opO, opS]; cases f0 is <;> cases f1 is <;> cases f2 is <;> rfl))) H9 _ (Same.refl _) fun H10 p10 e10 kp10 => ?_
    refine ⟨L, _, _, rfl, rfl, e10 _ _ hL8, by rw [List.length_map]; omega, ?_⟩
    have bL10 : But1 (fun b => b = L) H10 (upd H10 L (.lst ((ps7 ++ [p8]).map V.ref ++ [.ref p10]))) := fun b o n hb => by rw [upd_ne n]; exact hb
    have pf10 := kp10.but bL10
    have pf8 := kp8.but (fun b o n hb => bL10 b o n (e10 _ _ (bL8 b o n hb)))
    have e610 : Same H6 (upd H10 L (.lst ((ps7 ++ [p8]).map V.ref ++ [.ref p10]))) := same_upd2 (e68.trans e10) n7
    have eF := e16.trans e610
    have hLF : (upd H10 L (.lst ((ps7 ++ [p8]).map V.ref ++ [.ref p10]))) L = some (.lst ((ps7 ++ [p8] ++ [p10]).map V.ref)) := by rw [upd_same, List.map_append (l₁ := ps7 ++ [p8])]; rfl
    generalize upd H10 L (.lst ((ps7 ++ [p8]).map V.ref ++ [.ref p10])) = HF at bL10 pf8 pf10 e610 eF hLF ⊢
    have hpF : ∀ p ∈ ps7 ++ [p8] ++ [p10], PairF C S HF p := fun p hp => by
      rcases List.mem_append.mp hp with hp | hp
      · rcases List.mem_append.mp hp with hp | hp
        · exact (hp7 p hp).ext e610
        · simp at hp; rw [hp]; exact pf8
      · simp at hp; rw [hp]; exact pf10
    generalize ps7 ++ [p8] ++ [p10] = pF at hLF hpF
    clear k0 k1 k2 old
    dsimp only [tSeq]
    refine for_list (K := K) (a := L) (xs := pF.map V.ref) (H1 := HF) (by exact fun _ h => h) (.inl (.inl hLF))
      (fun pre σ G => ∃ (y4 y5 : Option V), Same HF G ∧ σ = [some (.ref a), some (.ref b), some (.ref c), some (.ref L), y4, y5])
      (fun pre σ G h => by obtain ⟨_, _, h, _⟩ := h; exact .inl (.inl (h _ _ hLF))) ⟨none, none, Same.refl _, rfl⟩ (fun pre x suf σ G ex h => ?_) (fun σ G h => ?_)
    · obtain ⟨y4, y5, eG, rfl⟩ := h
      obtain ⟨pp, p, qq, el, _, rfl⟩ := split_map ex
      obtain ⟨x1, x2, n1, n2, g1, g2, hT, hk1, hk2, he⟩ := (hpF p (by rw [el]; simp)).ext eG
      obtain ⟨R1, R2, K1, K2, mm1, mm2, ok1, ok2, sm⟩ := hk1.same hk2 he
      refine ⟨p, _, rfl, .inl (.inl hT), rfl, _, _, rfl, _, _, rfl, rfl, ?_⟩
      refine ⟨fun b H' => b = false ∧ Same G H', ?_, fun b H' z => ?_⟩
      · refine ⟨x1, x2, S, R1, R2, K1, K2, rfl, mm1, mm2, ok1, ok2, sm, fun Ga ea => ?_⟩
        refine Br.no ?_
        refine ⟨x1, x2, S, R1, R2, K1, K2, rfl, mm1.ext ea, mm2.ext ea, ok1, ok2, sm, fun Gb eb => ?_⟩
        have eab := ea.trans eb
        refine Br.no ?_
        obtain ⟨dx, _, _, _, i1, _⟩ := id mm1
        obtain ⟨dx2, _, _, _, i2, _⟩ := id mm2
        refine ⟨dx, _, eab _ _ i1, mf_none (by decide +kernel) (by decide +kernel) (by decide +kernel), x1, S, R1, K1, rfl, mm1.ext eab, ok1, fun Gc y1 A KA ec ny1 my1 ly1 => ?_⟩
        have eac := eab.trans ec
        refine ⟨dx2, _, eac _ _ i2, mf_none (by decide +kernel) (by decide +kernel) (by decide +kernel), x2, S, R2, K2, rfl, mm2.ext eac, ok2, fun Gd y2 A2 KA2 ed ny2 my2 ly2 => ?_⟩
        obtain ⟨rfl, rfl⟩ := LeastOf.uniq ly1 ly2 sm
        have h40 : A.length ≤ 40 := Nat.le_trans ly1.hi ok1.hi
        exact mach_same iM (my1.ext ed) my2 h40 fun Ge ee => ⟨rfl, (eac.trans ed).trans ee⟩
      obtain ⟨rfl, e2⟩ := z
      refine Br.no ?_
      exact ⟨_, _, eG.trans e2, rfl⟩
    · obtain ⟨y4, y5, eG, rfl⟩ := h
      exact q _ (eF.trans eG)
end
end LK

/-! a machine beside one of one place -/
namespace LK
open PySem PySem.Spec PyProof.Rows L2
open scoped List
/-- the rows of a machine of one place -/
abbrev one1 (m : Nat) : Rows := [List.replicate m 0]
section
variable {R : Rows} {m : Nat} {S : List Nat} {Kd : List Bool}
theorem enc_one {l : List Nat} : ∀ {n : Nat}, l.length = n → ((l.zip (List.replicate n 0)).map (enc 1)) = l := by
  induction l with
  | nil => intro n h; rfl
  | cons a l ih =>
    intro n h
    cases n with
    | zero => cases h
    | succ n =>
      have h : l.length = n := by simpa using h
      rw [List.replicate_succ, List.zip_cons_cons, List.map_cons, ih h]
      show (a * 1 + 0) :: l = a :: l
      rw [Nat.mul_one, Nat.add_zero]
theorem pr_one (ok : RowsOk R m) : PR R (one1 m) = R := by
  unfold PR
  show (List.range (R.length * 1)).map (fun c => (PRow R (one1 m) (dec 1 c)).map (enc 1)) = R
  rw [Nat.mul_one]
  apply List.ext_getElem?
  intro c
  rw [List.getElem?_map]
  by_cases h : c < R.length
  · rw [List.getElem?_range h, List.getElem?_eq_getElem h]
    have d : dec 1 c = (c, 0) := by show (c / 1, c % 1) = (c, 0); rw [Nat.div_one, Nat.mod_one]
    have g : gls R c = R[c] := by unfold gls; rw [List.getD_eq_getElem?_getD, List.getElem?_eq_getElem h]; rfl
    show some ((PRow R (one1 m) (dec 1 c)).map (enc 1)) = some R[c]
    rw [d]
    show some (((gls R c).zip (List.replicate m 0)).map (enc 1)) = some R[c]
    rw [enc_one (gls_len ok h), g]
  · rw [List.getElem?_eq_none (by rw [List.length_range]; omega), List.getElem?_eq_none (by omega)]; rfl
theorem one_sh (lt : LetOk S) (b : Bool) : ShOk S (one1 S.length) [b] := by
  refine ⟨lt, ⟨fun r hr => ?_, fun r hr g hg => ?_⟩, by show 1 ≤ 1; omega, by show 1 ≤ 40; omega, rfl⟩
  · simp at hr; rw [hr, List.length_replicate]
  · simp at hr; rw [hr] at hg
    have := (List.mem_replicate.mp hg).2
    rw [this]; show 0 < 1; omega
theorem one_wh {m : Nat} : Whole (one1 m) := fun x hx => by
  have : x = 0 := by have h : x < 1 := hx; omega
  rw [this]; exact fnd_head _
theorem go_one1 {is : List Nat} (lt : LetOk S) (c : Col S.length is) : go (one1 S.length) 0 is = 0 := by
  have := go_lt (one_sh lt true).rows (p := 0) (by show 0 < 1; omega) c
  have h : go (one1 S.length) 0 is < 1 := this
  omega
/-- beside it the places are those that are met, as met -/
theorem pR_one (ok : RowsOk R m) : pR R (one1 m) = rn R (met R 0) := by
  show rn (PR R (one1 m)) (met (PR R (one1 m)) 0) = _
  rw [pr_one ok]
theorem pK_one (ok : RowsOk R m) {op : Bool → Bool → Bool} {b : Bool} (h : ∀ x, op x b = x) : pK op R (one1 m) Kd [b] = (met R 0).map fun c => kd Kd c := by
  show (met (PR R (one1 m)) 0).map (fun c => op (kd Kd (dec 1 c).1) (kd [b] (dec 1 c).2)) = _
  rw [pr_one ok]
  refine List.map_congr_left fun c _ => ?_
  have d : dec 1 c = (c, 0) := by show (c / 1, c % 1) = (c, 0); rw [Nat.div_one, Nat.mod_one]
  rw [d]
  exact h _
end
end LK

/-! _law_contrary_right: the derivation; the reading is still wanted -/
namespace LK
open PySem PySem.Spec PyProof.Rows L2 LamX ClX
open scoped List
abbrev nCon : List Str := ["_law_signs", "_law_sheet_here", "_law_rig", "_law_texts_here", "_law_due_here", "_law_whole", "_law_bare", "_law_told", "_law_kind", "_law_text"]
theorem scContr : FnScope nCon ["_law_signs", "_law_sheet_here", "_law_rig", "_law_texts_here"] (defScope sContr) := ⟨rfl, rfl, rfl, by decide +kernel, rfl, by decide +kernel, by decide +kernel⟩
section
variable {P : Program} {w : World} {K : PySem.W.Frag} {mg : Str → Option Value} {base : Heap} {C : Addr}
def spContr (C : Addr) : Sp := fun vs H Q _ => ∃ (t a l : Addr) (S : List Nat) (R : Rows) (Kd : List Bool) (Ts : List (List Nat)), vs = [.str (T S), .ref t, .ref a, .ref l] ∧ SheetAt H t R Kd ∧ Mach C H a S R Kd ∧ ShOk S R Kd ∧ Whole R ∧ R.length ≤ 6 ∧
  H l = some (.lst (lts Ts)) ∧ (∀ x ∈ Ts, x.length ≤ 1000000 ∧ ∀ c ∈ x, c ∈ S) ∧ Ts.length ≤ 1000 ∧ ∀ H', Same H H' → Q (.bl true) H'
theorem ok_contr {f : Addr} {fd : FuncData} {k : Nat} (F : Fun K "_law_contrary_right" "_law_contrary_right" sContr f fd) (M : Mx mg) (cM : ClsM K C) (iM : IsM K C) (eC : EqC K C) (oC : OpsC K C) (HQ : HasM P w K mg base (k + 1) C "__eq__" ["other"] (spEq K C)) (HRr : HasM P w K mg base (k + 1) C "__repr__" [] (spRepr C)) (HI : HasI P w K mg base k "Machine" C ["letters", "rows", "kinds"] (spInit K C))
    (HAn : HasM P w K mg base (k + 1) C "__and__" ["other"] (spTwo C opA)) (HOr : HasM P w K mg base (k + 1) C "__or__" ["other"] (spTwo C opO)) (HSu : HasM P w K mg base (k + 1) C "__sub__" ["other"] (spTwo C opS)) (HIv : HasM P w K mg base (k + 1) C "__invert__" [] (spInv C)) (HNu : HasM P w K mg base (k + 1) C "numbered" [] (spNumbered C)) (HTk : HasM P w K mg base (k + 1) C "takes" ["text"] (spTakes C))
    (HSm : Has P w K mg base (k + 1) "is_same" ["one", "other"] (spIsSameYes C)) (HPt : Has P w K mg base (k + 1) "parting" ["one", "other"] (spPartNow C)) :
    FnG P w K mg base CX0 (k + 3) f fd ["_law_signs", "_law_sheet_here", "_law_rig", "_law_texts_here"] (spContr C) := by
  refine okG F scContr (fun vs H Q E h => ?_) (fun cdv A hA outer s H vs Q E hr h => ?_)
  · obtain ⟨t, a, l, S, R, Kd, Ts, rfl, _⟩ := h; rfl
  · obtain ⟨t, a, l, S, R, Kd, Ts, rfl, sh, mm, ok, wh, h6, hTs, hch, hTn, q⟩ := h
    have nd := scContr.nd
    have sl := sizeLine_eq
    have hu := Room.u64 hr
    have hr1 : Room (k + 1) _ := hr.mono (by omega)
    refine ⟨_, pss_cons (ps_set (i := 4) nd rfl (.inl rfl) (pe_mkI HI hA hr1 (by rfl) (pa_cons (uv 0) (pa_cons (pe_ixU (uv 1) pe_int) (pa_cons (pe_lc (own := [("_law_kind", 8)]) (g := gName 8) (tt := tYes) rfl nd (pi_list (pe_ixU (uv 1) pe_int)) (blkOk_by (N := nCon) (sc := defScope sContr) (by decide +kernel)) (fun _ _ _ _ _ => pg_name (i := 8) nd rfl (Or.inl rfl)) (fun _ _ _ _ _ => pts_nil)
          (fun _ _ _ _ _ => pe_notU (uv 8))) pa_nil)))))
      (pss_cons (ps_ifU (pt_cl (PW.pt (pw_orU (pt_cu (r := eqU K true) (o_ne hu) (pe_callB (c_reprI HRr hA hr) (by rfl) M.repr b_repr (pa_cons (pe_un (r := invI C (spInv C)) (un_invI HIv hA hr1) (uv 2)) pa_nil)) (pe_callB (c_reprI HRr hA hr) (by rfl) M.repr b_repr (pa_cons (uv 4) pa_nil))) (pw_orU (pt_not (pt_cu (r := eqI K C (spEq K C) false) (o_eqI HQ hA hr1) (pe_un (r := invI C (spInv C)) (un_invI HIv hA hr1) (uv 2)) (uv 4))) (pw_orU (pt_not (pt_cu (r := eqI K C (spEq K C) false) (o_eqI HQ hA hr1) (pe_un (r := invI C (spInv C)) (un_invI HIv hA hr1) (pe_un (r := invI C (spInv C)) (un_invI HIv hA hr1) (uv 2))) (uv 2))) (pw_or1 (pt_cu (r := eqU K true) (o_ne hu) (pe_callH HPt hA hr1 (by rfl) (pa_cons (uv 2) (pa_cons (pe_un (r := invI C (spInv C)) (un_invI HIv hA hr1) (uv 2)) pa_nil))) (ustr [])))))))) (pss_one (ps_ret pe_bl)) pss_nil)
      (pss_cons (ps_par (i := 5) (j := 6) (by rfl) nd rfl rfl (by decide) rfl rfl (pa_cons (pe_mkI HI hA hr1 (by rfl) (pa_cons (uv 0) (pa_cons (pe_lst (pa_cons (pe_op o_mul (pe_lst (pa_cons pe_int pa_nil)) (pe_callB c_len (by rfl) M.len b_len (pa_cons (uv 0) pa_nil))) pa_nil)) (pa_cons (pe_lst (pa_cons pe_bl pa_nil)) pa_nil)))) (pa_cons (pe_mkI HI hA hr1 (by rfl) (pa_cons (uv 0) (pa_cons (pe_lst (pa_cons (pe_op o_mul (pe_lst (pa_cons pe_int pa_nil)) (pe_callB c_len (by rfl) M.len b_len (pa_cons (uv 0) pa_nil))) pa_nil)) (pa_cons (pe_lst (pa_cons pe_bl pa_nil)) pa_nil)))) pa_nil)) (by rfl))
      (pss_cons (ps_set (i := 7) nd rfl (.inl rfl) (pe_lst (pa_cons (pe_op (r := binI C (spTwo C opA)) (o_bin (op := .BitAnd) HAn oC.first hA hr1) (uv 2) (uv 5)) (pa_cons (pe_op (r := binI C (spTwo C opO)) (o_bin (op := .BitOr) HOr oC.first hA hr1) (uv 2) (uv 6)) (pa_cons (pe_op (r := binI C (spTwo C opS)) (o_bin (op := .Sub) HSu oC.first hA hr1) (uv 2) (uv 6)) (pa_cons (pe_op (r := binI C (spTwo C opA)) (o_bin (op := .BitAnd) HAn oC.first hA hr1) (pe_un (r := invI C (spInv C)) (un_invI HIv hA hr1) (uv 2)) (uv 5)) pa_nil))))))
      (pss_cons (ps_ifU (pt_cl (pt_cu (r := eqLI C (spEq K C) true) (o_neLI HQ hA hr) (uv 7) (pe_op o_add (pe_op o_mul (pe_lst (pa_cons (pe_mH0 HNu cM.cls hA hr1 (uv 2)) pa_nil)) pe_int) (pe_lst (pa_cons (pe_mH0 HNu cM.cls hA hr1 (pe_un (r := invI C (spInv C)) (un_invI HIv hA hr1) (uv 2))) pa_nil))))) (pss_one (ps_ret pe_bl)) pss_nil)
      (pss_cons (ps_ifU (pt_cl (PW.pt (pw_orU (pt_not (pt_u (pe_callH HSm hA hr1 (by rfl) (pa_cons (pe_op (r := binI C (spTwo C opO)) (o_bin (op := .BitOr) HOr oC.first hA hr1) (uv 2) (pe_un (r := invI C (spInv C)) (un_invI HIv hA hr1) (uv 2))) (pa_cons (uv 5) pa_nil))))) (pw_orU (pt_not (pt_u (pe_callH HSm hA hr1 (by rfl) (pa_cons (pe_op (r := binI C (spTwo C opA)) (o_bin (op := .BitAnd) HAn oC.first hA hr1) (uv 2) (pe_un (r := invI C (spInv C)) (un_invI HIv hA hr1) (uv 2))) (pa_cons (uv 6) pa_nil))))) (pw_or1 (pt_not (pt_u (pe_callH HSm hA hr1 (by rfl) (pa_cons (pe_op (r := binI C (spTwo C opS)) (o_bin (op := .Sub) HSu oC.first hA hr1) (uv 2) (uv 5)) (pa_cons (uv 6) pa_nil)))))))))) (pss_one (ps_ret pe_bl)) pss_nil)
      (pss_one (ps_ret (pe_callB (c_all rfl) (by rfl) M.all b_all (pa_cons (pe_lc (own := [("_law_text", 9)]) (g := gName 9) (tt := tYes) rfl nd (pi_list (uv 3)) (blkOk_by (N := nCon) (sc := defScope sContr) (by decide +kernel)) (fun _ _ _ _ _ => pg_name (i := 9) nd rfl (Or.inl rfl)) (fun _ _ _ _ _ => pts_nil)
          (fun _ _ _ _ _ => pe_cu (r := eqU K true) (o_ne hu) (pe_mH HTk cM.cls hA hr1 (pe_un (r := invI C (spInv C)) (un_invI HIv hA hr1) (uv 2)) (pa_cons (uv 9) pa_nil)) (pe_mH HTk cM.cls hA hr1 (uv 2) (pa_cons (uv 9) pa_nil)))) pa_nil))))))))), ?_⟩
    obtain ⟨dx, r0, kk0, rs0, h1, _⟩ := id mm
    obtain ⟨rr, kk, ht, hRL, hk⟩ := id sh
    obtain ⟨rsx, hrr, lrr, hrw⟩ := id hRL
    have kl := ok.kinds
    have hhi := ok.hi
    have okN : ShOk S R (Kd.map not) := ⟨ok.let_, ok.rows, ok.lo, ok.hi, by rw [List.length_map]; exact ok.kinds⟩
    have okNN : ShOk S R ((Kd.map not).map not) := ⟨ok.let_, ok.rows, ok.lo, ok.hi, by rw [List.length_map, List.length_map]; exact ok.kinds⟩
    have nn : (Kd.map not).map not = Kd := by rw [List.map_map]; exact (List.map_congr_left fun b _ => Bool.not_not b).trans (List.map_id _)
    have hT : SqT K H t [.ref rr, .ref kk] := .inl (.inl ht)
    refine ⟨_, .ref rr, .inr hT, rfl, ?_⟩
    refine lc_mapS (K := K) (a := kk) (ls := Kd) (enc := V.bl) (out := fun b => V.bl (!b)) (H := H) (H1 := H) (fun R' h => ⟨_, .ref kk, .inr hT, rfl, h⟩) hk (by omega) (fun H' x hx e Qy hy => ?_) (fun D H1 nD e1 hD => ?_)
    · exact ⟨rfl, hy H' (Same.refl _)⟩
    refine ⟨rfl, ?_⟩
    refine mach_newN (R := R) (Kd := Kd.map not) okN wh (RowsL.at ⟨rsx, e1 _ _ hrr, lrr, fun i p hp => e1 _ _ (hrw i p hp)⟩) ⟨false, .inl (.inl (by rw [hD, List.map_map]; rfl))⟩ fun H2 d e2 nd2 mN => ?_
    have md := mN.m
    have e12 := e1.trans e2
    clear mN nd2 e2 hD nD e1
    obtain ⟨sx, hsx⟩ : ∃ x, x = spk S R (Kd.map not) := ⟨_, rfl⟩
    refine ⟨fun b H' => b = false ∧ Same H2 H', ?_, fun b H' z => ?_⟩
    · have inv : ∀ {G : Hp} {x : Addr} {Kx : List Bool} {Q' : VK}, Mach C G x S R Kx → ShOk S R Kx → (∀ G' m, Same G G' → MachN C G G' m S R (Kx.map not) → Q' (.ref m) G') → invI C (spInv C) (.ref x) G Q' := fun {G x Kx Q'} mx okx qx => by
        obtain ⟨dy, _, _, _, i1, _⟩ := id mx
        exact ⟨dy, _, i1, x, S, R, Kx, rfl, mx, okx, wh, fun G' m e _ mN => qx G' m e mN⟩
      dsimp only [uOr, uT, tOp, tUn, tCB, tCons, tNil, tNot]
      refine var_at (v := .ref a) rfl ?_
      refine inv (mm.ext e12) ok fun H3 m e3 mN => ?_
      obtain ⟨dm, _, _, _, i1, _⟩ := id mN.m
      refine ⟨dm, _, i1, m, S, R, Kd.map not, rfl, mN.m, okN, _, rfl, ?_⟩
      have md3 := md.ext e3
      obtain ⟨dd, _, _, _, i2, _⟩ := id md3
      refine var_at (v := .ref d) rfl ?_
      refine ⟨dd, _, i2, d, S, R, Kd.map not, rfl, md3, okN, _, rfl, ?_⟩
      show Br (!decide _) _ _
      rw [decide_eq_true rfl]
      refine Br.no ?_
      have e13 := e12.trans e3
      refine var_at (v := .ref a) rfl ?_
      refine inv (mm.ext e13) ok fun H4 m2 e4 mN2 => ?_
      refine var_at (v := .ref d) rfl ?_
      refine mach_same iM mN2.m (md3.ext e4) hhi fun H5 e5 => ?_
      refine Br.no ?_
      have e35 := e4.trans e5
      have e15 := e13.trans e35
      refine var_at (v := .ref a) rfl ?_
      refine inv (mm.ext e15) ok fun H6 m3 e6 mN3 => ?_
      refine inv mN3.m okN fun H7 m4 e7 mN4 => ?_
      have e57 := e6.trans e7
      have e17 := e15.trans e57
      refine var_at (v := .ref a) rfl ?_
      have m4' := mN4.m
      rw [nn] at m4'
      refine mach_same iM m4' (mm.ext e17) hhi fun H8 e8 => ?_
      refine Br.no ?_
      have e18 := e17.trans e8
      dsimp only [uCall, tCons, tNil, tUn]
      refine var_at (v := .ref a) rfl ?_
      refine var_at (v := .ref a) rfl ?_
      refine inv (mm.ext e18) ok fun H9 m5 e9 mN5 => ?_
      have lo := ok.lo
      refine ⟨a, m5, S, R, R, Kd, Kd.map not, rfl, mm.ext (e18.trans e9), mN5.m, ok, okN, ?_, fun H10 e10 => ?_⟩
      · have h0 := kd_some ok.kinds (p := 0) (by omega)
        have : kd (Kd.map not) 0 = !kd Kd 0 := by
          show (Kd.map not).getD 0 false = _
          rw [List.getD_eq_getElem?_getD, List.getElem?_map, h0]; rfl
        rw [this]; cases kd Kd 0 <;> decide
      · show _ ∧ Same H2 H10
        exact ⟨rfl, ((e3.trans e35).trans e57).trans ((e8.trans e9).trans e10)⟩
    obtain ⟨rfl, e3⟩ := z
    refine Br.no ?_
    have eA := e12.trans e3
    have lenS : S.length ≤ 3 := ok.let_.hi
    have ow := one_sh (S := S) ok.let_
    have r1 : (List.replicate ((S.length : Int)).toNat ([.int 0] : List V)).flatten = iv (List.replicate S.length 0) := by
      rw [Int.toNat_natCast]
      generalize S.length = n
      induction n with
      | zero => rfl
      | succ n ih => rw [List.replicate_succ, List.flatten_cons, ih]; rfl
    have rows1 : ∀ {G : Hp} {L2 L3 : Addr}, G L2 = some (.lst (iv (List.replicate S.length 0))) → G L3 = some (.lst [.ref L2]) → RowsAt K G L3 (one1 S.length) := fun {G L2 L3} h2 h3 => ⟨false, [L2], .inl (.inl h3), rfl, fun i p hp => ⟨false, by
      cases i with
      | zero =>
        simp at hp
        subst hp
        exact .inl (.inl h2)
      | succ i => simp at hp⟩⟩
    dsimp only [tNext, tSeq, tPar, tCons, tNil, tOp, tLst, tCB]
    refine var_at (v := .str (T S)) rfl ?_
    refine ⟨by show 1 ≤ sizeLine; omega, fun L11 n11 => ?_⟩
    refine var_at (v := .str (T S)) rfl ?_
    refine ⟨by show S.length ≤ sizeLine; omega, ?_⟩
    refine ⟨[.int 0], upd_same, by show -(2 ^ 63) ≤ ((S.length : Nat) : Int); omega, by show ((S.length : Nat) : Int) < 2 ^ 63; omega, by show 1 * ((S.length : Nat) : Int).toNat ≤ sizeLine; omega, fun L21 n21 => ?_⟩
    rw [show (List.replicate (((cs (T S)).length : Nat) : Int).toNat ([.int 0] : List V)).flatten = iv (List.replicate S.length 0) from r1]
    refine ⟨by show 1 ≤ sizeLine; omega, fun L31 n31 => ⟨by show 1 ≤ sizeLine; omega, fun L41 n41 => ⟨rfl, ?_⟩⟩⟩
    have f11 : Same H' (upd H' L11 (.lst [.int 0])) := same_upd n11
    have f21 := f11.trans (same_upd (o := .lst (iv (List.replicate S.length 0))) n21)
    have hh21 := upd_same (H := upd H' L11 (.lst [.int 0])) (a := L21) (o := .lst (iv (List.replicate S.length 0)))
    generalize upd (upd H' L11 (.lst [.int 0])) L21 (.lst (iv (List.replicate S.length 0))) = M21 at f21 hh21 n31 n41 ⊢
    have f31 : Same M21 (upd M21 L31 (.lst [.ref L21])) := same_upd n31
    have hh31 := upd_same (H := M21) (a := L31) (o := .lst [.ref L21])
    generalize upd M21 L31 (.lst [.ref L21]) = M31 at f31 hh31 n41 ⊢
    have f41 : Same M31 (upd M31 L41 (.lst [.bl true])) := same_upd n41
    have hh41 := upd_same (H := M31) (a := L41) (o := .lst [.bl true])
    generalize upd M31 L41 (.lst [.bl true]) = M41 at f41 hh41 ⊢
    refine mach_newN (R := one1 S.length) (Kd := [true]) (ow true) one_wh (rows1 (f41 _ _ (f31 _ _ hh21)) (f41 _ _ hh31)) ⟨false, .inl (.inl hh41)⟩ fun W1 w1 ew1 nw1 mw1 => ?_
    have fw1 := ((f21.trans f31).trans f41).trans ew1
    refine var_at (v := .str (T S)) rfl ?_
    refine ⟨by show 1 ≤ sizeLine; omega, fun L12 n12 => ?_⟩
    refine var_at (v := .str (T S)) rfl ?_
    refine ⟨by show S.length ≤ sizeLine; omega, ?_⟩
    refine ⟨[.int 0], upd_same, by show -(2 ^ 63) ≤ ((S.length : Nat) : Int); omega, by show ((S.length : Nat) : Int) < 2 ^ 63; omega, by show 1 * ((S.length : Nat) : Int).toNat ≤ sizeLine; omega, fun L22 n22 => ?_⟩
    rw [show (List.replicate (((cs (T S)).length : Nat) : Int).toNat ([.int 0] : List V)).flatten = iv (List.replicate S.length 0) from r1]
    refine ⟨by show 1 ≤ sizeLine; omega, fun L32 n32 => ⟨by show 1 ≤ sizeLine; omega, fun L42 n42 => ⟨rfl, ?_⟩⟩⟩
    have f12 : Same W1 (upd W1 L12 (.lst [.int 0])) := same_upd n12
    have f22 := f12.trans (same_upd (o := .lst (iv (List.replicate S.length 0))) n22)
    have hh22 := upd_same (H := upd W1 L12 (.lst [.int 0])) (a := L22) (o := .lst (iv (List.replicate S.length 0)))
    generalize upd (upd W1 L12 (.lst [.int 0])) L22 (.lst (iv (List.replicate S.length 0))) = M22 at f22 hh22 n32 n42 ⊢
    have f32 : Same M22 (upd M22 L32 (.lst [.ref L22])) := same_upd n32
    have hh32 := upd_same (H := M22) (a := L32) (o := .lst [.ref L22])
    generalize upd M22 L32 (.lst [.ref L22]) = M32 at f32 hh32 n42 ⊢
    have f42 : Same M32 (upd M32 L42 (.lst [.bl false])) := same_upd n42
    have hh42 := upd_same (H := M32) (a := L42) (o := .lst [.bl false])
    generalize upd M32 L42 (.lst [.bl false]) = M42 at f42 hh42 ⊢
    refine mach_newN (R := one1 S.length) (Kd := [false]) (ow false) one_wh (rows1 (f42 _ _ (f32 _ _ hh22)) (f42 _ _ hh32)) ⟨false, .inl (.inl hh42)⟩ fun W2 w2 ew2 nw2 mw2 => ?_
    have fw2 := ((f22.trans f32).trans f42).trans ew2
    refine ⟨_, _, rfl, ?_⟩
    have eW := (eA.trans fw1).trans fw2
    have mW1 := mw1.m.ext fw2
    have mW2 := mw2.m
    clear fw1 fw2 mw1 mw2
    have hRm : R.length * (one1 S.length).length ≤ 40 := by show R.length * 1 ≤ 40; omega
    have okRN : ShOk S (rn R (met R 0)) ((met R 0).map fun c => kd Kd c) := by
      have := pr_sh (op := opA) ok (ow true) hRm
      rw [pR_one ok.rows, pK_one ok.rows (fun x => by cases x <;> rfl)] at this
      exact this
    have okRM : ShOk S (rn R (met R 0)) ((met R 0).map fun c => kd (Kd.map not) c) := ⟨ok.let_, okRN.rows, okRN.lo, okRN.hi, by rw [List.length_map, rn_len]⟩
    have ia : ∀ {G : Hp}, Same W2 G → ∃ dx fs, G a = some (.ins C dx fs) := fun e => ⟨_, _, (eW.trans e) _ _ h1⟩
    have im : ∀ {G : Hp} {x : Addr} {Rx : Rows} {Kx : List Bool}, Mach C G x S Rx Kx → ∃ dx fs, G x = some (.ins C dx fs) := fun h => by
      obtain ⟨dy, _, _, _, i1, _⟩ := h
      exact ⟨dy, _, i1⟩
    have inv : ∀ {G : Hp} {x : Addr} {Kx : List Bool} {Q' : VK}, Mach C G x S R Kx → ShOk S R Kx → (∀ G' m, Same G G' → MachN C G G' m S R (Kx.map not) → Q' (.ref m) G') → invI C (spInv C) (.ref x) G Q' := fun {G x Kx Q'} mx okx qx => by
      obtain ⟨dy, _, _, _, i1, _⟩ := id mx
      exact ⟨dy, _, i1, x, S, R, Kx, rfl, mx, okx, wh, fun G' m e _ mN => qx G' m e mN⟩
    dsimp only [tSeq, tAsg, gName, tLst, tCons, tNil, tOp, tUn]
    refine var_at (v := .ref a) rfl ?_
    refine var_at (v := .ref w1) rfl ?_
    refine ⟨ia (Same.refl _), im mW1, a, w1, S, R, one1 S.length, Kd, [true], rfl, mm.ext eW, mW1, ok, ow true, hRm, fun G1 y1 ey1 _ my1 => ⟨y1, rfl, ?_⟩⟩
    refine var_at (v := .ref a) rfl ?_
    refine var_at (v := .ref w2) rfl ?_
    refine ⟨ia ey1, im (mW2.ext ey1), a, w2, S, R, one1 S.length, Kd, [false], rfl, mm.ext (eW.trans ey1), mW2.ext ey1, ok, ow false, hRm, fun G2 y2 ey2 _ my2 => ⟨y2, rfl, ?_⟩⟩
    have g12 := ey1.trans ey2
    refine var_at (v := .ref a) rfl ?_
    refine var_at (v := .ref w2) rfl ?_
    refine ⟨ia g12, im (mW2.ext g12), a, w2, S, R, one1 S.length, Kd, [false], rfl, mm.ext (eW.trans g12), mW2.ext g12, ok, ow false, hRm, fun G3 y3 ey3 _ my3 => ⟨y3, rfl, ?_⟩⟩
    have g13 := g12.trans ey3
    refine var_at (v := .ref a) rfl ?_
    refine inv (mm.ext (eW.trans g13)) ok fun G4 m ey4 mN => ?_
    have g14 := g13.trans ey4
    refine var_at (v := .ref w1) rfl ?_
    refine ⟨im mN.m, im (mW1.ext g14), m, w1, S, R, one1 S.length, Kd.map not, [true], rfl, mN.m, mW1.ext g14, okN, ow true, hRm, fun G5 y5 ey5 _ my5 => ⟨y5, rfl, ?_⟩⟩
    refine ⟨by show 4 ≤ sizeLine; omega, fun L nL => ?_⟩
    have eL : Same G5 (upd G5 L (.lst [.ref y1, .ref y2, .ref y3, .ref y5])) := same_upd nL
    have hL := upd_same (H := G5) (a := L) (o := .lst [.ref y1, .ref y2, .ref y3, .ref y5])
    have g15 := g14.trans ey5
    have gL := g15.trans eL
    have z1 := my1.m
    have z2 := my2.m
    have z3 := my3.m
    have z5 := my5.m
    rw [pR_one ok.rows, pK_one ok.rows (fun x => by cases x <;> rfl)] at z1 z2 z3 z5
    have msL : MsAt C (upd G5 L (.lst [.ref y1, .ref y2, .ref y3, .ref y5])) [y1, y2, y3, y5] S [(rn R (met R 0), (met R 0).map fun c => kd Kd c), (rn R (met R 0), (met R 0).map fun c => kd Kd c), (rn R (met R 0), (met R 0).map fun c => kd Kd c), (rn R (met R 0), (met R 0).map fun c => kd (Kd.map not) c)] :=
      .cons (z1.ext ((((ey2.trans ey3).trans ey4).trans ey5).trans eL)) okRN (.cons (z2.ext (((ey3.trans ey4).trans ey5).trans eL)) okRN (.cons (z3.ext ((ey4.trans ey5).trans eL)) okRN (.cons (z5.ext eL) okRM .nil)))
    generalize upd G5 L (.lst [.ref y1, .ref y2, .ref y3, .ref y5]) = G6 at eL hL gL msL ⊢
    clear my1 my2 my3 my5 z1 z2 z3 z5 mN g15 g14 g13 g12 ey1 ey2 ey3 ey4 ey5 eL
    have eG := eW.trans gL
    refine ⟨fun b H' => b = false ∧ Same G6 H', ?_, fun b H' z => ?_⟩
    · dsimp only [uT, tOp, tLst, tCons, tNil]
      refine var_at (v := .ref L) rfl ?_
      refine ⟨dx, _, eG _ _ h1, mf_none (by decide +kernel) (by decide +kernel) (by decide +kernel), a, S, R, Kd, rfl, mm.ext eG, ok, fun G7 nm e7 _ mNm => ?_⟩
      refine ⟨by show 1 ≤ sizeLine; omega, fun L5 n5 => ⟨[.ref nm], upd_same, by decide, by decide, by show 1 * 3 ≤ sizeLine; omega, fun L6 n6 => ?_⟩⟩
      have e57 : Same G7 (upd G7 L5 (.lst [.ref nm])) := same_upd n5
      have e67 : Same (upd G7 L5 (.lst [.ref nm])) (upd (upd G7 L5 (.lst [.ref nm])) L6 (.lst (List.replicate (3 : Int).toNat ([.ref nm] : List V)).flatten)) := same_upd n6
      have hL6 := upd_same (H := upd G7 L5 (.lst [.ref nm])) (a := L6) (o := .lst (List.replicate (3 : Int).toNat ([.ref nm] : List V)).flatten)
      generalize upd (upd G7 L5 (.lst [.ref nm])) L6 (.lst (List.replicate (3 : Int).toNat ([.ref nm] : List V)).flatten) = G8 at e67 hL6 ⊢
      have e78 := e57.trans e67
      have e68 := e7.trans e78
      dsimp only [uMeth, tUn]
      refine var_at (v := .ref a) rfl ?_
      refine inv (mm.ext (eG.trans e68)) ok fun G9 m9 e9 mN9 => ?_
      obtain ⟨d9, _, _, _, i9, _⟩ := id mN9.m
      refine ⟨d9, _, i9, mf_none (by decide +kernel) (by decide +kernel) (by decide +kernel), m9, S, R, Kd.map not, rfl, mN9.m, okN, fun G10 nm2 e10 _ mNm2 => ?_⟩
      refine ⟨by show 1 ≤ sizeLine; omega, fun L7 n7 => ⟨_, _, (e9.trans (e10.trans (same_upd n7))) _ _ hL6, upd_same, by show 3 + 1 ≤ sizeLine; omega, fun L8 n8 => ?_⟩⟩
      have e11 : Same G10 (upd G10 L7 (.lst [.ref nm2])) := same_upd n7
      have e12' : Same (upd G10 L7 (.lst [.ref nm2])) (upd (upd G10 L7 (.lst [.ref nm2])) L8 (.lst ([nm, nm, nm, nm2].map V.ref))) := same_upd n8
      have eF := e11.trans e12'
      have e810 := e9.trans e10
      have a1 : Mach C (upd (upd G10 L7 (.lst [.ref nm2])) L8 (.lst ([nm, nm, nm, nm2].map V.ref))) nm S (rn R (met R 0)) ((met R 0).map fun c => kd Kd c) := mNm.ext ((e78.trans e810).trans eF)
      have a2 : Mach C (upd (upd G10 L7 (.lst [.ref nm2])) L8 (.lst ([nm, nm, nm, nm2].map V.ref))) nm2 S (rn R (met R 0)) ((met R 0).map fun c => kd (Kd.map not) c) := mNm2.ext eF
      have eAll := (e68.trans e810).trans eF
      refine ⟨L, L8, [y1, y2, y3, y5].map V.ref, [nm, nm, nm, nm2].map V.ref, rfl, rfl, eAll _ _ hL, upd_same, (msL.ext eAll).prs (.cons a1 okRN (.cons a1 okRN (.cons a1 okRN (.cons a2 okRM .nil)))), fun H' e => ⟨rfl, eAll.trans e⟩⟩
    obtain ⟨rfl, eB⟩ := z
    refine Br.no ?_
    have eH := eG.trans eB
    have mX1 := mW1.ext (gL.trans eB)
    have mX2 := mW2.ext (gL.trans eB)
    clear msL hL nL gL eG eW mW1 mW2
    have kdn : ∀ is, Col S.length is → kd (Kd.map not) (go R 0 is) = !kd Kd (go R 0 is) := fun is c => by
      have lo := ok.lo
      have h0 := kd_some ok.kinds (go_lt ok.rows (p := 0) (by omega) c)
      show (Kd.map not).getD (go R 0 is) false = _
      rw [List.getD_eq_getElem?_getD, List.getElem?_map, h0]; rfl
    have hRR : R.length * R.length ≤ 40 := Nat.le_trans (Nat.mul_le_mul h6 h6) (by decide)
    have hR1 : R.length * (one1 S.length).length ≤ 40 := by show R.length * 1 ≤ 40; omega
    have s1 : SameL S.length (pR R R) (pK opO R R Kd (Kd.map not)) 0 (one1 S.length) [true] 0 := fun is c => by
      rw [pk_go ok okN c, kdn is c, go_one1 ok.let_ c]; cases kd Kd (go R 0 is) <;> rfl
    have s2 : SameL S.length (pR R R) (pK opA R R Kd (Kd.map not)) 0 (one1 S.length) [false] 0 := fun is c => by
      rw [pk_go ok okN c, kdn is c, go_one1 ok.let_ c]; cases kd Kd (go R 0 is) <;> rfl
    have s3 : SameL S.length (pR R (one1 S.length)) (pK opS R (one1 S.length) Kd [true]) 0 (one1 S.length) [false] 0 := fun is c => by
      rw [pk_go ok (ow true) c, go_one1 ok.let_ c]; cases kd Kd (go R 0 is) <;> rfl
    have inn : ∀ {G : Hp} {x : Addr} {Rx : Rows} {Kx : List Bool}, Mach C G x S Rx Kx → ∃ dx fs, G x = some (.ins C dx fs) := fun h => by
      obtain ⟨dy, _, _, _, i1, _⟩ := h
      exact ⟨dy, _, i1⟩
    refine ⟨fun b G => b = false ∧ Same H' G, ?_, fun b G z => ?_⟩
    · dsimp only [uOr, uT, tOp, tUn, tCons, tNil, tNot, uCall]
      refine var_at (v := .ref a) rfl ?_
      refine var_at (v := .ref a) rfl ?_
      refine inv (mm.ext eH) ok fun G1 x1 f1 q1 => ?_
      refine ⟨inn (mm.ext (eH.trans f1)), inn q1.m, a, x1, S, R, R, Kd, Kd.map not, rfl, mm.ext (eH.trans f1), q1.m, ok, okN, hRR, fun G2 x2 f2 _ q2 => ⟨x2, rfl, ?_⟩⟩
      have f12 := f1.trans f2
      refine var_at (v := .ref w1) rfl ?_
      refine ⟨x2, w1, S, _, _, _, _, rfl, q2.m, mX1.ext f12, pr_sh ok okN hRR, ow true, s1, fun G3 f3 => ?_⟩
      refine Br.no ?_
      have f13 := f12.trans f3
      refine var_at (v := .ref a) rfl ?_
      refine var_at (v := .ref a) rfl ?_
      refine inv (mm.ext (eH.trans f13)) ok fun G4 x4 f4 q4 => ?_
      have f14 := f13.trans f4
      refine ⟨inn (mm.ext (eH.trans f14)), inn q4.m, a, x4, S, R, R, Kd, Kd.map not, rfl, mm.ext (eH.trans f14), q4.m, ok, okN, hRR, fun G5 x5 f5 _ q5 => ⟨x5, rfl, ?_⟩⟩
      have f15 := f14.trans f5
      refine var_at (v := .ref w2) rfl ?_
      refine ⟨x5, w2, S, _, _, _, _, rfl, q5.m, mX2.ext f15, pr_sh ok okN hRR, ow false, s2, fun G6 f6 => ?_⟩
      refine Br.no ?_
      have f16 := f15.trans f6
      first | dsimp only [uT, tOp, tUn, tCons, tNil, tNot, uCall] | skip
      refine var_at (v := .ref a) rfl ?_
      refine var_at (v := .ref w1) rfl ?_
      refine ⟨inn (mm.ext (eH.trans f16)), inn (mX1.ext f16), a, w1, S, R, one1 S.length, Kd, [true], rfl, mm.ext (eH.trans f16), mX1.ext f16, ok, ow true, hR1, fun G7 x7 f7 _ q7 => ⟨x7, rfl, ?_⟩⟩
      have f17 := f16.trans f7
      refine var_at (v := .ref w2) rfl ?_
      exact ⟨x7, w2, S, _, _, _, _, rfl, q7.m, mX2.ext f17, pr_sh ok (ow true) hR1, ow false, s3, fun G8 f8 => ⟨rfl, f17.trans f8⟩⟩
    obtain ⟨rfl, eC1⟩ := z
    refine Br.no ?_
    have eI := eH.trans eC1
    dsimp only [tRet, tNext, tSeq, tCB, tCons, tNil]
    refine lc_mapS (K := K) (α := List Nat) (enc := fun t => .str (T t)) (out := fun _ => V.bl true) (ls := Ts) (a := l) (H1 := G) (fun R' h => h) (eI _ _ hTs) (by omega) (fun G1 x hx e Qy hy => ?_) (fun D G2 nD e hD => ?_)
    · obtain ⟨lx, cx⟩ := hch x hx
      have e1 := eI.trans e
      refine ⟨rfl, ?_⟩
      dsimp only [tOp, uMeth, tUn, tCons, tNil]
      refine var_at (v := .ref a) rfl ?_
      refine inv (mm.ext e1) ok fun G3 m f1 q1 => ?_
      obtain ⟨dm, _, _, _, i1, _⟩ := id q1.m
      refine ⟨dm, _, i1, mf_none (by decide +kernel) (by decide +kernel) (by decide +kernel), m, x, S, R, Kd.map not, rfl, q1.m, okN.mok, cx, lx, fun G4 f2 => ?_⟩
      have e2 := (e1.trans f1).trans f2
      refine var_at (v := .ref a) rfl ?_
      refine ⟨dx, _, e2 _ _ h1, mf_none (by decide +kernel) (by decide +kernel) (by decide +kernel), a, x, S, R, Kd, rfl, mm.ext e2, ok.mok, cx, lx, fun G5 f3 => ?_⟩
      have hn : (Kd.map not).getD (led S R 0 x) false = !Kd.getD (led S R 0 x) false := by
        have := kdn _ (col_idx cx)
        rw [← led_go] at this
        exact this
      rw [hn]
      have hq := hy G5 ((f1.trans f2).trans f3)
      cases Kd.getD (led S R 0 x) false
      · exact hq
      · exact hq
    · refine ⟨Ts.map fun _ => true, .inl (.inl (by rw [hD, List.map_map]; rfl)), ?_⟩
      have : (Ts.map fun _ => true).all id = true := by simp
      show Q (.bl ((Ts.map fun _ => true).all id)) G2
      rw [this]
      exact q _ (eI.trans e)
end
end LK

/-! a list taken apart; lists of machines and of sheets -/
namespace LK
open PySem PySem.Spec PyProof.Rows L2 LamX ClX
open scoped List
/-- (a, b, ..) = a list of that length -/
def gLst (K : PySem.W.Frag) (n : Nat) (t : TGs) : TG := fun v σ H Q => ∃ a xs, v = .ref a ∧ SqL K H a xs ∧ xs.length = n ∧ t xs σ H Q
theorem pg_lst {X : Cx} {es : List Expr} {k : Nat} {t : TGs} {n : Nat} {pos : Pos} (hc : X.calm = true) (h : PGs X es t)
    (hn : (assignEach es X.env).length = n := by rfl) (hst : (assignEach es X.env).findIdx? (·.1) = none := by rfl) : PG X (.Tuple es k pos) (gLst X.K n t) := by
  refine ⟨fun pins s σ H v u Q I r hw => ?_⟩
  obtain ⟨a, xs, e1, hq, hl, hw⟩ := hw
  subst e1
  cases r
  obtain ⟨its, rv, ⟨o, m, ho, hc1, _, hd⟩, hz⟩ := I.list hq
  have hl2 : s.heap.IsList a its.toArray := ⟨o, ho, hc1, m, hd⟩
  rw [PyProof.Rows.assign_Tuple]
  refine wpAny_bind (wpAny_standAt ?_)
  unfold unpack
  rw [hst, show (assignEach es X.env).length = its.toArray.size by simp [hn, ← hl, rv.length]]
  refine wpAny_bind (wpAny_holding (PySem.W.kun_itemsOf (I.ok.hd hc) hl2 fun h' hx => ?_))
  have I1 : Inv X pins σ H { s with heap := h' } := I.kept (t' := s.toks) fun b o e => hx b o (Nat.ne_of_lt (Heap.lt_size e)) e
  exact h.run pins _ σ H xs _ Q I1 (by simpa using rv) hw
section
variable {K : PySem.W.Frag} {g : TG} {te : TE} {tb : TS} {D : Ends} {σ : L2.St} {H H1 : Hp} {vs : List Nat} {Q : VK} {t : TE}
def LoopS (K : PySem.W.Frag) (g : TG) (tb : TS) (D : Ends) (σ : L2.St) : VK := fun x H1 => ∃ a xs tp, x = .ref a ∧ SqB K tp H1 a xs ∧ ∃ Iv : List V → L2.St → Hp → Prop, (∀ pre σ H, Iv pre σ H → SqB K tp H a xs) ∧ Iv [] σ H1 ∧
  (∀ pre x suf σ H, xs = pre ++ x :: suf → Iv pre σ H → g x σ H fun σ2 H2 => tb { D with nx := Iv (pre ++ [x]), ct := Iv (pre ++ [x]), bk := D.nx } σ2 H2) ∧ (∀ σ H, Iv xs σ H → D.nx σ H)
/-- a for over a list or a tuple, wherever it comes to lie -/
theorem forM_sq (h : t σ H (LoopS K g tb D σ)) : tFor (iSq K (cl t)) g tb D σ H := by
  refine ⟨_, h, fun v H' z => ?_⟩
  obtain ⟨a, xs, tp, rfl, hx, Iv, h1, h2, h3, h4⟩ := z
  exact ⟨tp, xs, hx, for_wk wk_sq Iv h1 h2 h3 h4⟩
/-- a comprehension over a range whose items are values -/
theorem lc_rngMap {t : TA} {n : Nat} {out : Nat → V} (h : ∀ R : List V → Hp → Prop, R [.int n] H1 → t σ H R) (hn : n < 1000000)
    (hs : ∀ i H', i < n → Same H1 H' → ∀ Qy : VK, (∀ H'', Same H' H'' → Qy (out i) H'') → g (.int i) (wipe σ vs) H' fun σ2 H2 => wipe σ2 vs = wipe σ vs ∧ te σ2 H2 Qy)
    (he : ∀ D H', H1 D = none → Same H1 H' → H' D = some (.lst ((List.range n).map out)) → Q (.ref D) H') : tLc (iRng1 t) g tYes te vs σ H Q := by
  have sl := sizeLine_eq
  refine lc_rng (n := n) h hn (fun D i acc H' => acc = (List.range i).map out ∧ Same H1 H' ∧ H' D = some (.lst acc)) (fun D nD => ⟨rfl, same_upd nD, upd_same⟩) (fun D nD i acc H' hi r => ?_) (fun D nD acc H' r => ?_)
  · obtain ⟨rfl, e, hD⟩ := r
    refine hs i H' hi e _ fun H'' e2 => ⟨_, e2 _ _ hD, by rw [List.length_map, List.length_range]; omega, _, ?_, same_upd2 (e.trans e2) nD, upd_same⟩
    rw [List.range_succ, List.map_append]; rfl
  · obtain ⟨rfl, e, hD⟩ := r
    exact he D H' nD e hD
/-- .. whose items are new rows -/
theorem lc_rngRows {t : TA} {n : Nat} {f : Nat → List Nat} (h : ∀ R : List V → Hp → Prop, R [.int n] H1 → t σ H R) (hn : n < 1000000)
    (hs : ∀ i H', i < n → Same H1 H' → ∀ Qy : VK, (∀ H'' q, Same H' H'' → H' q = none → H'' q = some (.lst (iv (f i))) → Qy (.ref q) H'') → g (.int i) (wipe σ vs) H' fun σ2 H2 => wipe σ2 vs = wipe σ vs ∧ te σ2 H2 Qy)
    (he : ∀ D H' (rs : List Addr), H1 D = none → Same H1 H' → H' D = some (.lst (rs.map V.ref)) → rs.length = n → (∀ i q, rs[i]? = some q → H1 q = none ∧ H' q = some (.lst (iv (f i)))) → Q (.ref D) H') : tLc (iRng1 t) g tYes te vs σ H Q := by
  have sl := sizeLine_eq
  refine lc_rng (n := n) h hn (fun D i acc H' => ∃ rs : List Addr, acc = rs.map V.ref ∧ rs.length = i ∧ Same H1 H' ∧ H' D = some (.lst acc) ∧ ∀ j q, rs[j]? = some q → q ≠ D ∧ H1 q = none ∧ H' q = some (.lst (iv (f j))))
    (fun D nD => ⟨[], rfl, rfl, same_upd nD, upd_same, fun j q z => (nil_none z).elim⟩) (fun D nD i acc H' hi r => ?_) (fun D nD acc H' r => ?_)
  · obtain ⟨rs, rfl, lr, e, hD, hr⟩ := r
    refine hs i H' hi e _ fun H'' q e2 nq hq => ?_
    have nDq : D ≠ q := ne_of_none hD nq
    have hq1 : H1 q = none := Same.free e nq
    refine ⟨_, e2 _ _ hD, by rw [List.length_map]; omega, _, rs ++ [q], by rw [List.map_append]; rfl, by rw [List.length_append, lr]; rfl, same_upd2 (e.trans e2) nD, upd_same, fun j q' hj => ?_⟩
    by_cases hlt : j < rs.length
    · rw [List.getElem?_append_left hlt] at hj
      obtain ⟨a1, a2, a3⟩ := hr j q' hj
      exact ⟨a1, a2, by rw [upd_ne a1]; exact e2 _ _ a3⟩
    · rw [List.getElem?_append_right (by omega)] at hj
      have e6 : j - rs.length = 0 := by
        have := (List.getElem?_eq_some_iff.mp hj).1
        simp at this; omega
      rw [e6] at hj
      obtain rfl : q = q' := by simpa using hj
      have : j = i := by omega
      subst this
      exact ⟨nDq.symm, hq1, by rw [upd_ne nDq.symm]; exact hq⟩
  · obtain ⟨rs, rfl, lr, e, hD, hr⟩ := r
    exact he D H' rs nD e hD lr fun i q hq => (hr i q hq).2
/-- sheets in a row -/
def ShsAt (H : Hp) (ts : List Addr) (S : List Nat) (ps : List (Rows × List Bool)) : Prop := ts.length = ps.length ∧ ∀ (i : Nat) (t : Addr) (g : Rows × List Bool), ts[i]? = some t → ps[i]? = some g → SheetAt H t g.1 g.2 ∧ ShOk S g.1 g.2 ∧ Whole g.1
theorem ShsAt.ext {H H' : Hp} {ts : List Addr} {S : List Nat} {ps : List (Rows × List Bool)} (h : ShsAt H ts S ps) (e : Same H H') : ShsAt H' ts S ps := ⟨h.1, fun i t g a b => ⟨(h.2 i t g a b).1.ext e, (h.2 i t g a b).2⟩⟩
/-- a comprehension that makes a machine of each sheet -/
theorem lc_rigs {C L : Addr} {S : List Nat} {ts : List Addr} {ps : List (Rows × List Bool)} (h : ∀ R : VK, R (.ref L) H1 → t σ H R) (hL : H1 L = some (.lst (ts.map V.ref))) (hn : ts.length < 1000) (sh : ShsAt H1 ts S ps)
    (hs : ∀ H' t R Kd, Same H1 H' → SheetAt H' t R Kd → ShOk S R Kd → Whole R → ∀ Qy : VK, (∀ H'' m, Same H' H'' → H' m = none → MachN C H' H'' m S R Kd → Qy (.ref m) H'') → g (.ref t) (wipe σ vs) H' fun σ2 H2 => wipe σ2 vs = wipe σ vs ∧ te σ2 H2 Qy)
    (he : ∀ D H' ms, H1 D = none → Same H1 H' → H' D = some (.lst (ms.map V.ref)) → MsAt C H' ms S ps → Q (.ref D) H') : tLc (iList K t) g tYes te vs σ H Q := by
  have sl := sizeLine_eq
  refine lc_list (K := K) (a := L) (xs := ts.map V.ref) (H1 := H1) h (.inl (.inl hL)) (fun D pre acc H' => ∃ (us ms : List Addr), us <+: ts ∧ pre = us.map V.ref ∧ acc = ms.map V.ref ∧ ms.length = us.length ∧ Same H1 H' ∧ H' D = some (.lst acc) ∧
      ∀ G : Hp, But1 (at1 D) H' G → MsAt C G ms S (ps.take us.length))
    (fun D pre acc H' r => ?_) (fun D nD => ⟨[], [], List.nil_prefix, rfl, rfl, rfl, same_upd nD, upd_same, fun G _ => by simpa using MsAt.nil⟩) (fun D nD pre acc x suf H' ex r => ?_) (fun D nD acc H' r => ?_)
  · obtain ⟨_, _, _, _, _, _, e, _⟩ := r
    exact .inl (.inl (e _ _ hL))
  · obtain ⟨us, ms, px, rfl, rfl, lm, e, hD, hG⟩ := r
    obtain ⟨us', u, q, et, ep, rfl⟩ := split_map (enc := V.ref) ex
    have : us = us' := by
      have := congrArg (List.map fun v => match v with | V.ref a => a | _ => 0) ep
      simpa [List.map_map, Function.comp_def] using this
    subst this
    have lu : us.length < ts.length := by rw [et]; simp
    have hu : ts[us.length]? = some u := by rw [et]; simp
    obtain ⟨gp, hg⟩ : ∃ gp, ps[us.length]? = some gp := ⟨_, List.getElem?_eq_getElem (by rw [← sh.1]; exact lu)⟩
    obtain ⟨s1, s2, s3⟩ := sh.2 _ _ _ hu hg
    refine hs H' u gp.1 gp.2 e (s1.ext e) s2 s3 _ fun H'' m e2 nm mm => ?_
    have old : Old (at1 D) H' := fun b z => ⟨_, z ▸ hD⟩
    refine ⟨_, e2 _ _ hD, by rw [List.length_map]; omega, _, us ++ [u], ms ++ [m], ⟨q, by rw [et]; simp⟩, by rw [List.map_append]; rfl, by rw [List.map_append]; rfl, by rw [List.length_append, List.length_append, lm]; rfl, same_upd2 (e.trans e2) nD, upd_same, fun G bG => ?_⟩
    have bG2 : But1 (at1 D) H'' G := fun b o nb hb => bG b o nb (by rw [upd_ne nb]; exact hb)
    have := (hG G fun b o nb hb => bG2 b o nb (e2 _ _ hb)).app (machN_but mm nm old bG2) s2
    rw [List.length_append, List.length_singleton, List.take_add_one, hg]
    exact this
  · obtain ⟨us, ms, px, ep, rfl, lm, e, hD, hG⟩ := r
    have lu : us.length = ts.length := by have := congrArg List.length ep; simpa using this.symm
    have := hG H' fun b o _ hb => hb
    rw [lu, sh.1, List.take_length] at this
    exact he D H' ms nD e hD this
end
/-! rings -/
def rR (n : Nat) : Rows := (List.range n).map fun i => [(i + 1) % n, 0]
def rK (n : Nat) : List Bool := (List.range n).map fun (i : Nat) => decide ((i : Int) = (n : Int) - 1)
theorem ring_ok (n : Nat) (h1 : 1 ≤ n) (h5 : n ≤ 5) : ShOk [97, 98] (rR n) (rK n) ∧ Whole (rR n) ∧ (rR n).length = n := by
  have lt : LetOk [97, 98] := ⟨by show List.Pairwise (· < ·) _; decide, by show ∀ c ∈ _, c ∈ smalls; decide +kernel, by decide, by decide⟩
  have lR : (rR n).length = n := by rw [rR, List.length_map, List.length_range]
  refine ⟨⟨lt, ⟨fun r hr => ?_, fun r hr g hg => ?_⟩, by omega, by omega, by rw [rK, List.length_map, List.length_range, lR]⟩, ?_, lR⟩
  · obtain ⟨i, _, rfl⟩ := List.mem_map.mp hr
    rfl
  · obtain ⟨i, _, rfl⟩ := List.mem_map.mp hr
    have := Nat.mod_lt (i + 1) h1
    simp only [List.mem_cons, List.not_mem_nil, or_false] at hg
    rcases hg with rfl | rfl <;> omega
  · have : n = 1 ∨ n = 2 ∨ n = 3 ∨ n = 4 ∨ n = 5 := by omega
    unfold Whole
    rcases this with rfl | rfl | rfl | rfl | rfl <;> decide +kernel
end LK

/-! _law_ring_right, _law_right, law -/
namespace LK
open PySem PySem.Spec PyProof.Rows L2 LamX ClX
open scoped List
abbrev nRing : List Str := ["_law_pot_here", "_law_few", "_law_many", "_law_sheets", "_law_size", "_law_rows", "_law_one", "_law_other", "_law_sheet_here", "_law_place"]
theorem scRing : FnScope nRing ["_law_pot_here"] (defScope sRing) := ⟨rfl, rfl, rfl, by decide +kernel, rfl, by decide +kernel, by decide +kernel⟩
def four4 : List (List Nat) := [[97], [97, 98], [98, 113], [97, 98, 99]]
theorem four4_ok : ∀ S ∈ four4, LetOk S := by
  intro S h
  simp only [four4, List.mem_cons, List.mem_nil_iff, or_false] at h
  rcases h with rfl | rfl | rfl | rfl
  all_goals exact ⟨by show List.Pairwise (· < ·) _; decide, by show ∀ c ∈ _, c ∈ smalls; decide +kernel, by decide, by decide⟩
abbrev nRgt : List Str := ["_law_pot_here", "_law_signs", "_law_sheets", "_law_rigs", "_law_texts_here", "_law_at", "_law_k", "_law_small", "_law_three", "_law_sheet_here", "_law_turn"]
theorem scRgt : FnScope nRgt ["_law_pot_here"] (defScope sRight) := ⟨rfl, rfl, rfl, by decide +kernel, rfl, by decide +kernel, by decide +kernel⟩
section
variable {P : Program} {w : World} {K : PySem.W.Frag} {mg : Str → Option Value} {base : Heap} {C : Addr} (TT : List (Addr × Str))
def spRing : Sp := fun vs H Q _ => ∃ (p : Addr), vs = [.ref p] ∧ Pot H p ∧ ∀ H', Ex TT (at1 p) H H' → Q (.bl true) H'
theorem ok_ring {f : Addr} {fd : FuncData} {k : Nat} (F : Fun K "_law_ring_right" "_law_ring_right" sRing f fd) (M : Mx mg) (HD : Has P w K mg base (k + 1) "_law_draw" ["_law_pot_here", "_law_sides"] (spDraw TT)) (HI : HasI P w K mg base k "Machine" C ["letters", "rows", "kinds"] (spInit K C))
    (HTR : Has P w K mg base (k + 1) "_law_two_right" ["_law_signs", "_law_sheets", "_law_one", "_law_other", "_law_texts_here"] (spTwoR C)) (HTx : Has P w K mg base (k + 1) "_law_texts" ["_law_signs", "_law_most"] spTexts) :
    FnG P w K mg base CX0 (k + 2) f fd ["_law_pot_here"] (spRing TT) := by
  refine okG F scRing (fun vs H Q E h => ?_) (fun cdv A hA outer s H vs Q E hr h => ?_)
  · obtain ⟨p, rfl, _⟩ := h; rfl
  · obtain ⟨p, rfl, hp, q⟩ := h
    have nd := scRing.nd
    have sl := sizeLine_eq
    refine ⟨_, (pss_cons (ps_par (i := 1) (j := 2) (by rfl) nd rfl rfl (by decide) rfl rfl (pa_cons (pe_op o_add pe_int (pe_callH HD hA hr (by rfl) (pa_cons (uv 0) (pa_cons pe_int pa_nil)))) (pa_cons (pe_op o_add pe_int (pe_callH HD hA hr (by rfl) (pa_cons (uv 0) (pa_cons pe_int pa_nil)))) pa_nil)) (by rfl))
      (pss_cons (ps_set (i := 3) nd rfl (.inl rfl) (pe_lst pa_nil))
      (pss_cons (ps_for PassesOwn.never rfl (pi_sqK (K := K) rfl (pe_cl (pe_tup (pa_cons (uv 1) (pa_cons (uv 2) pa_nil))))) (pg_name (i := 4) nd rfl (.inr rfl))
        (pss_cons (ps_setLc (i := 5) (own := [("_law_place", 9)]) (g := gName 9) (by rfl) nd rfl rfl (sw_true rfl rfl rfl (by decide +kernel)) (pi_range1 (by rfl) M.range (pa_cons (uv 4) pa_nil))
          (blkOk_by (N := nRing) (sc := defScope sRing) (by decide +kernel))
          (fun _ _ _ _ _ => pg_name (i := 9) nd rfl (Or.inl rfl)) (fun _ _ _ _ _ => pts_nil)
          (fun _ _ _ _ _ => (pe_lst (pa_cons (pe_op o_mod (pe_callTy (r := intU) c_int (by rfl) M.int b_int (pa_cons (pe_op o_add (uv 9) pe_int) pa_nil)) (pe_callTy (r := intU) c_int (by rfl) M.int b_int (pa_cons (uv 4) pa_nil))) (pa_cons pe_int pa_nil)))))
      (pss_one (ps_expr (pe_bm PySem.F.plainAttrs_list PySem.F.slot_list_append PySem.F.type_list_append mt_append (uv 3) (pa_cons (pe_tup (pa_cons (uv 5) (pa_cons (pe_lc (own := [("_law_place", 9)]) (g := gName 9) (tt := tYes) rfl nd (pi_range1 (by rfl) M.range (pa_cons (uv 4) pa_nil)) (blkOk_by (N := nRing) (sc := defScope sRing) (by decide +kernel))
          (fun _ _ _ _ _ => pg_name (i := 9) nd rfl (Or.inl rfl)) (fun _ _ _ _ _ => pts_nil)
          (fun _ _ _ _ _ => (pe_cu (r := eqU K false) (o_eq hr.units) (uv 9) (pe_op o_sub (uv 4) pe_int)))) pa_nil))) pa_nil))))))
      (pss_cons (ps_asg (pe_lc (own := [("_law_sheet_here", 8)]) (g := gName 8) (tt := tYes) rfl nd (pi_listK (K := K) rfl (uv 3)) (blkOk_by (N := nRing) (sc := defScope sRing) (by decide +kernel))
          (fun _ _ _ _ _ => pg_name (i := 8) nd rfl (Or.inl rfl)) (fun _ _ _ _ _ => pts_nil)
          (fun _ _ _ _ _ => (pe_mkI HI hA hr (by rfl) (pa_cons (ustr [97, 98]) (pa_cons (pe_ixK (K := K) rfl (uv 8) pe_int) (pa_cons (pe_ixK (K := K) rfl (uv 8) pe_int) pa_nil)))))) (pg_lst rfl (pgs_cons (pg_name (i := 6) nd rfl (.inl rfl)) (pgs_cons (pg_name (i := 7) nd rfl (.inl rfl)) pgs_nil))) rfl)
      (pss_one (ps_ret (pe_callH HTR hA hr (by rfl) (pa_cons (ustr [97, 98]) (pa_cons (uv 3) (pa_cons (uv 6) (pa_cons (uv 7) (pa_cons (pe_callH HTx hA hr (by rfl) (pa_cons (ustr [97, 98]) (pa_cons pe_int pa_nil))) pa_nil)))))))))))), ?_⟩
    refine ⟨p, 4, rfl, by omega, by omega, hp, fun H1 d1 e1 hp1 hd1 => ?_⟩
    refine ⟨p, 5, rfl, by omega, by omega, hp1, fun H2 d2 e2 hp2 hd2 => ⟨_, _, rfl, ?_⟩⟩
    obtain ⟨n1, hn1, l1, u1⟩ : ∃ n : Nat, (1 + (d1 : Int)) = (n : Int) ∧ 1 ≤ n ∧ n ≤ 4 := ⟨d1 + 1, by omega, by omega, by omega⟩
    obtain ⟨n2, hn2, l2, u2⟩ : ∃ n : Nat, (1 + (d2 : Int)) = (n : Int) ∧ 1 ≤ n ∧ n ≤ 5 := ⟨d2 + 1, by omega, by omega, by omega⟩
    rw [hn1, hn2]
    have e12 := e1.trans e2
    clear hn1 hn2 hd1 hd2 d1 d2 e1 e2 hp1
    dsimp only [tSeq, tAsg, gName]
    refine ⟨by show 0 ≤ sizeLine; omega, fun L nL => ?_⟩
    have eL : Same H2 (upd H2 L (.lst [])) := same_upd nL
    have hL : (upd H2 L (.lst [])) L = some (.lst []) := upd_same
    generalize upd H2 L (.lst []) = H3 at eL hL
    refine forM_sq ?_
    refine ⟨by show 2 ≤ sizeLine; omega, fun U nU => ?_⟩
    have eU : Same H3 (upd H3 U (.tup [.int n1, .int n2])) := same_upd nU
    have hU : (upd H3 U (.tup [.int n1, .int n2])) U = some (.tup [.int n1, .int n2]) := upd_same
    have hL4 := eU _ _ hL
    have e34 := eL.trans eU
    generalize upd H3 U (.tup [.int n1, .int n2]) = H4 at eU hU hL4 e34
    clear eL eU hL nU
    refine ⟨U, [.int n1, .int n2], true, rfl, .inl (.inl hU), (fun pre σ H' => ∃ (ns : List Nat) (ts : List Addr) (y4 y5 : Option V), pre = iv ns ∧ ts.length = ns.length ∧ Same H2 H' ∧ H' U = some (.tup [.int n1, .int n2]) ∧ H' L = some (.lst (ts.map V.ref)) ∧
      (∀ (i : Nat) (t : Addr) (n : Nat), ts[i]? = some t → ns[i]? = some n → SheetF (at1 L) H' t (rR n) (rK n)) ∧ σ = [some (.ref p), some (.int n1), some (.int n2), some (.ref L), y4, y5, none, none, none, none]),
      (fun pre σ H' h => ?_), ⟨[], [], none, none, rfl, rfl, e34, hU, hL4, (fun i t n z => (nil_none z).elim), rfl⟩, (fun pre x suf σ H' ex h => ?_), (fun σ H' h => ?_)⟩
    · obtain ⟨_, _, _, _, _, _, _, h, _⟩ := h
      exact .inl (.inl h)
    · obtain ⟨ns, ts, y4, y5, rfl, lt, e, hU', hL', hsh, rfl⟩ := h
      obtain ⟨n, rfl, ln, un⟩ : ∃ n : Nat, x = .int n ∧ 1 ≤ n ∧ n ≤ 5 := by
        have hx : x ∈ [V.int n1, V.int n2] := by rw [ex]; simp
        simp only [List.mem_cons, List.not_mem_nil, or_false] at hx
        rcases hx with rfl | rfl
        · exact ⟨n1, rfl, l1, by omega⟩
        · exact ⟨n2, rfl, l2, u2⟩
      have l2' : ts.length < 2 := by
        have := congrArg List.length ex
        simp at this
        omega
      dsimp only [gName, tSeq]
      refine lc_rngRows (n := n) (H1 := H') (f := fun i => [(i + 1) % n, 0]) (by exact fun _ h => h) (by omega) (fun i G hi eG Qy hq => ?_) (fun D G rs nD eG hD lrs hrs => ?_)
      · refine ⟨rfl, by omega, by show 2 ≤ sizeLine; omega, fun r nr => hq _ r (same_upd nr) nr ?_⟩
        rw [upd_same]
        show some (HO.lst [V.int (((i : Int) + 1) % (n : Int)), V.int 0]) = _
        have : (((i : Int) + 1) % (n : Int)) = (((i + 1) % n : Nat) : Int) := by rw [Int.natCast_emod]; rfl
        rw [this]; rfl
      · have hLG := eG _ _ hL'
        have hUG := eG _ _ hU'
        have nDL : D ≠ L := (ne_of_none hL' nD).symm
        refine ⟨.inl ⟨rfl, _, .inl (.inl hLG)⟩, ?_⟩
        dsimp only [tTup, tCons]
        refine var_at (v := .ref D) rfl ?_
        refine lc_rngMap (n := n) (H1 := G) (out := fun (i : Nat) => V.bl (decide ((i : Int) = (n : Int) - 1))) (by exact fun _ h => h) (by omega) (fun i G2 hi eG2 Qy hq => ⟨rfl, hq G2 (Same.refl _)⟩) (fun B G2 nB eG2 hB => ?_)
        refine ⟨by show 2 ≤ sizeLine; omega, fun t nt => ?_⟩
        have hLG2 := eG2 _ _ hLG
        have nBL : B ≠ L := (ne_of_none hLG nB).symm
        have ntL : t ≠ L := (ne_of_none hLG2 nt).symm
        have eT : Same G2 (upd G2 t (.tup [.ref D, .ref B])) := same_upd nt
        have hT : (upd G2 t (.tup [.ref D, .ref B])) t = some (.tup [.ref D, .ref B]) := upd_same
        dsimp only [tNil]
        generalize upd G2 t (.tup [.ref D, .ref B]) = G3 at eT hT
        have eG3 := (eG.trans eG2).trans eT
        refine ⟨L, _, _, rfl, rfl, eT _ _ hLG2, by rw [List.length_map]; omega, ?_⟩
        have shN : SheetF (at1 L) G3 t (rR n) (rK n) := by
          refine ⟨D, B, rs, ntL, nDL, nBL, (fun q hq z => ?_), hT, (eG2.trans eT) _ _ hD, ?_, by rw [lrs]; exact (ring_ok n ln un).2.2.symm, fun i q hq => ?_⟩
          · obtain ⟨i, hi⟩ := List.mem_iff_getElem?.mp hq
            have := (hrs i q hi).1
            rw [z, hL'] at this; cases this
          · rw [eT _ _ hB, rK, List.map_map]; rfl
          · have li : i < n := by rw [← lrs]; exact (List.getElem?_eq_some_iff.mp hq).1
            rw [(eG2.trans eT) _ _ (hrs i q hq).2]
            have : gls (rR n) i = [(i + 1) % n, 0] := by
              unfold gls rR
              rw [List.getD_eq_getElem?_getD, List.getElem?_map, List.getElem?_range li]; rfl
            rw [this]
        refine ⟨ns ++ [n], ts ++ [t], _, _, by rw [iv_app]; rfl, by rw [List.length_append, List.length_append, lt]; rfl, ?_, ?_, ?_, fun i t' n' h1 h2 => ?_, rfl⟩
        · exact same_upd2 (e.trans eG3) nL
        · rw [upd_ne (fun z => by rw [z, hL'] at hU'; cases hU')]; exact eG3 _ _ hU'
        · rw [upd_same, List.map_append]; rfl
        · refine SheetF.but (H := G3) ?_ fun b o nb hb _ => by rw [upd_ne nb]; exact hb
          by_cases hlt : i < ts.length
          · rw [List.getElem?_append_left hlt] at h1
            rw [List.getElem?_append_left (by omega)] at h2
            exact (hsh i t' n' h1 h2).but fun b o _ hb _ => eG3 _ _ hb
          · rw [List.getElem?_append_right (by omega)] at h1
            have e6 : i - ts.length = 0 := by
              have := (List.getElem?_eq_some_iff.mp h1).1
              simp at this; omega
            rw [List.getElem?_append_right (by omega)] at h2
            rw [e6] at h1
            rw [show i - ns.length = 0 by omega] at h2
            obtain rfl : t = t' := by simpa using h1
            obtain rfl : n = n' := by simpa using h2
            exact shN
    · obtain ⟨ns, ts, y4, y5, ens, lt, e, hU', hL', hsh, rfl⟩ := h
      obtain rfl : ns = [n1, n2] := by
        have : iv [n1, n2] = iv ns := ens
        exact (iv_inj this).symm
      obtain ⟨k1, w1, r1⟩ := ring_ok n1 l1 (by omega)
      obtain ⟨k2, w2, r2⟩ := ring_ok n2 l2 u2
      obtain ⟨t1, t2, rfl⟩ : ∃ t1 t2, ts = [t1, t2] := by
        match ts, lt with
        | [a, b], _ => exact ⟨a, b, rfl⟩
      have s1 := (hsh 0 t1 n1 rfl rfl).s
      have s2 := (hsh 1 t2 n2 rfl rfl).s
      have shs : ShsAt H' [t1, t2] [97, 98] [(rR n1, rK n1), (rR n2, rK n2)] := ⟨rfl, fun i t g a b => by
        match i, a, b with
        | 0, a, b => injection a with a; injection b with b; subst a; subst b; exact ⟨s1, k1, w1⟩
        | 1, a, b => injection a with a; injection b with b; subst a; subst b; exact ⟨s2, k2, w2⟩
        | n + 2, a, b => cases a⟩
      dsimp only [tSeq]
      refine lc_rigs (K := K) (C := C) (L := L) (S := [97, 98]) (H1 := H') (by exact fun _ h => h) hL' (by show 2 < 1000; omega) shs (fun G t R Kd eG st ok wh Qy hq => ?_) (fun D G ms nD eG hD hms => ?_)
      · obtain ⟨r, kk, h1, ⟨rs, h2, h3, h4⟩, h5⟩ := st
        refine ⟨rfl, ⟨_, .ref r, .inr (.inl (.inl h1)), rfl, ⟨_, .ref kk, .inr (.inl (.inl h1)), rfl, ⟨rfl, ?_⟩⟩⟩⟩
        exact mach_newN ok wh ⟨false, rs, .inl (.inl h2), h3, fun i p hp => ⟨false, .inl (.inl (h4 i p hp))⟩⟩ ⟨false, .inl (.inl h5)⟩ fun G2 a e2 na mm => hq G2 a e2 na mm
      · obtain ⟨m1, m2, rfl⟩ : ∃ m1 m2, ms = [m1, m2] := by
          match ms, hms.1 with
          | [a, b], _ => exact ⟨a, b, rfl⟩
        have q1 := (hms.2 0 m1 _ rfl rfl).1
        have q2 := (hms.2 1 m2 _ rfl rfl).1
        refine ⟨D, _, rfl, .inl (.inl hD), rfl, _, _, rfl, _, _, rfl, rfl, ?_⟩
        refine ⟨[97, 98], 4, rfl, by decide, by omega, fun G2 l e2 nl hl => ?_⟩
        have eH := eG.trans e2
        refine ⟨L, t1, t2, m1, m2, l, [97, 98], rR n1, rR n2, rK n1, rK n2, _, rfl, eH _ _ hL', s1.ext eH, s2.ext eH, k1, k2, ?_, q1.ext e2, q2.ext e2, hl, fun x hx => ?_, ?_, fun H9 e9 => ?_⟩
        · rw [r1, r2]
          exact Nat.le_trans (Nat.mul_le_mul u1 u2) (by decide)
        · obtain ⟨a, b⟩ := txl_mem hx
          exact ⟨by omega, b⟩
        · have := txl_le (S := [97, 98]) (by decide) (i := 4) (by omega)
          omega
        · exact q H9 (e12.trans (.same ((e.trans eH).trans e9)))
def spRight : Sp := fun vs H Q _ => ∃ (p : Addr), vs = [.ref p] ∧ Pot H p ∧ ∀ H', Ex TT (at1 p) H H' → Q (.bl true) H'
theorem ok_right {f : Addr} {fd : FuncData} {k : Nat} (F : Fun K "_law_right" "_law_right" sRight f fd) (M : Mx mg) (HP : Has P w K mg base (k + 1) "_law_pick" ["_law_pot_here", "_law_some"] (spPick TT)) (HSh : Has P w K mg base (k + 1) "_law_sheet" ["_law_pot_here", "_law_signs", "_law_most"] (spSheet TT)) (HI : HasI P w K mg base k "Machine" C ["letters", "rows", "kinds"] (spInit K C))
    (HTR : Has P w K mg base (k + 1) "_law_two_right" ["_law_signs", "_law_sheets", "_law_one", "_law_other", "_law_texts_here"] (spTwoR C)) (HTx : Has P w K mg base (k + 1) "_law_texts" ["_law_signs", "_law_most"] spTexts)
    (HCR : Has P w K mg base (k + 1) "_law_contrary_right" ["_law_signs", "_law_sheet_here", "_law_rig", "_law_texts_here"] (spContr C)) (HRu : Has P w K mg base (k + 1) "_law_rules_right" ["_law_one", "_law_other", "_law_third"] (spRules C)) (HRg : Has P w K mg base (k + 1) "_law_ring_right" ["_law_pot_here"] (spRing TT)) :
    FnG P w K mg base CX0 (k + 2) f fd ["_law_pot_here"] (spRight TT) := by
  refine okG F scRgt (fun vs H Q E h => ?_) (fun cdv A hA outer s H vs Q E hr h => ?_)
  · obtain ⟨p, rfl, _⟩ := h; rfl
  · obtain ⟨p, rfl, hp, q⟩ := h
    have nd := scRgt.nd
    have sl := sizeLine_eq
    refine ⟨_, (pss_cons (ps_set (i := 1) nd rfl (.inr rfl) (pe_callH HP hA hr (by rfl) (pa_cons (uv 0) (pa_cons (pe_lst (pa_cons (ustr [97]) (pa_cons (ustr [97, 98]) (pa_cons (ustr [98, 113]) (pa_cons (ustr [97, 98, 99]) pa_nil))))) pa_nil))))
      (pss_cons (ps_set (i := 2) nd rfl (.inl rfl) (pe_lst (pa_cons (pe_callH HSh hA hr (by rfl) (pa_cons (uv 0) (pa_cons (uv 1) (pa_cons pe_int pa_nil)))) (pa_cons (pe_callH HSh hA hr (by rfl) (pa_cons (uv 0) (pa_cons (uv 1) (pa_cons pe_int pa_nil)))) (pa_cons (pe_callH HSh hA hr (by rfl) (pa_cons (uv 0) (pa_cons (uv 1) (pa_cons pe_int pa_nil)))) pa_nil)))))
      (pss_cons (ps_setLc (i := 3) (own := [("_law_sheet_here", 9)]) (g := gName 9) (by rfl) nd rfl rfl (sw_true rfl rfl rfl (by decide +kernel)) (pi_listK (K := K) rfl (uv 2))
          (blkOk_by (N := nRgt) (sc := defScope sRight) (by decide +kernel))
          (fun _ _ _ _ _ => pg_name (i := 9) nd rfl (Or.inl rfl)) (fun _ _ _ _ _ => pts_nil)
          (fun _ _ _ _ _ => (pe_mkI HI hA hr (by rfl) (pa_cons (uv 1) (pa_cons (pe_ixK (K := K) rfl (uv 9) pe_int) (pa_cons (pe_ixK (K := K) rfl (uv 9) pe_int) pa_nil))))))
      (pss_cons (ps_set (i := 4) nd rfl (.inl rfl) (pe_callH HTx hA hr (by rfl) (pa_cons (uv 1) (pa_cons (pe_cl (pe_ifU (pt_cu o_lt (pe_callB c_len (by rfl) M.len b_len (pa_cons (uv 1) pa_nil)) pe_int) pe_int pe_int)) pa_nil))))
      (pss_cons (ps_for PassesOwn.never rfl (pi_range1 (by rfl) M.range (pa_cons pe_int pa_nil)) (pg_name (i := 5) nd rfl (.inl rfl))
        (pss_cons (ps_for PassesOwn.never rfl (pi_range1 (by rfl) M.range (pa_cons pe_int pa_nil)) (pg_name (i := 6) nd rfl (.inl rfl))
        (pss_one (ps_ifU (pt_not (pt_u (pe_callH HTR hA hr (by rfl) (pa_cons (uv 1) (pa_cons (pe_lst (pa_cons (pe_ixK (K := K) rfl (uv 2) (uv 5)) (pa_cons (pe_ixK (K := K) rfl (uv 2) (uv 6)) pa_nil))) (pa_cons (pe_ixK (K := K) rfl (uv 3) (uv 5)) (pa_cons (pe_ixK (K := K) rfl (uv 3) (uv 6)) (pa_cons (uv 4) pa_nil)))))))) (pss_one (ps_ret pe_bl)) pss_nil)))
      (pss_one (ps_ifU (pt_not (pt_u (pe_callH HCR hA hr (by rfl) (pa_cons (uv 1) (pa_cons (pe_ixK (K := K) rfl (uv 2) (uv 5)) (pa_cons (pe_ixK (K := K) rfl (uv 3) (uv 5)) (pa_cons (uv 4) pa_nil))))))) (pss_one (ps_ret pe_bl)) pss_nil))))
      (pss_cons (ps_setLc (i := 7) (own := [("_law_turn", 10)]) (g := gName 10) (by rfl) nd rfl rfl (sw_true rfl rfl rfl (by decide +kernel)) (pi_range1 (by rfl) M.range (pa_cons pe_int pa_nil))
          (blkOk_by (N := nRgt) (sc := defScope sRight) (by decide +kernel))
          (fun _ _ _ _ _ => pg_name (i := 10) nd rfl (Or.inl rfl)) (fun _ _ _ _ _ => pts_nil)
          (fun _ _ _ _ _ => (pe_callH HSh hA hr (by rfl) (pa_cons (uv 0) (pa_cons (uv 1) (pa_cons pe_int pa_nil))))))
      (pss_cons (ps_setLc (i := 8) (own := [("_law_sheet_here", 9)]) (g := gName 9) (by rfl) nd rfl rfl (sw_true rfl rfl rfl (by decide +kernel)) (pi_listK (K := K) rfl (uv 7))
          (blkOk_by (N := nRgt) (sc := defScope sRight) (by decide +kernel))
          (fun _ _ _ _ _ => pg_name (i := 9) nd rfl (Or.inl rfl)) (fun _ _ _ _ _ => pts_nil)
          (fun _ _ _ _ _ => (pe_mkI HI hA hr (by rfl) (pa_cons (uv 1) (pa_cons (pe_ixK (K := K) rfl (uv 9) pe_int) (pa_cons (pe_ixK (K := K) rfl (uv 9) pe_int) pa_nil))))))
      (pss_one (ps_ret (pe_andU (pe_callH HRu hA hr (by rfl) (pa_cons (pe_ixK (K := K) rfl (uv 8) pe_int) (pa_cons (pe_ixK (K := K) rfl (uv 8) pe_int) (pa_cons (pe_ixK (K := K) rfl (uv 8) pe_int) pa_nil)))) (pe_one (pe_callH HRg hA hr (by rfl) (pa_cons (uv 0) pa_nil))))))))))))), ?_⟩
    refine ⟨by show 4 ≤ sizeLine; omega, fun L0 nL0 => ?_⟩
    have e1 : Ex TT (at1 p) H (upd H L0 (.lst (four4.map fun S => V.str (T S)))) := .new nL0
    have hp1 : Pot (upd H L0 (.lst (four4.map fun S => V.str (T S)))) p := hp.put (hp.ne nL0)
    refine ⟨p, L0, four4.map fun S => V.str (T S), rfl, hp1, (hp.ne nL0).symm, upd_same, by decide, by decide, fun H2 x e2 hp2 hx => ?_⟩
    obtain ⟨S, h4, rfl⟩ := List.mem_map.mp hx
    have lt := four4_ok S h4
    have l3 := lt.hi
    have e12 := e1.trans e2
    clear e1 e2 hx
    refine ⟨p, S, 5, rfl, lt, hp2, by omega, by omega, fun H3 t1 R1 K1 e3 hp3 f1 ok1 wh1 le1 => ?_⟩
    refine ⟨p, S, 5, rfl, lt, hp3, by omega, by omega, fun H4 t2 R2 K2 e4 hp4 f2 ok2 wh2 le2 => ?_⟩
    refine ⟨p, S, 2, rfl, lt, hp4, by omega, by omega, fun H5 t3 R3 K3 e5 hp5 f3 ok3 wh3 le3 => ?_⟩
    have s1 := (f1.ex (e4.trans e5) (fun b z => .inl z)).s
    have s2 := (f2.ex e5 (fun b z => .inl z)).s
    have s3 := f3.s
    have e15 := ((e12.trans e3).trans e4).trans e5
    clear e12 e3 e4 e5 f1 f2 f3 hp2 hp3 hp4
    refine ⟨by show 3 ≤ sizeLine; omega, fun L nL => ?_⟩
    have eL : Same H5 (upd H5 L (.lst ([t1, t2, t3].map V.ref))) := same_upd nL
    have hL : (upd H5 L (.lst ([t1, t2, t3].map V.ref))) L = some (.lst ([t1, t2, t3].map V.ref)) := upd_same
    have hp6 : Pot (upd H5 L (.lst ([t1, t2, t3].map V.ref))) p := hp5.put (hp5.ne nL)
    have e16 := e15.trans (.same eL)
    have shs : ShsAt (upd H5 L (.lst ([t1, t2, t3].map V.ref))) [t1, t2, t3] S [(R1, K1), (R2, K2), (R3, K3)] := ⟨rfl, fun i t g a b => by
      match i, a, b with
      | 0, a, b => injection a with a; injection b with b; subst a; subst b; exact ⟨s1.ext eL, ok1, wh1⟩
      | 1, a, b => injection a with a; injection b with b; subst a; subst b; exact ⟨s2.ext eL, ok2, wh2⟩
      | 2, a, b => injection a with a; injection b with b; subst a; subst b; exact ⟨s3.ext eL, ok3, wh3⟩
      | n + 3, a, b => cases a⟩
    have hle : ∀ (i : Nat) (g : Rows × List Bool), [(R1, K1), (R2, K2), (R3, K3)][i]? = some g → g.1.length ≤ 5 := fun i g b => by
      match i, b with
      | 0, b => injection b with b; subst b; exact le1
      | 1, b => injection b with b; subst b; exact le2
      | 2, b => injection b with b; subst b; show R3.length ≤ 5; omega
      | n + 3, b => cases b
    have lts3 : [t1, t2, t3].length = 3 := rfl
    have lps3 : [(R1, K1), (R2, K2), (R3, K3)].length = 3 := rfl
    dsimp only [gName, tSeq, tAsg]
    change tLc _ _ _ _ _ _ (upd H5 L (.lst ([t1, t2, t3].map V.ref))) _
    generalize upd H5 L (.lst ([t1, t2, t3].map V.ref)) = H6 at eL hL hp6 e16 shs
    generalize [t1, t2, t3] = ts at hL shs lts3
    generalize [(R1, K1), (R2, K2), (R3, K3)] = ps at shs hle lps3
    clear s1 s2 s3 ok1 ok2 ok3 wh1 wh2 wh3 le1 le2 le3 eL nL e15 hp5
    refine lc_rigs (K := K) (C := C) (L := L) (S := S) (H1 := H6) (by exact fun _ h => h) hL (by omega) shs (fun G t R Kd eG st ok wh Qy hq => ?_) (fun D G ms nD eG hD hms => ?_)
    · obtain ⟨r, kk, h1, ⟨rs, h2, h3, h4⟩, h5⟩ := st
      refine ⟨rfl, ⟨_, .ref r, .inr (.inl (.inl h1)), rfl, ⟨_, .ref kk, .inr (.inl (.inl h1)), rfl, ⟨rfl, ?_⟩⟩⟩⟩
      exact mach_newN ok wh ⟨false, rs, .inl (.inl h2), h3, fun i p hp => ⟨false, .inl (.inl (h4 i p hp))⟩⟩ ⟨false, .inl (.inl h5)⟩ fun G2 a e2 na mm => hq G2 a e2 na mm
    have hLG := eG _ _ hL
    have shsG := shs.ext eG
    have hpG := hp6.ex (TT := TT) (.same eG)
    have e1G := e16.trans (.same eG)
    clear nD eG shs hL hp6 e16
    refine ⟨fun v H' => H' = G ∧ ∃ n : Nat, n ≤ 4 ∧ v = .int (n : Nat), ?_, ?_⟩
    · have key : ∀ b : Bool, Br b ((fun v H' => H' = G ∧ ∃ n : Nat, n ≤ 4 ∧ v = V.int (n : Nat)) (V.int 4) G) ((fun v H' => H' = G ∧ ∃ n : Nat, n ≤ 4 ∧ v = V.int (n : Nat)) (V.int 3) G) := fun b =>
        ⟨fun _ => ⟨rfl, 4, by omega, rfl⟩, fun _ => ⟨rfl, 3, by omega, rfl⟩⟩
      dsimp only [uIfE, uT, tOp, tCB, tCons]
      refine uvG (v := .str (T S)) rfl ?_
      refine ⟨by show S.length ≤ sizeLine; omega, ?_⟩
      exact key _
    rintro v H' ⟨rfl, n, hn, rfl⟩
    refine ⟨S, n, rfl, l3, by omega, fun H7 TA e7 nTA hTA => ?_⟩
    have tle : (txl S n).length ≤ 1000 := by
      have := txl_le l3 (i := n) (by omega)
      have : 243 * n ≤ 243 * 4 := Nat.mul_le_mul_left _ hn
      omega
    have tin : ∀ x ∈ txl S n, x.length ≤ 1000000 ∧ ∀ c ∈ x, c ∈ S := fun x hx => by
      obtain ⟨a, b⟩ := txl_mem hx
      exact ⟨by omega, b⟩
    generalize txl S n = Tx at hTA tle tin
    have hL7 := e7 _ _ hLG
    have hD7 := e7 _ _ hD
    have shs7 := shsG.ext e7
    have ms7 := hms.ext e7
    have hp7 := hpG.ex (TT := TT) (.same e7)
    have e17 := e1G.trans (.same e7)
    clear e7 hLG hD shsG hms hpG e1G nTA hn
    dsimp only [tSeq]
    refine for_rng (n := 3) (H1 := H7) (by exact fun _ h => h) (by omega) (fun i σ H8 => ∃ y5 y6 : Option V, Same H7 H8 ∧ σ = [some (.ref p), some (.str (T S)), some (.ref L), some (.ref D), some (.ref TA), y5, y6, none, none, none, none])
      ⟨none, none, Same.refl _, rfl⟩ (fun i σ H8 hi h => ?_) (fun σ H8 h => ?_)
    · obtain ⟨y5, y6, e8, rfl⟩ := h
      obtain ⟨ti, hti⟩ : ∃ t, ts[i]? = some t := ⟨_, List.getElem?_eq_getElem (by omega)⟩
      obtain ⟨gi, hgi⟩ : ∃ g, ps[i]? = some g := ⟨_, List.getElem?_eq_getElem (by omega)⟩
      obtain ⟨mi, hmi⟩ : ∃ m, ms[i]? = some m := ⟨_, List.getElem?_eq_getElem (by have := ms7.1; omega)⟩
      obtain ⟨si, oki, whi⟩ := shs7.2 _ _ _ hti hgi
      have mmi := (ms7.2 _ _ _ hmi hgi).1
      have lei := hle _ _ hgi
      dsimp only [tSeq]
      refine for_rng (n := 3) (H1 := H8) (by exact fun _ h => h) (by omega) (fun j σ H9 => ∃ y6 : Option V, Same H7 H9 ∧ σ = [some (.ref p), some (.str (T S)), some (.ref L), some (.ref D), some (.ref TA), some (.int (i : Nat)), y6, none, none, none, none])
        ⟨y6, e8, rfl⟩ (fun j σ H9 hj h => ?_) (fun σ H9 h => ?_)
      · obtain ⟨y6, e9, rfl⟩ := h
        obtain ⟨tj, htj⟩ : ∃ t, ts[j]? = some t := ⟨_, List.getElem?_eq_getElem (by omega)⟩
        obtain ⟨gj, hgj⟩ : ∃ g, ps[j]? = some g := ⟨_, List.getElem?_eq_getElem (by omega)⟩
        obtain ⟨mj, hmj⟩ : ∃ m, ms[j]? = some m := ⟨_, List.getElem?_eq_getElem (by have := ms7.1; omega)⟩
        obtain ⟨sj, okj, whj⟩ := shs7.2 _ _ _ htj hgj
        have mmj := (ms7.2 _ _ _ hmj hgj).1
        have lej := hle _ _ hgj
        refine ⟨_, .ref ti, .inl (.inl (.inl (e9 _ _ hL7))), atI_nat (by rw [List.getElem?_map, hti]; rfl), _, .ref tj, .inl (.inl (.inl (e9 _ _ hL7))), atI_nat (by rw [List.getElem?_map, htj]; rfl), by show 2 ≤ sizeLine; omega, fun W nW => ?_⟩
        have eW : Same H9 (upd H9 W (.lst [.ref ti, .ref tj])) := same_upd nW
        have hW : (upd H9 W (.lst [.ref ti, .ref tj])) W = some (.lst [.ref ti, .ref tj]) := upd_same
        have eX := e9.trans eW
        generalize upd H9 W (.lst [.ref ti, .ref tj]) = H10 at eW hW eX
        refine ⟨_, .ref mi, .inl (.inl (.inl (eX _ _ hD7))), atI_nat (by rw [List.getElem?_map, hmi]; rfl), _, .ref mj, .inl (.inl (.inl (eX _ _ hD7))), atI_nat (by rw [List.getElem?_map, hmj]; rfl), ?_⟩
        refine ⟨W, ti, tj, mi, mj, TA, S, gi.1, gj.1, gi.2, gj.2, Tx, rfl, hW, si.ext eX, sj.ext eX, oki, okj, Nat.le_trans (Nat.mul_le_mul lei lej) (by decide), mmi.ext eX, mmj.ext eX, eX _ _ hTA, tin, tle, fun H11 e11 => .no ?_⟩
        exact ⟨_, eX.trans e11, rfl⟩
      · obtain ⟨y6, e9, rfl⟩ := h
        refine ⟨_, .ref ti, .inl (.inl (.inl (e9 _ _ hL7))), atI_nat (by rw [List.getElem?_map, hti]; rfl), _, .ref mi, .inl (.inl (.inl (e9 _ _ hD7))), atI_nat (by rw [List.getElem?_map, hmi]; rfl), ?_⟩
        refine ⟨ti, mi, TA, S, gi.1, gi.2, Tx, rfl, si.ext e9, mmi.ext e9, oki, whi, by omega, e9 _ _ hTA, tin, tle, fun H10 e10 => .no ?_⟩
        exact ⟨_, _, e9.trans e10, rfl⟩
    obtain ⟨y5, y6, e8, rfl⟩ := h
    have hp8 := hp7.ex (TT := TT) (.same e8)
    have e18 := e17.trans (.same e8)
    clear e8 hp7 e17 ms7 shs7 hL7 hD7 hTA tin tle hle lts3 lps3
    dsimp only [tSeq]
    refine lc_rng (n := 3) (H1 := H8) (by exact fun _ h => h) (by omega) (fun B i acc H' => ∃ (us : List Addr) (qs : List (Rows × List Bool)), acc = us.map V.ref ∧ us.length = i ∧ qs.length = i ∧ Ex TT (at1 p) H8 H' ∧ Pot H' p ∧ B ≠ p ∧ H' B = some (.lst acc) ∧
        ∀ (j : Nat) (t : Addr) (g : Rows × List Bool), us[j]? = some t → qs[j]? = some g → SheetF (fun b => b = p ∨ b = B) H' t g.1 g.2 ∧ ShOk S g.1 g.2 ∧ Whole g.1 ∧ g.1.length ≤ 2)
      (fun B nB => ⟨[], [], rfl, rfl, rfl, .new nB, hp8.put (hp8.ne nB), (hp8.ne nB).symm, upd_same, fun j t g z => (nil_none z).elim⟩) (fun B nB i acc H' hi r => ?_) (fun B nB acc H' r => ?_)
    · obtain ⟨us, qs, rfl, lu, lq, ex, hpx, nBp, hB, hus⟩ := r
      refine ⟨rfl, p, S, 2, rfl, lt, hpx, by omega, by omega, fun H9 t R Kd e9 hp9 f ok wh le => ?_⟩
      have hB9 := e9.lst nBp hB
      have newB : New H8 B := fun b o hb _ e => by rw [e, nB] at hb; cases hb
      refine ⟨_, hB9, by rw [List.length_map]; omega, _, us ++ [t], qs ++ [(R, Kd)], by rw [List.map_append]; rfl, by rw [List.length_append, lu]; rfl, by rw [List.length_append, lq]; rfl, (ex.trans e9).putN newB hB9 (fun _ z => nomatch z) (fun _ _ z => nomatch z), hp9.put nBp.symm, nBp, upd_same, fun j t' g h1 h2 => ?_⟩
      have up : ∀ {t : Addr} {R : Rows} {Kd : List Bool}, SheetF (fun b => b = p ∨ b = B) H9 t R Kd → SheetF (fun b => b = p ∨ b = B) (upd H9 B (.lst (us.map V.ref ++ [.ref t']))) t R Kd := fun h => h.but fun b o n hb _ => by rw [upd_ne (fun z => n (.inr z))]; exact hb
      by_cases hlt : j < us.length
      · rw [List.getElem?_append_left hlt] at h1
        rw [List.getElem?_append_left (by omega)] at h2
        obtain ⟨a1, a2⟩ := hus j t' g h1 h2
        refine ⟨?_, a2⟩
        exact (a1.ex e9 (fun b z => .inl z)).but fun b o n hb _ => by rw [upd_ne (fun z => n (.inr z))]; exact hb
      · rw [List.getElem?_append_right (by omega)] at h1
        have e6 : j - us.length = 0 := by
          have := (List.getElem?_eq_some_iff.mp h1).1
          simp at this; omega
        rw [List.getElem?_append_right (by omega)] at h2
        rw [e6] at h1
        rw [show j - qs.length = 0 by omega] at h2
        obtain rfl : t = t' := by simpa using h1
        obtain rfl : (R, Kd) = g := by simpa using h2
        refine ⟨?_, ok, wh, le⟩
        refine (f.mono fun b z => ?_).but fun b o n hb _ => by rw [upd_ne (fun z => n (.inr z))]; exact hb
        rcases z with z | z
        · exact .inl z
        · exact .inr ⟨.lst (us.map V.ref), by rw [z]; exact hB, fun _ y => nomatch y⟩
    obtain ⟨us, qs, rfl, lu, lq, ex, hpx, nBp, hB, hus⟩ := r
    have shq : ShsAt H' us S qs := ⟨by omega, fun i t g a b => by
      obtain ⟨h1, h2, h3, _⟩ := hus i t g a b
      exact ⟨h1.s, h2, h3⟩⟩
    have hl2 : ∀ (i : Nat) (g : Rows × List Bool), qs[i]? = some g → Whole g.1 ∧ g.1.length ≤ 2 := fun i g b => by
      obtain ⟨t, ht⟩ : ∃ t, us[i]? = some t := ⟨_, List.getElem?_eq_getElem (by have := (List.getElem?_eq_some_iff.mp b).1; omega)⟩
      exact (hus i t g ht b).2.2
    have e1x := e18.trans ex
    clear hus ex e18 hp8 nB
    dsimp only [gName, tSeq, tAsg]
    refine lc_rigs (K := K) (C := C) (L := B) (S := S) (H1 := H') (by exact fun _ h => h) hB (by omega) shq (fun G t R Kd eG st ok wh Qy hq => ?_) (fun D2 G2 ns nD2 eG2 hD2 hns => ?_)
    · obtain ⟨r, kk, h1, ⟨rs, h2, h3, h4⟩, h5⟩ := st
      refine ⟨rfl, ⟨_, .ref r, .inr (.inl (.inl h1)), rfl, ⟨_, .ref kk, .inr (.inl (.inl h1)), rfl, ⟨rfl, ?_⟩⟩⟩⟩
      exact mach_newN ok wh ⟨false, rs, .inl (.inl h2), h3, fun i p hp => ⟨false, .inl (.inl (h4 i p hp))⟩⟩ ⟨false, .inl (.inl h5)⟩ fun G2 a e2 na mm => hq G2 a e2 na mm
    have tk : ∀ (i : Nat), i < 3 → ∃ m f, atI (ns.map V.ref) (i : Int) = some (V.ref m) ∧ Tk C G2 m S 2 f := fun i hi => by
      obtain ⟨m, hm⟩ : ∃ m, ns[i]? = some m := ⟨_, List.getElem?_eq_getElem (by have := hns.1; omega)⟩
      obtain ⟨g, hg⟩ : ∃ g, qs[i]? = some g := ⟨_, List.getElem?_eq_getElem (by omega)⟩
      obtain ⟨mm, ok⟩ := hns.2 i m g hm hg
      obtain ⟨wh, le⟩ := hl2 i g hg
      exact ⟨m, fun is => kd g.2 (go g.1 0 is), atI_nat (by rw [List.getElem?_map, hm]; rfl), g.1, g.2, mm, ok, wh, le, fun is _ => rfl⟩
    obtain ⟨m1, f1, a1, k1⟩ := tk 0 (by omega)
    obtain ⟨m2, f2, a2, k2⟩ := tk 1 (by omega)
    obtain ⟨m3, f3, a3, k3⟩ := tk 2 (by omega)
    have hpG := hpx.ex (TT := TT) (.same eG2)
    have e1G := e1x.trans (.same eG2)
    have sqD : SqL K G2 D2 (ns.map V.ref) := .inl (.inl hD2)
    clear hns hl2 tk nD2 shq
    refine ⟨_, .ref m1, .inl sqD, a1, _, .ref m2, .inl sqD, a2, _, .ref m3, .inl sqD, a3, ?_⟩
    refine ⟨m1, m2, m3, S, f1, f2, f3, rfl, k1, k2, k3, fun G3 e3 => .yes ?_⟩
    exact ⟨p, rfl, hpG.ex (TT := TT) (.same e3), fun G4 e4 => q G4 ((e1G.trans (.same e3)).trans e4)⟩
end
theorem sq_new {K : PySem.W.Frag} {TT : List (Addr × Str)} {H H1 H2 : Hp} {a p : Addr} {xs : List V} (h : SqL K H a xs) (n : H p = none) (s : Same H H1) (e : Ex TT (at1 p) H1 H2) : SqL K H2 a xs := by
  rcases h with (h | ⟨o, h⟩) | h
  · exact .inl (.inl (e.keep a _ (ne_of_none h n) (s _ _ h) fun ps z => nomatch z))
  · exact .inl (.inr ⟨o, e.keep a _ (ne_of_none h n) (s _ _ h) fun ps z => nomatch z⟩)
  · exact .inr h

section
variable {P : Program} {w : World} {K : PySem.W.Frag} {mg : Str → Option Value} {base : Heap}
theorem scLaw : FnScope ["_law_script", "_law_k"] ["_law_script"] (defScope sLaw) := ⟨rfl, rfl, rfl, by decide +kernel, rfl, by decide +kernel, by decide +kernel⟩
def spLaw (K : PySem.W.Frag) : Sp := fun vs H Q _ => ∃ (a : Addr) (ns : List Int), vs = [.ref a] ∧ SqL K H a (ns.map V.int) ∧ ns.length ≤ 63 ∧ ∀ H', Q (.bl true) H'
theorem ok_law {f : Addr} {fd : FuncData} {k : Nat} (F : Fun K "law" "law" sLaw f fd) (M : Mx mg)
    (HR : Has P w K mg base k "_law_right" ["_law_pot_here"] (spRight [])) (HPo : Has P w K mg base k "_law_pot" ["_law_script", "_law_k"] (spPot K)) :
    FnG P w K mg base CX0 (k + 1) f fd ["_law_script"] (spLaw K) := by
  refine okG F scLaw (fun vs H Q E h => ?_) (fun cdv A hA outer s H vs Q E hr h => ?_)
  · obtain ⟨a, ns, rfl, _⟩ := h; rfl
  · obtain ⟨a, ns, rfl, hs, hn, q⟩ := h
    have nd := scLaw.nd
    refine ⟨_, pss_one (ps_ret (pe_callB (c_all rfl) (by rfl) M.all b_all (pa_cons (pe_lc (own := [("_law_k", 1)]) (g := gName 1) (tt := tYes) rfl nd
      (pi_range1 (by rfl) M.range (pa_cons (pe_callB (c_max2 rfl) (by rfl) M.max b_max (pa_cons pe_int (pa_cons (pe_callB (c_min2 rfl) (by rfl) M.min b_min (pa_cons pe_int (pa_cons (pe_callB c_len (by rfl) M.len b_len (pa_cons (uv 0) pa_nil)) pa_nil))) pa_nil))) pa_nil))
      (blkOk_by (N := ["_law_script", "_law_k"]) (sc := defScope sLaw) (by decide +kernel)) (fun _ _ _ _ _ => pg_name (i := 1) nd rfl (Or.inl rfl)) (fun _ _ _ _ _ => pts_nil)
      (fun _ _ _ _ _ => pe_callH HR hA hr (by rfl) (pa_cons (pe_callH HPo hA hr (by rfl) (pa_cons (uv 0) (pa_cons (uv 1) pa_nil))) pa_nil))) pa_nil))), ?_⟩
    have hz := sizeLine_eq
    have ec : max (1 : Int) (min 4 (((ns.map V.int).length : Nat) : Int)) = ((max 1 (min 4 ns.length) : Nat) : Int) := by rw [List.length_map]; omega
    dsimp only [tRet, tCB, tCons]
    refine lc_rng (n := max 1 (min 4 ns.length)) (H1 := H) (by
        intro R h
        refine .inl ⟨_, .inl hs, ?_⟩
        show R [V.int (max (1 : Int) (min 4 (((ns.map V.int).length : Nat) : Int)))] H
        rw [ec]; exact h) (by omega) (fun D i acc H1 => H1 D = some (.lst acc) ∧ acc = (List.replicate i true).map V.bl ∧ SqL K H1 a (ns.map V.int))
      (fun D nD => ⟨upd_same, rfl, (Ex.new (TT := []) (S := no) nD).sq (fun z => z) hs⟩) (fun D nD i acc H1 hi r => ?_) (fun D nD acc H1 r => ?_)
    · obtain ⟨r1, rfl, r3⟩ := r
      refine ⟨rfl, a, ns, i, rfl, r3, by omega, fun H2 p e2 np pot2 => ?_⟩
      refine ⟨p, rfl, pot2, fun H3 e3 => ?_⟩
      have hD3 : H3 D = some _ := e3.keep D _ (ne_of_none r1 np) (e2 _ _ r1) (fun _ z => nomatch z)
      have hs3 : SqL K H3 a (ns.map V.int) := sq_new r3 np e2 e3
      refine ⟨_, hD3, by rw [List.length_map, List.length_replicate]; omega, _, upd_same, ?_, ?_⟩
      · rw [List.replicate_succ', List.map_append]; rfl
      · by_cases ha : a = D
        · subst ha
          rcases hs with (h | ⟨o, h⟩) | h
          · rw [nD] at h; cases h
          · rw [nD] at h; cases h
          · exact .inr h
        · rcases hs3 with (h | ⟨o, h⟩) | h
          · exact .inl (.inl (by rw [upd_ne ha]; exact h))
          · exact .inl (.inr ⟨o, by rw [upd_ne ha]; exact h⟩)
          · exact .inr h
    · obtain ⟨r1, rfl, r3⟩ := r
      refine ⟨_, .inl (.inl r1), ?_⟩
      have : (List.replicate (max 1 (min 4 ns.length)) true).all id = true := by simp
      show Q (.bl ((List.replicate (max 1 (min 4 ns.length)) true).all id)) _
      rw [this]
      exact q _
end
end LK

namespace LK
open PySem PySem.Spec PyProof.Rows L2 LamX ClX
theorem scLetters : FnScope ["self"] ["self"] (defScope sLetters) := ⟨rfl, rfl, rfl, by decide +kernel, rfl, by decide +kernel, by decide +kernel⟩
abbrev stNC : Stmt := inCls (topM 20) 0
theorem scNC : FnScope ["self", "place"] ["self", "place"] (defScope stNC) := ⟨rfl, rfl, rfl, by decide +kernel, rfl, by decide +kernel, by decide +kernel⟩
/-! ### what the top has written -/
theorem all_mk {l : PySem.W.OpenLaw} {w : World} {K : PySem.W.Frag} {h : Heap} {mg : Str → Option Value} {fa : Addr} (X : K.In h) (G : h.Ns mainGlobals mg) (hfa : mg "law" = some (.ref fa))
    {fIsInt : Addr} {ocIsInt kVIsInt dcIsInt pmIsInt cdIsInt ctIsInt : Value} {odIsInt anIsInt : Option Addr} {slIsInt : Array (Option Value)}
    {fIsText : Addr} {ocIsText kVIsText dcIsText pmIsText cdIsText ctIsText : Value} {odIsText anIsText : Option Addr} {slIsText : Array (Option Value)}
    {fIsOver : Addr} {ocIsOver kVIsOver dcIsOver pmIsOver cdIsOver ctIsOver : Value} {odIsOver anIsOver : Option Addr} {slIsOver : Array (Option Value)}
    {fAreLet : Addr} {ocAreLet kVAreLet dcAreLet pmAreLet cdAreLet ctAreLet : Value} {odAreLet anAreLet : Option Addr} {slAreLet : Array (Option Value)}
    {fIsSame : Addr} {ocIsSame kVIsSame dcIsSame pmIsSame cdIsSame ctIsSame : Value} {odIsSame anIsSame : Option Addr} {slIsSame : Array (Option Value)}
    {fParting : Addr} {ocParting kVParting dcParting pmParting cdParting ctParting : Value} {odParting anParting : Option Addr} {slParting : Array (Option Value)}
    {fFirstW : Addr} {ocFirstW kVFirstW dcFirstW pmFirstW cdFirstW ctFirstW : Value} {odFirstW anFirstW : Option Addr} {slFirstW : Array (Option Value)}
    {fNeedText : Addr} {ocNeedText kVNeedText dcNeedText pmNeedText cdNeedText ctNeedText : Value} {odNeedText anNeedText : Option Addr} {slNeedText : Array (Option Value)}
    {fSameLet : Addr} {ocSameLet kVSameLet dcSameLet pmSameLet cdSameLet ctSameLet : Value} {odSameLet anSameLet : Option Addr} {slSameLet : Array (Option Value)}
    {fPaired : Addr} {ocPaired kVPaired dcPaired pmPaired cdPaired ctPaired : Value} {odPaired anPaired : Option Addr} {slPaired : Array (Option Value)}
    {fKindsOf : Addr} {ocKindsOf kVKindsOf dcKindsOf pmKindsOf cdKindsOf ctKindsOf : Value} {odKindsOf anKindsOf : Option Addr} {slKindsOf : Array (Option Value)}
    {fLeastOf : Addr} {ocLeastOf kVLeastOf dcLeastOf pmLeastOf cdLeastOf ctLeastOf : Value} {odLeastOf anLeastOf : Option Addr} {slLeastOf : Array (Option Value)}
    {fAlike : Addr} {ocAlike kVAlike dcAlike pmAlike cdAlike ctAlike : Value} {odAlike anAlike : Option Addr} {slAlike : Array (Option Value)}
    {fNeedParts : Addr} {ocNeedParts kVNeedParts dcNeedParts pmNeedParts cdNeedParts ctNeedParts : Value} {odNeedParts anNeedParts : Option Addr} {slNeedParts : Array (Option Value)}
    {fIsRow : Addr} {ocIsRow kVIsRow dcIsRow pmIsRow cdIsRow ctIsRow : Value} {odIsRow anIsRow : Option Addr} {slIsRow : Array (Option Value)}
    {fIsPlace : Addr} {ocIsPlace kVIsPlace dcIsPlace pmIsPlace cdIsPlace ctIsPlace : Value} {odIsPlace anIsPlace : Option Addr} {slIsPlace : Array (Option Value)}
    {fMetFrom : Addr} {ocMetFrom kVMetFrom dcMetFrom pmMetFrom cdMetFrom ctMetFrom : Value} {odMetFrom anMetFrom : Option Addr} {slMetFrom : Array (Option Value)}
    {fNumFrom : Addr} {ocNumFrom kVNumFrom dcNumFrom pmNumFrom cdNumFrom ctNumFrom : Value} {odNumFrom anNumFrom : Option Addr} {slNumFrom : Array (Option Value)}
    {fPot : Addr} {ocPot kVPot dcPot pmPot cdPot ctPot : Value} {odPot anPot : Option Addr} {slPot : Array (Option Value)}
    {fDraw : Addr} {ocDraw kVDraw dcDraw pmDraw cdDraw ctDraw : Value} {odDraw anDraw : Option Addr} {slDraw : Array (Option Value)}
    {fPick : Addr} {ocPick kVPick dcPick pmPick cdPick ctPick : Value} {odPick anPick : Option Addr} {slPick : Array (Option Value)}
    {fLMet : Addr} {ocLMet kVLMet dcLMet pmLMet cdLMet ctLMet : Value} {odLMet anLMet : Option Addr} {slLMet : Array (Option Value)}
    {fMixed : Addr} {ocMixed kVMixed dcMixed pmMixed cdMixed ctMixed : Value} {odMixed anMixed : Option Addr} {slMixed : Array (Option Value)}
    {fSheet : Addr} {ocSheet kVSheet dcSheet pmSheet cdSheet ctSheet : Value} {odSheet anSheet : Option Addr} {slSheet : Array (Option Value)}
    {fTexts : Addr} {ocTexts kVTexts dcTexts pmTexts cdTexts ctTexts : Value} {odTexts anTexts : Option Addr} {slTexts : Array (Option Value)}
    {fLPairs : Addr} {ocLPairs kVLPairs dcLPairs pmLPairs cdLPairs ctLPairs : Value} {odLPairs anLPairs : Option Addr} {slLPairs : Array (Option Value)}
    {fDue : Addr} {ocDue kVDue dcDue pmDue cdDue ctDue : Value} {odDue anDue : Option Addr} {slDue : Array (Option Value)}
    {fLAnd : Addr} {ocLAnd kVLAnd dcLAnd pmLAnd cdLAnd ctLAnd : Value} {odLAnd anLAnd : Option Addr} {slLAnd : Array (Option Value)}
    {fLOr : Addr} {ocLOr kVLOr dcLOr pmLOr cdLOr ctLOr : Value} {odLOr anLOr : Option Addr} {slLOr : Array (Option Value)}
    {fLLess : Addr} {ocLLess kVLLess dcLLess pmLLess cdLLess ctLLess : Value} {odLLess anLLess : Option Addr} {slLLess : Array (Option Value)}
    {fTwoR : Addr} {ocTwoR kVTwoR dcTwoR pmTwoR cdTwoR ctTwoR : Value} {odTwoR anTwoR : Option Addr} {slTwoR : Array (Option Value)}
    {fRules : Addr} {ocRules kVRules dcRules pmRules cdRules ctRules : Value} {odRules anRules : Option Addr} {slRules : Array (Option Value)}
    {fContr : Addr} {ocContr kVContr dcContr pmContr cdContr ctContr : Value} {odContr anContr : Option Addr} {slContr : Array (Option Value)}
    {fRing : Addr} {ocRing kVRing dcRing pmRing cdRing ctRing : Value} {odRing anRing : Option Addr} {slRing : Array (Option Value)}
    {fRight : Addr} {ocRight kVRight dcRight pmRight cdRight ctRight : Value} {odRight anRight : Option Addr} {slRight : Array (Option Value)}
    {fLaw : Addr} {ocLaw kVLaw dcLaw pmLaw cdLaw ctLaw : Value} {odLaw anLaw : Option Addr} {slLaw : Array (Option Value)}
    {mKinds : Addr} {ocmKinds kVmKinds dcmKinds pmmKinds cdmKinds ctmKinds : Value} {odmKinds anmKinds : Option Addr} {slmKinds : Array (Option Value)}
    {mRows : Addr} {ocmRows kVmRows dcmRows pmmRows cdmRows ctmRows : Value} {odmRows anmRows : Option Addr} {slmRows : Array (Option Value)}
    {mTakes : Addr} {ocmTakes kVmTakes dcmTakes pmmTakes cdmTakes ctmTakes : Value} {odmTakes anmTakes : Option Addr} {slmTakes : Array (Option Value)}
    {mNumbered : Addr} {ocmNumbered kVmNumbered dcmNumbered pmmNumbered cdmNumbered ctmNumbered : Value} {odmNumbered anmNumbered : Option Addr} {slmNumbered : Array (Option Value)}
    {mLeast : Addr} {ocmLeast kVmLeast dcmLeast pmmLeast cdmLeast ctmLeast : Value} {odmLeast anmLeast : Option Addr} {slmLeast : Array (Option Value)}
    {mEq : Addr} {ocmEq kVmEq dcmEq pmmEq cdmEq ctmEq : Value} {odmEq anmEq : Option Addr} {slmEq : Array (Option Value)}
    {mRepr : Addr} {ocmRepr kVmRepr dcmRepr pmmRepr cdmRepr ctmRepr : Value} {odmRepr anmRepr : Option Addr} {slmRepr : Array (Option Value)}
    {mAnd : Addr} {ocmAnd kVmAnd dcmAnd pmmAnd cdmAnd ctmAnd : Value} {odmAnd anmAnd : Option Addr} {slmAnd : Array (Option Value)}
    {mOr : Addr} {ocmOr kVmOr dcmOr pmmOr cdmOr ctmOr : Value} {odmOr anmOr : Option Addr} {slmOr : Array (Option Value)}
    {mSub : Addr} {ocmSub kVmSub dcmSub pmmSub cdmSub ctmSub : Value} {odmSub anmSub : Option Addr} {slmSub : Array (Option Value)}
    {mInv : Addr} {ocmInv kVmInv dcmInv pmmInv cdmInv ctmInv : Value} {odmInv anmInv : Option Addr} {slmInv : Array (Option Value)}
    {mLed : Addr} {ocmLed kVmLed dcmLed pmmLed cdmLed ctmLed : Value} {odmLed anmLed : Option Addr} {slmLed : Array (Option Value)}
    {mInit : Addr} {ocmInit kVmInit dcmInit pmmInit cdmInit ctmInit : Value} {odmInit anmInit : Option Addr} {slmInit : Array (Option Value)}
    {mLetters : Addr} {ocmLetters kVmLetters dcmLetters pmmLetters cdmLetters ctmLetters : Value} {odmLetters anmLetters : Option Addr} {slmLetters : Array (Option Value)}
    {mNC : Addr} {ocmNC kVmNC dcmNC pmmNC cdmNC ctmNC : Value} {odmNC anmNC : Option Addr} {slmNC : Array (Option Value)}
    {C pL cN : Addr} {restL : List Value} {tS tM tC2 : Tok}
    (aIsInt : PySem.W.nsIn K mainGlobals "is_integer" = some (some (.ref fIsInt)))
    (lIsInt : K.lookup fIsInt = some ⟨ocIsInt, odIsInt, .func (PySem.W.fnOf "is_integer" "is_integer" (defArgs sIsInt) (defBody sIsInt) (defScope sIsInt) .none kVIsInt dcIsInt pmIsInt anIsInt cdIsInt ctIsInt), slIsInt⟩)
    (cIsInt : PySem.W.codeIn K cdIsInt "is_integer" = true)
    (kIsInt : PySem.W.keepIn K (.ref fIsInt) = true)
    (aIsText : PySem.W.nsIn K mainGlobals "is_text" = some (some (.ref fIsText)))
    (lIsText : K.lookup fIsText = some ⟨ocIsText, odIsText, .func (PySem.W.fnOf "is_text" "is_text" (defArgs sIsText) (defBody sIsText) (defScope sIsText) .none kVIsText dcIsText pmIsText anIsText cdIsText ctIsText), slIsText⟩)
    (cIsText : PySem.W.codeIn K cdIsText "is_text" = true)
    (kIsText : PySem.W.keepIn K (.ref fIsText) = true)
    (aIsOver : PySem.W.nsIn K mainGlobals "is_over" = some (some (.ref fIsOver)))
    (lIsOver : K.lookup fIsOver = some ⟨ocIsOver, odIsOver, .func (PySem.W.fnOf "is_over" "is_over" (defArgs sIsOver) (defBody sIsOver) (defScope sIsOver) .none kVIsOver dcIsOver pmIsOver anIsOver cdIsOver ctIsOver), slIsOver⟩)
    (cIsOver : PySem.W.codeIn K cdIsOver "is_over" = true)
    (kIsOver : PySem.W.keepIn K (.ref fIsOver) = true)
    (aAreLet : PySem.W.nsIn K mainGlobals "are_letters" = some (some (.ref fAreLet)))
    (lAreLet : K.lookup fAreLet = some ⟨ocAreLet, odAreLet, .func (PySem.W.fnOf "are_letters" "are_letters" (defArgs sAreLet) (defBody sAreLet) (defScope sAreLet) .none kVAreLet dcAreLet pmAreLet anAreLet cdAreLet ctAreLet), slAreLet⟩)
    (cAreLet : PySem.W.codeIn K cdAreLet "are_letters" = true)
    (kAreLet : PySem.W.keepIn K (.ref fAreLet) = true)
    (aIsSame : PySem.W.nsIn K mainGlobals "is_same" = some (some (.ref fIsSame)))
    (lIsSame : K.lookup fIsSame = some ⟨ocIsSame, odIsSame, .func (PySem.W.fnOf "is_same" "is_same" (defArgs sIsSame) (defBody sIsSame) (defScope sIsSame) .none kVIsSame dcIsSame pmIsSame anIsSame cdIsSame ctIsSame), slIsSame⟩)
    (cIsSame : PySem.W.codeIn K cdIsSame "is_same" = true)
    (kIsSame : PySem.W.keepIn K (.ref fIsSame) = true)
    (aParting : PySem.W.nsIn K mainGlobals "parting" = some (some (.ref fParting)))
    (lParting : K.lookup fParting = some ⟨ocParting, odParting, .func (PySem.W.fnOf "parting" "parting" (defArgs sParting) (defBody sParting) (defScope sParting) .none kVParting dcParting pmParting anParting cdParting ctParting), slParting⟩)
    (cParting : PySem.W.codeIn K cdParting "parting" = true)
    (kParting : PySem.W.keepIn K (.ref fParting) = true)
    (aFirstW : PySem.W.nsIn K mainGlobals "_first_with_kinds" = some (some (.ref fFirstW)))
    (lFirstW : K.lookup fFirstW = some ⟨ocFirstW, odFirstW, .func (PySem.W.fnOf "_first_with_kinds" "_first_with_kinds" (defArgs sFirstWith) (defBody sFirstWith) (defScope sFirstWith) .none kVFirstW dcFirstW pmFirstW anFirstW cdFirstW ctFirstW), slFirstW⟩)
    (cFirstW : PySem.W.codeIn K cdFirstW "_first_with_kinds" = true)
    (kFirstW : PySem.W.keepIn K (.ref fFirstW) = true)
    (aNeedText : PySem.W.nsIn K mainGlobals "need_text" = some (some (.ref fNeedText)))
    (lNeedText : K.lookup fNeedText = some ⟨ocNeedText, odNeedText, .func (PySem.W.fnOf "need_text" "need_text" (defArgs sNeedText) (defBody sNeedText) (defScope sNeedText) .none kVNeedText dcNeedText pmNeedText anNeedText cdNeedText ctNeedText), slNeedText⟩)
    (cNeedText : PySem.W.codeIn K cdNeedText "need_text" = true)
    (kNeedText : PySem.W.keepIn K (.ref fNeedText) = true)
    (aSameLet : PySem.W.nsIn K mainGlobals "need_same_letters" = some (some (.ref fSameLet)))
    (lSameLet : K.lookup fSameLet = some ⟨ocSameLet, odSameLet, .func (PySem.W.fnOf "need_same_letters" "need_same_letters" (defArgs sSameLet) (defBody sSameLet) (defScope sSameLet) .none kVSameLet dcSameLet pmSameLet anSameLet cdSameLet ctSameLet), slSameLet⟩)
    (cSameLet : PySem.W.codeIn K cdSameLet "need_same_letters" = true)
    (kSameLet : PySem.W.keepIn K (.ref fSameLet) = true)
    (aPaired : PySem.W.nsIn K mainGlobals "_paired" = some (some (.ref fPaired)))
    (lPaired : K.lookup fPaired = some ⟨ocPaired, odPaired, .func (PySem.W.fnOf "_paired" "_paired" (defArgs sPaired) (defBody sPaired) (defScope sPaired) .none kVPaired dcPaired pmPaired anPaired cdPaired ctPaired), slPaired⟩)
    (cPaired : PySem.W.codeIn K cdPaired "_paired" = true)
    (kPaired : PySem.W.keepIn K (.ref fPaired) = true)
    (aKindsOf : PySem.W.nsIn K mainGlobals "_kinds_of" = some (some (.ref fKindsOf)))
    (lKindsOf : K.lookup fKindsOf = some ⟨ocKindsOf, odKindsOf, .func (PySem.W.fnOf "_kinds_of" "_kinds_of" (defArgs sKindsOf) (defBody sKindsOf) (defScope sKindsOf) .none kVKindsOf dcKindsOf pmKindsOf anKindsOf cdKindsOf ctKindsOf), slKindsOf⟩)
    (cKindsOf : PySem.W.codeIn K cdKindsOf "_kinds_of" = true)
    (kKindsOf : PySem.W.keepIn K (.ref fKindsOf) = true)
    (aLeastOf : PySem.W.nsIn K mainGlobals "least_of" = some (some (.ref fLeastOf)))
    (lLeastOf : K.lookup fLeastOf = some ⟨ocLeastOf, odLeastOf, .func (PySem.W.fnOf "least_of" "least_of" (defArgs sLeastOf) (defBody sLeastOf) (defScope sLeastOf) .none kVLeastOf dcLeastOf pmLeastOf anLeastOf cdLeastOf ctLeastOf), slLeastOf⟩)
    (cLeastOf : PySem.W.codeIn K cdLeastOf "least_of" = true)
    (kLeastOf : PySem.W.keepIn K (.ref fLeastOf) = true)
    (aAlike : PySem.W.nsIn K mainGlobals "alike_classes" = some (some (.ref fAlike)))
    (lAlike : K.lookup fAlike = some ⟨ocAlike, odAlike, .func (PySem.W.fnOf "alike_classes" "alike_classes" (defArgs sAlike) (defBody sAlike) (defScope sAlike) .none kVAlike dcAlike pmAlike anAlike cdAlike ctAlike), slAlike⟩)
    (cAlike : PySem.W.codeIn K cdAlike "alike_classes" = true)
    (kAlike : PySem.W.keepIn K (.ref fAlike) = true)
    (aNeedParts : PySem.W.nsIn K mainGlobals "_need_parts" = some (some (.ref fNeedParts)))
    (lNeedParts : K.lookup fNeedParts = some ⟨ocNeedParts, odNeedParts, .func (PySem.W.fnOf "_need_parts" "_need_parts" (defArgs sNeedParts) (defBody sNeedParts) (defScope sNeedParts) .none kVNeedParts dcNeedParts pmNeedParts anNeedParts cdNeedParts ctNeedParts), slNeedParts⟩)
    (cNeedParts : PySem.W.codeIn K cdNeedParts "_need_parts" = true)
    (kNeedParts : PySem.W.keepIn K (.ref fNeedParts) = true)
    (aIsRow : PySem.W.nsIn K mainGlobals "_is_row" = some (some (.ref fIsRow)))
    (lIsRow : K.lookup fIsRow = some ⟨ocIsRow, odIsRow, .func (PySem.W.fnOf "_is_row" "_is_row" (defArgs sIsRow) (defBody sIsRow) (defScope sIsRow) .none kVIsRow dcIsRow pmIsRow anIsRow cdIsRow ctIsRow), slIsRow⟩)
    (cIsRow : PySem.W.codeIn K cdIsRow "_is_row" = true)
    (kIsRow : PySem.W.keepIn K (.ref fIsRow) = true)
    (aIsPlace : PySem.W.nsIn K mainGlobals "is_place" = some (some (.ref fIsPlace)))
    (lIsPlace : K.lookup fIsPlace = some ⟨ocIsPlace, odIsPlace, .func (PySem.W.fnOf "is_place" "is_place" (defArgs sIsPlace) (defBody sIsPlace) (defScope sIsPlace) .none kVIsPlace dcIsPlace pmIsPlace anIsPlace cdIsPlace ctIsPlace), slIsPlace⟩)
    (cIsPlace : PySem.W.codeIn K cdIsPlace "is_place" = true)
    (kIsPlace : PySem.W.keepIn K (.ref fIsPlace) = true)
    (aMetFrom : PySem.W.nsIn K mainGlobals "_met_from" = some (some (.ref fMetFrom)))
    (lMetFrom : K.lookup fMetFrom = some ⟨ocMetFrom, odMetFrom, .func (PySem.W.fnOf "_met_from" "_met_from" (defArgs sMetFrom) (defBody sMetFrom) (defScope sMetFrom) .none kVMetFrom dcMetFrom pmMetFrom anMetFrom cdMetFrom ctMetFrom), slMetFrom⟩)
    (cMetFrom : PySem.W.codeIn K cdMetFrom "_met_from" = true)
    (kMetFrom : PySem.W.keepIn K (.ref fMetFrom) = true)
    (aNumFrom : PySem.W.nsIn K mainGlobals "_numbered_from" = some (some (.ref fNumFrom)))
    (lNumFrom : K.lookup fNumFrom = some ⟨ocNumFrom, odNumFrom, .func (PySem.W.fnOf "_numbered_from" "_numbered_from" (defArgs sNumFrom) (defBody sNumFrom) (defScope sNumFrom) .none kVNumFrom dcNumFrom pmNumFrom anNumFrom cdNumFrom ctNumFrom), slNumFrom⟩)
    (cNumFrom : PySem.W.codeIn K cdNumFrom "_numbered_from" = true)
    (kNumFrom : PySem.W.keepIn K (.ref fNumFrom) = true)
    (aPot : PySem.W.nsIn K mainGlobals "_law_pot" = some (some (.ref fPot)))
    (lPot : K.lookup fPot = some ⟨ocPot, odPot, .func (PySem.W.fnOf "_law_pot" "_law_pot" (defArgs sPot) (defBody sPot) (defScope sPot) .none kVPot dcPot pmPot anPot cdPot ctPot), slPot⟩)
    (cPot : PySem.W.codeIn K cdPot "_law_pot" = true)
    (kPot : PySem.W.keepIn K (.ref fPot) = true)
    (aDraw : PySem.W.nsIn K mainGlobals "_law_draw" = some (some (.ref fDraw)))
    (lDraw : K.lookup fDraw = some ⟨ocDraw, odDraw, .func (PySem.W.fnOf "_law_draw" "_law_draw" (defArgs sDraw) (defBody sDraw) (defScope sDraw) .none kVDraw dcDraw pmDraw anDraw cdDraw ctDraw), slDraw⟩)
    (cDraw : PySem.W.codeIn K cdDraw "_law_draw" = true)
    (kDraw : PySem.W.keepIn K (.ref fDraw) = true)
    (aPick : PySem.W.nsIn K mainGlobals "_law_pick" = some (some (.ref fPick)))
    (lPick : K.lookup fPick = some ⟨ocPick, odPick, .func (PySem.W.fnOf "_law_pick" "_law_pick" (defArgs sPick) (defBody sPick) (defScope sPick) .none kVPick dcPick pmPick anPick cdPick ctPick), slPick⟩)
    (cPick : PySem.W.codeIn K cdPick "_law_pick" = true)
    (kPick : PySem.W.keepIn K (.ref fPick) = true)
    (aLMet : PySem.W.nsIn K mainGlobals "_law_met" = some (some (.ref fLMet)))
    (lLMet : K.lookup fLMet = some ⟨ocLMet, odLMet, .func (PySem.W.fnOf "_law_met" "_law_met" (defArgs sLMet) (defBody sLMet) (defScope sLMet) .none kVLMet dcLMet pmLMet anLMet cdLMet ctLMet), slLMet⟩)
    (cLMet : PySem.W.codeIn K cdLMet "_law_met" = true)
    (kLMet : PySem.W.keepIn K (.ref fLMet) = true)
    (aMixed : PySem.W.nsIn K mainGlobals "_law_mixed" = some (some (.ref fMixed)))
    (lMixed : K.lookup fMixed = some ⟨ocMixed, odMixed, .func (PySem.W.fnOf "_law_mixed" "_law_mixed" (defArgs sMixed) (defBody sMixed) (defScope sMixed) .none kVMixed dcMixed pmMixed anMixed cdMixed ctMixed), slMixed⟩)
    (cMixed : PySem.W.codeIn K cdMixed "_law_mixed" = true)
    (kMixed : PySem.W.keepIn K (.ref fMixed) = true)
    (aSheet : PySem.W.nsIn K mainGlobals "_law_sheet" = some (some (.ref fSheet)))
    (lSheet : K.lookup fSheet = some ⟨ocSheet, odSheet, .func (PySem.W.fnOf "_law_sheet" "_law_sheet" (defArgs sSheet) (defBody sSheet) (defScope sSheet) .none kVSheet dcSheet pmSheet anSheet cdSheet ctSheet), slSheet⟩)
    (cSheet : PySem.W.codeIn K cdSheet "_law_sheet" = true)
    (kSheet : PySem.W.keepIn K (.ref fSheet) = true)
    (aTexts : PySem.W.nsIn K mainGlobals "_law_texts" = some (some (.ref fTexts)))
    (lTexts : K.lookup fTexts = some ⟨ocTexts, odTexts, .func (PySem.W.fnOf "_law_texts" "_law_texts" (defArgs sTexts) (defBody sTexts) (defScope sTexts) .none kVTexts dcTexts pmTexts anTexts cdTexts ctTexts), slTexts⟩)
    (cTexts : PySem.W.codeIn K cdTexts "_law_texts" = true)
    (kTexts : PySem.W.keepIn K (.ref fTexts) = true)
    (aLPairs : PySem.W.nsIn K mainGlobals "_law_pairs" = some (some (.ref fLPairs)))
    (lLPairs : K.lookup fLPairs = some ⟨ocLPairs, odLPairs, .func (PySem.W.fnOf "_law_pairs" "_law_pairs" (defArgs sLPairs) (defBody sLPairs) (defScope sLPairs) .none kVLPairs dcLPairs pmLPairs anLPairs cdLPairs ctLPairs), slLPairs⟩)
    (cLPairs : PySem.W.codeIn K cdLPairs "_law_pairs" = true)
    (kLPairs : PySem.W.keepIn K (.ref fLPairs) = true)
    (aDue : PySem.W.nsIn K mainGlobals "_law_due" = some (some (.ref fDue)))
    (lDue : K.lookup fDue = some ⟨ocDue, odDue, .func (PySem.W.fnOf "_law_due" "_law_due" (defArgs sDue) (defBody sDue) (defScope sDue) .none kVDue dcDue pmDue anDue cdDue ctDue), slDue⟩)
    (cDue : PySem.W.codeIn K cdDue "_law_due" = true)
    (kDue : PySem.W.keepIn K (.ref fDue) = true)
    (aLAnd : PySem.W.nsIn K mainGlobals "_law_and" = some (some (.ref fLAnd)))
    (lLAnd : K.lookup fLAnd = some ⟨ocLAnd, odLAnd, .func (PySem.W.fnOf "_law_and" "_law_and" (defArgs sLAnd) (defBody sLAnd) (defScope sLAnd) .none kVLAnd dcLAnd pmLAnd anLAnd cdLAnd ctLAnd), slLAnd⟩)
    (cLAnd : PySem.W.codeIn K cdLAnd "_law_and" = true)
    (kLAnd : PySem.W.keepIn K (.ref fLAnd) = true)
    (aLOr : PySem.W.nsIn K mainGlobals "_law_or" = some (some (.ref fLOr)))
    (lLOr : K.lookup fLOr = some ⟨ocLOr, odLOr, .func (PySem.W.fnOf "_law_or" "_law_or" (defArgs sLOr) (defBody sLOr) (defScope sLOr) .none kVLOr dcLOr pmLOr anLOr cdLOr ctLOr), slLOr⟩)
    (cLOr : PySem.W.codeIn K cdLOr "_law_or" = true)
    (kLOr : PySem.W.keepIn K (.ref fLOr) = true)
    (aLLess : PySem.W.nsIn K mainGlobals "_law_less" = some (some (.ref fLLess)))
    (lLLess : K.lookup fLLess = some ⟨ocLLess, odLLess, .func (PySem.W.fnOf "_law_less" "_law_less" (defArgs sLLess) (defBody sLLess) (defScope sLLess) .none kVLLess dcLLess pmLLess anLLess cdLLess ctLLess), slLLess⟩)
    (cLLess : PySem.W.codeIn K cdLLess "_law_less" = true)
    (kLLess : PySem.W.keepIn K (.ref fLLess) = true)
    (aTwoR : PySem.W.nsIn K mainGlobals "_law_two_right" = some (some (.ref fTwoR)))
    (lTwoR : K.lookup fTwoR = some ⟨ocTwoR, odTwoR, .func (PySem.W.fnOf "_law_two_right" "_law_two_right" (defArgs sTwoR) (defBody sTwoR) (defScope sTwoR) .none kVTwoR dcTwoR pmTwoR anTwoR cdTwoR ctTwoR), slTwoR⟩)
    (cTwoR : PySem.W.codeIn K cdTwoR "_law_two_right" = true)
    (kTwoR : PySem.W.keepIn K (.ref fTwoR) = true)
    (aRules : PySem.W.nsIn K mainGlobals "_law_rules_right" = some (some (.ref fRules)))
    (lRules : K.lookup fRules = some ⟨ocRules, odRules, .func (PySem.W.fnOf "_law_rules_right" "_law_rules_right" (defArgs sRules) (defBody sRules) (defScope sRules) .none kVRules dcRules pmRules anRules cdRules ctRules), slRules⟩)
    (cRules : PySem.W.codeIn K cdRules "_law_rules_right" = true)
    (kRules : PySem.W.keepIn K (.ref fRules) = true)
    (aContr : PySem.W.nsIn K mainGlobals "_law_contrary_right" = some (some (.ref fContr)))
    (lContr : K.lookup fContr = some ⟨ocContr, odContr, .func (PySem.W.fnOf "_law_contrary_right" "_law_contrary_right" (defArgs sContr) (defBody sContr) (defScope sContr) .none kVContr dcContr pmContr anContr cdContr ctContr), slContr⟩)
    (cContr : PySem.W.codeIn K cdContr "_law_contrary_right" = true)
    (kContr : PySem.W.keepIn K (.ref fContr) = true)
    (aRing : PySem.W.nsIn K mainGlobals "_law_ring_right" = some (some (.ref fRing)))
    (lRing : K.lookup fRing = some ⟨ocRing, odRing, .func (PySem.W.fnOf "_law_ring_right" "_law_ring_right" (defArgs sRing) (defBody sRing) (defScope sRing) .none kVRing dcRing pmRing anRing cdRing ctRing), slRing⟩)
    (cRing : PySem.W.codeIn K cdRing "_law_ring_right" = true)
    (kRing : PySem.W.keepIn K (.ref fRing) = true)
    (aRight : PySem.W.nsIn K mainGlobals "_law_right" = some (some (.ref fRight)))
    (lRight : K.lookup fRight = some ⟨ocRight, odRight, .func (PySem.W.fnOf "_law_right" "_law_right" (defArgs sRight) (defBody sRight) (defScope sRight) .none kVRight dcRight pmRight anRight cdRight ctRight), slRight⟩)
    (cRight : PySem.W.codeIn K cdRight "_law_right" = true)
    (kRight : PySem.W.keepIn K (.ref fRight) = true)
    (aLaw : PySem.W.nsIn K mainGlobals "law" = some (some (.ref fLaw)))
    (lLaw : K.lookup fLaw = some ⟨ocLaw, odLaw, .func (PySem.W.fnOf "law" "law" (defArgs sLaw) (defBody sLaw) (defScope sLaw) .none kVLaw dcLaw pmLaw anLaw cdLaw ctLaw), slLaw⟩)
    (cLaw : PySem.W.codeIn K cdLaw "law" = true)
    (kLaw : PySem.W.keepIn K (.ref fLaw) = true)
    (nM : PySem.W.nsIn K mainGlobals "Machine" = some (some (.ref C)))
    (amKinds : PySem.W.findIn K (.ref C) "kinds" = some (some (.ref mKinds)))
    (tmKinds : PySem.W.typeIn K (.ref mKinds) = some (.type "function"))
    (lmKinds : K.lookup mKinds = some ⟨ocmKinds, odmKinds, .func (PySem.W.fnOf "kinds" "Machine.kinds" (defArgs sKinds) (defBody sKinds) (defScope sKinds) .none kVmKinds dcmKinds pmmKinds anmKinds cdmKinds ctmKinds), slmKinds⟩)
    (cmKinds : PySem.W.codeIn K cdmKinds "Machine.kinds" = true)
    (kmKinds : PySem.W.keepIn K (.ref mKinds) = true)
    (amRows : PySem.W.findIn K (.ref C) "rows" = some (some (.ref mRows)))
    (tmRows : PySem.W.typeIn K (.ref mRows) = some (.type "function"))
    (lmRows : K.lookup mRows = some ⟨ocmRows, odmRows, .func (PySem.W.fnOf "rows" "Machine.rows" (defArgs sRows) (defBody sRows) (defScope sRows) .none kVmRows dcmRows pmmRows anmRows cdmRows ctmRows), slmRows⟩)
    (cmRows : PySem.W.codeIn K cdmRows "Machine.rows" = true)
    (kmRows : PySem.W.keepIn K (.ref mRows) = true)
    (amTakes : PySem.W.findIn K (.ref C) "takes" = some (some (.ref mTakes)))
    (tmTakes : PySem.W.typeIn K (.ref mTakes) = some (.type "function"))
    (lmTakes : K.lookup mTakes = some ⟨ocmTakes, odmTakes, .func (PySem.W.fnOf "takes" "Machine.takes" (defArgs sTakes) (defBody sTakes) (defScope sTakes) .none kVmTakes dcmTakes pmmTakes anmTakes cdmTakes ctmTakes), slmTakes⟩)
    (cmTakes : PySem.W.codeIn K cdmTakes "Machine.takes" = true)
    (kmTakes : PySem.W.keepIn K (.ref mTakes) = true)
    (amNumbered : PySem.W.findIn K (.ref C) "numbered" = some (some (.ref mNumbered)))
    (tmNumbered : PySem.W.typeIn K (.ref mNumbered) = some (.type "function"))
    (lmNumbered : K.lookup mNumbered = some ⟨ocmNumbered, odmNumbered, .func (PySem.W.fnOf "numbered" "Machine.numbered" (defArgs sNumbered) (defBody sNumbered) (defScope sNumbered) .none kVmNumbered dcmNumbered pmmNumbered anmNumbered cdmNumbered ctmNumbered), slmNumbered⟩)
    (cmNumbered : PySem.W.codeIn K cdmNumbered "Machine.numbered" = true)
    (kmNumbered : PySem.W.keepIn K (.ref mNumbered) = true)
    (amLeast : PySem.W.findIn K (.ref C) "least" = some (some (.ref mLeast)))
    (tmLeast : PySem.W.typeIn K (.ref mLeast) = some (.type "function"))
    (lmLeast : K.lookup mLeast = some ⟨ocmLeast, odmLeast, .func (PySem.W.fnOf "least" "Machine.least" (defArgs sLeast) (defBody sLeast) (defScope sLeast) .none kVmLeast dcmLeast pmmLeast anmLeast cdmLeast ctmLeast), slmLeast⟩)
    (cmLeast : PySem.W.codeIn K cdmLeast "Machine.least" = true)
    (kmLeast : PySem.W.keepIn K (.ref mLeast) = true)
    (amEq : PySem.W.findIn K (.ref C) "__eq__" = some (some (.ref mEq)))
    (tmEq : PySem.W.typeIn K (.ref mEq) = some (.type "function"))
    (lmEq : K.lookup mEq = some ⟨ocmEq, odmEq, .func (PySem.W.fnOf "__eq__" "Machine.__eq__" (defArgs sEq) (defBody sEq) (defScope sEq) .none kVmEq dcmEq pmmEq anmEq cdmEq ctmEq), slmEq⟩)
    (cmEq : PySem.W.codeIn K cdmEq "Machine.__eq__" = true)
    (kmEq : PySem.W.keepIn K (.ref mEq) = true)
    (amRepr : PySem.W.findIn K (.ref C) "__repr__" = some (some (.ref mRepr)))
    (tmRepr : PySem.W.typeIn K (.ref mRepr) = some (.type "function"))
    (lmRepr : K.lookup mRepr = some ⟨ocmRepr, odmRepr, .func (PySem.W.fnOf "__repr__" "Machine.__repr__" (defArgs sRepr) (defBody sRepr) (defScope sRepr) .none kVmRepr dcmRepr pmmRepr anmRepr cdmRepr ctmRepr), slmRepr⟩)
    (cmRepr : PySem.W.codeIn K cdmRepr "Machine.__repr__" = true)
    (kmRepr : PySem.W.keepIn K (.ref mRepr) = true)
    (amAnd : PySem.W.findIn K (.ref C) "__and__" = some (some (.ref mAnd)))
    (tmAnd : PySem.W.typeIn K (.ref mAnd) = some (.type "function"))
    (lmAnd : K.lookup mAnd = some ⟨ocmAnd, odmAnd, .func (PySem.W.fnOf "__and__" "Machine.__and__" (defArgs sAnd) (defBody sAnd) (defScope sAnd) .none kVmAnd dcmAnd pmmAnd anmAnd cdmAnd ctmAnd), slmAnd⟩)
    (cmAnd : PySem.W.codeIn K cdmAnd "Machine.__and__" = true)
    (kmAnd : PySem.W.keepIn K (.ref mAnd) = true)
    (amOr : PySem.W.findIn K (.ref C) "__or__" = some (some (.ref mOr)))
    (tmOr : PySem.W.typeIn K (.ref mOr) = some (.type "function"))
    (lmOr : K.lookup mOr = some ⟨ocmOr, odmOr, .func (PySem.W.fnOf "__or__" "Machine.__or__" (defArgs sOr) (defBody sOr) (defScope sOr) .none kVmOr dcmOr pmmOr anmOr cdmOr ctmOr), slmOr⟩)
    (cmOr : PySem.W.codeIn K cdmOr "Machine.__or__" = true)
    (kmOr : PySem.W.keepIn K (.ref mOr) = true)
    (amSub : PySem.W.findIn K (.ref C) "__sub__" = some (some (.ref mSub)))
    (tmSub : PySem.W.typeIn K (.ref mSub) = some (.type "function"))
    (lmSub : K.lookup mSub = some ⟨ocmSub, odmSub, .func (PySem.W.fnOf "__sub__" "Machine.__sub__" (defArgs sSub) (defBody sSub) (defScope sSub) .none kVmSub dcmSub pmmSub anmSub cdmSub ctmSub), slmSub⟩)
    (cmSub : PySem.W.codeIn K cdmSub "Machine.__sub__" = true)
    (kmSub : PySem.W.keepIn K (.ref mSub) = true)
    (amInv : PySem.W.findIn K (.ref C) "__invert__" = some (some (.ref mInv)))
    (tmInv : PySem.W.typeIn K (.ref mInv) = some (.type "function"))
    (lmInv : K.lookup mInv = some ⟨ocmInv, odmInv, .func (PySem.W.fnOf "__invert__" "Machine.__invert__" (defArgs sInv) (defBody sInv) (defScope sInv) .none kVmInv dcmInv pmmInv anmInv cdmInv ctmInv), slmInv⟩)
    (cmInv : PySem.W.codeIn K cdmInv "Machine.__invert__" = true)
    (kmInv : PySem.W.keepIn K (.ref mInv) = true)
    (amLed : PySem.W.findIn K (.ref C) "_led" = some (some (.ref mLed)))
    (tmLed : PySem.W.typeIn K (.ref mLed) = some (.type "function"))
    (lmLed : K.lookup mLed = some ⟨ocmLed, odmLed, .func (PySem.W.fnOf "_led" "Machine._led" (defArgs sLed) (defBody sLed) (defScope sLed) .none kVmLed dcmLed pmmLed anmLed cdmLed ctmLed), slmLed⟩)
    (cmLed : PySem.W.codeIn K cdmLed "Machine._led" = true)
    (kmLed : PySem.W.keepIn K (.ref mLed) = true)
    (amInit : PySem.W.findIn K (.ref C) "__init__" = some (some (.ref mInit)))
    (tmInit : PySem.W.typeIn K (.ref mInit) = some (.type "function"))
    (lmInit : K.lookup mInit = some ⟨ocmInit, odmInit, .func (PySem.W.fnOf "__init__" "Machine.__init__" (defArgs sInit) (defBody sInit) (defScope sInit) .none kVmInit dcmInit pmmInit anmInit cdmInit ctmInit), slmInit⟩)
    (cmInit : PySem.W.codeIn K cdmInit "Machine.__init__" = true)
    (kmInit : PySem.W.keepIn K (.ref mInit) = true)
    (amLetters : PySem.W.findIn K (.ref C) "letters" = some (some (.ref pL)))
    (pget : PySem.W.specialIn K (.ref pL) "__get__" = some (some (.builtin "property.__get__")))
    (ptak : PySem.W.takesIn K (.ref pL) = some true)
    (prec : PySem.W.recIn K pL "property" = some (.ref mLetters :: restL))
    (lmLetters : K.lookup mLetters = some ⟨ocmLetters, odmLetters, .func (PySem.W.fnOf "letters" "Machine.letters" (defArgs sLetters) (defBody sLetters) (defScope sLetters) .none kVmLetters dcmLetters pmmLetters anmLetters cdmLetters ctmLetters), slmLetters⟩)
    (cmLetters : PySem.W.codeIn K cdmLetters "Machine.letters" = true)
    (kmLetters : PySem.W.keepIn K (.ref mLetters) = true)
    (nN : PySem.W.nsIn K mainGlobals "NotComeTo" = some (some (.ref cN)))
    (amNC : PySem.W.findIn K (.ref cN) "__init__" = some (some (.ref mNC)))
    (tmNC : PySem.W.typeIn K (.ref mNC) = some (.type "function"))
    (lmNC : K.lookup mNC = some ⟨ocmNC, odmNC, .func (PySem.W.fnOf "__init__" "NotComeTo.__init__" (defArgs stNC) (defBody stNC) (defScope stNC) .none kVmNC dcmNC pmmNC anmNC cdmNC ctmNC), slmNC⟩)
    (cmNC : PySem.W.codeIn K cdmNC "NotComeTo.__init__" = true)
    (kmNC : PySem.W.keepIn K (.ref mNC) = true)
    (bNC : clsB K cN bmR "RuntimeError.__new__" = true)
    (dNC : fldB K cN "place" = true)
    (eNC : excCB K cN = true)
    (cpg : PySem.W.plainGet K C Str.empty = true)
    (chd : PySem.W.hasDictIn K C = true)
    (cpo : PySem.W.plainOver K C = true)
    (csa : PySem.W.findIn K (.ref C) "__setattr__" = some (some (.builtin "object.__setattr__")))
    (n_letters : PySem.W.findIn K (.ref C) "_letters" = some none)
    (n_rows : PySem.W.findIn K (.ref C) "_rows" = some none)
    (n_kinds : PySem.W.findIn K (.ref C) "_kinds" = some none)
    (mmk : PySem.W.makesIn K C = true)
    (mkp : PySem.W.keepIn K (.ref C) = true)
    (ene : PySem.W.findIn K (.ref C) "__ne__" = some (some (.builtin "object.__ne__")))
    (eob : PySem.W.mroIn K C (.type "object") = some true)
    (ica : PySem.W.findIn K (.ref C) "__class__" = some (some (.builtin "object.__class__")))
    (icn : PySem.W.specialIn K (.builtin "object.__class__") "__get__" = some (some (.builtin "getset_descriptor.__get__")))
    (ict : PySem.W.takesIn K (.builtin "object.__class__") = some true)
    (rrd : PySem.W.readsIn K C (.type "type") = true)
    (rga : PySem.W.specialIn K (.ref C) "__getattribute__" = some (some (.builtin "type.__getattribute__")))
    (sfi : PySem.W.selfFirst K C = true)
    (mr2 : mro2 K C = true)
    (fia : PySem.W.findIn K (.ref C) (dunderI Operator.BitAnd.info.2) = some none)
    (gia : PySem.W.findIn K (.type "object") (dunderI Operator.BitAnd.info.2) = some none)
    (fio : PySem.W.findIn K (.ref C) (dunderI Operator.BitOr.info.2) = some none)
    (gio : PySem.W.findIn K (.type "object") (dunderI Operator.BitOr.info.2) = some none)
    (fis : PySem.W.findIn K (.ref C) (dunderI Operator.Sub.info.2) = some none)
    (gis : PySem.W.findIn K (.type "object") (dunderI Operator.Sub.info.2) = some none)
    (vat : PySem.W.findCls K (.ref C) (.type "type") "MOST_PLACES" = some (.val (.int 40 tC2)))
    (gS : PySem.W.nsIn K mainGlobals "SMALL_LETTERS" = some (some (.str "abcdefghijklmnopqrstuvwxyz" tS)))
    (gM : PySem.W.nsIn K mainGlobals "MOST_LETTERS" = some (some (.int 3 tM)))
    (z_tuple : PySem.W.nsIn K mainGlobals "tuple" = some none)
    (z_zip : PySem.W.nsIn K mainGlobals "zip" = some none)
    (z_set : PySem.W.nsIn K mainGlobals "set" = some none)
    (z_bool : PySem.W.nsIn K mainGlobals "bool" = some none)
    (z_any : PySem.W.nsIn K mainGlobals "any" = some none)
    (z_enumerate : PySem.W.nsIn K mainGlobals "enumerate" = some none)
    (z_ve : PySem.W.nsIn K mainGlobals "ValueError" = some none)
    (z_re : PySem.W.nsIn K mainGlobals "RuntimeError" = some none)
    (z_ae : PySem.W.nsIn K mainGlobals "ArithmeticError" = some none)
    (z_len : PySem.W.nsIn K mainGlobals "len" = some none)
    (z_isi : PySem.W.nsIn K mainGlobals "isinstance" = some none)
    (z_all : PySem.W.nsIn K mainGlobals "all" = some none)
    (z_str : PySem.W.nsIn K mainGlobals "str" = some none)
    (z_list : PySem.W.nsIn K mainGlobals "list" = some none)
    (z_sorted : PySem.W.nsIn K mainGlobals "sorted" = some none)
    (z_range : PySem.W.nsIn K mainGlobals "range" = some none)
    (z_sum : PySem.W.nsIn K mainGlobals "sum" = some none)
    (z_repr : PySem.W.nsIn K mainGlobals "repr" = some none)
    (z_int : PySem.W.nsIn K mainGlobals "int" = some none)
    (z_abs : PySem.W.nsIn K mainGlobals "abs" = some none)
    (z_max : PySem.W.nsIn K mainGlobals "max" = some none)
    (z_min : PySem.W.nsIn K mainGlobals "min" = some none)
    (z_divmod : PySem.W.nsIn K mainGlobals "divmod" = some none)
    : ∃ fd : FuncData, (∀ (s : Shared) (u : Value), BindsTo s fd ⟨[u], []⟩ [("_law_script", u)]) ∧
        ∀ base : Heap, K.In base → base.Ns mainGlobals mg → FnG l.prog w K mg base CX0 13 fa fd ["_law_script"] (spLaw K) := by
  have e := hfa.symm.trans (PySem.W.mg_of X G aLaw)
  cases e
  have M : Mx mg := ⟨PySem.W.mg_none_of X G z_tuple, PySem.W.mg_none_of X G z_zip, PySem.W.mg_none_of X G z_set, PySem.W.mg_none_of X G z_bool, PySem.W.mg_none_of X G z_any, PySem.W.mg_none_of X G z_enumerate, PySem.W.mg_none_of X G z_ve, PySem.W.mg_none_of X G z_re, PySem.W.mg_none_of X G z_ae, PySem.W.mg_none_of X G z_len, PySem.W.mg_none_of X G z_isi, PySem.W.mg_none_of X G z_all, PySem.W.mg_none_of X G z_str, PySem.W.mg_none_of X G z_list, PySem.W.mg_none_of X G z_sorted, PySem.W.mg_none_of X G z_range, PySem.W.mg_none_of X G z_sum, PySem.W.mg_none_of X G z_repr, PySem.W.mg_none_of X G z_int, PySem.W.mg_none_of X G z_abs, PySem.W.mg_none_of X G z_max, PySem.W.mg_none_of X G z_min, PySem.W.mg_none_of X G z_divmod⟩
  have FIsInt := fun_mk (st := sIsInt) lIsInt cIsInt kIsInt
  have bIsInt : Binds K _ ["value"] [] := FIsInt.binds (ps := ["value"]) fun _ _ _ _ _ _ us hl => match us, hl with | [_], _ => rfl
  have gIsInt := PySem.W.mg_of X G aIsInt
  have FIsText := fun_mk (st := sIsText) lIsText cIsText kIsText
  have bIsText : Binds K _ ["value"] [] := FIsText.binds (ps := ["value"]) fun _ _ _ _ _ _ us hl => match us, hl with | [_], _ => rfl
  have gIsText := PySem.W.mg_of X G aIsText
  have FIsOver := fun_mk (st := sIsOver) lIsOver cIsOver kIsOver
  have bIsOver : Binds K _ ["value", "letters"] [] := FIsOver.binds (ps := ["value", "letters"]) fun _ _ _ _ _ _ us hl => match us, hl with | [_, _], _ => rfl
  have gIsOver := PySem.W.mg_of X G aIsOver
  have FAreLet := fun_mk (st := sAreLet) lAreLet cAreLet kAreLet
  have bAreLet : Binds K _ ["value"] [] := FAreLet.binds (ps := ["value"]) fun _ _ _ _ _ _ us hl => match us, hl with | [_], _ => rfl
  have gAreLet := PySem.W.mg_of X G aAreLet
  have FIsSame := fun_mk (st := sIsSame) lIsSame cIsSame kIsSame
  have bIsSame : Binds K _ ["one", "other"] [] := FIsSame.binds (ps := ["one", "other"]) fun _ _ _ _ _ _ us hl => match us, hl with | [_, _], _ => rfl
  have gIsSame := PySem.W.mg_of X G aIsSame
  have FParting := fun_mk (st := sParting) lParting cParting kParting
  have bParting : Binds K _ ["one", "other"] [] := FParting.binds (ps := ["one", "other"]) fun _ _ _ _ _ _ us hl => match us, hl with | [_, _], _ => rfl
  have gParting := PySem.W.mg_of X G aParting
  have FFirstW := fun_mk (st := sFirstWith) lFirstW cFirstW kFirstW
  have bFirstW : Binds K _ ["one", "other", "wanted"] [] := FFirstW.binds (ps := ["one", "other", "wanted"]) fun _ _ _ _ _ _ us hl => match us, hl with | [_, _, _], _ => rfl
  have gFirstW := PySem.W.mg_of X G aFirstW
  have FNeedText := fun_mk (st := sNeedText) lNeedText cNeedText kNeedText
  have bNeedText : Binds K _ ["value", "letters"] [] := FNeedText.binds (ps := ["value", "letters"]) fun _ _ _ _ _ _ us hl => match us, hl with | [_, _], _ => rfl
  have gNeedText := PySem.W.mg_of X G aNeedText
  have FSameLet := fun_mk (st := sSameLet) lSameLet cSameLet kSameLet
  have bSameLet : Binds K _ ["one", "other"] [] := FSameLet.binds (ps := ["one", "other"]) fun _ _ _ _ _ _ us hl => match us, hl with | [_, _], _ => rfl
  have gSameLet := PySem.W.mg_of X G aSameLet
  have FPaired := fun_mk (st := sPaired) lPaired cPaired kPaired
  have bPaired : Binds K _ ["one", "other"] [] := FPaired.binds (ps := ["one", "other"]) fun _ _ _ _ _ _ us hl => match us, hl with | [_, _], _ => rfl
  have gPaired := PySem.W.mg_of X G aPaired
  have FKindsOf := fun_mk (st := sKindsOf) lKindsOf cKindsOf kKindsOf
  have bKindsOf : Binds K _ ["one", "other", "pairs"] [] := FKindsOf.binds (ps := ["one", "other", "pairs"]) fun _ _ _ _ _ _ us hl => match us, hl with | [_, _, _], _ => rfl
  have gKindsOf := PySem.W.mg_of X G aKindsOf
  have FLeastOf := fun_mk (st := sLeastOf) lLeastOf cLeastOf kLeastOf
  have bLeastOf : Binds K _ ["letters", "rows", "kinds", "start"] [] := FLeastOf.binds (ps := ["letters", "rows", "kinds", "start"]) fun _ _ _ _ _ _ us hl => match us, hl with | [_, _, _, _], _ => rfl
  have gLeastOf := PySem.W.mg_of X G aLeastOf
  have FAlike := fun_mk (st := sAlike) lAlike cAlike kAlike
  have bAlike : Binds K _ ["rows", "kinds"] [] := FAlike.binds (ps := ["rows", "kinds"]) fun _ _ _ _ _ _ us hl => match us, hl with | [_, _], _ => rfl
  have gAlike := PySem.W.mg_of X G aAlike
  have FNeedParts := fun_mk (st := sNeedParts) lNeedParts cNeedParts kNeedParts
  have bNeedParts : Binds K _ ["letters", "rows", "kinds"] [] := FNeedParts.binds (ps := ["letters", "rows", "kinds"]) fun _ _ _ _ _ _ us hl => match us, hl with | [_, _, _], _ => rfl
  have gNeedParts := PySem.W.mg_of X G aNeedParts
  have FIsRow := fun_mk (st := sIsRow) lIsRow cIsRow kIsRow
  have bIsRow : Binds K _ ["value", "many_letters", "many_places"] [] := FIsRow.binds (ps := ["value", "many_letters", "many_places"]) fun _ _ _ _ _ _ us hl => match us, hl with | [_, _, _], _ => rfl
  have gIsRow := PySem.W.mg_of X G aIsRow
  have FIsPlace := fun_mk (st := sIsPlace) lIsPlace cIsPlace kIsPlace
  have bIsPlace : Binds K _ ["value", "many"] [] := FIsPlace.binds (ps := ["value", "many"]) fun _ _ _ _ _ _ us hl => match us, hl with | [_, _], _ => rfl
  have gIsPlace := PySem.W.mg_of X G aIsPlace
  have FMetFrom := fun_mk (st := sMetFrom) lMetFrom cMetFrom kMetFrom
  have bMetFrom : Binds K _ ["rows", "start"] [] := FMetFrom.binds (ps := ["rows", "start"]) fun _ _ _ _ _ _ us hl => match us, hl with | [_, _], _ => rfl
  have gMetFrom := PySem.W.mg_of X G aMetFrom
  have FNumFrom := fun_mk (st := sNumFrom) lNumFrom cNumFrom kNumFrom
  have bNumFrom : Binds K _ ["letters", "rows", "kinds", "start"] [] := FNumFrom.binds (ps := ["letters", "rows", "kinds", "start"]) fun _ _ _ _ _ _ us hl => match us, hl with | [_, _, _, _], _ => rfl
  have gNumFrom := PySem.W.mg_of X G aNumFrom
  have FPot := fun_mk (st := sPot) lPot cPot kPot
  have bPot : Binds K _ ["_law_script", "_law_k"] [] := FPot.binds (ps := ["_law_script", "_law_k"]) fun _ _ _ _ _ _ us hl => match us, hl with | [_, _], _ => rfl
  have gPot := PySem.W.mg_of X G aPot
  have FDraw := fun_mk (st := sDraw) lDraw cDraw kDraw
  have bDraw : Binds K _ ["_law_pot_here", "_law_sides"] [] := FDraw.binds (ps := ["_law_pot_here", "_law_sides"]) fun _ _ _ _ _ _ us hl => match us, hl with | [_, _], _ => rfl
  have gDraw := PySem.W.mg_of X G aDraw
  have FPick := fun_mk (st := sPick) lPick cPick kPick
  have bPick : Binds K _ ["_law_pot_here", "_law_some"] [] := FPick.binds (ps := ["_law_pot_here", "_law_some"]) fun _ _ _ _ _ _ us hl => match us, hl with | [_, _], _ => rfl
  have gPick := PySem.W.mg_of X G aPick
  have FLMet := fun_mk (st := sLMet) lLMet cLMet kLMet
  have bLMet : Binds K _ ["_law_rows", "_law_start"] [] := FLMet.binds (ps := ["_law_rows", "_law_start"]) fun _ _ _ _ _ _ us hl => match us, hl with | [_, _], _ => rfl
  have gLMet := PySem.W.mg_of X G aLMet
  have FMixed := fun_mk (st := sMixed) lMixed cMixed kMixed
  have bMixed : Binds K _ ["_law_pot_here", "_law_some"] [] := FMixed.binds (ps := ["_law_pot_here", "_law_some"]) fun _ _ _ _ _ _ us hl => match us, hl with | [_, _], _ => rfl
  have gMixed := PySem.W.mg_of X G aMixed
  have FSheet := fun_mk (st := sSheet) lSheet cSheet kSheet
  have bSheet : Binds K _ ["_law_pot_here", "_law_signs", "_law_most"] [] := FSheet.binds (ps := ["_law_pot_here", "_law_signs", "_law_most"]) fun _ _ _ _ _ _ us hl => match us, hl with | [_, _, _], _ => rfl
  have gSheet := PySem.W.mg_of X G aSheet
  have FTexts := fun_mk (st := sTexts) lTexts cTexts kTexts
  have bTexts : Binds K _ ["_law_signs", "_law_most"] [] := FTexts.binds (ps := ["_law_signs", "_law_most"]) fun _ _ _ _ _ _ us hl => match us, hl with | [_, _], _ => rfl
  have gTexts := PySem.W.mg_of X G aTexts
  have FLPairs := fun_mk (st := sLPairs) lLPairs cLPairs kLPairs
  have bLPairs : Binds K _ ["_law_sheets"] [] := FLPairs.binds (ps := ["_law_sheets"]) fun _ _ _ _ _ _ us hl => match us, hl with | [_], _ => rfl
  have gLPairs := PySem.W.mg_of X G aLPairs
  have FDue := fun_mk (st := sDue) lDue cDue kDue
  have bDue : Binds K _ ["_law_signs", "_law_sheets"] [] := FDue.binds (ps := ["_law_signs", "_law_sheets"]) fun _ _ _ _ _ _ us hl => match us, hl with | [_, _], _ => rfl
  have gDue := PySem.W.mg_of X G aDue
  have FLAnd := fun_mk (st := sLAnd) lLAnd cLAnd kLAnd
  have bLAnd : Binds K _ ["_law_one", "_law_other"] [] := FLAnd.binds (ps := ["_law_one", "_law_other"]) fun _ _ _ _ _ _ us hl => match us, hl with | [_, _], _ => rfl
  have gLAnd := PySem.W.mg_of X G aLAnd
  have FLOr := fun_mk (st := sLOr) lLOr cLOr kLOr
  have bLOr : Binds K _ ["_law_one", "_law_other"] [] := FLOr.binds (ps := ["_law_one", "_law_other"]) fun _ _ _ _ _ _ us hl => match us, hl with | [_, _], _ => rfl
  have gLOr := PySem.W.mg_of X G aLOr
  have FLLess := fun_mk (st := sLLess) lLLess cLLess kLLess
  have bLLess : Binds K _ ["_law_one", "_law_other"] [] := FLLess.binds (ps := ["_law_one", "_law_other"]) fun _ _ _ _ _ _ us hl => match us, hl with | [_, _], _ => rfl
  have gLLess := PySem.W.mg_of X G aLLess
  have FTwoR := fun_mk (st := sTwoR) lTwoR cTwoR kTwoR
  have bTwoR : Binds K _ ["_law_signs", "_law_sheets", "_law_one", "_law_other", "_law_texts_here"] [] := FTwoR.binds (ps := ["_law_signs", "_law_sheets", "_law_one", "_law_other", "_law_texts_here"]) fun _ _ _ _ _ _ us hl => match us, hl with | [_, _, _, _, _], _ => rfl
  have gTwoR := PySem.W.mg_of X G aTwoR
  have FRules := fun_mk (st := sRules) lRules cRules kRules
  have bRules : Binds K _ ["_law_one", "_law_other", "_law_third"] [] := FRules.binds (ps := ["_law_one", "_law_other", "_law_third"]) fun _ _ _ _ _ _ us hl => match us, hl with | [_, _, _], _ => rfl
  have gRules := PySem.W.mg_of X G aRules
  have FContr := fun_mk (st := sContr) lContr cContr kContr
  have bContr : Binds K _ ["_law_signs", "_law_sheet_here", "_law_rig", "_law_texts_here"] [] := FContr.binds (ps := ["_law_signs", "_law_sheet_here", "_law_rig", "_law_texts_here"]) fun _ _ _ _ _ _ us hl => match us, hl with | [_, _, _, _], _ => rfl
  have gContr := PySem.W.mg_of X G aContr
  have FRing := fun_mk (st := sRing) lRing cRing kRing
  have bRing : Binds K _ ["_law_pot_here"] [] := FRing.binds (ps := ["_law_pot_here"]) fun _ _ _ _ _ _ us hl => match us, hl with | [_], _ => rfl
  have gRing := PySem.W.mg_of X G aRing
  have FRight := fun_mk (st := sRight) lRight cRight kRight
  have bRight : Binds K _ ["_law_pot_here"] [] := FRight.binds (ps := ["_law_pot_here"]) fun _ _ _ _ _ _ us hl => match us, hl with | [_], _ => rfl
  have gRight := PySem.W.mg_of X G aRight
  have FLaw := fun_mk (st := sLaw) lLaw cLaw kLaw
  have bLaw : Binds K _ ["_law_script"] [] := FLaw.binds (ps := ["_law_script"]) fun _ _ _ _ _ _ us hl => match us, hl with | [_], _ => rfl
  have gLaw := PySem.W.mg_of X G aLaw
  have FmKinds := fun_mk (st := sKinds) lmKinds cmKinds kmKinds
  have bmKinds : Binds K _ ["self"] [] := FmKinds.binds (ps := ["self"]) fun _ _ _ _ _ _ us hl => match us, hl with | [_], _ => rfl
  have MKinds : Meth K C "kinds" mKinds := ⟨amKinds, by unfold PySem.W.isFn; rw [tmKinds]; rfl, kmKinds⟩
  have FmRows := fun_mk (st := sRows) lmRows cmRows kmRows
  have bmRows : Binds K _ ["self"] [] := FmRows.binds (ps := ["self"]) fun _ _ _ _ _ _ us hl => match us, hl with | [_], _ => rfl
  have MRows : Meth K C "rows" mRows := ⟨amRows, by unfold PySem.W.isFn; rw [tmRows]; rfl, kmRows⟩
  have FmTakes := fun_mk (st := sTakes) lmTakes cmTakes kmTakes
  have bmTakes : Binds K _ ["self", "text"] [] := FmTakes.binds (ps := ["self", "text"]) fun _ _ _ _ _ _ us hl => match us, hl with | [_, _], _ => rfl
  have MTakes : Meth K C "takes" mTakes := ⟨amTakes, by unfold PySem.W.isFn; rw [tmTakes]; rfl, kmTakes⟩
  have FmNumbered := fun_mk (st := sNumbered) lmNumbered cmNumbered kmNumbered
  have bmNumbered : Binds K _ ["self"] [] := FmNumbered.binds (ps := ["self"]) fun _ _ _ _ _ _ us hl => match us, hl with | [_], _ => rfl
  have MNumbered : Meth K C "numbered" mNumbered := ⟨amNumbered, by unfold PySem.W.isFn; rw [tmNumbered]; rfl, kmNumbered⟩
  have FmLeast := fun_mk (st := sLeast) lmLeast cmLeast kmLeast
  have bmLeast : Binds K _ ["self"] [] := FmLeast.binds (ps := ["self"]) fun _ _ _ _ _ _ us hl => match us, hl with | [_], _ => rfl
  have MLeast : Meth K C "least" mLeast := ⟨amLeast, by unfold PySem.W.isFn; rw [tmLeast]; rfl, kmLeast⟩
  have FmEq := fun_mk (st := sEq) lmEq cmEq kmEq
  have bmEq : Binds K _ ["self", "other"] [] := FmEq.binds (ps := ["self", "other"]) fun _ _ _ _ _ _ us hl => match us, hl with | [_, _], _ => rfl
  have MEq : Meth K C "__eq__" mEq := ⟨amEq, by unfold PySem.W.isFn; rw [tmEq]; rfl, kmEq⟩
  have FmRepr := fun_mk (st := sRepr) lmRepr cmRepr kmRepr
  have bmRepr : Binds K _ ["self"] [] := FmRepr.binds (ps := ["self"]) fun _ _ _ _ _ _ us hl => match us, hl with | [_], _ => rfl
  have MRepr : Meth K C "__repr__" mRepr := ⟨amRepr, by unfold PySem.W.isFn; rw [tmRepr]; rfl, kmRepr⟩
  have FmAnd := fun_mk (st := sAnd) lmAnd cmAnd kmAnd
  have bmAnd : Binds K _ ["self", "other"] [] := FmAnd.binds (ps := ["self", "other"]) fun _ _ _ _ _ _ us hl => match us, hl with | [_, _], _ => rfl
  have MAnd : Meth K C "__and__" mAnd := ⟨amAnd, by unfold PySem.W.isFn; rw [tmAnd]; rfl, kmAnd⟩
  have FmOr := fun_mk (st := sOr) lmOr cmOr kmOr
  have bmOr : Binds K _ ["self", "other"] [] := FmOr.binds (ps := ["self", "other"]) fun _ _ _ _ _ _ us hl => match us, hl with | [_, _], _ => rfl
  have MOr : Meth K C "__or__" mOr := ⟨amOr, by unfold PySem.W.isFn; rw [tmOr]; rfl, kmOr⟩
  have FmSub := fun_mk (st := sSub) lmSub cmSub kmSub
  have bmSub : Binds K _ ["self", "other"] [] := FmSub.binds (ps := ["self", "other"]) fun _ _ _ _ _ _ us hl => match us, hl with | [_, _], _ => rfl
  have MSub : Meth K C "__sub__" mSub := ⟨amSub, by unfold PySem.W.isFn; rw [tmSub]; rfl, kmSub⟩
  have FmInv := fun_mk (st := sInv) lmInv cmInv kmInv
  have bmInv : Binds K _ ["self"] [] := FmInv.binds (ps := ["self"]) fun _ _ _ _ _ _ us hl => match us, hl with | [_], _ => rfl
  have MInv : Meth K C "__invert__" mInv := ⟨amInv, by unfold PySem.W.isFn; rw [tmInv]; rfl, kmInv⟩
  have FmLed := fun_mk (st := sLed) lmLed cmLed kmLed
  have bmLed : Binds K _ ["self", "place", "text"] [] := FmLed.binds (ps := ["self", "place", "text"]) fun _ _ _ _ _ _ us hl => match us, hl with | [_, _, _], _ => rfl
  have MLed : Meth K C "_led" mLed := ⟨amLed, by unfold PySem.W.isFn; rw [tmLed]; rfl, kmLed⟩
  have FmInit := fun_mk (st := sInit) lmInit cmInit kmInit
  have bmInit : Binds K _ ["self", "letters", "rows", "kinds"] [] := FmInit.binds (ps := ["self", "letters", "rows", "kinds"]) fun _ _ _ _ _ _ us hl => match us, hl with | [_, _, _, _], _ => rfl
  have gMa := PySem.W.mg_of X G nM
  have gN := PySem.W.mg_of X G nN
  have FNC := fun_mk (st := stNC) lmNC cmNC kmNC
  have bmNC : Binds K _ ["self", "place"] [] := FNC.binds (ps := ["self", "place"]) fun _ _ _ _ _ _ us hl => match us, hl with | [_, _], _ => rfl
  have cM : ClsM K C := ⟨⟨cpg, chd, cpo, csa⟩, n_letters, n_rows, n_kinds⟩
  have cE : EqC K C := ⟨ene, eob⟩
  have iM : IsM K C := ⟨fun H a dx fs ea _ => .base (.ins ea cM.cls ica icn ict eob), by unfold PySem.W.kitOne; simp⟩
  have mK : Mk K C mInit := ⟨mmk, amInit, by unfold PySem.W.isFn; rw [tmInit]; rfl, mkp⟩
  have rC : CRead K C (.type "type") := ⟨rrd, rga⟩
  have vC : CVal K C (.type "type") "MOST_PLACES" (.int 40) (.int 40 tC2) := ⟨vat, ⟨_, rfl⟩⟩
  have bmLetters : Binds K _ ["self"] [] := (fun_mk (st := sLetters) lmLetters cmLetters kmLetters).binds (ps := ["self"]) fun _ _ _ _ _ _ us hl => match us, hl with | [_], _ => rfl
  have oC : OpsC K C := ⟨sfi, mr2, fia, gia, fio, gio, fis, gis⟩
  refine ⟨PySem.W.fnOf "law" "law" (defArgs sLaw) (defBody sLaw) (defScope sLaw) .none kVLaw dcLaw pmLaw anLaw cdLaw ctLaw, fun s v => .of_eq rfl, fun base _ _ => ?_⟩
  have hNC : HasC l.prog w K mg base 1 "NotComeTo" cN ["place"] := hasC1 (k := 0) PySem.F.excBase_RuntimeError PySem.F.store_RuntimeError bNC dNC gN amNC tmNC FNC scNC rfl (.inl rfl) (.inl rfl) (by decide) (by decide) (fun _ _ => rfl) bmNC (fun s z ws hl => match ws, hl with | [_], _ => ⟨.of_eq rfl, .of_eq rfl⟩)
  have hIsInt : Has l.prog w K mg base 1 "is_integer" ["value"] spIsInt := has_of (ok_isInt (k := 0) FIsInt M) gIsInt kIsInt bIsInt (fun s us hl => match us, hl with | [_], _ => ⟨.of_eq rfl, .of_eq rfl⟩)
  have hIsText : Has l.prog w K mg base 1 "is_text" ["value"] spIsText := has_of (ok_isText (k := 0) FIsText M (PySem.W.mg_of X G gS)) gIsText kIsText bIsText (fun s us hl => match us, hl with | [_], _ => ⟨.of_eq rfl, .of_eq rfl⟩)
  have hIsOver : Has l.prog w K mg base 1 "is_over" ["value", "letters"] (spIsOver K) := has_of (ok_isOver (k := 0) FIsOver M) gIsOver kIsOver bIsOver (fun s us hl => match us, hl with | [_, _], _ => ⟨.of_eq rfl, .of_eq rfl⟩)
  have hAreLet : Has l.prog w K mg base 2 "are_letters" ["value"] spAreLet := has_of (ok_areLet (k := 1) FAreLet M (PySem.W.mg_of X G gM) hIsText) gAreLet kAreLet bAreLet (fun s us hl => match us, hl with | [_], _ => ⟨.of_eq rfl, .of_eq rfl⟩)
  have hNeedText : Has l.prog w K mg base 2 "need_text" ["value", "letters"] spNeedText := has_of (ok_needText (k := 1) FNeedText hIsOver) gNeedText kNeedText bNeedText (fun s us hl => match us, hl with | [_, _], _ => ⟨.of_eq rfl, .of_eq rfl⟩)
  have hIsPlace : Has l.prog w K mg base 2 "is_place" ["value", "many"] spIsPlace := has_of (ok_isPlace (k := 1) FIsPlace hIsInt) gIsPlace kIsPlace bIsPlace (fun s us hl => match us, hl with | [_, _], _ => ⟨.of_eq rfl, .of_eq rfl⟩)
  have hIsRow : Has l.prog w K mg base 3 "_is_row" ["value", "many_letters", "many_places"] (spIsRow K) := has_of (ok_isRow (k := 2) FIsRow M hIsPlace) gIsRow kIsRow bIsRow (fun s us hl => match us, hl with | [_, _, _], _ => ⟨.of_eq rfl, .of_eq rfl⟩)
  have hNeedParts : Has l.prog w K mg base 4 "_need_parts" ["letters", "rows", "kinds"] (spNeedParts K) := has_of (ok_needParts (k := 3) FNeedParts M (hAreLet.up (by omega)) hIsRow gMa rC vC) gNeedParts kNeedParts bNeedParts (fun s us hl => match us, hl with | [_, _, _], _ => ⟨.of_eq rfl, .of_eq rfl⟩)
  have hMetFrom : Has l.prog w K mg base 1 "_met_from" ["rows", "start"] (spMetFrom K) := has_of (ok_metFrom (k := 0) FMetFrom M) gMetFrom kMetFrom bMetFrom (fun s us hl => match us, hl with | [_, _], _ => ⟨.of_eq rfl, .of_eq rfl⟩)
  have iX := ok_initX (k := 3) FmInit M cM hNeedParts (hMetFrom.up (by omega)) (hNC.up (by omega))
  have hInitX : HasIX l.prog w K mg base 5 "Machine" C ["letters", "rows", "kinds"] (spInitX K C cN) := ⟨_, _, iX, mK, bmInit, gMa, fun s z us hl => match us, hl with | [_, _, _], _ => .of_eq rfl⟩
  have hInit : HasI l.prog w K mg base 5 "Machine" C ["letters", "rows", "kinds"] (spInit K C) := hInitX.calm spInit_X
  have HKinds : HasM l.prog w K mg base 1 C "kinds" [] (spKinds C) := ⟨_, _, ok_kinds (k := 0) FmKinds M cM, MKinds, bmKinds, fun s z us hl => match us, hl with | [], _ => ⟨.of_eq rfl, .of_eq rfl⟩⟩
  have HLed : HasM l.prog w K mg base 1 C "_led" ["place", "text"] (spLed C) := ⟨_, _, ok_led (k := 0) FmLed M cM, MLed, bmLed, fun s z us hl => match us, hl with | [_, _], _ => ⟨.of_eq rfl, .of_eq rfl⟩⟩
  have HRows : HasM l.prog w K mg base 1 C "rows" [] (spRows C) := ⟨_, _, ok_rows (k := 0) FmRows M cM, MRows, bmRows, fun s z us hl => match us, hl with | [], _ => ⟨.of_eq rfl, .of_eq rfl⟩⟩
  have HTakes : HasM l.prog w K mg base 3 C "takes" ["text"] (spTakes C) := ⟨_, _, ok_takes (k := 2) FmTakes M cM (HLed.up (by omega)) hNeedText, MTakes, bmTakes, fun s z us hl => match us, hl with | [_], _ => ⟨.of_eq rfl, .of_eq rfl⟩⟩
  have hNumFrom : Has l.prog w K mg base 7 "_numbered_from" ["letters", "rows", "kinds", "start"] (spNumFrom K C) := has_of (ok_numFrom (k := 5) FNumFrom M (hMetFrom.up (by omega)) hInit) gNumFrom kNumFrom bNumFrom (fun s us hl => match us, hl with | [_, _, _, _], _ => ⟨.of_eq rfl, .of_eq rfl⟩)
  have HNumbered : HasM l.prog w K mg base 8 C "numbered" [] (spNumbered C) := ⟨_, _, ok_numbered (k := 7) FmNumbered M cM hNumFrom, MNumbered, bmNumbered, fun s z us hl => match us, hl with | [], _ => ⟨.of_eq rfl, .of_eq rfl⟩⟩
  have HLetters : HasP l.prog w K mg base 1 C "letters" (getSp C "_letters") := ⟨_, _, _, ⟨amLetters, pget, ptak, ⟨_, prec⟩⟩, fn_getter (k := 0) lmLetters cmLetters scLetters rfl rfl cM.cls n_letters, bmLetters⟩
  have HEq : HasM l.prog w K mg base 3 C "__eq__" ["other"] (spEq K C) := ⟨_, _, ok_eq (k := 1) FmEq M cM iM gMa HLetters (HRows.up (by omega)) (HKinds.up (by omega)), MEq, bmEq, fun s z us hl => match us, hl with | [_], _ => ⟨.of_eq rfl, .of_eq rfl⟩⟩
  have HReprR : HasR l.prog w K mg base 1 C "__repr__" (spRepr C) := ⟨_, _, ok_repr (k := 0) FmRepr cM, MRepr, bmRepr⟩
  have HRepr : HasM l.prog w K mg base 1 C "__repr__" [] (spRepr C) := ⟨_, _, (ok_repr (k := 0) FmRepr cM).g, MRepr, bmRepr, fun s z us hl => match us, hl with | [], _ => ⟨.of_eq rfl, .of_eq rfl⟩⟩
  have hSameLet : Has l.prog w K mg base 3 "need_same_letters" ["one", "other"] (spSameLet C) := has_of (ok_sameLet (k := 1) FSameLet cM HLetters) gSameLet kSameLet bSameLet (fun s us hl => match us, hl with | [_, _], _ => ⟨.of_eq rfl, .of_eq rfl⟩)
  have hFirstW : Has l.prog w K mg base 3 "_first_with_kinds" ["one", "other", "wanted"] (spFirstNone C) := has_of (ok_firstNone (k := 1) FFirstW M cM HLetters (HRows.up (by omega)) (HKinds.up (by omega))) gFirstW kFirstW bFirstW (fun s us hl => match us, hl with | [_, _, _], _ => ⟨.of_eq rfl, .of_eq rfl⟩)
  have hFirstNow : Has l.prog w K mg base 3 "_first_with_kinds" ["one", "other", "wanted"] (spFirstNow C) := has_of (ok_firstNow (k := 1) FFirstW M cM HLetters (HRows.up (by omega)) (HKinds.up (by omega))) gFirstW kFirstW bFirstW (fun s us hl => match us, hl with | [_, _, _], _ => ⟨.of_eq rfl, .of_eq rfl⟩)
  have hParting : Has l.prog w K mg base 4 "parting" ["one", "other"] (spPartNone C) := has_of (ok_parting (k := 3) FParting hSameLet hFirstW) gParting kParting bParting (fun s us hl => match us, hl with | [_, _], _ => ⟨.of_eq rfl, .of_eq rfl⟩)
  have hPartNow : Has l.prog w K mg base 4 "parting" ["one", "other"] (spPartNow C) := has_of (ok_partNow (k := 3) FParting hSameLet hFirstNow) gParting kParting bParting (fun s us hl => match us, hl with | [_, _], _ => ⟨.of_eq rfl, .of_eq rfl⟩)
  have hIsSame : Has l.prog w K mg base 5 "is_same" ["one", "other"] (spIsSameYes C) := has_of (ok_isSame (k := 4) FIsSame hParting) gIsSame kIsSame bIsSame (fun s us hl => match us, hl with | [_, _], _ => ⟨.of_eq rfl, .of_eq rfl⟩)
  have hAlike : Has l.prog w K mg base 1 "alike_classes" ["rows", "kinds"] spAlike := has_of (ok_alike (k := 0) FAlike M) gAlike kAlike bAlike (fun s us hl => match us, hl with | [_, _], _ => ⟨.of_eq rfl, .of_eq rfl⟩)
  have hLeastOf : Has l.prog w K mg base 8 "least_of" ["letters", "rows", "kinds", "start"] (spLeastOf C) := has_of (ok_leastOf (k := 7) FLeastOf M (hAlike.up (by omega)) hNumFrom gMa rC vC) gLeastOf kLeastOf bLeastOf (fun s us hl => match us, hl with | [_, _, _, _], _ => ⟨.of_eq rfl, .of_eq rfl⟩)
  have HLeast : HasM l.prog w K mg base 9 C "least" [] (spLeast C) := ⟨_, _, ok_least (k := 8) FmLeast cM hLeastOf, MLeast, bmLeast, fun s z us hl => match us, hl with | [], _ => ⟨.of_eq rfl, .of_eq rfl⟩⟩
  have hPaired : Has l.prog w K mg base 4 "_paired" ["one", "other"] (spPaired C) := has_of (ok_paired (k := 2) FPaired M cM iM gMa hSameLet (HRows.up (by omega))) gPaired kPaired bPaired (fun s us hl => match us, hl with | [_, _], _ => ⟨.of_eq rfl, .of_eq rfl⟩)
  have hKindsOf : Has l.prog w K mg base 2 "_kinds_of" ["one", "other", "pairs"] (spKindsOf C) := has_of (ok_kindsOf (k := 0) FKindsOf M cM HKinds) gKindsOf kKindsOf bKindsOf (fun s us hl => match us, hl with | [_, _, _], _ => ⟨.of_eq rfl, .of_eq rfl⟩)
  have HAnd : HasM l.prog w K mg base 7 C "__and__" ["other"] (spTwo C opA) := ⟨_, _, ok_and (k := 5) FmAnd M cM (hPaired.up (by omega)) (hKindsOf.up (by omega)) hInit, MAnd, bmAnd, fun s z us hl => match us, hl with | [_], _ => ⟨.of_eq rfl, .of_eq rfl⟩⟩
  have HOr : HasM l.prog w K mg base 7 C "__or__" ["other"] (spTwo C opO) := ⟨_, _, ok_or (k := 5) FmOr M cM (hPaired.up (by omega)) (hKindsOf.up (by omega)) hInit, MOr, bmOr, fun s z us hl => match us, hl with | [_], _ => ⟨.of_eq rfl, .of_eq rfl⟩⟩
  have HSub : HasM l.prog w K mg base 7 C "__sub__" ["other"] (spTwo C opS) := ⟨_, _, ok_sub (k := 5) FmSub M cM (hPaired.up (by omega)) (hKindsOf.up (by omega)) hInit, MSub, bmSub, fun s z us hl => match us, hl with | [_], _ => ⟨.of_eq rfl, .of_eq rfl⟩⟩
  have HInv : HasM l.prog w K mg base 7 C "__invert__" [] (spInv C) := ⟨_, _, ok_invert (k := 5) FmInv cM hInit, MInv, bmInv, fun s z us hl => match us, hl with | [], _ => ⟨.of_eq rfl, .of_eq rfl⟩⟩
  have hLAnd : Has l.prog w K mg base 8 "_law_and" ["_law_one", "_law_other"] (spTwo C opA) := has_of (ok_land (k := 7) FLAnd oC HAnd) gLAnd kLAnd bLAnd (fun s us hl => match us, hl with | [_, _], _ => ⟨.of_eq rfl, .of_eq rfl⟩)
  have hLOr : Has l.prog w K mg base 8 "_law_or" ["_law_one", "_law_other"] (spTwo C opO) := has_of (ok_lor (k := 7) FLOr oC HOr) gLOr kLOr bLOr (fun s us hl => match us, hl with | [_, _], _ => ⟨.of_eq rfl, .of_eq rfl⟩)
  have hLLess : Has l.prog w K mg base 8 "_law_less" ["_law_one", "_law_other"] (spTwo C opS) := has_of (ok_lless (k := 7) FLLess oC HSub) gLLess kLLess bLLess (fun s us hl => match us, hl with | [_, _], _ => ⟨.of_eq rfl, .of_eq rfl⟩)
  have hPot : Has l.prog w K mg base 1 "_law_pot" ["_law_script", "_law_k"] (spPot K) := has_of (ok_pot (k := 0) FPot M) gPot kPot bPot (fun s us hl => match us, hl with | [_, _], _ => ⟨.of_eq rfl, .of_eq rfl⟩)
  have hDraw : Has l.prog w K mg base 1 "_law_draw" ["_law_pot_here", "_law_sides"] (spDraw []) := has_of (ok_draw [] (k := 0) FDraw M) gDraw kDraw bDraw (fun s us hl => match us, hl with | [_, _], _ => ⟨.of_eq rfl, .of_eq rfl⟩)
  have hPick : Has l.prog w K mg base 2 "_law_pick" ["_law_pot_here", "_law_some"] (spPick []) := has_of (ok_pick [] (k := 1) FPick M hDraw) gPick kPick bPick (fun s us hl => match us, hl with | [_, _], _ => ⟨.of_eq rfl, .of_eq rfl⟩)
  have hLMet : Has l.prog w K mg base 1 "_law_met" ["_law_rows", "_law_start"] spLMet := has_of (ok_lmet (k := 0) FLMet M) gLMet kLMet bLMet (fun s us hl => match us, hl with | [_, _], _ => ⟨.of_eq rfl, .of_eq rfl⟩)
  have hMixed : Has l.prog w K mg base 2 "_law_mixed" ["_law_pot_here", "_law_some"] (spMixed []) := has_of (ok_mixed [] (k := 1) FMixed M hDraw) gMixed kMixed bMixed (fun s us hl => match us, hl with | [_, _], _ => ⟨.of_eq rfl, .of_eq rfl⟩)
  have hSheet : Has l.prog w K mg base 3 "_law_sheet" ["_law_pot_here", "_law_signs", "_law_most"] (spSheet []) := has_of (ok_sheet [] (k := 2) FSheet M (hDraw.up (by omega)) (hLMet.up (by omega)) hMixed) gSheet kSheet bSheet (fun s us hl => match us, hl with | [_, _, _], _ => ⟨.of_eq rfl, .of_eq rfl⟩)
  have hTexts : Has l.prog w K mg base 1 "_law_texts" ["_law_signs", "_law_most"] spTexts := has_of (ok_texts (k := 0) FTexts M) gTexts kTexts bTexts (fun s us hl => match us, hl with | [_, _], _ => ⟨.of_eq rfl, .of_eq rfl⟩)
  have hLPairs : Has l.prog w K mg base 1 "_law_pairs" ["_law_sheets"] spLPairs := has_of (ok_lpairs (k := 0) FLPairs M) gLPairs kLPairs bLPairs (fun s us hl => match us, hl with | [_], _ => ⟨.of_eq rfl, .of_eq rfl⟩)
  have hDue : Has l.prog w K mg base 7 "_law_due" ["_law_signs", "_law_sheets"] (spDue C) := has_of (ok_due (k := 5) FDue M cM (hLPairs.up (by omega)) hInit) gDue kDue bDue (fun s us hl => match us, hl with | [_, _], _ => ⟨.of_eq rfl, .of_eq rfl⟩)
  have hTwoR : Has l.prog w K mg base 10 "_law_two_right" ["_law_signs", "_law_sheets", "_law_one", "_law_other", "_law_texts_here"] (spTwoR C) := has_of (ok_twoR (k := 7) FTwoR M cM cE oC (HReprR.up (by omega)) (HEq.up (by omega)) (HAnd.up (by omega)) (HOr.up (by omega)) (HSub.up (by omega)) hLAnd hLOr hLLess (hDue.up (by omega)) (HTakes.up (by omega))) gTwoR kTwoR bTwoR (fun s us hl => match us, hl with | [_, _, _, _, _], _ => ⟨.of_eq rfl, .of_eq rfl⟩)
  have hRules : Has l.prog w K mg base 11 "_law_rules_right" ["_law_one", "_law_other", "_law_third"] (spRules C) := has_of (ok_rules (k := 8) FRules M cM iM cE oC (HEq.up (by omega)) (HAnd.up (by omega)) (HOr.up (by omega)) (HSub.up (by omega)) (HInv.up (by omega)) (hIsSame.up (by omega)) (hParting.up (by omega)) HLeast) gRules kRules bRules (fun s us hl => match us, hl with | [_, _, _], _ => ⟨.of_eq rfl, .of_eq rfl⟩)
  have hContr : Has l.prog w K mg base 10 "_law_contrary_right" ["_law_signs", "_law_sheet_here", "_law_rig", "_law_texts_here"] (spContr C) := has_of (ok_contr (k := 7) FContr M cM iM cE oC (HEq.up (by omega)) (HRepr.up (by omega)) (hInit.up (by omega)) (HAnd.up (by omega)) (HOr.up (by omega)) (HSub.up (by omega)) (HInv.up (by omega)) HNumbered (HTakes.up (by omega)) (hIsSame.up (by omega)) (hPartNow.up (by omega))) gContr kContr bContr (fun s us hl => match us, hl with | [_, _, _, _], _ => ⟨.of_eq rfl, .of_eq rfl⟩)
  have hRing : Has l.prog w K mg base 11 "_law_ring_right" ["_law_pot_here"] (spRing []) := has_of (ok_ring [] (k := 9) FRing M (hDraw.up (by omega)) (hInit.up (by omega)) hTwoR (hTexts.up (by omega))) gRing kRing bRing (fun s us hl => match us, hl with | [_], _ => ⟨.of_eq rfl, .of_eq rfl⟩)
  have hRight : Has l.prog w K mg base 12 "_law_right" ["_law_pot_here"] (spRight []) := has_of (ok_right [] (k := 10) FRight M (hPick.up (by omega)) (hSheet.up (by omega)) (hInit.up (by omega)) (hTwoR.up (by omega)) (hTexts.up (by omega)) (hContr.up (by omega)) hRules hRing) gRight kRight bRight (fun s us hl => match us, hl with | [_], _ => ⟨.of_eq rfl, .of_eq rfl⟩)
  exact ok_law (k := 12) FLaw M hRight (hPot.up (by omega))
end LK

open PySem PySem.W PyProof.Rows
set_option maxHeartbeats 0 in
theorem PySem.Challenge.cw_missedparts_k16_whole_paired_machines_holds : PySem.Challenge.rw_missedparts_k16_whole_paired_machines.Holds := by
  w_on; o_law; k_head; (case hw => w_witness2)
  k_fill
  refine LK.walkG (l := PySem.Challenge.rw_missedparts_k16_whole_paired_machines) (n := 63) (k := 13) (sp := LK.spLaw) (x := "_law_script") rfl (by decide) rfl ⟨rfl, by decide, by decide⟩ (fun w h Y => PySem.W.kIn_of Y) ?F ?S
  case F =>
    intro w mg fa h KX G hmg
    refine' LK.all_mk KX G hmg ?aIsInt ?lIsInt ?cIsInt ?kIsInt ?aIsText ?lIsText ?cIsText ?kIsText ?aIsOver ?lIsOver ?cIsOver ?kIsOver ?aAreLet ?lAreLet ?cAreLet ?kAreLet ?aIsSame ?lIsSame ?cIsSame ?kIsSame ?aParting ?lParting ?cParting ?kParting ?aFirstW ?lFirstW ?cFirstW ?kFirstW ?aNeedText ?lNeedText ?cNeedText ?kNeedText ?aSameLet ?lSameLet ?cSameLet ?kSameLet ?aPaired ?lPaired ?cPaired ?kPaired ?aKindsOf ?lKindsOf ?cKindsOf ?kKindsOf ?aLeastOf ?lLeastOf ?cLeastOf ?kLeastOf ?aAlike ?lAlike ?cAlike ?kAlike ?aNeedParts ?lNeedParts ?cNeedParts ?kNeedParts ?aIsRow ?lIsRow ?cIsRow ?kIsRow ?aIsPlace ?lIsPlace ?cIsPlace ?kIsPlace ?aMetFrom ?lMetFrom ?cMetFrom ?kMetFrom ?aNumFrom ?lNumFrom ?cNumFrom ?kNumFrom ?aPot ?lPot ?cPot ?kPot ?aDraw ?lDraw ?cDraw ?kDraw ?aPick ?lPick ?cPick ?kPick ?aLMet ?lLMet ?cLMet ?kLMet ?aMixed ?lMixed ?cMixed ?kMixed ?aSheet ?lSheet ?cSheet ?kSheet ?aTexts ?lTexts ?cTexts ?kTexts ?aLPairs ?lLPairs ?cLPairs ?kLPairs ?aDue ?lDue ?cDue ?kDue ?aLAnd ?lLAnd ?cLAnd ?kLAnd ?aLOr ?lLOr ?cLOr ?kLOr ?aLLess ?lLLess ?cLLess ?kLLess ?aTwoR ?lTwoR ?cTwoR ?kTwoR ?aRules ?lRules ?cRules ?kRules ?aContr ?lContr ?cContr ?kContr ?aRing ?lRing ?cRing ?kRing ?aRight ?lRight ?cRight ?kRight ?aLaw ?lLaw ?cLaw ?kLaw ?nM ?amKinds ?tmKinds ?lmKinds ?cmKinds ?kmKinds ?amRows ?tmRows ?lmRows ?cmRows ?kmRows ?amTakes ?tmTakes ?lmTakes ?cmTakes ?kmTakes ?amNumbered ?tmNumbered ?lmNumbered ?cmNumbered ?kmNumbered ?amLeast ?tmLeast ?lmLeast ?cmLeast ?kmLeast ?amEq ?tmEq ?lmEq ?cmEq ?kmEq ?amRepr ?tmRepr ?lmRepr ?cmRepr ?kmRepr ?amAnd ?tmAnd ?lmAnd ?cmAnd ?kmAnd ?amOr ?tmOr ?lmOr ?cmOr ?kmOr ?amSub ?tmSub ?lmSub ?cmSub ?kmSub ?amInv ?tmInv ?lmInv ?cmInv ?kmInv ?amLed ?tmLed ?lmLed ?cmLed ?kmLed ?amInit ?tmInit ?lmInit ?cmInit ?kmInit ?amLetters ?pget ?ptak ?prec ?lmLetters ?cmLetters ?kmLetters ?nN ?amNC ?tmNC ?lmNC ?cmNC ?kmNC ?bNC ?dNC ?eNC ?cpg ?chd ?cpo ?csa ?n_letters ?n_rows ?n_kinds ?mmk ?mkp ?ene ?eob ?ica ?icn ?ict ?rrd ?rga ?sfi ?mr2 ?fia ?gia ?fio ?gio ?fis ?gis ?vat ?gS ?gM ?z_tuple ?z_zip ?z_set ?z_bool ?z_any ?z_enumerate ?z_ve ?z_re ?z_ae ?z_len ?z_isi ?z_all ?z_str ?z_list ?z_sorted ?z_range ?z_sum ?z_repr ?z_int ?z_abs ?z_max ?z_min ?z_divmod
    (case aIsInt => k_is)
    (case lIsInt => k_is)
    (case cIsInt => k_is)
    (case kIsInt => k_is)
    (case aIsText => k_is)
    (case lIsText => k_is)
    (case cIsText => k_is)
    (case kIsText => k_is)
    (case aIsOver => k_is)
    (case lIsOver => k_is)
    (case cIsOver => k_is)
    (case kIsOver => k_is)
    (case aAreLet => k_is)
    (case lAreLet => k_is)
    (case cAreLet => k_is)
    (case kAreLet => k_is)
    (case aIsSame => k_is)
    (case lIsSame => k_is)
    (case cIsSame => k_is)
    (case kIsSame => k_is)
    (case aParting => k_is)
    (case lParting => k_is)
    (case cParting => k_is)
    (case kParting => k_is)
    (case aFirstW => k_is)
    (case lFirstW => k_is)
    (case cFirstW => k_is)
    (case kFirstW => k_is)
    (case aNeedText => k_is)
    (case lNeedText => k_is)
    (case cNeedText => k_is)
    (case kNeedText => k_is)
    (case aSameLet => k_is)
    (case lSameLet => k_is)
    (case cSameLet => k_is)
    (case kSameLet => k_is)
    (case aPaired => k_is)
    (case lPaired => k_is)
    (case cPaired => k_is)
    (case kPaired => k_is)
    (case aKindsOf => k_is)
    (case lKindsOf => k_is)
    (case cKindsOf => k_is)
    (case kKindsOf => k_is)
    (case aLeastOf => k_is)
    (case lLeastOf => k_is)
    (case cLeastOf => k_is)
    (case kLeastOf => k_is)
    (case aAlike => k_is)
    (case lAlike => k_is)
    (case cAlike => k_is)
    (case kAlike => k_is)
    (case aNeedParts => k_is)
    (case lNeedParts => k_is)
    (case cNeedParts => k_is)
    (case kNeedParts => k_is)
    (case aIsRow => k_is)
    (case lIsRow => k_is)
    (case cIsRow => k_is)
    (case kIsRow => k_is)
    (case aIsPlace => k_is)
    (case lIsPlace => k_is)
    (case cIsPlace => k_is)
    (case kIsPlace => k_is)
    (case aMetFrom => k_is)
    (case lMetFrom => k_is)
    (case cMetFrom => k_is)
    (case kMetFrom => k_is)
    (case aNumFrom => k_is)
    (case lNumFrom => k_is)
    (case cNumFrom => k_is)
    (case kNumFrom => k_is)
    (case aPot => k_is)
    (case lPot => k_is)
    (case cPot => k_is)
    (case kPot => k_is)
    (case aDraw => k_is)
    (case lDraw => k_is)
    (case cDraw => k_is)
    (case kDraw => k_is)
    (case aPick => k_is)
    (case lPick => k_is)
    (case cPick => k_is)
    (case kPick => k_is)
    (case aLMet => k_is)
    (case lLMet => k_is)
    (case cLMet => k_is)
    (case kLMet => k_is)
    (case aMixed => k_is)
    (case lMixed => k_is)
    (case cMixed => k_is)
    (case kMixed => k_is)
    (case aSheet => k_is)
    (case lSheet => k_is)
    (case cSheet => k_is)
    (case kSheet => k_is)
    (case aTexts => k_is)
    (case lTexts => k_is)
    (case cTexts => k_is)
    (case kTexts => k_is)
    (case aLPairs => k_is)
    (case lLPairs => k_is)
    (case cLPairs => k_is)
    (case kLPairs => k_is)
    (case aDue => k_is)
    (case lDue => k_is)
    (case cDue => k_is)
    (case kDue => k_is)
    (case aLAnd => k_is)
    (case lLAnd => k_is)
    (case cLAnd => k_is)
    (case kLAnd => k_is)
    (case aLOr => k_is)
    (case lLOr => k_is)
    (case cLOr => k_is)
    (case kLOr => k_is)
    (case aLLess => k_is)
    (case lLLess => k_is)
    (case cLLess => k_is)
    (case kLLess => k_is)
    (case aTwoR => k_is)
    (case lTwoR => k_is)
    (case cTwoR => k_is)
    (case kTwoR => k_is)
    (case aRules => k_is)
    (case lRules => k_is)
    (case cRules => k_is)
    (case kRules => k_is)
    (case aContr => k_is)
    (case lContr => k_is)
    (case cContr => k_is)
    (case kContr => k_is)
    (case aRing => k_is)
    (case lRing => k_is)
    (case cRing => k_is)
    (case kRing => k_is)
    (case aRight => k_is)
    (case lRight => k_is)
    (case cRight => k_is)
    (case kRight => k_is)
    (case aLaw => k_is)
    (case lLaw => k_is)
    (case cLaw => k_is)
    (case kLaw => k_is)
    (case nM => k_is)
    (case amKinds => k_is)
    (case tmKinds => k_is)
    (case lmKinds => k_is)
    (case cmKinds => k_is)
    (case kmKinds => k_is)
    (case amRows => k_is)
    (case tmRows => k_is)
    (case lmRows => k_is)
    (case cmRows => k_is)
    (case kmRows => k_is)
    (case amTakes => k_is)
    (case tmTakes => k_is)
    (case lmTakes => k_is)
    (case cmTakes => k_is)
    (case kmTakes => k_is)
    (case amNumbered => k_is)
    (case tmNumbered => k_is)
    (case lmNumbered => k_is)
    (case cmNumbered => k_is)
    (case kmNumbered => k_is)
    (case amLeast => k_is)
    (case tmLeast => k_is)
    (case lmLeast => k_is)
    (case cmLeast => k_is)
    (case kmLeast => k_is)
    (case amEq => k_is)
    (case tmEq => k_is)
    (case lmEq => k_is)
    (case cmEq => k_is)
    (case kmEq => k_is)
    (case amRepr => k_is)
    (case tmRepr => k_is)
    (case lmRepr => k_is)
    (case cmRepr => k_is)
    (case kmRepr => k_is)
    (case amAnd => k_is)
    (case tmAnd => k_is)
    (case lmAnd => k_is)
    (case cmAnd => k_is)
    (case kmAnd => k_is)
    (case amOr => k_is)
    (case tmOr => k_is)
    (case lmOr => k_is)
    (case cmOr => k_is)
    (case kmOr => k_is)
    (case amSub => k_is)
    (case tmSub => k_is)
    (case lmSub => k_is)
    (case cmSub => k_is)
    (case kmSub => k_is)
    (case amInv => k_is)
    (case tmInv => k_is)
    (case lmInv => k_is)
    (case cmInv => k_is)
    (case kmInv => k_is)
    (case amLed => k_is)
    (case tmLed => k_is)
    (case lmLed => k_is)
    (case cmLed => k_is)
    (case kmLed => k_is)
    (case amInit => k_is)
    (case tmInit => k_is)
    (case lmInit => k_is)
    (case cmInit => k_is)
    (case kmInit => k_is)
    (case amLetters => k_is)
    (case pget => k_is)
    (case ptak => k_is)
    (case prec => k_is)
    (case lmLetters => k_is)
    (case cmLetters => k_is)
    (case kmLetters => k_is)
    (case nN => k_is)
    (case amNC => k_is)
    (case tmNC => k_is)
    (case lmNC => k_is)
    (case cmNC => k_is)
    (case kmNC => k_is)
    (case bNC => first | rfl | kernel_rfl | k_is)
    (case dNC => first | rfl | kernel_rfl | k_is)
    (case eNC => first | rfl | kernel_rfl | k_is)
    (case cpg => first | rfl | kernel_rfl | k_is)
    (case chd => first | rfl | kernel_rfl | k_is)
    (case cpo => first | rfl | kernel_rfl | k_is)
    (case csa => first | rfl | kernel_rfl | k_is)
    (case n_letters => first | rfl | kernel_rfl | k_is)
    (case n_rows => first | rfl | kernel_rfl | k_is)
    (case n_kinds => first | rfl | kernel_rfl | k_is)
    (case mmk => first | rfl | kernel_rfl | k_is)
    (case mkp => first | rfl | kernel_rfl | k_is)
    (case ene => first | rfl | kernel_rfl | k_is)
    (case eob => first | rfl | kernel_rfl | k_is)
    (case ica => first | rfl | kernel_rfl | k_is)
    (case icn => first | rfl | kernel_rfl | k_is)
    (case ict => first | rfl | kernel_rfl | k_is)
    (case rrd => first | rfl | kernel_rfl | k_is)
    (case rga => first | rfl | kernel_rfl | k_is)
    (case sfi => first | rfl | kernel_rfl | k_is)
    (case mr2 => first | rfl | kernel_rfl | k_is)
    (case fia => first | rfl | kernel_rfl | k_is)
    (case gia => first | rfl | kernel_rfl | k_is)
    (case fio => first | rfl | kernel_rfl | k_is)
    (case gio => first | rfl | kernel_rfl | k_is)
    (case fis => first | rfl | kernel_rfl | k_is)
    (case gis => first | rfl | kernel_rfl | k_is)
    (case vat => k_is)
    (case gS => k_is)
    (case gM => k_is)
    (case z_tuple => k_is)
    (case z_zip => k_is)
    (case z_set => k_is)
    (case z_bool => k_is)
    (case z_any => k_is)
    (case z_enumerate => k_is)
    (case z_ve => k_is)
    (case z_re => k_is)
    (case z_ae => k_is)
    (case z_len => k_is)
    (case z_isi => k_is)
    (case z_all => k_is)
    (case z_str => k_is)
    (case z_list => k_is)
    (case z_sorted => k_is)
    (case z_range => k_is)
    (case z_sum => k_is)
    (case z_repr => k_is)
    (case z_int => k_is)
    (case z_abs => k_is)
    (case z_max => k_is)
    (case z_min => k_is)
    (case z_divmod => k_is)
  case S =>
    intro K H a ns hl _ hs
    exact ⟨a, ns, rfl, hs, hl, fun _ => rfl⟩
