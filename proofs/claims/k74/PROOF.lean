import PyProof.Rows.All
import Wide.All
import OpenK.AllK
import Wide.FinOn
import HandS.ForMost
import HandS.Defaults
import HandS.StrMore
import HandS.SortKw
import HandS.Conv
import HandS.Style
import HandS.Small
import HandS.TupLe
import HandS.IsInst
import HandS.More
import HandS.Lambda
import KE.SortKeyHeap
import KE.KLam
import HandS.Iter
import HandS.Comp
import HandS.Words
import KE.KDictList
import HandS.ListItems
import OpenK.KMore
import HandS.ExcInit
import HandS.ExcIs
import HandS.ExcField
import KE.KExcInit
import KE.KExcIs
import HandS.ExcOwn
import HandS.ExcValue
import HandS.Dict
import PyProof.RowDictHeap
import HandS.Text
import HandS.SlotsOwn
import HandS.Property
import HandS.ClsMeth
import HandS.FStr
import HandS.SetTxt0
import HandS.Set
import PyProof.Rows.SetFrom
import PyProof.StrLawsFrom
import PyProof.ListStr
import KE.GoesZip
import HandS.Zip
import KE.GoesMore
import HandS.TryMany
import HandS.Replace
import PyProof.Rows.StrLawsPart
import HandS.OwnEq
import PyProof.NeKinds
import PyProof.ReprReads
import KE.KOpsOwn
import PySem.Challenge.RW_missedparts_k74_whole_kinds_and_goals_tu
set_option Elab.async false
set_option linter.all false
set_option maxRecDepth 100000
set_option maxHeartbeats 4000000
/-! A promise of a def that is asked only where no repr of a container is under way (guards = []): the same as FnOk, one premise more. -/
namespace LK
open PySem PySem.Spec PyProof.Rows L2

structure FnG (P : Program) (w : World) (K : PySem.W.Frag) (mg : Str → Option Value) (base : Heap) (CX : CXT)
    (k : Nat) (f : Addr) (fd : FuncData) (ps : List Str) (sp : Sp) : Prop where
  len : ∀ vs H Q E, sp vs H Q E → vs.length = ps.length
  run : ∀ (A : Around), A.guards = some [] → ∀ (outer : List Env) (s : Shared) (H : Hp) (args : Args)
    (us : List Value) (vs : List V) (Q : VK) (E : XK), Room k A → Env0 P w K mg base A outer s H →
    BindsTo s fd args (ps.zip us) → Vals vs us → sp vs H Q E →
    codeAny (model P w) A (.call (.ref f) args) (CR CX outer P w H s Q E) s

section
variable {P : Program} {w : World} {K : PySem.W.Frag} {mg : Str → Option Value} {base : Heap} {CX : CXT}

theorem FnG.of {k : Nat} {f : Addr} {fd : FuncData} {ps : List Str} {sp : Sp}
    (F : FnOk P w K mg base CX k f fd ps sp) : FnG P w K mg base CX k f fd ps sp :=
  ⟨F.len, fun A _ outer s H args us vs Q E => F.run A outer s H args us vs Q E⟩

theorem FnG.up {j k : Nat} {f : Addr} {fd : FuncData} {ps : List Str} {sp : Sp}
    (F : FnG P w K mg base CX j f fd ps sp) (h : j ≤ k) : FnG P w K mg base CX k f fd ps sp :=
  ⟨F.len, fun A g outer s H args us vs Q E r => F.run A g outer s H args us vs Q E (r.mono h)⟩

/-- THE RULE of a def's body where no repr runs around it -/
theorem fnG_of {k : Nat} {f : Addr} {nm q : Str} {pa : Arguments} {bd : List Stmt} {sc : Scope} {dV kV dc pm cd ct oc : Value}
    {an od : Option Addr} {sl : Array (Option Value)} {N ps : List Str} {sp : Sp}
    (lk : K.lookup f = some ⟨oc, od, .func (PySem.W.fnOf nm q pa bd sc dV kV dc pm an cd ct), sl⟩)
    (hc : PySem.W.codeIn K cd q = true) (S : FnScope N ps sc) (len : ∀ vs H Q E, sp vs H Q E → vs.length = ps.length)
    (hb : ∀ (A : Around), A.guards = some [] → ∀ (outer : List Env) (s : Shared) (H : Hp) (vs : List V) (Q : VK) (E : XK),
      Room k (A.deeper (envOfC q sc s.heap.objs.size f cd)) → sp vs H Q E →
      ∃ t, PSs (cxOf CX P w K mg base N q sc f cd A outer s H E) bd t ∧
        t { nx := fun _ H' => Q .non H', rt := Q } (start N vs) H) :
    FnG P w K mg base CX (k + 1) f (PySem.W.fnOf nm q pa bd sc dV kV dc pm an cd ct) ps sp where
  len := len
  run := by
    intro A hA outer s H args us vs Q E hr e0 bnd rel hs
    have inB : ∀ b o, base.get? b = some o → s.heap.get? b = some o := fun b o e => (e0.bs b o e).1
    have kin : K.In s.heap := e0.mod.kin.keeps inB
    have kd : ∀ y ∈ ps.zip us, sc.names.lookup y.1 = some .local ∨ (sc.names.lookup y.1 = some .cell ∧
        ((cellsFrom (s.heap.objs.size + 1) sc.names []).lookup y.1).isSome = true) := by
      intro y hy
      rcases S.par y.1 (List.of_mem_zip (a := y.1) (b := y.2) hy).1 with z | z
      · exact .inl z
      · exact .inr ⟨z, PySem.W.cellsFrom_some _ _ _ (.inl z)⟩
    refine codeAny_call_function hr.depth (kin _ _ lk) rfl S.co S.gen rfl (PySem.W.codeRec_of kin hc) (bnd _ _ _ _ ?_)
    refine wpAny_newFunctionEnv_cells S.kind kd ?_
    intro env he s1 inC
    subst he
    refine ⟨(e0.mod.nolimit.keeps inB).keeps inC.toInCall.keep, codeAny_func ?_⟩
    obtain ⟨t, ht, hq⟩ := hb A hA outer s H vs Q E (hr.deeper _) hs
    have I0 := inv_start (CX := CX) (mg := mg) (E := E) S hr.hd e0 (len _ _ _ _ hs) rel inC
    refine wpAny_mono (ht.run [] s1 (start N vs) H _ I0 hq) ?_ (fun _ _ z => z)
    intro fl s' z
    have fin : ∀ (σ' : L2.St) (H' : Hp) (v : V) (u : Value),
        Inv (cxOf CX P w K mg base N q sc f cd A outer s H E) [] σ' H' s' → L2.RelV v u → Q v H' → CE outer P w H s Q u s' :=
      fun _ H' v _ J rv y => ⟨v, H', J.os, J.bare, J.base, J.hok, rv, y⟩
    match fl, z with
    | .ret u, z => obtain ⟨v, σ', H', J, rv, y⟩ := z; exact fin σ' H' v u J rv y
    | .next, z => obtain ⟨σ', H', J, y⟩ := z; exact fin σ' H' V.non Value.none J rfl y
    | .brk, z => obtain ⟨_, _, _, y⟩ := z; exact y.elim
    | .cont, z => obtain ⟨_, _, _, y⟩ := z; exact y.elim
end

theorem guards_of_cx {CX : CXT} {P : Program} {w : World} {K : PySem.W.Frag} {mg : Str → Option Value} {base : Heap} {N : List Str} {q : Str} {sc : Scope} {f : Addr} {cd : Value} {A : Around} {outer : List Env} {s : Shared} {H : Hp} {E : XK}
    (h : A.guards = some []) : (cxOf CX P w K mg base N q sc f cd A outer s H E).A.guards = some [] := h

section
variable {P : Program} {w : World} {K : PySem.W.Frag} {mg : Str → Option Value} {base : Heap}
/-- .. for a def as the top has written it; no exception leaves it -/
theorem okG {x q : Str} {st : Stmt} {f : Addr} {fd : FuncData} {N ps : List Str} {k : Nat} {sp : Sp} (F : Fun K x q st f fd)
    (S : FnScope N ps (defScope st)) (len : ∀ vs H Q E, sp vs H Q E → vs.length = ps.length)
    (hb : ∀ (cd : Value) (A : Around), A.guards = some [] → ∀ (outer : List Env) (s : Shared) (H : Hp) (vs : List V) (Q : VK) (E : XK),
      Room k (A.deeper (envOfC q (defScope st) s.heap.objs.size f cd)) → sp vs H Q E →
      ∃ t, PSs (cxOf CX0 P w K mg base N q (defScope st) f cd A outer s H E).nox (defBody st) t ∧
        t { nx := fun _ H' => Q .non H', rt := Q } (start N vs) H) : FnG P w K mg base CX0 (k + 1) f fd ps sp := by
  obtain ⟨oc, od, kV, dc, pm, an, cd, ct, sl, rfl, lk, hc⟩ := F.ex
  refine fnG_of lk hc S len ?_
  intro A hA outer s H vs Q E hr hs
  obtain ⟨t, h, z⟩ := hb cd A hA outer s H vs Q E hr hs
  exact ⟨t, h.nox, z⟩
end

section
variable {X : Cx} {CX : CXT} {k : Nat} {f : Addr} {fd : FuncData} {ps ks : List Str} {sp : Sp} {E : XK} {x : Str} {p pos : Pos}
  {e : Expr} {es : List Expr} {kws : List Keyword} {t tk : TA}

theorem runG {pins : List (Addr × Obj)} {σ : L2.St} {H : Hp} {s : Shared} {Q : VK} {us ws : List Value} {kw : List (Str × Value)} {vs : List V}
    (F : FnG X.prog X.w X.K X.mg X.base CX k f fd ps sp) (hA : X.A.guards = some []) (hr : Room k X.A) (hx : Passes CX X E)
    (I : Inv X pins σ H s) (b : ws.length = ps.length → BindsTo s fd ⟨us, kw⟩ (ps.zip ws)) (r : L2.Vals vs ws) (h : sp vs H Q E) :
    wpAny (model X.prog X.w) X.A (call (.ref f) us kw) (EP X pins σ Q) X.xe s := by
  have hl : ws.length = ps.length := by rw [← r.length]; exact F.len _ _ _ _ h
  refine wpAny_call (codeAny_mono (F.run X.A hA X.stack s H ⟨us, kw⟩ ws vs Q E hr I.env0 (b hl) r h) ?_)
  intro r s' z
  match r, z with
  | .error e, z => exact hx pins σ H s e s' I z
  | .ok (.ret u), z => exact I.after z
  | .ok .next, z => exact z
  | .ok .brk, z => exact z
  | .ok .cont, z => exact z

/-- f(e, ..) -/
theorem pe_callG (F : FnG X.prog X.w X.K X.mg X.base CX k f fd ps sp) (hA : X.A.guards = some []) (hr : Room k X.A) (hg : Gl X x)
    (hm : X.mg x = some (.ref f)) (hk : PySem.W.keepIn X.K (.ref f) = true) (hb : Binds X.K fd ps []) (hx : Passes CX X E) (ha : PA X (e :: es) t)
    (hdb : (x == ("__debug__" : Str)) = false := by decide) (he : starEach (e :: es) X.env = (false, eval e X.env) :: starEach es X.env := by rfl)
    (hpl : (backTo pos (starEach es X.env)).any (·.1) = false := by rfl) :
    PE X (.Call (.Name x p) (e :: es) [] pos) (tCall sp [] E t) := by
  constructor
  intro pins s σ H Q I h
  refine wpAny_Call_Name_kw (ld_glob I hg hm ?_ hdb)
  refine PySem.W.callWith_K (h₀ := X.base) I.ok.mod.kin hk (thn (ha.run pos pins s σ H _ I h) ?_) he hpl
  intro us s1 z
  obtain ⟨vs, H1, I1, r1, q1⟩ := z
  have q : sp (vs ++ []) H1 Q E := q1
  rw [List.append_nil] at q
  refine ⟨I1.kIn, runG (ws := us) F hA hr hx I1 (fun hl => ?_) r1 q⟩
  have b := hb s1 us I1.kIn (by rw [List.append_nil]; exact hl)
  rw [List.append_nil] at b
  exact b
end

/-! ### the law's own call -/
theorem lawG {P : Program} {w : World} {K : PySem.W.Frag} {mg mb : Str → Option Value} {k : Nat} {fa a : Addr} {fd : FuncData} {x : Str} {sp : Sp} {s1 : Shared} {vs : List Value} {ns : List Int}
    (KX : K.In s1.heap) (g1 : s1.heap.Ns mainGlobals mg) (g2 : s1.heap.Ns builtinsNs mb) (g3 : ∀ x : Str, x ≠ "__name__" → mb x = bootBuiltins x)
    (lim : s1.heap.NoLimit) (gens : s1.gens = #[]) (ha : s1.heap.get? a = some { cls := .type "list", data := .seq vs.toArray })
    (hi : IntsAre vs ns) (hl : ns.length ≤ sizeLine) (hr : Room k callerA)
    (F : ∀ base : Heap, K.In base → base.Ns mainGlobals mg → FnG P w K mg base CX0 k fa fd [x] sp)
    (bnd : ∀ (s : Shared) (u : Value), BindsTo s fd ⟨[u], []⟩ [(x, u)])
    (hsp : ∀ H : Hp, Only H → SqL K H a (ns.map V.int) → sp [.ref a] H (fun v _ => v = .bl true) E0) :
    codeAny (model P w) callerA (.call (.ref fa) ⟨[.ref a], []⟩)
      (fun r s' => r = .ok (.ret (.bool true)) ∧ PySem.OldK s1.heap s'.heap ∧ s'.os = s1.os ∧ AllBare s'.gens) s1 := by
  have rv : L2.Vals (ns.map V.int) vs := vals_ints hi
  let scr : HO := .frz { cls := .type "list", data := .seq vs.toArray } (.lst (ns.map V.int))
  -- what is tracked: the script, unless it is an object of the module
  let H : Hp := fun b => if b = a ∧ K.lookup a = none then some scr else none
  have hH : ∀ b u, H b = some u → b = a ∧ K.lookup a = none ∧ u = scr := by
    intro b u e
    by_cases c : b = a ∧ K.lookup a = none
    · have e2 : some scr = some u := (if_pos c).symm.trans e
      exact ⟨c.1, c.2, (Option.some.inj e2).symm⟩
    · have e2 : (none : Option HO) = some u := (if_neg c).symm.trans e
      cases e2
  have sizes : (ns.map V.int).length ≤ sizeLine := by rw [List.length_map]; exact hl
  have only : Only H := fun b => by
    by_cases c : b = a ∧ K.lookup a = none
    · exact .inr ⟨_, _, if_pos c⟩
    · exact .inl (if_neg c)
  have okH : HOk P w H s1.heap := by
    intro b u e
    obtain ⟨rfl, _, rfl⟩ := hH b u e
    exact ⟨ha, sizes, vs, _, rv, ha⟩
  have sq : SqL K H a (ns.map V.int) := by
    cases e : K.lookup a with
    | none => exact .inl (.inr ⟨_, if_pos ⟨rfl, e⟩⟩)
    | some o =>
      have z := KX a o e
      rw [ha] at z; cases z
      exact .inr ⟨_, vs.toArray, _, e, rfl, rfl, rfl, by rw [List.size_toArray, ← rv.length]; exact sizes, by simpa using rv⟩
  have free : ∀ (b : Addr) (o : Obj), s1.heap.get? b = some o → (∀ es ep, o.data = .dict es ep → H b = none) := by
    intro b o e es ep d
    cases q : H b with
    | none => rfl
    | some u =>
      obtain ⟨rfl, _, _⟩ := hH b u q
      rw [ha] at e; cases e; cases d
  have ns_ : ∀ {b : Addr} {m : Str → Option Value}, s1.heap.Ns b m → (hidT s1.heap H).Ns b m := by
    intro b m z
    obtain ⟨o, es, ep, e, d, r⟩ := z
    exact ⟨o, es, ep, hidT_get e (free b o e es ep d), d, r⟩
  have kin : K.In (hidT s1.heap H) := by
    intro b o e
    refine hidT_get (KX b o e) ?_
    cases q : H b with
    | none => rfl
    | some u =>
      obtain ⟨rfl, n, _⟩ := hH b u q
      rw [n] at e; cases e
  have e0 : Env0 P w K mg (hidT s1.heap H) callerA [] s1 H :=
    ⟨rfl, ⟨kin, ns_ g1, ⟨mb, ns_ g2, g3⟩, (by obtain ⟨mc, p, q⟩ := lim; exact ⟨mc, ns_ p, q⟩)⟩, fun b o e => of_hidT e,
      Nat.le_of_eq (hidT_size _ _), trivial, (fun b hb => absurd (show b ∈ ([] : List Addr) from hb) (fun y => nomatch y)), okH, .of_eq gens⟩
  refine codeAny_mono ((F _ kin (ns_ g1)).run callerA rfl [] s1 H ⟨[.ref a], []⟩ [.ref a] [.ref a] _ _ hr e0 (bnd s1 (.ref a)) (.cons rfl .nil) (hsp H only sq)) ?_
  intro r s' z
  match r, z with
  | .error _, z => exact z.elim
  | .ok .next, z => exact z.elim
  | .ok .brk, z => exact z.elim
  | .ok .cont, z => exact z.elim
  | .ok (.ret u), z =>
    obtain ⟨v, H', os, bare, un, ok', rv', q⟩ := z
    obtain rfl : v = .bl true := q
    obtain rfl : u = Value.bool true := rv'
    refine ⟨rfl, PySem.OldK.of_keep fun b o e => ?_, os, bare⟩
    cases q : H b with
    | none => exact un.keep b o e q (fun y => absurd (show b ∈ ([] : List Addr) from y) (fun y => nomatch y)) (fun y => nomatch y)
    | some y =>
      have q2 := q
      obtain ⟨rfl, _, rfl⟩ := hH b y q
      have z2 := un.frzs _ _ _ q2
      rw [ha] at e; cases e
      exact (ok' _ _ z2).1

theorem walkG {l : PySem.W.OpenLaw} {n k : Nat} {q : Program} {loose : List Str} {XP : (Str → Option Value) → Heap → Prop} {YP : World → Heap → Prop} {d : DefRec} {K : Params → PySem.W.Frag} {sp : PySem.W.Frag → Sp} {x : Str}
    (hn : l.most = some n) (hn2 : n ≤ sizeLine) (hdf : d.params.defaults = []) (hr : Room k callerA) (hY : ∀ (w : World) (h : Heap), YP w h → (K w.params).In h)
    (F : ∀ (w : World) (mg : Str → Option Value) (fa : Addr) (h : Heap), (K w.params).In h → h.Ns mainGlobals mg → mg d.name = some (.ref fa) →
      ∃ fd : FuncData, (∀ (s : Shared) (u : Value), BindsTo s fd ⟨[u], []⟩ [(x, u)]) ∧
        ∀ base : Heap, (K w.params).In base → base.Ns mainGlobals mg → FnG l.prog w (K w.params) mg base CX0 k fa fd [x] (sp (K w.params)))
    (hsp : ∀ (K : PySem.W.Frag) (H : Hp) (a : Addr) (ns : List Int), ns.length ≤ n → Only H → SqL K H a (ns.map V.int) → sp K [.ref a] H (fun v _ => v = .bl true) E0) :
    PySem.W.WalkO q loose XP YP l.row.toRowW d [] (fun f vs => PySem.call f vs) := by
  refine Att.attach_call hn hdf ?_
  intro w s0 s1 mg mb fa o pm cd doc a vs ns G Y ho hd hcd hmg hobj hints hlen hg
  have kin := hY w _ Y
  obtain ⟨fd, hb, hF⟩ := F w mg fa _ kin G.T.g hmg
  exact lawG kin G.T.g G.T.b G.T.builtins G.T.nolimit hg hobj hints (Nat.le_trans hlen hn2) hr hF hb (fun H hO hS => hsp _ H a ns hlen hO hS)
end LK

/-! Readings that compute: by the shape of the values, texts by their codes. -/
namespace LK
open PySem PySem.Spec PyProof.Rows L2

/-- a text by its codes -/
def T (l : List Nat) : Str := ⟨l.toArray⟩
theorem T_cps (l : List Nat) : (T l).cps.toList = l := rfl
theorem T_size (l : List Nat) : (T l).cps.size = l.length := rfl
theorem T_len (l : List Nat) : (T l).length = l.length := rfl
theorem T_of (x : Str) : T x.cps.toList = x := rfl
theorem T_inj {a b : List Nat} (h : T a = T b) : a = b := by
  have := congrArg (fun x => x.cps.toList) h
  exact this
theorem T_iff {a b : List Nat} : T a = T b ↔ a = b := ⟨T_inj, fun h => h ▸ rfl⟩
theorem T_add (a b : List Nat) : T a ++ T b = T (a ++ b) := by
  show (⟨a.toArray ++ b.toArray⟩ : Str) = ⟨(a ++ b).toArray⟩
  simp
/-- the codes of a text -/
def cs (x : Str) : List Nat := x.cps.toList
@[simp] theorem cs_T (l : List Nat) : cs (T l) = l := rfl
theorem T_cs (x : Str) : T (cs x) = x := rfl
theorem cs_len (x : Str) : x.length = (cs x).length := rfl

section
variable {X : Cx} {e a b : Expr} {t t' ta tb tc : TE} {pos : Pos}

theorem PE.imp (h : PE X e t) (w : ∀ σ H Q, t' σ H Q → t σ H Q) : PE X e t' :=
  ⟨fun pins s σ H Q I q => h.run pins s σ H Q I (w σ H Q q)⟩
theorem PT.imp {t t' : TT} (h : PT X e t) (w : ∀ σ H Q, t' σ H Q → t σ H Q) : PT X e t' :=
  ⟨fun pins s σ H Q I q => h.run pins s σ H Q I (w σ H Q q)⟩
theorem PW.imp {t t' : TT} (h : PW X e t) (w : ∀ σ H Q, t' σ H Q → t σ H Q) : PW X e t' :=
  ⟨fun wh pins s σ H Q I q => h.run wh pins s σ H Q I (w σ H Q q)⟩
theorem PS.imp {st : Stmt} {t t' : TS} (h : PS X st t) (w : ∀ D σ H, t' D σ H → t D σ H) : PS X st t' :=
  ⟨fun pins s σ H D I q => h.run pins s σ H D I (w D σ H q)⟩
theorem PI.imp {tg : Expr} {t t' : TI} (h : PI X tg e t) (w : ∀ σ H Q, t' σ H Q → t σ H Q) : PI X tg e t' := by
  obtain ⟨r⟩ := h
  exact ⟨fun pins s σ H R I q => r pins s σ H R I (w σ H R q)⟩
theorem OpR.imp {f : Value → Value → Sem Value} {r r' : R2} (h : OpR X f r) (w : ∀ x y H Q, r' x y H Q → r x y H Q) : OpR X f r' :=
  fun pins s σ H x y v u Q I rx ry q => h pins s σ H x y v u Q I rx ry (w x y H Q q)
theorem CallR.imp {f : Value} {r r' : List V → Hp → VK → Prop} (h : CallR X f r) (w : ∀ vs H Q, r' vs H Q → r vs H Q) : CallR X f r' :=
  fun pins s σ H vs us Q I rv q => h pins s σ H vs us Q I rv (w vs H Q q)
theorem IxR.imp {r r' : R2} (h : IxR X r) (w : ∀ x y H Q, r' x y H Q → r x y H Q) : IxR X r' := by
  intro value slice pins s σ H x y v u Q I rx ry q hs
  exact h value slice pins s σ H x y v u Q I rx ry (w x y H Q q) hs

/-! names, constants -/
def uVar (i : Nat) : TE := fun σ H Q => match σ[i]? with | some (some v) => Q v H | _ => False
theorem uv (i : Nat) {x : Str} (hN : X.N[i]? = some x := by rfl)
    (hv : Vis X.env.scope x := by first | exact Or.inl rfl | exact Or.inr (Or.inl rfl) | exact Or.inr (Or.inr rfl))
    (hd : (x == ("__debug__" : Str)) = false := by decide) (hcd : (x == ("__classdict__" : Str)) = false := by decide) :
    PE X (.Name x pos) (uVar i) := by
  refine PE.imp (pe_var hN hv hd hcd) fun σ H Q h => ?_
  unfold uVar at h
  split at h
  · rename_i v e; exact ⟨v, e, h⟩
  · exact h.elim
theorem ustr (l : List Nat) {x : Str} {j : Nat} {pos : Pos} (h : x = T l := by decide +kernel) : PE X (.Constant (.str x) j pos) (tC (.str (T l))) := by
  subst h; exact pe_str

/-! operators -/
def rAddU : R2 := fun x y H Q => match x, y with
  | .int i, .int j => Q (.int (i + j)) H
  | .str a, .str b => (cs a).length + (cs b).length ≤ sizeLine ∧ Q (.str (T (cs a ++ cs b))) H
  | .ref l, .ref b => ∃ xs ys, H l = some (.lst xs) ∧ H b = some (.lst ys) ∧ xs.length + ys.length ≤ sizeLine ∧
      ∀ p, H p = none → Q (.ref p) (upd H p (.lst (xs ++ ys)))
  | _, _ => False
theorem o_add : OpR X (binaryOp .Add) rAddU := by
  refine OpR.imp (op_add.or (op_add_str.or op_cat)) fun x y H Q h => ?_
  unfold rAddU at h
  split at h
  · exact .inl ⟨_, _, rfl, rfl, h⟩
  · rename_i a b
    refine .inr (.inl ⟨a, b, rfl, rfl, h.1, ?_⟩)
    have e : a ++ b = T (cs a ++ cs b) := T_add (cs a) (cs b)
    rw [e]; exact h.2
  · rename_i l b
    obtain ⟨xs, ys, h1, h2, h3, h4⟩ := h
    exact .inr (.inr ⟨l, b, xs, ys, rfl, rfl, h1, h2, h3, h4⟩)
  · exact h.elim
def rSubU : R2 := fun x y H Q => match x, y with
  | .int i, .int j => Q (.int (i - j)) H
  | _, _ => False
theorem o_sub : OpR X (binaryOp .Sub) rSubU := by
  refine OpR.imp op_sub fun x y H Q h => ?_
  unfold rSubU at h
  split at h
  · exact ⟨_, _, rfl, rfl, h⟩
  · exact h.elim
theorem mul_codes (z : Str) (n : Int) : Txt.mul z n = T (List.replicate n.toNat (cs z)).flatten := by
  have fold : ∀ (k : Nat) (acc : Array Nat), (List.replicate k z.cps).foldl (· ++ ·) acc = acc ++ (List.replicate k (cs z)).flatten.toArray := by
    intro k
    induction k with
    | zero => intro acc; simp
    | succ k ih =>
      intro acc
      rw [List.replicate_succ, List.foldl_cons, ih, List.replicate_succ, List.flatten_cons]
      apply Array.ext'
      simp [cs]
  unfold Txt.mul
  split
  · rename_i h
    have : n.toNat = 0 := by omega
    rw [this]; rfl
  · split
    · rename_i h1 h2
      rw [Bool.or_eq_true, beq_iff_eq, beq_iff_eq] at h2
      rcases h2 with h2 | h2
      · subst h2
        show z = T ((List.replicate 1 (cs z)).flatten)
        simp [T_cs]
      · have e : cs z = [] := List.eq_nil_of_length_eq_zero h2
        have e2 : z = T [] := by rw [← T_cs z, e]
        rw [e, e2]
        congr 1
        induction n.toNat with
        | zero => rfl
        | succ k ih => rw [List.replicate_succ, List.flatten_cons, ← ih]; rfl
    · show (⟨(List.replicate n.toNat z.cps).foldl (· ++ ·) #[]⟩ : Str) = _
      rw [fold]
      simp [T]
theorem tooLong_small {k : Nat} (h : k ≤ 1000000) : PySem.Builtin.Str.tooLong k = false := by
  unfold PySem.Builtin.Str.tooLong
  simp
  have := sizeLine_eq
  omega
theorem mulOk_small {z : Str} {n : Int} (h1 : n < 2 ^ 62) (h0 : -(2 ^ 62) < n) (h : (cs z).length * n.toNat ≤ 1000000) : MulOk z n := by
  have hz : z.length = (cs z).length := rfl
  refine ⟨by simp; omega, fun hn hb => ?_, fun hn hb => ?_⟩
  · intro c
    have k0 : (0 : Int) < n := by omega
    have hc : (z.length : Int) * n ≤ 1000000 := by
      have e : ((z.length * n.toNat : Nat) : Int) = (z.length : Int) * n := by
        rw [Int.natCast_mul]; congr 1; omega
      rw [← e]; rw [hz]; omega
    have : (z.length : Int) ≤ (2 ^ 63 - 1) / n := by
      rw [Int.le_ediv_iff_mul_le k0]; omega
    omega
  · have : z.length * n.toNat ≤ 1000000 := h
    exact tooLong_small (by omega)
def rMulU : R2 := fun x y H Q => match x, y with
  | .int i, .int j => CMul i j ∧ Q (.int (i * j)) H
  | .str z, .int n => (n < 2 ^ 62 ∧ -(2 ^ 62) < n ∧ (cs z).length * n.toNat ≤ 1000000) ∧ Q (.str (T (List.replicate n.toNat (cs z)).flatten)) H
  | .ref l, .int k => ∃ xs, H l = some (.lst xs) ∧ -(2 ^ 63) ≤ k ∧ k < 2 ^ 63 ∧ xs.length * k.toNat ≤ sizeLine ∧
      ∀ p, H p = none → Q (.ref p) (upd H p (.lst (List.replicate k.toNat xs).flatten))
  | _, _ => False
theorem op_mul_str : OpR X (binaryOp .Mult) (fun x y H Q => ∃ z n, x = .str z ∧ y = .int n ∧ MulOk z n ∧ Q (.str (Txt.mul z n)) H) := by
  intro pins s σ H x y v u Q I rx ry h
  obtain ⟨z, n, rfl, rfl, ok, q⟩ := h
  obtain ⟨t, rfl⟩ := rx
  obtain ⟨t', rfl⟩ := ry
  exact SB.mul ok fun t' k => ⟨.str _, H, I.tok _, ⟨_, rfl⟩, q⟩
theorem o_mul : OpR X (binaryOp .Mult) rMulU := by
  refine OpR.imp (op_mul.or (op_mul_str.or op_rep)) fun x y H Q h => ?_
  unfold rMulU at h
  split at h
  · exact .inl ⟨_, _, rfl, rfl, h.1, h.2⟩
  · rename_i z n
    refine .inr (.inl ⟨z, n, rfl, rfl, mulOk_small h.1.1 h.1.2.1 h.1.2.2, ?_⟩)
    rw [mul_codes]; exact h.2
  · rename_i l k
    obtain ⟨xs, h1, h2, h3, h4, h5⟩ := h
    exact .inr (.inr ⟨l, k, xs, rfl, rfl, h1, h2, h3, h4, h5⟩)
  · exact h.elim
def rModU : R2 := fun x y H Q => match x, y with
  | .int i, .int j => 0 < j ∧ Q (.int (i % j)) H
  | _, _ => False
theorem o_mod : OpR X (binaryOp .Mod) rModU := by
  refine OpR.imp op_mod fun x y H Q h => ?_
  unfold rModU at h
  split at h
  · exact ⟨_, _, rfl, rfl, h.1, h.2⟩
  · exact h.elim
def rFdivU : R2 := fun x y H Q => match x, y with
  | .int i, .int j => CDiv i j ∧ Q (.int (i / j)) H
  | _, _ => False
theorem o_fdiv : OpR X (binaryOp .FloorDiv) rFdivU := by
  refine OpR.imp op_fdiv fun x y H Q h => ?_
  unfold rFdivU at h
  split at h
  · exact ⟨_, _, rfl, rfl, h.1, h.2⟩
  · exact h.elim
def rPowU : R2 := fun x y H Q => match x, y with
  | .int i, .int j => CPow i j ∧ Q (.int (i ^ j.toNat)) H
  | _, _ => False
theorem o_pow : OpR X (binaryOp .Pow) rPowU := by
  refine OpR.imp op_pow fun x y H Q h => ?_
  unfold rPowU at h
  split at h
  · exact ⟨_, _, rfl, rfl, h.1, h.2⟩
  · exact h.elim
def rNegU : V → Hp → VK → Prop := fun x H Q => match x with
  | .int i => Q (.int (-i)) H
  | _ => False
theorem o_neg : UnR X (unaryOp .USub) rNegU := by
  intro pins s σ H x v Q I rx h
  unfold rNegU at h
  split at h
  · exact un_neg pins s σ H _ v Q I rx ⟨_, rfl, h⟩
  · exact h.elim

/-! comparisons -/
def cmpU (fi : Int → Int → Bool) (fs : List Nat → List Nat → Bool) : R2 := fun x y H Q => match x, y with
  | .int i, .int j => Q (.bl (fi i j)) H
  | .str a, .str b => Q (.bl (fs (cs a) (cs b))) H
  | _, _ => False
theorem cmpU_of {f : Value → Value → Sem Value} {fi : Int → Int → Bool} {fs : List Nat → List Nat → Bool} {r1 r2 : R2} (h1 : OpR X f r1) (h2 : OpR X f r2)
    (w1 : ∀ i j H Q, Q (.bl (fi i j)) H → r1 (.int i) (.int j) H Q) (w2 : ∀ (a b : Str) H Q, Q (.bl (fs (cs a) (cs b))) H → r2 (.str a) (.str b) H Q) : OpR X f (cmpU fi fs) := by
  refine OpR.imp (h1.or h2) fun x y H Q h => ?_
  unfold cmpU at h
  split at h
  · exact .inl (w1 _ _ _ _ h)
  · exact .inr (w2 _ _ _ _ h)
  · exact h.elim
theorem o_lt : OpR X (compareOp .Lt) (cmpU (fun i j => decide (i < j)) fun a b => decide (a < b)) :=
  cmpU_of op_lt op_lt_str (fun i j H Q q => ⟨i, j, rfl, rfl, q⟩) fun a b H Q q => ⟨a, b, rfl, rfl, q⟩
theorem o_le : OpR X (compareOp .LtE) (cmpU (fun i j => decide (i ≤ j)) fun a b => !decide (b < a)) :=
  cmpU_of op_le op_le_str (fun i j H Q q => ⟨i, j, rfl, rfl, q⟩) fun a b H Q q => ⟨a, b, rfl, rfl, q⟩
theorem o_gt : OpR X (compareOp .Gt) (cmpU (fun i j => decide (j < i)) fun a b => decide (b < a)) :=
  cmpU_of op_gt op_gt_str (fun i j H Q q => ⟨i, j, rfl, rfl, q⟩) fun a b H Q q => ⟨a, b, rfl, rfl, q⟩
theorem o_ge : OpR X (compareOp .GtE) (cmpU (fun i j => decide (j ≤ i)) fun a b => !decide (a < b)) :=
  cmpU_of op_ge op_ge_str (fun i j H Q q => ⟨i, j, rfl, rfl, q⟩) fun a b H Q q => ⟨a, b, rfl, rfl, q⟩

/-- == : scalars; lists and tuples of data by the data they hold -/
def eqU (K : PySem.W.Frag) (neg : Bool) : R2 := fun x y H Q => match x, y with
  | .int i, .int j => Q (.bl (if neg then !decide (i = j) else decide (i = j))) H
  | .str a, .str b => Q (.bl (if neg then !decide (cs a = cs b) else decide (cs a = cs b))) H
  | .bl i, .bl j => Q (.bl (if neg then !decide (i = j) else decide (i = j))) H
  | .non, .non => Q (.bl (!neg)) H
  | .non, .int _ => Q (.bl neg) H
  | .int _, .non => Q (.bl neg) H
  | .non, .str _ => Q (.bl neg) H
  | .str _, .non => Q (.bl neg) H
  | .ref a, .ref b => ∃ d e, Dp K H (.ref a) d ∧ Dp K H (.ref b) e ∧ SeqAt.shaped d = true ∧ SeqAt.shaped e = true ∧
      Q (.bl (if neg then !PyData.eqv d e else PyData.eqv d e)) H
  | _, _ => False
theorem dec_cs (a b : Str) : decide (V.str a = V.str b) = decide (cs a = cs b) := by
  congr 1
  apply propext
  constructor
  · intro h; injection h with h; rw [h]
  · intro h
    have : a = b := by rw [← T_cs a, ← T_cs b, h]
    rw [this]
theorem o_eq (hu : X.A.units + 64 < cLine) : OpR X (compareOp .Eq) (eqU X.K false) := by
  refine OpR.imp (op_eq.or (op_eqD hu)) fun x y H Q h => ?_
  unfold eqU at h
  split at h
  all_goals first
    | exact h.elim
    | (obtain ⟨d, e, h1, h2, h3, h4, h5⟩ := h; exact .inr ⟨d, e, h1, h2, h3, h4, h5⟩)
    | (refine .inl ⟨rfl, ?_⟩; first | (rw [dec_cs]; exact h) | (simpa using h))
theorem o_ne (hu : X.A.units + 64 < cLine) : OpR X (compareOp .NotEq) (eqU X.K true) := by
  refine OpR.imp (op_ne.or (op_neD hu)) fun x y H Q h => ?_
  unfold eqU at h
  split at h
  all_goals first
    | exact h.elim
    | (obtain ⟨d, e, h1, h2, h3, h4, h5⟩ := h; exact .inr ⟨d, e, h1, h2, h3, h4, h5⟩)
    | (refine .inl ⟨rfl, ?_⟩; first | (rw [dec_cs]; exact h) | (simpa using h))
/-- is None, is True -/
def isU (neg : Bool) : R2 := fun x y H Q => match x, y with
  | .bl i, .bl j => Q (.bl (if neg then !decide (i = j) else decide (i = j))) H
  | x, .non => Q (.bl (if neg then !decide (x = .non) else decide (x = .non))) H
  | _, _ => False
theorem o_is : OpR X (compareOp .Is) (isU false) := by
  refine OpR.imp (op_isBl.or op_isN) fun x y H Q h => ?_
  unfold isU at h
  split at h
  · exact .inl ⟨_, _, rfl, rfl, h⟩
  · exact .inr ⟨rfl, h⟩
  · exact h.elim
theorem o_isnot : OpR X (compareOp .IsNot) (isU true) := by
  refine OpR.imp (op_isnot_bl.or op_notN) fun x y H Q h => ?_
  unfold isU at h
  split at h
  · exact .inl ⟨_, _, rfl, rfl, h⟩
  · exact .inr ⟨rfl, h⟩
  · exact h.elim
end
end LK
namespace LK
open PySem PySem.Spec PyProof.Rows L2
/-! tests -/
section
variable {X : Cx} {e a b c : Expr} {t ta tb tc : TE} {pos : Pos} {u v : TT} {rest : List Expr}
def asB (Q : Bool → Hp → Prop) : VK := fun x H' => match x with | .bl k => Q k H' | _ => False
def uT (t : TE) : TT := fun σ H Q => t σ H (asB Q)
theorem asB_eq (Q : Bool → Hp → Prop) : asB Q = fun x H' => ∃ k, x = .bl k ∧ Q k H' := by
  funext x H'
  apply propext
  unfold asB
  constructor
  · intro h
    split at h
    · exact ⟨_, rfl, h⟩
    · exact h.elim
  · rintro ⟨k, rfl, h⟩
    exact h
theorem uT_eq (t : TE) : uT t = tB t := by
  funext σ H Q
  show t σ H (asB Q) = t σ H _
  rw [asB_eq]
theorem pt_u (h : PE X e t) (he : ∀ whole, isTrue e X.env whole = (do let v ← whole; standAt e.pos; holding [v] (truthy v)) := by intro _; rfl) : PT X e (uT t) := by
  rw [uT_eq]; exact pt_val h he
theorem pt_cu {op : CmpOp} {r : R2} (ho : OpR X (compareOp op) r) (ha : PE X a ta) (hb : PE X b tb) (hm : behindInMarks op b = false := by first | exact nomark _ | rfl) :
    PT X (.Compare a [op] [b] pos) (uT (tOp r ta tb)) := by
  rw [uT_eq]; exact pt_cmpR ho ha hb hm
theorem pe_cu {op : CmpOp} {r : R2} (ho : OpR X (compareOp op) r) (ha : PE X a ta) (hb : PE X b tb) (hm : behindInMarks op b = false := by first | exact nomark _ | rfl) :
    PE X (.Compare a [op] [b] pos) (tOp r ta tb) := pe_cmpR ho ha hb hm
/-- a comparison chain -/
def uChain (r r' : R2) (ta tb tc : TE) : TE := fun σ H Q => ta σ H fun x H1 => tb σ H1 fun y H2 => r x y H2 (asB fun k H3 =>
  (k = true → tc σ H3 fun w H4 => r' y w H4 Q) ∧ (k = false → Q (.bl false) H3))
theorem uChain_eq (r r' : R2) (ta tb tc : TE) : uChain r r' ta tb tc = tChain r r' ta tb tc := by
  funext σ H Q
  unfold uChain tChain
  congr 1; funext x H1; congr 1; funext y H2
  rw [asB_eq]
  congr 1; funext z H3
  apply propext
  constructor
  · rintro ⟨k, rfl, h1, h2⟩
    refine ⟨k, rfl, ?_⟩
    cases k with
    | true => exact h1 rfl
    | false => exact h2 rfl
  · rintro ⟨k, rfl, h⟩
    refine ⟨k, rfl, fun e => ?_, fun e => ?_⟩ <;> subst e <;> exact h
theorem pe_chainU {op op' : CmpOp} {r r' : R2} (ho : OpR X (compareOp op) r) (ho' : OpR X (compareOp op') r') (ha : PE X a ta) (hb : PE X b tb) (hc : PE X c tc)
    (h : PE X (.Compare a [op, op'] [b, c] pos) (tChain r r' ta tb tc)) : PE X (.Compare a [op, op'] [b, c] pos) (uChain r r' ta tb tc) := by
  rw [uChain_eq]; exact h
theorem pt_chainU {r r' : R2} {t2 : TE} (h : PT X e (tTest (tChain r r' ta tb tc))) : PT X e (uT (uChain r r' ta tb tc)) := by
  rw [uChain_eq, uT_eq]; exact h
/-- and, or, not, if -/
def Br (b : Bool) (A B : Prop) : Prop := (b = true → A) ∧ (b = false → B)
theorem br_eq (b : Bool) (A B : Prop) : Br b A B = (if b = true then A else B) := by
  apply propext
  cases b
  · exact ⟨fun h => h.2 rfl, fun h => ⟨fun e => Bool.noConfusion e, fun _ => h⟩⟩
  · exact ⟨fun h => h.1 rfl, fun h => ⟨fun _ => h, fun e => Bool.noConfusion e⟩⟩
theorem Br.yes {A B : Prop} (h : A) : Br true A B := ⟨fun _ => h, fun e => Bool.noConfusion e⟩
theorem Br.no {A B : Prop} (h : B) : Br false A B := ⟨fun e => Bool.noConfusion e, fun _ => h⟩
theorem Br.d {p A B : Prop} [Decidable p] (h1 : p → A) (h2 : ¬ p → B) : Br (decide p) A B :=
  ⟨fun e => h1 (of_decide_eq_true e), fun e => h2 (of_decide_eq_false e)⟩
theorem Br.nd {p A B : Prop} [Decidable p] (h1 : ¬ p → A) (h2 : p → B) : Br (!decide p) A B :=
  ⟨fun e => h1 (by simpa using e), fun e => h2 (by simpa using e)⟩
def uAnd (t u : TT) : TT := fun σ H Q => t σ H fun k H1 => Br k (u σ H1 Q) (Q false H1)
def uOr (t u : TT) : TT := fun σ H Q => t σ H fun k H1 => Br k (Q true H1) (u σ H1 Q)
theorem pw_andU (ha : PT X a u) (hb : PW X (.BoolOp .And (b :: rest) pos) v) : PW X (.BoolOp .And (a :: b :: rest) pos) (uAnd u v) := by
  have e : uAnd u v = tAnd u v := by
    funext σ H Q; unfold uAnd tAnd; congr 1; funext k H1; exact br_eq _ _ _
  rw [e]; exact pw_and ha hb
theorem pw_orU (ha : PT X a u) (hb : PW X (.BoolOp .Or (b :: rest) pos) v) : PW X (.BoolOp .Or (a :: b :: rest) pos) (uOr u v) := by
  have e : uOr u v = tOr u v := by
    funext σ H Q; unfold uOr tOr; congr 1; funext k H1; exact br_eq _ _ _
  rw [e]; exact pw_or ha hb
def uAndV (ta tb : TE) : TE := fun σ H Q => ta σ H (asB fun k H1 => Br k (tb σ H1 Q) (Q (.bl false) H1))
def uOrV (ta tb : TE) : TE := fun σ H Q => ta σ H (asB fun k H1 => Br k (Q (.bl true) H1) (tb σ H1 Q))
def uNotV (ta : TE) : TE := fun σ H Q => ta σ H (asB fun k H1 => Q (.bl (!k)) H1)
theorem pe_andU (ha : PE X a ta) (hb : PE X (.BoolOp .And (b :: rest) pos) tb) : PE X (.BoolOp .And (a :: b :: rest) pos) (uAndV ta tb) := by
  have e : uAndV ta tb = tAndV ta tb := by
    funext σ H Q; unfold uAndV tAndV; rw [asB_eq]; congr 1; funext x H1
    apply propext
    constructor <;> rintro ⟨k, h1, h2⟩ <;> refine ⟨k, h1, ?_⟩
    · rw [br_eq] at h2; exact h2
    · rw [br_eq]; exact h2
  rw [e]; exact pe_and ha hb
theorem pe_orU (ha : PE X a ta) (hb : PE X (.BoolOp .Or (b :: rest) pos) tb) : PE X (.BoolOp .Or (a :: b :: rest) pos) (uOrV ta tb) := by
  have e : uOrV ta tb = tOrV ta tb := by
    funext σ H Q; unfold uOrV tOrV; rw [asB_eq]; congr 1; funext x H1
    apply propext
    constructor <;> rintro ⟨k, h1, h2⟩ <;> refine ⟨k, h1, ?_⟩
    · rw [br_eq] at h2; exact h2
    · rw [br_eq]; exact h2
  rw [e]; exact pe_or ha hb
theorem pe_notU (ha : PE X a ta) : PE X (.UnaryOp .Not a pos) (uNotV ta) := by
  have e : uNotV ta = tNotV ta := by
    funext σ H Q; unfold uNotV tNotV; rw [asB_eq]
  rw [e]; exact pe_not ha
def uIfE (t : TT) (ta tb : TE) : TE := fun σ H Q => t σ H fun k H1 => Br k (ta σ H1 Q) (tb σ H1 Q)
theorem pe_ifU {c : Expr} (hc : PT X c u) (ha : PE X a ta) (hb : PE X b tb) : PE X (.IfExp c a b pos) (uIfE u ta tb) := by
  have e : uIfE u ta tb = tIf u ta tb := by
    funext σ H Q; unfold uIfE tIf; congr 1; funext k H1; exact br_eq _ _ _
  rw [e]; exact pe_ifExp hc ha hb
def uIf (c : TT) (t u : TS) : TS := fun D σ H => c σ H fun k H1 => Br k (t D σ H1) (u D σ H1)
theorem ps_ifU {c : Expr} {a b : List Stmt} {tc : TT} {t u : TS} (hc : PT X c tc) (ha : PSs X a t) (hb : PSs X b u) : PS X (.If c a b pos) (uIf tc t u) := by
  have e : uIf tc t u = tIfS tc t u := by
    funext D σ H; unfold uIf tIfS; congr 1; funext k H1; exact br_eq _ _ _
  rw [e]; exact ps_if hc ha hb
end

/-! subscripts -/
section
variable {X : Cx} {e a b : Expr} {t ta tb : TE} {pos : Pos}
def ixU (K : PySem.W.Frag) : R2 := fun x y H Q => match x, y with
  | .ref p, .int i => ∃ xs v, (SqL K H p xs ∨ SqT K H p xs) ∧ atI xs i = some v ∧ Q v H
  | .str z, .int i => (cs z).length ≤ sizeLine ∧ ∃ c, atI (cs z) i = some c ∧ Q (.str (T [c])) H
  | _, _ => False
theorem ix_u : IxR X (ixU X.K) := by
  refine IxR.imp ix_seq fun x y H Q h => ?_
  unfold ixU at h
  split at h
  · obtain ⟨xs, v, h1 | h1, h2, h3⟩ := h
    · exact .inl ⟨_, xs, _, v, rfl, rfl, h1, h2, h3⟩
    · exact .inr (.inl ⟨_, xs, _, v, rfl, rfl, h1, h2, h3⟩)
  · obtain ⟨hz, c, h1, h2⟩ := h
    exact .inr (.inr ⟨_, _, c, rfl, rfl, hz, h1, h2⟩)
  · exact h.elim
theorem pe_ixU (ha : PE X a ta) (hb : PE X b tb) (hs : PlainIx b := by exact fun _ _ => rfl) : PE X (.Subscript a b pos) (tOp (ixU X.K) ta tb) := pe_ix ix_u ha hb hs
/-- x[i:j] of a text; of a list -/
def slU (K : PySem.W.Frag) : V → Option Int → Option Int → Hp → VK → Prop := fun x lo hi H Q => match x with
  | .str z => (cs z).length ≤ sizeLine ∧ Q (.str (T (((cs z).drop (HT.sIx (cs z).length 0 lo)).take (HT.sIx (cs z).length (cs z).length hi - HT.sIx (cs z).length 0 lo)))) H
  | .ref a => ∃ xs, SqL K H a xs ∧ ∀ p, H p = none → Q (.ref p) (upd H p (.lst (cutV xs lo hi)))
  | _ => False
theorem sl_u : SlR X (slU X.K) := by
  intro pins s σ H x v vl vu lo hi sl Q I rx hs pl pu h
  refine (sl_str.or sl_list) pins s σ H x v vl vu lo hi sl Q I rx hs pl pu ?_
  unfold slU at h
  split at h
  · exact .inl ⟨_, rfl, h.1, h.2⟩
  · obtain ⟨xs, h1, h2⟩ := h
    exact .inr ⟨_, xs, rfl, h1, h2⟩
  · exact h.elim
def uPart (t : TE) : TO := fun σ H Q => t σ H fun x H1 => match x with | .int i => Q (some i) H1 | _ => False
theorem po_u (h : PE X e t) : PO X (some e) (uPart t) := by
  have w : uPart t = tPart t := by
    funext σ H Q; unfold uPart tPart; congr 1; funext x H1
    apply propext
    constructor
    · intro h; split at h
      · exact ⟨_, rfl, h⟩
      · exact h.elim
    · rintro ⟨i, rfl, h⟩; exact h
  rw [w]; exact po_some h
end

/-! calls of built-ins -/
section
variable {X : Cx}
def lenU (K : PySem.W.Frag) : List V → Hp → VK → Prop := fun vs H Q => match vs with
  | [.str z] => (cs z).length ≤ sizeLine ∧ Q (.int (cs z).length) H
  | [.ref p] => (∃ xs, (SqL K H p xs ∨ SqT K H p xs) ∧ Q (.int xs.length) H) ∨ ∃ kvs, H p = some (.dK kvs) ∧ Q (.int kvs.length) H
  | _ => False
theorem c_len : CallR X (.builtin "len") (lenU X.K) := by
  refine CallR.imp (call_len_str.or (call_len_seq.or call_lenD)) fun vs H Q h => ?_
  unfold lenU at h
  split at h
  · exact .inl ⟨_, rfl, h.1, h.2⟩
  · rcases h with ⟨xs, h1, h2⟩ | ⟨kvs, h1, h2⟩
    · exact .inr (.inl ⟨_, xs, rfl, h1, h2⟩)
    · exact .inr (.inr ⟨_, kvs, rfl, h1, h2⟩)
  · exact h.elim
def intU : List V → Hp → VK → Prop := fun vs H Q => match vs with
  | [.int i] => Q (.int i) H
  | [.bl k] => Q (.int (if k then 1 else 0)) H
  | _ => False
theorem c_int : CallR X (.type "int") intU := by
  refine CallR.imp call_int1 fun vs H Q h => ?_
  unfold intU at h
  split at h
  · exact .inl ⟨_, rfl, h⟩
  · exact .inr ⟨_, rfl, h⟩
  · exact h.elim
def absU : List V → Hp → VK → Prop := fun vs H Q => match vs with
  | [.int i] => Q (.int i.natAbs) H
  | _ => False
theorem c_abs : CallR X (.builtin "abs") absU := by
  refine CallR.imp call_abs fun vs H Q h => ?_
  unfold absU at h
  split at h
  · rename_i i
    refine ⟨_, rfl, ?_⟩
    have e : (if i < 0 then -i else i) = (i.natAbs : Int) := by omega
    rw [e]; exact h
  · exact h.elim
def mm2U (f : Int → Int → Int) : List V → Hp → VK → Prop := fun vs H Q => match vs with
  | [.int i, .int j] => Q (.int (f i j)) H
  | _ => False
theorem c_max2 (hc : X.calm = true) : CallR X (.builtin "max") (mm2U max) := by
  refine CallR.imp (call_max2 hc) fun vs H Q h => ?_
  unfold mm2U at h
  split at h
  · rename_i i j
    refine ⟨_, _, rfl, ?_⟩
    have e : (if j > i then j else i) = max i j := by omega
    rw [e]; exact h
  · exact h.elim
theorem c_min2 (hc : X.calm = true) : CallR X (.builtin "min") (mm2U min) := by
  refine CallR.imp (call_min2 hc) fun vs H Q h => ?_
  unfold mm2U at h
  split at h
  · rename_i i j
    refine ⟨_, _, rfl, ?_⟩
    have e : (if j < i then j else i) = min i j := by omega
    rw [e]; exact h
  · exact h.elim
def divmodU : List V → Hp → VK → Prop := fun vs H Q => match vs with
  | [.int i, .int j] => CDiv i j ∧ ∀ p, H p = none → Q (.ref p) (upd H p (.tup [.int (i / j), .int (i % j)]))
  | _ => False
theorem c_divmod : CallR X (.builtin "divmod") divmodU := by
  refine CallR.imp call_divmod fun vs H Q h => ?_
  unfold divmodU at h
  split at h
  · exact ⟨_, _, rfl, h.1, h.2⟩
  · exact h.elim
def allU (K : PySem.W.Frag) (f : List Bool → Bool) : List V → Hp → VK → Prop := fun vs H Q => match vs with
  | [.ref a] => ∃ bs : List Bool, SqL K H a (bs.map V.bl) ∧ Q (.bl (f bs)) H
  | _ => False
theorem c_all (hc : X.calm = true) : CallR X (.builtin "all") (allU X.K fun bs => bs.all id) := by
  refine CallR.imp (cr_all hc) fun vs H Q h => ?_
  unfold allU at h
  split at h
  · obtain ⟨bs, h1, h2⟩ := h; exact ⟨_, bs, rfl, h1, h2⟩
  · exact h.elim
theorem c_any (hc : X.calm = true) : CallR X (.builtin "any") (allU X.K fun bs => bs.any id) := by
  refine CallR.imp (cr_any hc) fun vs H Q h => ?_
  unfold allU at h
  split at h
  · obtain ⟨bs, h1, h2⟩ := h; exact ⟨_, bs, rfl, h1, h2⟩
  · exact h.elim
def sumU (K : PySem.W.Frag) : List V → Hp → VK → Prop := fun vs H Q => match vs with
  | [.ref a] => ∃ ns : List Int, SqL K H a (ns.map V.int) ∧ Q (.int ns.sum) H
  | _ => False
theorem c_sum (hc : X.calm = true) : CallR X (.builtin "sum") (sumU X.K) := by
  refine CallR.imp (cr_sum hc) fun vs H Q h => ?_
  unfold sumU at h
  split at h
  · obtain ⟨bs, h1, h2⟩ := h; exact ⟨_, bs, rfl, h1, h2⟩
  · exact h.elim
/-- list(a list, a tuple, a dict) -/
def listU (K : PySem.W.Frag) : List V → Hp → VK → Prop := fun vs H Q => match vs with
  | [.ref p] => (∃ ys, (SqL K H p ys ∨ SqT K H p ys) ∧ ∀ l, H l = none → Q (.ref l) (upd H l (.lst ys))) ∨
      ∃ kvs, H p = some (.dK kvs) ∧ ∀ l, H l = none → Q (.ref l) (upd H l (.lst (kvs.map fun kv => kV kv.1)))
  | _ => False
theorem c_list (hc : X.calm = true) : CallR X (.type "list") (listU X.K) := by
  refine CallR.imp (call_list_of.or (call_list_dK hc)) fun vs H Q h => ?_
  unfold listU at h
  split at h
  · rcases h with ⟨ys, h1, h2⟩ | ⟨kvs, h1, h2⟩
    · exact .inl ⟨_, ys, rfl, h1, h2⟩
    · exact .inr ⟨_, kvs, rfl, h1, h2⟩
  · exact h.elim
end

/-! own calls: the promise at the arguments -/
section
variable {X : Cx} {CX : CXT} {k : Nat} {f : Addr} {fd : FuncData} {ps ks : List Str} {sp : Sp} {E : XK} {x : Str} {p pos : Pos} {e : Expr} {es : List Expr} {t : TA}
def uCall (sp : Sp) (E : XK) (t : TA) : TE := fun σ H Q => t σ H fun vs H1 => sp vs H1 Q E
theorem uCall_eq (sp : Sp) (E : XK) (t : TA) : uCall sp E t = tCall sp [] E t := by
  funext σ H Q; unfold uCall tCall; congr 1; funext vs H1; rw [List.append_nil]
theorem pe_callU (F : FnOk X.prog X.w X.K X.mg X.base CX k f fd ps sp) (hr : Room k X.A) (hg : Gl X x) (hm : X.mg x = some (.ref f))
    (hk : PySem.W.keepIn X.K (.ref f) = true) (hb : Binds X.K fd ps []) (hx : Passes CX X E) (ha : PA X (e :: es) t)
    (hdb : (x == ("__debug__" : Str)) = false := by decide) (he : starEach (e :: es) X.env = (false, eval e X.env) :: starEach es X.env := by rfl)
    (hpl : (backTo pos (starEach es X.env)).any (·.1) = false := by rfl) : PE X (.Call (.Name x p) (e :: es) [] pos) (uCall sp E t) := by
  rw [uCall_eq]; exact pe_call F hr hg hm hk hb .nil hx ha hdb he hpl
theorem pe_callUG (F : FnG X.prog X.w X.K X.mg X.base CX k f fd ps sp) (hA : X.A.guards = some []) (hr : Room k X.A) (hg : Gl X x) (hm : X.mg x = some (.ref f))
    (hk : PySem.W.keepIn X.K (.ref f) = true) (hb : Binds X.K fd ps []) (hx : Passes CX X E) (ha : PA X (e :: es) t)
    (hdb : (x == ("__debug__" : Str)) = false := by decide) (he : starEach (e :: es) X.env = (false, eval e X.env) :: starEach es X.env := by rfl)
    (hpl : (backTo pos (starEach es X.env)).any (·.1) = false := by rfl) : PE X (.Call (.Name x p) (e :: es) [] pos) (uCall sp E t) := by
  rw [uCall_eq]; exact pe_callG F hA hr hg hm hk hb hx ha hdb he hpl
end
end LK

/-! sorted of a dict's texts, of texts by key= -/
namespace LK
open PySem PySem.Spec PyProof.Rows L2
open PySem.W (EachIs dataLe AllAlike Sortable)

/-- a text's value -/
def RT (v : Value) (l : List Nat) : Prop := ∃ t, v = .str (T l) t
abbrev encT (l : List Nat) : PyData := .str (T l)
theorem alike_T (ks : List (List Nat)) : AllAlike (ks.map encT) := by
  intro d h1 d' h2
  obtain ⟨a, _, rfl⟩ := List.mem_map.mp h1
  obtain ⟨b, _, rfl⟩ := List.mem_map.mp h2
  rfl
theorem sortable_T (ks : List (List Nat)) : Sortable (ks.map encT) := by
  refine .inr fun d h1 => ?_
  obtain ⟨a, _, rfl⟩ := List.mem_map.mp h1
  exact ⟨(fun z => nomatch z), (fun xs z => nomatch z)⟩
theorem vals_RT : ∀ {vs : List Value} {ks : List (List Nat)}, EachIs RT vs ks → L2.Vals (ks.map fun l => V.str (T l)) vs
  | _, _, .nil => .nil
  | _, _, .cons h t => .cons h (vals_RT t)
theorem RT_vals : ∀ {vs : List Value} {ks : List (List Nat)}, L2.Vals (ks.map fun l => V.str (T l)) vs → EachIs RT vs ks
  | [], [], _ => .nil
  | _ :: _, [], h => by cases h
  | [], _ :: _, h => by cases h
  | v :: vs, k :: ks, h => by
    cases h with
    | cons r t => exact .cons r (RT_vals t)
theorem reads_RT {h : Heap} : ∀ {vs : List Value} {ks : List (List Nat)}, EachIs RT vs ks → EachIs (fun v l => ∃ as, Reads h v (encT l) as) vs ks
  | _, _, .nil => .nil
  | _, _, .cons ⟨t, e⟩ r => .cons ⟨[], by rw [e]; exact .str _ t⟩ (reads_RT r)

section
variable {X : Cx} {pins : List (Addr × Obj)} {σ : L2.St} {H : Hp} {s : Shared} {E : Value → Shared → Prop}
/-- the items of a dict with texts as keys, taken into a new list -/
theorem collect_dict {A : Around} (hA : A.handled = none) (I : Inv X pins σ H s) {a : Addr} {kvs : List (Key × V)} {ks : List (List Nat)} (hd : H a = some (.dK kvs))
    (hk : kvs.map (·.1) = ks.map fun l => Sum.inr (T l)) {R : List Value → Shared → Prop}
    (h : ∀ (h' : Heap) (tk : Nat) (vs : List Value), (∀ b o, s.heap.get? b = some o → h'.get? b = some o) → EachIs RT vs ks → ks.length ≤ sizeLine →
      R vs { s with heap := h', toks := tk }) : wpAny (model X.prog X.w) A (collect (.ref a)) R E s := by
  obtain ⟨z, lo, vs, rel, dd⟩ := (show ObjOk X.prog X.w H s.heap a (.dK kvs) from I.hok a _ hd)
  obtain ⟨ep, hat⟩ := dd.dictAt
  have hkeys : vs.map (·.1) = ks.map fun l => Sum.inr (T l) := (KV.keys rel).symm.trans hk
  have hl : vs.length = ks.length := by
    have e := congrArg List.length hkeys
    simpa using e
  have hz : ks.length ≤ sizeLine := by
    have e := congrArg List.length hk
    simp only [List.length_map] at e
    omega
  refine PySem.W.kdu_collect (A := A) (PySem.W.kdl_dict (knd := mixKind X.prog X.w) (kvs := vs) (ep := ep) lo) hA hat (by rw [hl]; exact hz) ?_
  intro h' tk acc keep it
  refine h h' tk acc.toList keep ?_ hz
  have hal : acc.toList.length = ks.length := by rw [Array.length_toList, it.1, hl]
  refine RT_vals (vals_of_at (by rw [List.length_map]; exact hal.symm) ?_)
  intro j x v e1 e2
  obtain ⟨k, y, ky, hi⟩ := it.2 j v (by rw [← Array.getElem?_toList]; exact e2)
  have e3 : (vs.map (·.1))[j]? = some k := by rw [List.getElem?_map, ky]; rfl
  rw [hkeys, List.getElem?_map] at e3
  rw [List.getElem?_map] at e1
  cases e4 : ks[j]? with
  | none => rw [e4] at e3; cases e3
  | some l =>
    rw [e4] at e1 e3
    cases Option.some.inj e1
    cases Option.some.inj e3
    obtain ⟨t, ev⟩ := Value.isStrOf_shape (x := T l) (v := v) hi
    exact ⟨t, ev⟩

/-- sorted over what was collected, by list.sort -/
theorem sorted_via {v : Value} {kw : List (Str × Value)} {Q : Value → Shared → Prop} {A : Around} (I : Inv X pins σ H s) (ha1 : argsOk "sorted" ⟨[v], kw⟩)
    (ha2 : ∀ x, argsOk "list.sort" ⟨[.ref x], kw⟩) (P : List Value → Prop)
    (col : ∀ (R : List Value → Shared → Prop), (∀ (h' : Heap) (tk : Nat) (vs : List Value), (∀ b o, s.heap.get? b = some o → h'.get? b = some o) → P vs → vs.length ≤ sizeLine →
      R vs { s with heap := h', toks := tk }) → wpAny (model X.prog X.w) A.in1 (collect v) R E s)
    (body : ∀ (h' : Heap) (tk : Nat) (vs : List Value) (E' : Value → Shared → Prop), (∀ b o, s.heap.get? b = some o → h'.get? b = some o) → P vs → vs.length ≤ sizeLine →
      Inv X pins σ H { s with heap := h', toks := tk } →
      wpAny (model X.prog X.w) A.in1.in1 (Builtin.«list.sort» ⟨[.ref h'.objs.size], kw⟩) (fun f s' => f = .done (.ret .none) ∧ Q (.ref h'.objs.size) s') E'
        { s with heap := h'.push (seqObj "list" vs.toArray 0), toks := tk }) :
    wpAny (model X.prog X.w) A (call (.builtin "sorted") [v] kw) Q E s := by
  refine call_function_entry_kw kind_sorted plain_sorted entry_sorted ha1 ?_
  unfold Builtin.«sorted»
  refine wpAny_bind (m := checkCount "sorted" 1 1 _) (wpAny_pure ?_)
  refine wpAny_bind (col _ fun h' tk vs keep p hl => ?_)
  refine wpAny_bind (wpAny_newList ?_ hl)
  have hoL : (h'.push (seqObj "list" vs.toArray 0)).get? h'.objs.size = some (seqObj "list" vs.toArray 0) := Heap.get?_push_size _ rfl
  refine wpAny_bind (wpAny_holding (wpAny_call_entry_kw slot_list_sort ⟨_, hoL, rfl⟩ entry_list_sort ?body (ha2 _)))
  case body =>
    refine wpAny_mono (body h' tk vs _ keep p hl (I.kept keep)) (fun f s' z => ?_) fun _ _ z => z
    obtain ⟨rfl, q⟩ := z
    exact ⟨_, rfl, wpAny_pure ⟨_, rfl, q⟩⟩

theorem len_each {ks : List (List Nat)} {vs : List Value} (e : EachIs RT vs ks) : vs.length = ks.length := e.length

/-- sorted(d), d a dict with texts as keys -/
def sortedD : List V → Hp → VK → Prop := fun vs H Q => match vs with
  | [.ref a] => ∃ (kvs : List (Key × V)) (ks : List (List Nat)), H a = some (.dK kvs) ∧ kvs.map (·.1) = (ks.map fun l => Sum.inr (T l)) ∧
      ∀ p, H p = none → Q (.ref p) (upd H p (.lst ((ks.mergeSort (dataLe false encT)).map fun l => .str (T l))))
  | _ => False
theorem new_lst {h' hf : Heap} {tk tk' : Nat} {ks : List (List Nat)} {out : List Value} {c : Nat} (J : Inv X pins σ H { s with heap := h', toks := tk })
    (keep : ∀ b o, h'.get? b = some o → hf.get? b = some o) (hat : hf.get? h'.objs.size = some (seqObj "list" out.toArray c)) (r : EachIs RT out ks) (hl : ks.length ≤ sizeLine) :
    Inv X pins σ (upd H h'.objs.size (.lst (ks.map fun l => .str (T l)))) { s with heap := hf, toks := tk' } :=
  J.laid (t' := tk') keep (Nat.le_refl _) ⟨by rw [List.length_map]; exact hl, out, c, vals_RT r, hat⟩
theorem c_sortedD (hc : X.calm = true) (hu : X.A.units + 64 < cLine) : CallR X (.builtin "sorted") sortedD := by
  intro pins s σ H xs us Q I r h
  unfold sortedD at h
  split at h
  · rename_i a
    obtain ⟨kvs, ks, hd, hk, q⟩ := h
    obtain ⟨u, rfl, ru⟩ := vals1 r
    obtain rfl : u = Value.ref a := ru
    refine sorted_via I (args_sorted1 _) (fun _ => args_list_sort _) (fun vs => EachIs RT vs ks ∧ ks.length ≤ sizeLine)
      (fun R hR => collect_dict (A := X.A.in1) (I.ok.hd hc) I hd hk fun h' tk vs keep e hz => hR h' tk vs keep ⟨e, hz⟩ (by rw [e.length]; exact hz)) ?_
    intro h' tk vs E' keep p hl J
    obtain ⟨e, hz⟩ := p
    have hoL : (h'.push (seqObj "list" vs.toArray 0)).get? h'.objs.size = some (seqObj "list" vs.toArray 0) := Heap.get?_push_size _ rfl
    have S := PySem.W.SortsAt.data (prog := X.prog) (w := X.w) (A := X.A.in1.in1) (s := { s with heap := PySem.W.sortingHeap (h'.push (seqObj "list" vs.toArray 0)) h'.objs.size vs, toks := tk })
      (PySem.W.each_map (R := fun v d => ∃ as, Reads _ v d as) encT (reads_RT e)) (alike_T ks) (sortable_T ks)
      (PySem.W.bound_map (A := X.A.in1.in1) fun l _ => by show X.A.units + 1 + 1 + 0 < cLine; omega)
    refine PySem.W.list_sort_vals (s := { s with heap := h'.push (seqObj "list" vs.toArray 0), toks := tk }) hoL S (by rw [e.length]; exact hz) ⟨rfl, ?_⟩
    obtain ⟨c, hc'⟩ := PyProof.Rows.sortedHeap_at (vs := vs) (out := (PySem.W.sortVals (PySem.W.dataKind (PySem.W.sortingHeap (h'.push (seqObj "list" vs.toArray 0)) h'.objs.size vs) (ks.map encT)) false vs vs).toArray) hoL
    have ro := PySem.W.sortVals_data (h' := PySem.W.sortingHeap (h'.push (seqObj "list" vs.toArray 0)) h'.objs.size vs) (R := RT) false e (reads_RT e) (alike_T ks)
    refine ⟨.ref _, _, new_lst (tk' := tk) J (fun b o hb => ?_) hc' ro (by rw [List.length_mergeSort]; exact hz), rfl, q _ (J.hok.fresh (Nat.le_refl _))⟩
    have lt := Heap.lt_size hb
    rw [PyProof.Rows.sortedHeap_old (Nat.ne_of_lt lt) (by rw [size_push']; exact Nat.lt_succ_of_lt lt)]
    exact Heap.get?_push_of_some _ hb
  · exact h.elim

/-- sorted(xs, key=len), xs a list of texts -/
abbrev encL (l : List Nat) : PyData := .int (l.length : Int)
theorem alike_L (ks : List (List Nat)) : AllAlike (ks.map encL) := by
  intro d h1 d' h2
  obtain ⟨a, _, rfl⟩ := List.mem_map.mp h1
  obtain ⟨b, _, rfl⟩ := List.mem_map.mp h2
  rfl
theorem sortable_L (ks : List (List Nat)) : Sortable (ks.map encL) := by
  refine .inr fun d h1 => ?_
  obtain ⟨a, _, rfl⟩ := List.mem_map.mp h1
  exact ⟨(fun z => nomatch z), (fun xs z => nomatch z)⟩
/-- the end of a sort by keys -/
theorem sort_key_end {f : Value} {kw : List (Str × Value)} {A : Around} {k : List Nat → PyData} {ks : List (List Nat)} {h' : Heap} {tk : Nat} {vs : List Value} {Q : Value → Shared → Prop} {E' : Value → Shared → Prop}
    (J : Inv X pins σ H { s with heap := h', toks := tk }) (e : EachIs RT vs ks) (hz : ks.length ≤ sizeLine) (hal : AllAlike (ks.map k)) (hk : Sortable (ks.map k))
    (hu : ∀ l, l ∈ ks → A.units + (k l).depth < cLine) (ht : ∀ x, Builtin.«list.sort» ⟨[.ref x], kw⟩ = ksk_tree x f false)
    (turn : ∀ (v : Value) (l : List Nat), RT v l → l ∈ ks → ∀ (h2 : Heap) (tk2 : Nat), (∀ b o, h'.get? b = some o → h2.get? b = some o) →
      wpAny (model X.prog X.w) A (call f [v]) (PySem.W.KeyPure (k l) { s with heap := h2, toks := tk2 }) (fun _ _ => False) { s with heap := h2, toks := tk2 })
    (q : ∀ hf tk', (∀ b o, h'.get? b = some o → hf.get? b = some o) →
      Inv X pins σ (upd H h'.objs.size (.lst ((ks.mergeSort (dataLe false k)).map fun l => .str (T l)))) { s with heap := hf, toks := tk' } → H h'.objs.size = none → Q (.ref h'.objs.size) { s with heap := hf, toks := tk' }) :
    wpAny (model X.prog X.w) A (Builtin.«list.sort» ⟨[.ref h'.objs.size], kw⟩) (fun f s' => f = .done (.ret .none) ∧ Q (.ref h'.objs.size) s') E'
      { s with heap := h'.push (seqObj "list" vs.toArray 0), toks := tk } := by
  have hoL : (h'.push (seqObj "list" vs.toArray 0)).get? h'.objs.size = some (seqObj "list" vs.toArray 0) := Heap.get?_push_size _ rfl
  have up : ∀ {g : Heap}, PySem.W.KeepsBut h'.objs.size (h'.push (seqObj "list" vs.toArray 0)) g → ∀ b o, h'.get? b = some o → g.get? b = some o := fun {g} kp b o z =>
    kp b o (Nat.ne_of_lt (Heap.lt_size z)) (Heap.get?_push_of_some _ z)
  rw [ht]
  refine PySem.W.keyH_tree (kz := ks.map k) (s := { s with heap := h'.push (seqObj "list" vs.toArray 0), toks := tk }) hoL (by rw [List.length_map]; exact e.length.symm) (by rw [e.length]; exact hz) hal hk
    (PySem.W.bound_map (A := A) hu) (PySem.W.keyH_turns (s := { s with heap := h'.push (seqObj "list" vs.toArray 0), toks := tk }) e fun v l hR hm h2 tk2 kp => turn v l hR hm h2 tk2 (up kp)) ?_
  intro hf tk' out c kp hD ko
  have ro := PySem.W.keyedOut_each k ko e
  refine ⟨rfl, q hf tk' (up kp) ?_ (J.hok.fresh (Nat.le_refl _))⟩
  exact new_lst (tk' := tk') J (up kp) hD ro (by rw [List.length_mergeSort]; exact hz)
def sortedLen (K : PySem.W.Frag) : List V → List V → Hp → VK → Prop := fun vs zs H Q => match vs with
  | [.ref a] => ∃ (ks : List (List Nat)), SqL K H a (ks.map fun l => .str (T l)) ∧ (∀ l ∈ ks, l.length ≤ sizeLine) ∧
      ∀ p, H p = none → Q (.ref p) (upd H p (.lst ((ks.mergeSort (dataLe false encL)).map fun l => .str (T l))))
  | _ => False
end
end LK

/-! key=len; key=lambda x: (len(x), x) -/
namespace LK
open PySem PySem.Spec PyProof.Rows L2 LamX
open PySem.W (EachIs dataLe AllAlike Sortable)

abbrev encP (l : List Nat) : PyData := .tuple [.int (l.length : Int), .str (T l)]
theorem alike_P (ks : List (List Nat)) : AllAlike (ks.map encP) := by
  intro d h1 d' h2
  obtain ⟨a, _, rfl⟩ := List.mem_map.mp h1
  obtain ⟨b, _, rfl⟩ := List.mem_map.mp h2
  rfl
theorem sortable_P (ks : List (List Nat)) : Sortable (ks.map encP) := by
  refine .inl fun d h1 => ?_
  obtain ⟨a, _, rfl⟩ := List.mem_map.mp h1
  exact ⟨_, _, rfl⟩

section
variable {X : Cx} {e : Expr} {t : TA} {p p2 kp pos : Pos}
/-- sorted(xs, key=len) -/
def sortedLenU (K : PySem.W.Frag) : List V → Hp → VK → Prop := fun vs H Q => match vs with
  | [.ref a] => ∃ (ks : List (List Nat)), SqL K H a (ks.map fun l => .str (T l)) ∧ (∀ l ∈ ks, l.length ≤ sizeLine) ∧
      ∀ p, H p = none → Q (.ref p) (upd H p (.lst ((ks.mergeSort (dataLe false encL)).map fun l => .str (T l))))
  | _ => False
theorem pe_sortedLen (hu : X.A.units + 64 < cLine) (hg : Gl X "sorted") (hm : X.mg "sorted" = none) (hgl : Gl X "len") (hml : X.mg "len" = none) (ha : PA X [e] t)
    (hv : bootBuiltins "sorted" = some (.builtin "sorted") := by decide +kernel) (hvl : bootBuiltins "len" = some (.builtin "len") := by exact PySem.boot_len)
    (he : backTo pos (starEach [e] X.env) = (false, eval e X.env) :: backTo pos (starEach [] X.env) := by rfl)
    (hpl : (backTo pos (starEach [e] X.env)).any (·.1) = false := by rfl) :
    PE X (.Call (.Name "sorted" p) [e] [⟨some "key", .Name "len" p2, kp⟩] pos) (tCB (sortedLenU X.K) t) := by
  refine ⟨fun pins s σ H Q I h => ?_⟩
  refine wpAny_Call_Name_kw (ld_blt I hg hm hv ?_)
  refine PyProof.Rows.callWith_kw (thn (ha.run pos pins s σ H _ I h) fun us s1 z => ?_) he hpl rfl rfl
  obtain ⟨vs, H1, I1, r1, q1⟩ := z
  show wpAny _ _ (evalAll [(do let v ← eval (.Name "len" p2) X.env; standAt pos; pure v)]) _ _ s1
  refine wpAny_evalAll_cons (wpAny_bind (ld_blt I1 hgl hml hvl (wpAny_bind (wpAny_standAt (wpAny_pure ?_)))))
  refine wpAny_evalAll_nil ?_
  show wpAny (model X.prog X.w) X.A (call (.builtin "sorted") us [(Str.ofString "key", .builtin "len")]) (EP X pins σ Q) X.xe s1
  have q1 : sortedLenU X.K vs H1 Q := q1
  have key : ∃ a, vs = [.ref a] ∧ ∃ (ks : List (List Nat)), SqL X.K H1 a (ks.map fun l => .str (T l)) ∧ (∀ l ∈ ks, l.length ≤ sizeLine) ∧
      ∀ p, H1 p = none → Q (.ref p) (upd H1 p (.lst ((ks.mergeSort (dataLe false encL)).map fun l => .str (T l)))) := by
    unfold sortedLenU at q1
    split at q1
    · exact ⟨_, rfl, q1⟩
    · exact q1.elim
  · obtain ⟨a, rfl, ks, hs, hl, q⟩ := key
    obtain ⟨u, rfl, ru⟩ := vals1 r1
    obtain rfl : u = Value.ref a := ru
    obtain ⟨its, rv, hli, hz⟩ := I1.list hs
    have e := RT_vals rv
    have hz2 : ks.length ≤ sizeLine := by rw [List.length_map] at hz; exact hz
    refine sorted_via I1 (PyProof.Rows.ksk_s1 _ _) (fun _ => PyProof.Rows.ksk_l1 _ _) (fun vs => vs = its) (fun R hR => ?_) ?_
    · refine collect_list hli.isList ?_ (by rw [e.length]; exact hz2)
      refine hR _ s1.toks its (fun b o hb => ?_) rfl (by rw [e.length]; exact hz2)
      rw [Heap.get?_update_ne _ _ _ _ (Nat.ne_of_lt (Heap.lt_size hb))]
      exact Heap.get?_push_of_some _ hb
    · intro h' tk vs' E' keep pv hl2 J
      subst pv
      refine sort_key_end J e hz2 (alike_L ks) (sortable_L ks) (fun l _ => by show X.A.units + 1 + 1 + 0 < cLine; omega) (fun x => PyProof.Rows.ksk_t4 _ _) ?_ ?_
      · intro v l hR hm h2 tk2 k2
        obtain ⟨t, rfl⟩ := hR
        refine PySem.P.len_str ?_ ⟨h2, _, rfl, fun _ _ z => z, .int _ _⟩
        have := hl l hm
        have := sizeLine_eq
        show ¬ ((T l).length : Int) ≥ 2 ^ 63
        rw [T_len]; omega
      · intro hf tk' k3 J2 n
        exact ⟨.ref _, _, J2, rfl, q _ n⟩
end

section
variable {prog : Program} {w : World} {A : Around} {E : Value → Shared → Prop} {s : Shared}
/-- (len(x), x), x a local text -/
theorem pair_run {env : Env} {x : Str} {l : List Nat} {t : Tok} {m mg mb : Str → Option Value} {p1 p2 p3 p4 p5 : Pos} {cx : Nat}
    (hk : env.scope.kind = .function) (hx : env.kindOf x = some .local) (hn : s.heap.Ns env.locals m) (hm : m x = some (.str (T l) t))
    (hl : env.kindOf ("len" : Str) = some .globalImplicit) (g : s.heap.Ns env.globals mg) (gl : mg "len" = none) (b : s.heap.Ns env.builtins mb) (bl : mb "len" = some (.builtin "len"))
    (hz : l.length ≤ sizeLine) (hd : (x == ("__debug__" : Str)) = false)
    (h1 : starEach [.Call (.Name "len" p1) [.Name x p2] [] p3, .Name x p4] env = (false, eval (.Call (.Name "len" p1) [.Name x p2] [] p3) env) :: starEach [.Name x p4] env)
    (h2 : starEach [.Name x p4] env = (false, eval (.Name x p4) env) :: starEach [] env) (h3 : starEach [.Name x p2] env = (false, eval (.Name x p2) env) :: starEach [] env) :
    wpAny (model prog w) A (eval (.Tuple [.Call (.Name "len" p1) [.Name x p2] [] p3, .Name x p4] cx p5) env)
      (PySem.W.KeyPure (encP l) s) E s := by
  have hz3 : ¬ ((T l).length : Int) ≥ 2 ^ 63 := by
    have := sizeLine_eq
    rw [T_len]; omega
  refine wpAny_Tuple_spliced ?_
  rw [h1]
  show wpAny _ _ (spliced ((false, eval (.Call (.Name "len" p1) [.Name x p2] [] p3) env) :: backTo p5 (starEach [.Name x p4] env))) _ _ s
  rw [h2]
  show wpAny _ _ (spliced ((false, eval (.Call (.Name "len" p1) [.Name x p2] [] p3) env) :: (false, eval (.Name x p4) env) :: [])) _ _ s
  have ld : ∀ (pp : Pos) (s' : Shared) (Q : Value → Shared → Prop) (E : Value → Shared → Prop), s'.heap = s.heap → Q (.str (T l) t) s' → wpAny (model prog w) A (eval (.Name x pp) env) Q E s' := by
    intro pp s' Q E e q
    exact wpAny_Name (wpAny_loadName_local hk hx (by rw [e]; exact hn) hm q) hd
  refine Calls.spliced_cons ?_
  refine wpAny_Call_Name_kw (Calls.Name_function_global hk hl (Calls.loadGlobal_builtin g gl b bl ?_))
  refine PyProof.Rows.callWith_builtin1 ?_ h3 rfl
  rw [h3]
  show wpAny _ _ (spliced ((false, eval (.Name x p2) env) :: [])) _ _ s
  refine Calls.spliced_cons (ld _ _ _ _ rfl (Calls.spliced_nil ?_))
  refine PySem.P.len_str hz3 ?_
  refine Calls.spliced_cons (ld _ _ _ _ rfl (Calls.spliced_nil ?_))
  refine ⟨by show 2 ≤ sizeLine; decide, ?_⟩
  refine ⟨_, _, rfl, fun _ _ z => Heap.get?_push_of_some _ z, ?_⟩
  refine .tuple (o := { cls := .type "tuple", data := .seq [Value.int ((T l).length : Nat) (s.toks + 1), .str (T l) t].toArray }) (Heap.get?_push_size _ rfl) rfl rfl ?_
  exact .cons (as := []) (bs := []) (.int _ _) (.cons (as := []) (bs := []) (.str _ _) .nil)
end
end LK
namespace LK
open PySem PySem.Spec PyProof.Rows L2 LamX
open PySem.W (EachIs dataLe AllAlike Sortable)
section
variable {X : Cx} {e : Expr} {t : TA} {p p1 p2 p3 p4 p5 lp kp pos : Pos}
/-- what is sorted: a dict's keys, a list -/
def SrcT (K : PySem.W.Frag) (H : Hp) (a : Addr) (ks : List (List Nat)) : Prop :=
  (∃ kvs : List (Key × V), H a = some (.dK kvs) ∧ kvs.map (·.1) = ks.map fun l => Sum.inr (T l)) ∨ SqL K H a (ks.map fun l => .str (T l))
/-- sorted(xs, key=lambda x: (len(x), x)) -/
def sortedLamU (K : PySem.W.Frag) (TT : List (Addr × Str)) : List V → Hp → VK → Prop := fun vs H Q => match vs with
  | [.ref a] => ∃ (ks : List (List Nat)), SrcT K H a ks ∧ (∀ l ∈ ks, l.length ≤ sizeLine) ∧ Tabs TT H ∧
      ∀ H2, ExtN H H2 → Tabs TT H2 → ∀ p, H2 p = none → Q (.ref p) (upd H2 p (.lst ((ks.mergeSort (dataLe false encP)).map fun l => .str (T l))))
  | _ => False
theorem ExtN.lst {K : PySem.W.Frag} {H H2 : Hp} {a : Addr} {xs : List V} (x : ExtN H H2) (h : SqL K H a xs) : SqL K H2 a xs := by
  rcases h with (h | ⟨o, h⟩) | h
  · exact .inl (.inl (x _ _ h fun ps z => nomatch z))
  · exact .inl (.inr ⟨o, x _ _ h fun ps z => nomatch z⟩)
  · exact .inr h
theorem pe_sortedLam {TT : List (Addr × Str)} {c P : Addr} {x : Str} {params : Arguments} {scope : Scope} {cx : Nat}
    (hc : X.calm = true) (hr : Room 1 X.A) (hg : Gl X "sorted") (hm : X.mg "sorted" = none) (hml : X.mg "len" = none)
    (TB : TabB X.base X.mg c P) (hcode : X.env.code = .ref c) (hmem : (P, X.env.qual ++ "<lambda>") ∈ TT) (hun : ∀ p ∈ TT, p.1 = P → p.2 = X.env.qual ++ "<lambda>")
    (hdef : defaultsOf params X.env = ([], [])) (hfree : ∀ y ∈ scope.names, y.2 = .free → ∃ c, X.env.cells.lookup y.1 = some c)
    (hbind : ∀ (q : Str) (cl : List (Str × Addr)) (pm ctv cv v : Value),
      bindArgs (PySem.W.kla_fn "<lambda>" q params (.Tuple [.Call (.Name "len" p1) [.Name x p2] [] p3, .Name x p4] cx p5) scope cl pm cv ctv) ⟨[v], []⟩ = pure [(x, v)])
    (sk : scope.kind = .function) (sc : scope.isCoroutine = false) (sg : scope.isGenerator = false) (scell : ∀ y ∈ scope.names, y.2 ≠ .cell)
    (sx : scope.names.lookup x = some .local) (sl : scope.names.lookup ("len" : Str) = some .globalImplicit)
    (ha : PA X [e] t) (hd : (x == ("__debug__" : Str)) = false := by decide)
    (hst : ∀ (q : Str) (L f c : Addr) (cl : List (Str × Addr)), starEach [.Call (.Name "len" p1) [.Name x p2] [] p3, .Name x p4] (PySem.W.envX q scope L f (.ref c) cl) =
      (false, eval (.Call (.Name "len" p1) [.Name x p2] [] p3) (PySem.W.envX q scope L f (.ref c) cl)) :: starEach [.Name x p4] (PySem.W.envX q scope L f (.ref c) cl) := by intros; rfl)
    (hst2 : ∀ (pp : Pos) (q : Str) (L f c : Addr) (cl : List (Str × Addr)), starEach [.Name x pp] (PySem.W.envX q scope L f (.ref c) cl) =
      (false, eval (.Name x pp) (PySem.W.envX q scope L f (.ref c) cl)) :: starEach [] (PySem.W.envX q scope L f (.ref c) cl) := by intros; rfl)
    (hv : bootBuiltins "sorted" = some (.builtin "sorted") := by decide +kernel)
    (he : backTo pos (starEach [e] X.env) = (false, eval e X.env) :: backTo pos (starEach [] X.env) := by rfl)
    (hpl : (backTo pos (starEach [e] X.env)).any (·.1) = false := by rfl) :
    PE X (.Call (.Name "sorted" p) [e] [⟨some "key", .Lambda params (.Tuple [.Call (.Name "len" p1) [.Name x p2] [] p3, .Name x p4] cx p5) scope lp, kp⟩] pos)
      (tCB (sortedLamU X.K TT) t) := by
  refine ⟨fun pins s σ H Q I h => ?_⟩
  refine wpAny_Call_Name_kw (ld_blt I hg hm hv ?_)
  refine PyProof.Rows.callWith_kw (thn (ha.run pos pins s σ H _ I h) fun us s1 z => ?_) he hpl rfl rfl
  obtain ⟨vs, H1, I1, r1, q1⟩ := z
  have q1 : sortedLamU X.K TT vs H1 Q := q1
  have key : ∃ a, vs = [.ref a] ∧ ∃ (ks : List (List Nat)), SrcT X.K H1 a ks ∧ (∀ l ∈ ks, l.length ≤ sizeLine) ∧ Tabs TT H1 ∧
      ∀ H2, ExtN H1 H2 → Tabs TT H2 → ∀ p, H2 p = none → Q (.ref p) (upd H2 p (.lst ((ks.mergeSort (dataLe false encP)).map fun l => .str (T l)))) := by
    unfold sortedLamU at q1
    split at q1
    · exact ⟨_, rfl, q1⟩
    · exact q1.elim
  obtain ⟨a, rfl, ks, hs, hl, hT, q⟩ := key
  obtain ⟨u, rfl, ru⟩ := vals1 r1
  obtain rfl : u = Value.ref a := ru
  show wpAny _ _ (evalAll [(do let v ← eval (.Lambda params _ scope lp) X.env; standAt pos; pure v)]) _ _ s1
  refine wpAny_evalAll_cons (wpAny_bind (lam_make2 I1 TB hcode hmem hun hT hdef hfree ?_))
  intro f c' pm ctv H2 s2 I2 x2 hT2 hf nf frf hco
  refine wpAny_bind (wpAny_standAt (wpAny_pure (wpAny_evalAll_nil ?_)))
  show wpAny (model X.prog X.w) X.A (call (.builtin "sorted") [.ref a] [(Str.ofString "key", .ref f)]) (EP X pins σ Q) X.xe s2
  have body : ∀ (h' : Heap) (tk : Nat) (vs : List Value) (E' : Value → Shared → Prop), (∀ b o, s2.heap.get? b = some o → h'.get? b = some o) → EachIs RT vs ks → ks.length ≤ sizeLine →
      Inv X pins σ H2 { s2 with heap := h', toks := tk } →
      wpAny (model X.prog X.w) X.A.in1.in1 (Builtin.«list.sort» ⟨[.ref h'.objs.size], [(Str.ofString "key", .ref f)]⟩) (fun fl s' => fl = .done (.ret .none) ∧ EP X pins σ Q (.ref h'.objs.size) s') E'
        { s2 with heap := h'.push (seqObj "list" vs.toArray 0), toks := tk } := by
    intro h' tk vs E' keep e hz J
    refine sort_key_end J e hz (alike_P ks) (sortable_P ks) (fun l _ => ?_) (fun x => PyProof.Rows.ksk_t1 _ _) ?_ ?_
    · have := hr.un
      show X.A.units + 1 + 1 + (encP l).depth < cLine
      have : (encP l).depth = 1 := rfl
      omega
    · intro v l hR hm h2 tk2 k2
      obtain ⟨tv, rfl⟩ := hR
      have kp : ∀ b o, s2.heap.get? b = some o → h2.get? b = some o := fun b o z => k2 b o (keep b o z)
      have bk : ∀ b o, X.base.get? b = some o → h2.get? b = some o := fun b o z => kp b o (I2.bk b o z)
      obtain ⟨mb, b1, b2⟩ := I2.mod.blt
      have gB : h2.Ns builtinsNs mb := b1.keeps bk
      have gG : h2.Ns mainGlobals X.mg := I2.mod.glob.keeps bk
      have hrec : h2.CodeRec (.ref c') (X.env.qual ++ "<lambda>") := by
        have cx : ObjOk X.prog X.w H2 s2.heap c' (CodeO c' (X.env.qual ++ "<lambda>")) := I2.hok c' _ hco
        obtain ⟨⟨oc, fv, tq, e1, e2, e3⟩, _⟩ := cx
        exact ⟨c', oc, fv, tq, rfl, kp _ _ e1, e2, e3⟩
      refine wpAny_call (codeAny_mono (PySem.W.kla_callFunE (s := { s2 with heap := h2, toks := tk2 })
        (R := fun r s' => ∃ v, r = .ok (.ret v) ∧ PySem.W.KeyPure (encP l) { s2 with heap := h2, toks := tk2 } v s') hr.depth (kp _ _ hf) rfl sc sg rfl hrec ?_) ?_)
      · rw [hbind]
        refine wpAny_pure (wpAny_newFunctionEnv scell (fun y hy => ?_) (fun h3 hns hsb => ?_) sk)
        · obtain rfl : y = (x, Value.str (T l) tv) := by simpa using hy
          exact sx
        · have k3 : ∀ b o, h2.get? b = some o → h3.get? b = some o := fun b o z => (hsb.2 b (Nat.ne_of_lt (Heap.lt_size z))).trans (Heap.get?_push_of_some _ z)
          refine ⟨(I2.mod.nolimit.keeps bk).fresh _ hsb, ?_⟩
          show codeAny _ _ (.expr _ (PySem.W.envX (X.env.qual ++ "<lambda>") scope h2.objs.size f (.ref c') (cloFrom X.env.cells scope.names []))) _ _
          refine PySem.W.kla_codeExpr (wpAny_mono (pair_run (l := l) (t := tv) (mg := X.mg) (mb := mb) sk sx hns ?_ sl (gG.keeps k3) hml (gB.keeps k3) ?_ (hl l hm) hd (hst _ _ _ _ _) (hst2 _ _ _ _ _ _) (hst2 _ _ _ _ _ _)) ?_ (fun _ _ z => z))
          · show ([(x, Value.str (T l) tv)] : List (Str × Value)).reverse.lookup x = _
            simp [List.lookup]
          · rw [b2 "len" (by decide)]; exact PySem.boot_len
          · intro v s' z
            obtain ⟨h4, tk4, rfl, k4, rd⟩ := z
            exact ⟨v, rfl, h4, tk4, rfl, fun b o z => k4 b o (k3 b o z), rd⟩
      · intro r s' z
        obtain ⟨v, rfl, z⟩ := z
        exact z
    · intro hf' tk' k3 J2 n
      exact ⟨.ref _, _, J2, rfl, q H2 x2 hT2 _ n⟩
  rcases hs with ⟨kvs, hk1, hk2⟩ | hs
  · have hk1' : H2 a = some (.dK kvs) := x2 a _ hk1 fun ps z => nomatch z
    refine sorted_via I2 (PyProof.Rows.ksk_s1 _ _) (fun _ => PyProof.Rows.ksk_l1 _ _) (fun vs => EachIs RT vs ks ∧ ks.length ≤ sizeLine)
      (fun R hR => collect_dict (A := X.A.in1) (I2.ok.hd hc) I2 hk1' hk2 fun h' tk vs keep e hz => hR h' tk vs keep ⟨e, hz⟩ (by rw [e.length]; exact hz)) ?_
    intro h' tk vs E' keep pv _ J
    exact body h' tk vs E' keep pv.1 pv.2 J
  · have hs' : SqL X.K H2 a (ks.map fun l => .str (T l)) := ExtN.lst x2 hs
    obtain ⟨its, rv, hli, hz⟩ := I2.list hs'
    have e := RT_vals rv
    have hz2 : ks.length ≤ sizeLine := by rw [List.length_map] at hz; exact hz
    refine sorted_via I2 (PyProof.Rows.ksk_s1 _ _) (fun _ => PyProof.Rows.ksk_l1 _ _) (fun vs => vs = its) (fun R hR => ?_) ?_
    · refine collect_list hli.isList ?_ (by rw [e.length]; exact hz2)
      refine hR _ s2.toks its (fun b o hb => ?_) rfl (by rw [e.length]; exact hz2)
      rw [Heap.get?_update_ne _ _ _ _ (Nat.ne_of_lt (Heap.lt_size hb))]
      exact Heap.get?_push_of_some _ hb
    · intro h' tk vs E' keep pv _ J
      subst pv
      exact body h' tk vs E' keep e hz2 J
end
end LK

/-! Walks over values known beforehand: for, list comprehensions. -/
namespace LK
open PySem PySem.Spec PyProof.Rows L2
open PySem.W (EachIs)

/-- J tells the values xs one behind another as long as P holds of the heap -/
structure Wk (J : It) (xs : List V) (P : Hp → Prop) : Prop where
  go : ∀ i H, P H → i < xs.length → J.go i H
  yld : ∀ i H x H', P H → i < xs.length → J.yld i H x H' → H' = H ∧ xs[i]? = some x
  stop : ∀ i H, P H → xs.length ≤ i → J.stop i H
theorem wk_list {K : PySem.W.Frag} {a : Addr} {xs : List V} : Wk (Itl K a) xs (fun H => SqL K H a xs) :=
  ⟨fun i H h l => ⟨xs, xs[i], h, List.getElem?_eq_getElem l⟩, fun i H x H' h _ y => ⟨y.1, y.2 xs h⟩, fun i H h l => ⟨xs, h, l⟩⟩
theorem wk_tup {K : PySem.W.Frag} {a : Addr} {xs : List V} : Wk (Itt K a) xs (fun H => SqT K H a xs) :=
  ⟨fun i H h l => ⟨xs, xs[i], h, List.getElem?_eq_getElem l⟩, fun i H x H' h _ y => ⟨y.1, y.2 xs h⟩, fun i H h l => ⟨xs, h, l⟩⟩
abbrev lets (l : List Nat) : List V := l.map fun c => .str (T [c])
theorem wk_str (l : List Nat) : Wk (Its (T l)) (lets l) (fun _ => True) := by
  refine ⟨fun i H _ h => ?_, fun i H x H' _ _ y => ?_, fun i H _ h => ?_⟩
  · rw [List.length_map] at h; exact h
  · obtain ⟨e, c, hc, rfl⟩ := y
    refine ⟨e, ?_⟩
    have hc' : l[i]? = some c := by
      rw [← hc]
      show l[i]? = (l.toArray)[i]?
      exact List.getElem?_toArray.symm
    rw [List.getElem?_map, hc']; rfl
  · rw [List.length_map] at h; exact h
abbrev rng (lo : Int) (n : Nat) : List V := (List.range n).map fun (i : Nat) => V.int (lo + (i : Nat))
theorem wk_rng (lo : Int) (n : Nat) : Wk (Itr lo n) (rng lo n) (fun _ => True) := by
  refine ⟨fun i H _ h => ?_, fun i H x H' _ hi y => ?_, fun i H _ h => ?_⟩
  · rw [List.length_map, List.length_range] at h; exact h
  · rw [List.length_map, List.length_range] at hi
    obtain ⟨e, rfl⟩ := y
    refine ⟨e, ?_⟩
    rw [List.getElem?_map, List.getElem?_range hi]; rfl
  · rw [List.length_map, List.length_range] at h; exact h
theorem wk_rngC (lo c : Int) (n : Nat) : Wk (Itc lo c n) ((List.range n).map fun (i : Nat) => V.int (lo + (i : Nat) * c)) (fun _ => True) := by
  refine ⟨fun i H _ h => ?_, fun i H x H' _ hi y => ?_, fun i H _ h => ?_⟩
  · rw [List.length_map, List.length_range] at h; exact h
  · rw [List.length_map, List.length_range] at hi
    obtain ⟨e, rfl⟩ := y
    refine ⟨e, ?_⟩
    rw [List.getElem?_map, List.getElem?_range hi]; rfl
  · rw [List.length_map, List.length_range] at h; exact h

theorem split_at {α : Type} {xs : List α} {i : Nat} {x : α} (h : xs[i]? = some x) : xs = xs.take i ++ x :: xs.drop (i + 1) ∧ xs.take (i + 1) = xs.take i ++ [x] := by
  have hi : i < xs.length := (List.getElem?_eq_some_iff.mp h).1
  have hx : xs[i] = x := (List.getElem?_eq_some_iff.mp h).2
  refine ⟨?_, ?_⟩
  · conv => lhs; rw [← List.take_append_drop i xs, List.drop_eq_getElem_cons hi, hx]
  · rw [List.take_add_one, h]; rfl

/-- for over known values: an invariant by what is gone through -/
theorem for_wk {J : It} {xs : List V} {P : Hp → Prop} (W : Wk J xs P) {g : TG} {tb : TS} {D : Ends} {σ : L2.St} {H : Hp} (Iv : List V → L2.St → Hp → Prop)
    (hP : ∀ pre σ H, Iv pre σ H → P H) (h0 : Iv [] σ H)
    (hs : ∀ pre x suf σ H, xs = pre ++ x :: suf → Iv pre σ H → g x σ H fun σ2 H2 => tb { D with nx := Iv (pre ++ [x]), ct := Iv (pre ++ [x]), bk := D.nx } σ2 H2)
    (he : ∀ σ H, Iv xs σ H → D.nx σ H) :
    ∃ W : Nat → Nat → L2.St → Hp → Prop, (∃ m, W 0 m σ H) ∧ ∀ i m σ H, W i m σ H → (J.stop i H ∧ D.nx σ H) ∨ (J.go i H ∧ ∃ N : L2.St → Hp → Prop, (∀ σ' H', N σ' H' → ∃ m', m' < m ∧ W (i + 1) m' σ' H') ∧
      ∀ x H', J.yld i H x H' → g x σ H' fun σ2 H2 => tb { D with nx := N, ct := N, bk := D.nx } σ2 H2) := by
  refine ⟨fun i m σ H => i + m = xs.length ∧ Iv (xs.take i) σ H, ⟨xs.length, by omega, h0⟩, fun i m σ H h => ?_⟩
  obtain ⟨em, iv⟩ := h
  by_cases hi : i < xs.length
  · have hx := List.getElem?_eq_getElem hi
    obtain ⟨e1, e2⟩ := split_at hx
    refine .inr ⟨W.go i H (hP _ _ _ iv) hi, Iv (xs.take i ++ [xs[i]]), fun σ' H' n => ⟨m - 1, by omega, by omega, by rw [e2]; exact n⟩, fun x H' y => ?_⟩
    obtain ⟨rfl, hx2⟩ := W.yld i H x H' (hP _ _ _ iv) hi y
    rw [hx] at hx2
    cases hx2
    exact hs _ _ _ _ _ e1 iv
  · have e : xs.take i = xs := List.take_of_length_le (by omega)
    rw [e] at iv
    exact .inl ⟨W.stop i H (hP _ _ _ iv) (by omega), he _ _ iv⟩

/-- a list comprehension over known values without if: the values ys that come of xs -/
theorem lc_wk {J : It} {xs : List V} {P : Hp → Prop} (W : Wk J xs P) {g : TG} {te : TE} {σ : L2.St} {H : Hp} {vs : List Nat} {Q : VK} {D : Addr} (R : List V → List V → Hp → Prop)
    (hP : ∀ pre acc H, R pre acc H → P H) (h0 : R [] [] (upd H D (.lst [])))
    (hs : ∀ pre acc x suf H, xs = pre ++ x :: suf → R pre acc H → g x (wipe σ vs) H fun σ2 H2 => wipe σ2 vs = wipe σ vs ∧ te σ2 H2 fun y H4 =>
      ∃ acc, H4 D = some (.lst acc) ∧ acc.length < sizeLine ∧ ∃ a, R (pre ++ [x]) a (upd H4 D (.lst (acc ++ [y]))))
    (he : ∀ acc H, R xs acc H → Q (.ref D) H) :
    ∃ W : Nat → Nat → Hp → Prop, (∃ m, W 0 m (upd H D (.lst []))) ∧ ∀ i m H, W i m H →
  (J.stop i H ∧ Q (.ref D) H) ∨ (J.go i H ∧ ∃ Nx : Hp → Prop, (∀ H', Nx H' → ∃ m', m' < m ∧ W (i + 1) m' H') ∧ ∀ x H', J.yld i H x H' → g x (wipe σ vs) H' fun σ2 H2 => wipe σ2 vs = wipe σ vs ∧ tYes σ2 H2 fun b H3 =>
    if b = true then te σ2 H3 fun y H4 => ∃ acc, H4 D = some (.lst acc) ∧ acc.length < sizeLine ∧ Nx (upd H4 D (.lst (acc ++ [y]))) else Nx H3) := by
  refine ⟨fun i m H => i + m = xs.length ∧ ∃ acc, R (xs.take i) acc H, ⟨xs.length, by omega, [], h0⟩, fun i m H h => ?_⟩
  obtain ⟨em, acc, iv⟩ := h
  by_cases hi : i < xs.length
  · have hx := List.getElem?_eq_getElem hi
    obtain ⟨e1, e2⟩ := split_at hx
    refine .inr ⟨W.go i H (hP _ _ _ iv) hi, fun H' => ∃ acc, R (xs.take i ++ [xs[i]]) acc H', fun H' n => ?_, fun x H' y => ?_⟩
    · obtain ⟨acc, n⟩ := n
      exact ⟨m - 1, by omega, by omega, acc, by rw [e2]; exact n⟩
    · obtain ⟨rfl, hx2⟩ := W.yld i H x H' (hP _ _ _ iv) hi y
      rw [hx] at hx2
      cases hx2
      exact hs _ _ _ _ _ e1 iv
  · have e : xs.take i = xs := List.take_of_length_le (by omega)
    rw [e] at iv
    exact .inl ⟨W.stop i H (hP _ _ _ iv) (by omega), he _ _ iv⟩

section
variable {K : PySem.W.Frag} {g : TG} {te : TE} {tb : TS} {σ : L2.St} {H H1 : Hp} {vs : List Nat} {Q : VK} {t : TE} {D : Ends}
/-- t tells v at once -/
def At (t : TE) (σ : L2.St) (H : Hp) (v : V) (H1 : Hp) : Prop := ∀ R : VK, R v H1 → t σ H R
theorem lc_str {l : List Nat} (h : At t σ H (.str (T l)) H1) (R : Addr → List V → List V → Hp → Prop)
    (h0 : ∀ D, H1 D = none → R D [] [] (upd H1 D (.lst [])))
    (hs : ∀ D, H1 D = none → ∀ pre acc c suf H, l = pre ++ c :: suf → R D (lets pre) acc H → g (.str (T [c])) (wipe σ vs) H fun σ2 H2 => wipe σ2 vs = wipe σ vs ∧ te σ2 H2 fun y H4 =>
      ∃ acc, H4 D = some (.lst acc) ∧ acc.length < sizeLine ∧ ∃ a, R D (lets (pre ++ [c])) a (upd H4 D (.lst (acc ++ [y]))))
    (he : ∀ D, H1 D = none → ∀ acc H, R D (lets l) acc H → Q (.ref D) H) : tLc (iStr t) g tYes te vs σ H Q := by
  refine h _ ⟨_, rfl, fun D nD => ?_⟩
  refine lc_wk (wk_str l) (fun pre acc H => R D pre acc H) (fun _ _ _ _ => trivial) (h0 D nD) (fun pre acc x suf H2 e r => ?_) (he D nD)
  obtain ⟨p, q, e1, e2, e3⟩ := List.map_eq_append_iff.mp e
  cases q with
  | nil => cases e3
  | cons c q =>
    obtain ⟨rfl, rfl⟩ := List.cons.inj e3
    subst e2
    have z := hs D nD p acc c q H2 e1 r
    simp only [lets, List.map_append, List.map_cons, List.map_nil] at z
    exact z
theorem lc_rng {t : TA} {n : Nat} (h : ∀ R : List V → Hp → Prop, R [.int n] H1 → t σ H R) (hn : n < 1000000) (R : Addr → Nat → List V → Hp → Prop)
    (h0 : ∀ D, H1 D = none → R D 0 [] (upd H1 D (.lst [])))
    (hs : ∀ D, H1 D = none → ∀ i acc H, i < n → R D i acc H → g (.int i) (wipe σ vs) H fun σ2 H2 => wipe σ2 vs = wipe σ vs ∧ te σ2 H2 fun y H4 =>
      ∃ acc, H4 D = some (.lst acc) ∧ acc.length < sizeLine ∧ ∃ a, R D (i + 1) a (upd H4 D (.lst (acc ++ [y]))))
    (he : ∀ D, H1 D = none → ∀ acc H, R D n acc H → Q (.ref D) H) : tLc (iRng1 t) g tYes te vs σ H Q := by
  refine h _ ⟨n, rfl, by omega, by omega, fun D nD => ?_⟩
  refine lc_wk (wk_rng 0 n) (fun pre acc H => R D pre.length acc H) (fun _ _ _ _ => trivial) (h0 D nD) (fun pre acc x suf H2 e r => ?_) (fun acc H r => he D nD acc H ?_)
  · have hl : pre.length < n := by
      have := congrArg List.length e
      simp at this; omega
    have hx : (rng 0 n)[pre.length]? = some x := by rw [e]; simp
    rw [List.getElem?_map, List.getElem?_range hl] at hx
    have hx := Option.some.inj hx
    simp only [Int.zero_add] at hx
    subst hx
    have z := hs D nD pre.length acc H2 hl r
    rw [List.length_append]
    exact z
  · rw [List.length_map, List.length_range] at r; exact r
theorem lc_list {a : Addr} {xs : List V} (h : At t σ H (.ref a) H1) (hx : SqL K H1 a xs) (R : Addr → List V → List V → Hp → Prop)
    (hP : ∀ D pre acc H, R D pre acc H → SqL K H a xs) (h0 : ∀ D, H1 D = none → R D [] [] (upd H1 D (.lst [])))
    (hs : ∀ D, H1 D = none → ∀ pre acc x suf H, xs = pre ++ x :: suf → R D pre acc H → g x (wipe σ vs) H fun σ2 H2 => wipe σ2 vs = wipe σ vs ∧ te σ2 H2 fun y H4 =>
      ∃ acc, H4 D = some (.lst acc) ∧ acc.length < sizeLine ∧ ∃ a, R D (pre ++ [x]) a (upd H4 D (.lst (acc ++ [y]))))
    (he : ∀ D, H1 D = none → ∀ acc H, R D xs acc H → Q (.ref D) H) : tLc (iList K t) g tYes te vs σ H Q :=
  h _ ⟨a, rfl, ⟨_, hx⟩, fun D nD => lc_wk wk_list (fun pre acc H => R D pre acc H) (hP D) (h0 D nD) (hs D nD) (he D nD)⟩

theorem for_str {l : List Nat} (h : At t σ H (.str (T l)) H1) (Iv : List Nat → L2.St → Hp → Prop) (h0 : Iv [] σ H1)
    (hs : ∀ pre c suf σ H, l = pre ++ c :: suf → Iv pre σ H → g (.str (T [c])) σ H fun σ2 H2 => tb { D with nx := Iv (pre ++ [c]), ct := Iv (pre ++ [c]), bk := D.nx } σ2 H2)
    (he : ∀ σ H, Iv l σ H → D.nx σ H) : tFor (iStr t) g tb D σ H := by
  refine h _ ⟨_, rfl, ?_⟩
  refine for_wk (wk_str l) (fun pre σ H => ∃ p, pre = lets p ∧ Iv p σ H) (fun _ _ _ _ => trivial) ⟨[], rfl, h0⟩ (fun pre x suf σ H2 e r => ?_) (fun σ H r => ?_)
  · obtain ⟨p', rfl, iv⟩ := r
    obtain ⟨p, q, e1, e2, e3⟩ := List.map_eq_append_iff.mp e
    obtain rfl : p = p' := by
      have inj : ∀ a b : Nat, V.str (T [a]) = V.str (T [b]) → a = b := fun a b z => by
        have z1 := T_inj (V.str.inj z)
        exact (List.cons.inj z1).1
      exact (List.map_inj_right inj).mp e2
    cases q with
    | nil => cases e3
    | cons c q =>
      obtain ⟨rfl, rfl⟩ := List.cons.inj e3
      have z := hs p c q σ H2 e1 iv
      have e4 : (fun (σ : L2.St) (H : Hp) => ∃ p_1, lets p ++ [V.str (T [c])] = lets p_1 ∧ Iv p_1 σ H) = Iv (p ++ [c]) := by
        funext σ H
        apply propext
        constructor
        · rintro ⟨p1, e, h⟩
          have e5 : lets (p ++ [c]) = lets p1 := by rw [← e]; simp [lets]
          have inj : ∀ a b : Nat, V.str (T [a]) = V.str (T [b]) → a = b := fun a b z => by
            have z1 := T_inj (V.str.inj z)
            exact (List.cons.inj z1).1
          rw [(List.map_inj_right inj).mp e5]; exact h
        · intro h; exact ⟨_, by simp [lets], h⟩
      rw [e4]
      exact z
  · obtain ⟨p, e, iv⟩ := r
    have inj : ∀ a b : Nat, V.str (T [a]) = V.str (T [b]) → a = b := fun a b z => by
      have z1 := T_inj (V.str.inj z)
      exact (List.cons.inj z1).1
    obtain rfl := (List.map_inj_right inj).mp e
    exact he σ H iv
theorem for_list {a : Addr} {xs : List V} (h : At t σ H (.ref a) H1) (hx : SqL K H1 a xs) (Iv : List V → L2.St → Hp → Prop) (hP : ∀ pre σ H, Iv pre σ H → SqL K H a xs) (h0 : Iv [] σ H1)
    (hs : ∀ pre x suf σ H, xs = pre ++ x :: suf → Iv pre σ H → g x σ H fun σ2 H2 => tb { D with nx := Iv (pre ++ [x]), ct := Iv (pre ++ [x]), bk := D.nx } σ2 H2)
    (he : ∀ σ H, Iv xs σ H → D.nx σ H) : tFor (iList K t) g tb D σ H :=
  h _ ⟨a, rfl, ⟨_, hx⟩, for_wk wk_list Iv hP h0 hs he⟩
/-- turns that are counted: J tells f i in turn i -/
theorem for_n {J : It} {n : Nat} {f : Nat → V} (W : Wk J ((List.range n).map f) fun _ => True) (Iv : Nat → L2.St → Hp → Prop) (h0 : Iv 0 σ H1)
    (hs : ∀ i σ H, i < n → Iv i σ H → g (f i) σ H fun σ2 H2 => tb { D with nx := Iv (i + 1), ct := Iv (i + 1), bk := D.nx } σ2 H2)
    (he : ∀ σ H, Iv n σ H → D.nx σ H) :
    ∃ W : Nat → Nat → L2.St → Hp → Prop, (∃ m, W 0 m σ H1) ∧ ∀ i m σ H, W i m σ H → (J.stop i H ∧ D.nx σ H) ∨ (J.go i H ∧ ∃ N : L2.St → Hp → Prop, (∀ σ' H', N σ' H' → ∃ m', m' < m ∧ W (i + 1) m' σ' H') ∧
      ∀ x H', J.yld i H x H' → g x σ H' fun σ2 H2 => tb { D with nx := N, ct := N, bk := D.nx } σ2 H2) := by
  refine for_wk W (fun pre σ H => Iv pre.length σ H) (fun _ _ _ _ => trivial) h0 (fun pre x suf σ H2 e r => ?_) (fun σ H r => he σ H ?_)
  · have hl : pre.length < n := by
      have := congrArg List.length e
      simp at this; omega
    have hx : ((List.range n).map f)[pre.length]? = some x := by rw [e]; simp
    rw [List.getElem?_map, List.getElem?_range hl] at hx
    have hx := Option.some.inj hx
    subst hx
    have z := hs pre.length σ H2 hl r
    rw [List.length_append]
    exact z
  · rw [List.length_map, List.length_range] at r; exact r
theorem for_rng {t : TA} {n : Nat} (h : ∀ R : List V → Hp → Prop, R [.int n] H1 → t σ H R) (hn : n < 1000000) (Iv : Nat → L2.St → Hp → Prop) (h0 : Iv 0 σ H1)
    (hs : ∀ i σ H, i < n → Iv i σ H → g (.int i) σ H fun σ2 H2 => tb { D with nx := Iv (i + 1), ct := Iv (i + 1), bk := D.nx } σ2 H2)
    (he : ∀ σ H, Iv n σ H → D.nx σ H) : tFor (iRng1 t) g tb D σ H := by
  refine h _ ⟨n, rfl, by omega, by omega, ?_⟩
  refine for_n (f := fun i => V.int (0 + (i : Nat))) (wk_rng 0 n) Iv h0 (fun i σ H hi iv => ?_) he
  rw [Int.zero_add]
  exact hs i σ H hi iv
/-- range(n - 1, -1, -1) -/
theorem for_down {t : TA} {n : Nat} (h : ∀ R : List V → Hp → Prop, R [.int ((n : Int) - 1), .int (-1), .int (-1)] H1 → t σ H R) (hn : n < 1000000) (Iv : Nat → L2.St → Hp → Prop) (h0 : Iv 0 σ H1)
    (hs : ∀ i σ H, i < n → Iv i σ H → g (.int ((n - 1 - i : Nat) : Int)) σ H fun σ2 H2 => tb { D with nx := Iv (i + 1), ct := Iv (i + 1), bk := D.nx } σ2 H2)
    (he : ∀ σ H, Iv n σ H → D.nx σ H) : tFor (iRng3 t) g tb D σ H := by
  have e : ((n : Int) - 1 - (-1)).toNat = n := by omega
  have rc := RgC.neg (i := (n : Int) - 1) (j := -1) (by omega) (by omega) (by omega) (by omega)
  rw [e] at rc
  refine h _ ⟨_, _, _, n, rfl, rc, ?_⟩
  refine for_n (f := fun i => V.int ((n : Int) - 1 + (i : Nat) * (-1))) (wk_rngC ((n : Int) - 1) (-1) n) Iv h0 (fun i σ H hi iv => ?_) he
  have e2 : (n : Int) - 1 + (i : Nat) * (-1) = ((n - 1 - i : Nat) : Int) := by omega
  rw [e2]
  exact hs i σ H hi iv
end
end LK

/-! list(d.values()); text[::-1], text[::2] -/
namespace LK
open PySem PySem.Spec PyProof.Rows L2
section
variable {X : Cx} {e : Expr} {te : TE} {p apos cpos pos : Pos}
def tListValues (te : TE) : TE := fun σ H Q => te σ H fun x H1 => ∃ (d : Addr) (kvs : List (Key × V)), x = .ref d ∧ H1 d = some (.dK kvs) ∧ ∀ p, H1 p = none → Q (.ref p) (upd H1 p (.lst (kvs.map (·.2))))
theorem pe_listValues (hc : X.calm = true) (he : PE X e te) (hg : Gl X "list") (hm : X.mg "list" = none) (hv : bootBuiltins "list" = some (.type "list")) (hbase : attributeBase e "values" X.env (eval e X.env) = eval e X.env := by rfl) (hline : (apos.endLine == cpos.line) = true := by rfl)
    (hs : starEach [.Call (.Attribute e "values" apos) [] [] cpos] X.env = (false, eval (.Call (.Attribute e "values" apos) [] [] cpos) X.env) :: starEach [] X.env := by rfl) :
    PE X (.Call (.Name "list" p) [.Call (.Attribute e "values" apos) [] [] cpos] [] pos) (tListValues te) := by
  refine ⟨fun pins s σ H Q I hq => ?_⟩
  refine wpAny_Call_Name_kw (ld_blt I hg hm hv ?_)
  refine PyProof.Rows.callWith_type1 ?_ hs rfl
  rw [hs]
  show wpAny _ _ (spliced ((false, eval (.Call (.Attribute e "values" apos) [] [] cpos) X.env) :: backTo pos (starEach [] X.env))) _ _ s
  refine Calls.spliced_cons ?_
  refine wpAny_Call_method (T := "dict") (id := "dict.values") hbase rfl hline F.plainAttrs_dict F.slot_dict_values F.type_dict_values (thn (he.run pins s σ H _ I hq) fun u s1 ⟨x, H1, I1, rx, d, kvs, ex, hd, q⟩ => ?_)
  subst ex
  obtain rfl : u = Value.ref d := rx
  obtain ⟨hz, hs0, vs, kv, hdo⟩ := I1.hok d _ hd
  obtain ⟨ep, hat⟩ := hdo.dictAt
  have lk : kvs.length = vs.length := Paired.length kv
  have I2 : Inv X pins σ H1 { s1 with heap := s1.heap.push { cls := .type "dict_values", data := .fields #[.ref d] } } := I1.kept (t' := s1.toks) fun b ob q => Heap.get?_push_of_some _ q
  refine ⟨hdo.typeIs, hdo.mapOf.noDict, ?_⟩
  show wpAny _ _ (callWith cpos (.builtin "dict.values") [.ref d] [] []) _ X.xe s1
  refine method_meetsIn F.slot_dict_values F.entry_dict_values rfl (PySem.evalArgs_none ⟨rfl, hdo.typeIs, F.args_dict_values_1 _, _, meets_dict_values (mixKind X.prog X.w) d hs0, ⟨vs, hdo⟩, ?_⟩)
  refine Calls.spliced_nil ?_
  refine PySem.W.kdl_call (PySem.W.kdl_values (knd := mixKind X.prog X.w) (kvs := vs) (ep := ep)) (I1.ok.hd hc) ⟨⟨_, Heap.get?_push_size _ rfl, rfl, rfl⟩, hat.push _⟩ (by omega) fun h' tk acc' c' hkeep hS hacc => ?_
  refine ⟨.ref _, upd H1 _ (.lst (kvs.map (·.2))), I2.laid hkeep (Nat.le_refl _) (show ObjOk X.prog X.w _ _ _ (.lst (kvs.map (·.2))) from ⟨?_, acc'.toList, c', ?_, ?_⟩), rfl, q _ (I2.hok.fresh (Nat.le_refl _))⟩
  · rw [List.length_map]; exact hz
  · have el : acc'.toList.length = acc'.size := by simp
    refine vals_of_at (by rw [List.length_map, el, hacc.1, lk]) fun j x w h1 h2 => ?_
    obtain ⟨k, hky⟩ := hacc.2 j w (by rw [← Array.getElem?_toList]; exact h2)
    rw [List.getElem?_map] at h1
    cases z : kvs[j]? with
    | none => rw [z] at h1; cases h1
    | some kx =>
      rw [z] at h1
      cases Option.some.inj h1
      obtain ⟨q', g1, g2, g3⟩ := LiI.paired_get kv z
      rw [hky] at g1
      cases g1
      exact g3
  · rw [Array.toArray_toList]; exact hS
end

section
variable {X : Cx} {e es : Expr} {te : TE} {ts : TO} {p3 pos : Pos}
/-- the signs of l that l[::i] takes -/
def stp (i : Int) (l : List Nat) : List Nat := (Builtin.Str.strSliceIndices none none i l.length).filterMap (l[·]?)
/-- text[::i], i not 0, not 1 -/
def tStep (i : Int) (te : TE) : TE := fun σ H Q => te σ H fun x H1 => match x with
  | .str z => (stp i (cs z)).length ≤ sizeLine ∧ Q (.str (T (stp i (cs z)))) H1
  | _ => False
theorem pe_step (i : Int) (h0 : (i == 0) = false) (h1 : (i == 1) = false) (he : PE X e te) (hst : PO X (some es) ts) (ht : ∀ (σ : L2.St) (H : Hp) (R : Option Int → Hp → Prop), R (some i) H → ts σ H R)
    (hop : ∀ (o : Value) (a : Addr), subscripted (.Slice none none (some es) p3) false o (.ref a) = operate [o, .ref a] (getItem o (.ref a)) := by intros; with_unfolding_all rfl) :
    PE X (.Subscript e (.Slice none none (some es) p3) pos) (tStep i te) := by
  refine ⟨fun pins s σ H Q I h => ?_⟩
  refine Subscript_ (thn (he.run pins s σ H _ I h) fun v s1 z => ?_)
  obtain ⟨x, H1, I1, r1, q1⟩ := z
  have key : ∃ z, x = .str z ∧ (stp i (cs z)).length ≤ sizeLine ∧ Q (.str (T (stp i (cs z)))) H1 := by
    split at q1
    · exact ⟨_, rfl, q1⟩
    · exact q1.elim
  obtain ⟨z, rfl, hz, q⟩ := key
  obtain ⟨t, rfl⟩ := r1
  refine wpAny_Slice (thn (po_none.run pins s1 σ H1 (fun o H2 => o = none ∧ H2 = H1) I1 ⟨rfl, rfl⟩) fun vl s2 z2 => ?_)
  obtain ⟨l, H2, I2, pl, el, e2⟩ := z2
  subst el e2
  refine thn (po_none.run pins s2 σ H2 (fun o H3 => o = none ∧ H3 = H2) I2 ⟨rfl, rfl⟩) fun vu s3 z3 => ?_
  obtain ⟨u, H3, I3, pu, eu, e3⟩ := z3
  subst eu e3
  refine thn (hst.run pins s3 σ H3 (fun o H4 => o = some i ∧ H4 = H3) I3 (ht _ _ _ ⟨rfl, rfl⟩)) fun vs s4 z4 => ?_
  obtain ⟨o, H4, I4, ps, eo, e4⟩ := z4
  subst eo e4
  have I5 : Inv X pins σ H4 { s4 with heap := s4.heap.push { cls := .type "slice", data := .fields #[vl, vu, vs] } } := I4.kept (t' := s4.toks) fun b ob q => Heap.get?_push_of_some _ q
  obtain ⟨l', rfl, e1⟩ := IsPart.raw pl
  obtain ⟨u', rfl, e2⟩ := IsPart.raw pu
  obtain ⟨st, rfl, est⟩ := IsPart.raw ps
  obtain rfl : l' = none := Option.map_eq_none_iff.mp e1
  obtain rfl : u' = none := Option.map_eq_none_iff.mp e2
  show wpAny (model X.prog X.w) X.A (subscriptTail e (.Slice none none (some es) p3) (.str z t) (.ref s4.heap.objs.size)) (EP X pins σ Q) X.xe _
  refine tail_any (ops := [.str z t, .ref s4.heap.objs.size]) (typeIs_str _ _ _) (F.slot_str_getitem.lookup) ?_ (hop _ _)
  have est2 : (st.map (·.1)).getD 1 = i := by rw [est]; rfl
  refine wpAny_getItem_str_slice (l := none) (u := none) (st := st) ⟨_, Heap.get?_push_size _ rfl, rfl, rfl⟩ (by rw [est2]; exact h0) ?_
  have em : sliceMade z t none none st = .str (T (stp i (cs z))) := by
    unfold sliceMade slicePicked
    rw [est2, h1]
    have ez : (fun k => z.cps[k]?) = fun k => (cs z)[k]? := funext fun k => Array.getElem?_toList.symm
    show Made.str ⟨((Builtin.Str.strSliceIndices none none i z.length).filterMap (z.cps[·]?)).toArray⟩ = _
    rw [ez]; rfl
  rw [em]
  exact ⟨hz, .str _, H4, I5.tok _, ⟨_, rfl⟩, q⟩
end

theorem mem_stp {i : Int} {l : List Nat} {c : Nat} (h : c ∈ stp i l) : c ∈ l := by
  obtain ⟨k, _, hk⟩ := List.mem_filterMap.mp h
  exact List.mem_of_getElem? hk
theorem len_stp2 (l : List Nat) : (stp 2 l).length ≤ l.length := by
  unfold stp
  refine Nat.le_trans (List.length_filterMap_le _ _) ?_
  have e : Builtin.Str.strSliceIndices none none 2 l.length = sliceRange 0 l.length 2 := by
    unfold Builtin.Str.strSliceIndices; simp
  rw [e]
  unfold sliceRange
  rw [List.length_map, List.length_range, if_pos (by decide)]
  split <;> omega
theorem fm_congr {α β : Type} {f g : α → Option β} : ∀ {l : List α}, (∀ x ∈ l, f x = g x) → l.filterMap f = l.filterMap g
  | [], _ => rfl
  | x :: l, h => by
    rw [List.filterMap_cons, List.filterMap_cons, h x (by simp), fm_congr fun y hy => h y (by simp [hy])]
theorem stp_rev (l : List Nat) : stp (-1) l = l.reverse := by
  unfold stp
  have e : Builtin.Str.strSliceIndices none none (-1) l.length = sliceRange ((l.length : Int) - 1) (-1) (-1) := by
    unfold Builtin.Str.strSliceIndices; simp
  rw [e]
  have e2 : sliceRange ((l.length : Int) - 1) (-1) (-1) = (List.range l.length).map fun k => l.length - 1 - k := by
    unfold sliceRange
    rw [if_neg (by decide)]
    have ec : (if (l.length : Int) - 1 > -1 then ((l.length : Int) - 1 - -1 - -1 - 1) / (- -1) else 0).toNat = l.length := by
      split <;> simp <;> omega
    dsimp only
    rw [ec]
    refine List.map_congr_left fun k hk => ?_
    rw [List.mem_range] at hk
    omega
  rw [e2]
  refine List.ext_getElem? fun k => ?_
  have e3 : ((List.range l.length).map fun k => l.length - 1 - k).filterMap (l[·]?) = (List.range l.length).filterMap fun k => l[l.length - 1 - k]? := by
    rw [List.filterMap_map]; rfl
  rw [e3]
  have e4 : ((List.range l.length).filterMap fun k => l[l.length - 1 - k]?) = (List.range l.length).map fun k => l.reverse.getD k 0 := by
    rw [← List.filterMap_eq_map]
    refine fm_congr fun k hk => ?_
    rw [List.mem_range] at hk
    show l[l.length - 1 - k]? = some (l.reverse.getD k 0)
    rw [List.getD_eq_getElem?_getD, List.getElem?_reverse hk, List.getElem?_eq_getElem (by omega)]
    rfl
  rw [e4, List.getElem?_map]
  by_cases hk : k < l.length
  · rw [List.getElem?_range hk, List.getElem?_eq_getElem (by rw [List.length_reverse]; exact hk)]
    show some (l.reverse.getD k 0) = _
    rw [List.getD_eq_getElem?_getD, List.getElem?_eq_getElem (by rw [List.length_reverse]; exact hk)]
    rfl
  · rw [List.getElem?_eq_none (by rw [List.length_range]; omega), List.getElem?_eq_none (by rw [List.length_reverse]; omega)]
    rfl
end LK

/-! Calls of own defs, by place and by name; repr of lists and tuples. -/
namespace LK
open PySem PySem.Spec PyProof.Rows L2

/-- a def of the module and what it promises -/
structure Has (P : Program) (w : World) (K : PySem.W.Frag) (mg : Str → Option Value) (base : Heap) (k : Nat) (x : Str) (ps : List Str) (sp : Sp) : Prop where
  ex : ∃ f fd, FnG P w K mg base CX0 k f fd ps sp ∧ mg x = some (.ref f) ∧ PySem.W.keepIn K (.ref f) = true ∧ Binds K fd ps [] ∧
    ∀ (s : Shared) (us : List Value), us.length = ps.length → BindsTo s fd ⟨[], ps.zip us⟩ (ps.zip us) ∧ BindsTo s fd ⟨[], (ps.zip us).reverse⟩ (ps.zip us)
theorem Has.up {P : Program} {w : World} {K : PySem.W.Frag} {mg : Str → Option Value} {base : Heap} {j k : Nat} {x : Str} {ps : List Str} {sp : Sp}
    (F : Has P w K mg base j x ps sp) (h : j ≤ k) : Has P w K mg base k x ps sp := by
  obtain ⟨f, fd, a, b⟩ := F.ex
  exact ⟨f, fd, a.up h, b⟩

section
variable {X : Cx} {k : Nat} {ps : List Str} {sp : Sp} {x : Str} {p pos : Pos} {e : Expr} {es : List Expr} {kws : List Keyword} {t tk : TA}
/-- f(e, ..) -/
theorem pe_callH (F : Has X.prog X.w X.K X.mg X.base k x ps sp) (hA : X.A.guards = some []) (hr : Room k X.A) (hg : Gl X x) (ha : PA X (e :: es) t)
    (hdb : (x == ("__debug__" : Str)) = false := by decide) (he : starEach (e :: es) X.env = (false, eval e X.env) :: starEach es X.env := by rfl)
    (hpl : (backTo pos (starEach es X.env)).any (·.1) = false := by rfl) : PE X (.Call (.Name x p) (e :: es) [] pos) (uCall sp E0 t) := by
  obtain ⟨f, fd, a, b, c, d, _⟩ := F.ex
  exact pe_callUG a hA hr hg b c d pass0 ha hdb he hpl
/-- the values by name in the sequence of the parameters -/
def uCallK (sp : Sp) (gV : List V → List V) (t : TA) : TE := fun σ H Q => t σ H fun zs H1 => sp (gV zs) H1 Q E0
/-- f(k = v, ..); g: the values in the sequence of the parameters -/
theorem pe_callHK {ks : List Str} {g : List Value → List Value} {gV : List V → List V} (F : Has X.prog X.w X.K X.mg X.base k x ps sp) (hA : X.A.guards = some []) (hr : Room k X.A) (hg : Gl X x)
    (hkw : PK X kws tk) (hall : (backToKw pos (keywordEach kws X.env)).all (·.1.isSome) = true := by rfl) (hks : (backToKw pos (keywordEach kws X.env)).filterMap (·.1) = ks := by rfl)
    (hpl : ((backTo pos (starEach [] X.env)).any (·.1) || (backToKw pos (keywordEach kws X.env)).any (·.1.isNone)) = false := by rfl)
    (hb : ∀ (f : Addr) (fd : FuncData), (∀ (s : Shared) (us : List Value), us.length = ps.length → BindsTo s fd ⟨[], ps.zip us⟩ (ps.zip us) ∧ BindsTo s fd ⟨[], (ps.zip us).reverse⟩ (ps.zip us)) → ∀ (s : Shared) (ws : List Value), ws.length = ks.length → (g ws).length = ps.length → BindsTo s fd ⟨[], ks.zip ws⟩ (ps.zip (g ws)))
    (hrel : ∀ (zs : List V) (ws : List Value), Vals zs ws → (gV zs).length = ps.length → Vals (gV zs) (g ws) ∧ ws.length = ks.length)
    (hdb : (x == ("__debug__" : Str)) = false := by decide) : PE X (.Call (.Name x p) [] kws pos) (uCallK sp gV tk) := by
  obtain ⟨f, fd, F, hm, hk, _, bk⟩ := F.ex
  refine ⟨fun pins s σ H Q I h => ?_⟩
  refine wpAny_Call_Name_kw (ld_glob I hg hm ?_ hdb)
  refine PySem.W.callWith_KW0 (h₀ := X.base) I.ok.mod.kin hk hall (thn (hkw.run pos pins s σ H _ I h) fun ws s1 z => ?_) hpl
  obtain ⟨zs, H1, I1, rz, q⟩ := z
  have q : sp (gV zs) H1 Q E0 := q
  have hl := F.len _ _ _ _ q
  obtain ⟨r2, l2⟩ := hrel zs ws rz hl
  refine ⟨I1.kIn, ?_⟩
  rw [hks, List.append_nil]
  refine wpAny_call (codeAny_mono (F.run X.A hA X.stack s1 H1 ⟨[], ks.zip ws⟩ (g ws) (gV zs) Q E0 hr I1.env0 (hb f fd bk s1 ws l2 (by rw [← r2.length]; exact hl)) r2 q) ?_)
  intro r s' z
  match r, z with
  | .error e, z => exact pass0 pins σ H1 s1 e s' I1 z
  | .ok (.ret u), z => exact I1.after z
  | .ok .next, z => exact z
  | .ok .brk, z => exact z
  | .ok .cont, z => exact z
end

/-! ### repr -/
section
variable {X : Cx}
/-- data without dicts that is short enough to be shown -/
structure Shw (d : PyData) : Prop where
  sh : d.showable = true
  nd : d.hasDict → False
  dp : d.depth ≤ 3
  lf : d.leavesShort 13 = true
  wt : d.weight ≤ 2 ^ 20
def reprU (K : PySem.W.Frag) : List V → Hp → VK → Prop := fun vs H Q => match vs with
  | [.ref a] => ∃ d, Dp K H (.ref a) d ∧ Shw d ∧ Q (.str d.shown) H
  | [.bl b] => Q (.str (PyData.bool b).shown) H
  | _ => False
theorem c_repr (hA : X.A.guards = some []) (hu : X.A.units + 64 < cLine) : CallR X (.builtin "repr") (reprU X.K) := by
  intro pins s σ H xs us Q I r h
  unfold reprU at h
  split at h
  · obtain ⟨d, hd, hw, q⟩ := h
    obtain ⟨u, rfl, ru⟩ := vals1 r
    obtain rfl : u = Value.ref _ := ru
    obtain ⟨as, rd⟩ := Dp.reads I d _ (Value.ref _) hd rfl
    refine repr_of_reads' rd hw.sh (fun z => (hw.nd z).elim) hA (by have := hw.dp; omega) (fun _ _ e => e) (fun h' u tk hk => ?_) (PyData.shown_fits (B := 13) (by omega) (by omega) hw.lf hw.wt)
    exact ⟨.str d.shown, H, I.kept hk, ⟨u, rfl⟩, q⟩
  · rename_i b
    obtain ⟨u, rfl, ru⟩ := vals1 r
    obtain rfl : u = Value.bool b := ru
    refine PySem.P.repr_of_bool ⟨.str _, H, I.tok _, ⟨_, rfl⟩, ?_⟩
    exact h
  · exact h.elim
end
end LK

/-! own exceptions over any built-in base, as values: stored into, made, read, asked for their class -/
namespace LK
open PySem PySem.Spec PyProof.Rows L2 Builtin Builtin.ObjectAttr
/-- what the written part says of an own exception class -/
structure ExcK (K : PySem.W.Frag) (C : Addr) (bmB : List Value) (newId : String) : Prop where
  init : PySem.W.excInitIn K C bmB newId = true
  over : PySem.W.excOver K C bmB = true
  sa : PySem.W.findIn K (.ref C) "__setattr__" = some (some (.builtin "object.__setattr__"))
  is : ExcC K C
  kC : PySem.W.keepIn K (.ref C) = true
section
variable {X : Cx} {pins : List (Addr × Obj)} {σ : L2.St} {H : Hp} {s : Shared} {a C dx : Addr} {f : Str} {y : V} {u : Value} {bmB : List Value} {B newId : String}
theorem ExcK.cd (T : ExcK X.K C bmB newId) : ∃ cd : ClassData, PySem.W.clsIn X.K C = some cd ∧ cd.hasDict = true := by
  obtain ⟨cd, h1, h2⟩ := PySem.W.any_some T.is.hd
  exact ⟨cd, h1, h2⟩
/-- an object is written and another one laid beside it, at once -/
theorem inv_two {h' : Heap} {t' : Nat} {oa q : Obj} {o od : HO} (I : Inv X pins σ H s) (mu : Mut (H a)) (ha : s.heap.get? a = some oa) (ha' : h'.get? a = some q)
    (keep : ∀ b v, b ≠ a → s.heap.get? b = some v → h'.get? b = some v) (nd : s.heap.objs.size ≤ dx) (ne : dx ≠ a)
    (hd : ∀ g : Heap, g.get? dx = h'.get? dx → ObjOk X.prog X.w (upd H dx od) g dx od) (hn : ObjOk X.prog X.w (upd (upd H dx od) a o) h' a o) :
    Inv X pins σ (upd (upd H dx od) a o) { s with heap := h', toks := t' } := by
  have hdn : H dx = none := I.hok.fresh nd
  have g1 : (h'.update a fun _ => oa).get? a = some oa := Heap.get?_update_self _ ha' (Heap.get?_some_iff.mp ha).2
  have g2 : ∀ b, b ≠ a → (h'.update a fun _ => oa).get? b = h'.get? b := fun b hb => Heap.get?_update_ne _ _ _ _ hb
  have I1 : Inv X pins σ (upd H dx od) { s with heap := h'.update a fun _ => oa, toks := t' } := I.laid (t' := t') (fun b v hv => by
    by_cases hb : b = a
    · subst hb
      rw [ha] at hv
      exact hv ▸ g1
    · rw [g2 b hb]; exact keep b v hb hv) nd (hd _ (g2 dx ne))
  exact I1.write (t' := t') (x := a) (e := a) (by rw [upd_ne ne.symm]; exact mu) (.inl rfl) (fun b v hb hv => by rw [g2 b hb] at hv; exact hv) ⟨_, ha'⟩ hn
/-- the first field -/
theorem stE_new (SF : StoreFacts B bmB "object.__setattr__" "object") (T : ExcK X.K C bmB newId) (I : Inv X pins σ H s) (e : H a = some (exo a C none)) (hno : PySem.W.takerIn X.K C f = some none) (ry : RelV y u)
    {Q : Unit → Shared → Prop} {E : Value → Shared → Prop} {A : Around}
    (h : ∀ dx s', H dx = none → dx ≠ a → Inv X pins σ (upd (upd H dx (exd dx [(f, y)])) a (exo a C (some dx))) s' → Q () s') : wpAny (model X.prog X.w) A (setAttr (.ref a) f u) Q E s := by
  obtain ⟨cd, hcd, hdct⟩ := T.cd
  obtain ⟨t1, ho⟩ := exo_at I.hok e
  have inst : PySem.W.InstAt s.heap a { cls := .ref C, data := .fields #[.ref t1, .none, .none, .none, .bool false, .none] } C none := ⟨ho, rfl, rfl, trivial⟩
  refine PySem.W.set_plain I.kIn inst T.sa (PySem.W.osa_openX SF I.kIn inst T.over hno fun b => ?_)
  have look : PySem.W.Looks (model X.prog X.w) s.heap (classData C) cd := PySem.W.looks_clsIn I.kIn hcd
  obtain ⟨heap0, gens0, dr0, tk0, os0⟩ := s
  obtain ⟨c1, c2, c3, c4, c5, c6, c7, c8, c9, c10, c11⟩ := cd
  dsimp only at hdct
  subst hdct
  have neA : a ≠ heap0.objs.size := Nat.ne_of_lt (Heap.lt_size ho)
  show wpAny _ _ (storeInOwnDict (.ref a) (.ref C) (.str f tk0) f u b) _ _ _
  unfold storeInOwnDict ownDictForStores
  repeat (first | with_reducible refine PySem.HandSPX.store_in_new ?_ ?_ | with_reducible refine wpAny_loadPart_at ho ?_ | with_reducible refine look.at ?_ | wp_step)
  · exact ⟨_, #[], _, (Heap.get?_update_ne _ _ _ _ neA.symm).trans (Heap.get?_push_at rfl rfl), rfl, fun _ z => absurd z (by simp), fun _ => rfl⟩
  · intro h2 tk2 n1 sb
    have ho2 : (heap0.push { cls := .type "dict", data := .dict #[] }).get? a = some { cls := .ref C, data := .fields #[.ref t1, .none, .none, .none, .bool false, .none] } := Heap.get?_push_of_some _ ho
    have fin : h2.get? a = some { cls := .ref C, dict := some heap0.objs.size, data := .fields #[.ref t1, .none, .none, .none, .bool false, .none] } := (sb.2 a neA).trans (Heap.get?_update_self _ ho2 rfl)
    refine h heap0.objs.size _ (I.hok.fresh (Nat.le_refl _)) neA.symm (inv_two I (by rw [e]; exact True.intro) ho fin (fun b v hb hv => ?_) (Nat.le_refl _) neA.symm (fun g hg => ?_) (exo_ok fin))
    · exact (sb.2 b (Nat.ne_of_lt (Heap.lt_size hv))).trans ((Heap.get?_update_ne _ _ _ _ hb).trans (Heap.get?_push_of_some _ hv))
    · exact exd_ok (n1.at fun o z => by rw [hg]; exact z) (relO_put (fs := []) ry fun _ => True.intro)
/-- a further field -/
theorem stE_old {fs : List (Str × V)} (SF : StoreFacts B bmB "object.__setattr__" "object") (T : ExcK X.K C bmB newId) (I : Inv X pins σ H s) (e : H a = some (exo a C (some dx))) (ed : H dx = some (exd dx fs)) (hl : fs.length ≤ 900)
    (hno : PySem.W.takerIn X.K C f = some none) (ry : RelV y u) {Q : Unit → Shared → Prop} {E : Value → Shared → Prop} {A : Around}
    (h : ∀ s', Inv X pins σ (upd H dx (exd dx ((f, y) :: fs))) s' → Q () s') : wpAny (model X.prog X.w) A (setAttr (.ref a) f u) Q E s := by
  obtain ⟨cd, hcd, hdct⟩ := T.cd
  obtain ⟨t1, ho⟩ := exo_at I.hok e
  obtain ⟨mA, nsD, rel⟩ := exd_at I.hok ed
  have inMA := within_of rel
  obtain ⟨oD, _, _, hoD, _, _⟩ := nsD.count inMA
  have inst : PySem.W.InstAt s.heap a { cls := .ref C, dict := some dx, data := .fields #[.ref t1, .none, .none, .none, .bool false, .none] } C (some oD) := ⟨ho, rfl, rfl, hoD⟩
  refine PySem.W.set_plain I.kIn inst T.sa (PySem.W.osa_openX SF I.kIn inst T.over hno fun b => ?_)
  have look : PySem.W.Looks (model X.prog X.w) s.heap (classData C) cd := PySem.W.looks_clsIn I.kIn hcd
  obtain ⟨heap0, gens0, dr0, tk0, os0⟩ := s
  obtain ⟨c1, c2, c3, c4, c5, c6, c7, c8, c9, c10, c11⟩ := cd
  dsimp only at hdct
  subst hdct
  show wpAny _ _ (storeInOwnDict (.ref a) (.ref C) (.str f tk0) f u b) _ _ _
  unfold storeInOwnDict ownDictForStores
  repeat (first | with_reducible refine PySem.OEX.store_in_old nsD inMA (by rw [List.length_map]; omega) ?_ | with_reducible refine wpAny_loadPart_at ho ?_ | with_reducible refine look.at ?_ | wp_step)
  intro h2 tk2 n1 sb
  refine h _ (I.write (t' := tk2) (x := dx) (e := dx) (by rw [ed]; exact True.intro) (.inl rfl) (fun b v hb hv => (sb.2 b hb).trans hv) ?_ (exd_ok n1 (relO_put ry rel)))
  obtain ⟨o, _, _, z, _⟩ := n1
  exact ⟨o, z⟩
end
section
variable {X : Cx} {to te : TE} {o e : Expr} {f : Str} {p' pos : Pos} {B : String}
/-- self.f = e, self an exception that is being made -/
def tStE (K : PySem.W.Frag) (bmB : List Value) (f : Str) (to te : TE) : TS := fun D σ H => te σ H fun y H1 => to σ H1 fun x H2 => match x with
  | .ref a => ∃ (C : Addr) (newId : String), ExcK K C bmB newId ∧ PySem.W.takerIn K C f = some none ∧
      ((H2 a = some (exo a C none) ∧ ∀ dx, H2 dx = none → dx ≠ a → D.nx σ (upd (upd H2 dx (exd dx [(f, y)])) a (exo a C (some dx)))) ∨
        ∃ (dx : Addr) (fs : List (Str × V)), H2 a = some (exo a C (some dx)) ∧ H2 dx = some (exd dx fs) ∧ fs.length ≤ 900 ∧ D.nx σ (upd H2 dx (exd dx ((f, y) :: fs))))
  | _ => False
theorem ps_stE {bmB : List Value} (SF : StoreFacts B bmB "object.__setattr__" "object") (ho : PE X o to) (he : PE X e te) (hs : swapsWith e (some (.Attribute o f p')) pos.line X.env = pure false := by rfl) :
    PS X (.Assign [.Attribute o f p'] e pos) (tStE X.K bmB f to te) := by
  refine ⟨fun pins s σ H D I h => ?_⟩
  refine plainObj_wpAny_Assign_Attribute (thn (he.run pins s σ H _ I h) fun v s1 q => ?_) hs
  obtain ⟨y, H1, I1, r1, q1⟩ := q
  refine thn (ho.run pins s1 σ H1 _ I1 q1) fun u s2 q => ?_
  obtain ⟨x, H2, I2, r2, q2⟩ := q
  cases x with
  | ref a =>
    obtain ⟨C, newId, T, hno, q2⟩ := q2
    obtain rfl : u = Value.ref a := r2
    rcases q2 with ⟨ea, q2⟩ | ⟨dx, fs, ea, ed, hl, q2⟩
    · exact stE_new SF T I2 ea hno r1 fun dx s' n ne J => ⟨σ, _, J, q2 dx n ne⟩
    · exact stE_old SF T I2 ea ed hl hno r1 fun s' J => ⟨σ, _, J, q2⟩
  | _ => exact q2.elim
end
section
variable {X : Cx} {x : Str} {C fI : Addr} {k : Nat} {fd : FuncData} {ps : List Str} {sp : Sp} {p pos : Pos} {e : Expr} {es : List Expr} {ta : TA} {B newId initId : String} {bmB : List Value}
theorem under_guards {A : Around} {us : List Value} {kw : List (Str × Value)} {C : Addr} (h : A.guards = some []) : (A.under (.builtin "type.__call__" ⟨.ref C :: us, kw⟩)).guards = some [] := by
  unfold Around.under
  dsimp only
  rw [h]
  first | rfl | decide +kernel | (simp [pushGuards])
/-- C(e, ..), as a value; C's own __init__ keeps sp -/
def tMkE (C : Addr) (sp : Sp) (ta : TA) : TE := fun σ H Q => ta σ H fun vs H1 => vs.length ≤ 1000 ∧ ∀ a, H1 a = none → sp (.ref a :: vs) (upd H1 a (exo a C none)) (fun v H2 => v = .non ∧ Q (.ref a) H2) E0
theorem mk_run {pins : List (Addr × Obj)} {σ : L2.St} {H : Hp} {s : Shared} {Q : VK} {us : List Value} {vs : List V} (FB : ExcBaseFacts B newId initId bmB) (T : ExcK X.K C bmB newId) (iC : PySem.W.findIn X.K (.ref C) "__init__" = some (some (.ref fI)))
    (tI : PySem.W.typeIn X.K (.ref fI) = some (.type "function")) (F1 : FnG X.prog X.w X.K X.mg X.base CX0 k fI fd ps sp) (hA : X.A.guards = some []) (hr : Room (k + 1) X.A) (I : Inv X pins σ H s) (r : Vals vs us) (hz : us.length ≤ sizeLine)
    (hb : Binds X.K fd ps []) (hl : us.length + 1 = ps.length)
    (h : ∀ a, H a = none → sp (.ref a :: vs) (upd H a (exo a C none)) (fun v H2 => v = .non ∧ Q (.ref a) H2) E0) :
    wpAny (model X.prog X.w) X.A (call (.ref C) us) (EP X pins σ Q) X.xe s := by
  obtain ⟨nm, N, qn, bs, bm, hdct, sn, sub, ab, col, dd, k0, k1, k2, k3, k5, hC, hT⟩ := PySem.W.excInit_of I.kIn T.init
  obtain ⟨heap0, gens0, dr0, tk0, os0⟩ := s
  have up : heap0.objs.size ≤ heap0.objs.size + 1 := Nat.le_succ _
  have free : H (heap0.objs.size + 1) = none := I.hok.fresh up
  have keep : ∀ b o, heap0.get? b = some o → ((heap0.push (PySem.W.kdv_tup us)).push (PySem.HandSPX.excO C heap0.objs.size)).get? b = some o := fun b o z => Heap.get?_push_of_some _ (Heap.get?_push_of_some _ z)
  have there : ((heap0.push (PySem.W.kdv_tup us)).push (PySem.HandSPX.excO C heap0.objs.size)).get? (heap0.objs.size + 1) = some (PySem.HandSPX.excO C heap0.objs.size) := by heap_get
  have J : Inv X pins σ (upd H (heap0.objs.size + 1) (exo (heap0.objs.size + 1) C none)) ⟨(heap0.push (PySem.W.kdv_tup us)).push (PySem.HandSPX.excO C heap0.objs.size), gens0, dr0, tk0, os0⟩ :=
    I.laid (t' := tk0) (h' := (heap0.push (PySem.W.kdv_tup us)).push (PySem.HandSPX.excO C heap0.objs.size)) keep up (exo_ok there)
  have bnd : ∀ z : Value, BindsTo ⟨(heap0.push (PySem.W.kdv_tup us)).push (PySem.HandSPX.excO C heap0.objs.size), gens0, dr0, tk0, os0⟩ fd ⟨z :: us, []⟩ (ps.zip (z :: us)) := fun z => by
    have b := hb ⟨(heap0.push (PySem.W.kdv_tup us)).push (PySem.HandSPX.excO C heap0.objs.size), gens0, dr0, tk0, os0⟩ (z :: us) J.kIn (by rw [List.append_nil]; exact hl)
    rw [List.append_nil] at b
    exact b
  refine wpAny_call (PySem.HandSPX.call_own FB hT hC (PySem.W.looks_findIn I.kIn iC) (fun z => PySem.W.bind_fn I.kIn z tI) hz (codeAny_mono (F1.run _ (under_guards hA) X.stack _ _ ⟨.ref (heap0.objs.size + 1) :: us, []⟩ (.ref (heap0.objs.size + 1) :: us) (.ref (heap0.objs.size + 1) :: vs) _ E0
    (hr.make C us []) (J.env0.make C us []) (bnd _) (.cons rfl r) (h _ free)) fun r' s' z => ?_))
  match r', z with
  | .error er, z => exact pass0 pins σ _ _ er s' J z
  | .ok .next, z => exact z.elim
  | .ok .brk, z => exact z.elim
  | .ok .cont, z => exact z.elim
  | .ok (.ret u), z =>
    obtain ⟨v, H2, J2, rv, ev, q⟩ := J.after z
    subst ev
    exact ⟨rv, .ref _, H2, J2, rfl, q⟩
theorem pe_mkE (FB : ExcBaseFacts B newId initId bmB) (T : ExcK X.K C bmB newId) (iC : PySem.W.findIn X.K (.ref C) "__init__" = some (some (.ref fI))) (tI : PySem.W.typeIn X.K (.ref fI) = some (.type "function"))
    (F1 : FnG X.prog X.w X.K X.mg X.base CX0 k fI fd ps sp) (hA : X.A.guards = some []) (hr : Room (k + 1) X.A) (hb : Binds X.K fd ps []) (hg : Gl X x) (hm : X.mg x = some (.ref C)) (ha : PA X (e :: es) ta)
    (hdb : (x == ("__debug__" : Str)) = false := by decide) (he : starEach (e :: es) X.env = (false, eval e X.env) :: starEach es X.env := by rfl) (hpl : (backTo pos (starEach es X.env)).any (·.1) = false := by rfl) :
    PE X (.Call (.Name x p) (e :: es) [] pos) (tMkE C sp ta) := by
  refine ⟨fun pins s σ H Q I h => ?_⟩
  refine wpAny_Call_Name_kw (ld_glob I hg hm ?_ hdb)
  refine PySem.W.callWith_K (h₀ := X.base) I.ok.mod.kin T.kC (thn (ha.run pos pins s σ H _ I h) fun us s1 z => ?_) he hpl
  obtain ⟨vs, H1, I1, r1, hz, q⟩ := z
  refine ⟨I1.kIn, ?_⟩
  have hl : us.length ≤ sizeLine := by rw [← Paired.length r1, sizeLine_eq]; omega
  have free : H1 s1.heap.objs.size = none := I1.hok.fresh (Nat.le_refl _)
  have len : us.length + 1 = ps.length := by
    have := F1.len _ _ _ _ (q _ free)
    rw [List.length_cons, Paired.length r1] at this
    exact this
  exact mk_run FB T iC tI F1 hA hr I1 r1 hl hb len q
end

/-! ### read, asked for the class -/
/-- a: an exception of the class C with the fields fs -/
def ExAt (K : PySem.W.Frag) (H : Hp) (a C : Addr) (fs : List (Str × V)) : Prop :=
  (∃ (bmB : List Value) (newId : String), ExcK K C bmB newId) ∧ ((H a = some (exo a C none) ∧ fs = []) ∨ ∃ d, H a = some (exo a C (some d)) ∧ H d = some (exd d fs))
section
variable {X : Cx} {pins : List (Addr × Obj)} {σ : L2.St} {H : Hp} {s : Shared} {a C : Addr} {fs : List (Str × V)}
theorem ExAt.inst (I : Inv X pins σ H s) (e : ExAt X.K H a C fs) : ∃ (oe : Obj) (od : Option Obj), PySem.W.InstAt s.heap a oe C od ∧ ∀ f v, fs.lookup f = some v → ∃ (d : Addr) (oD : Obj) (mA : Str → Option Value), od = some oD ∧ s.heap.get? d = some oD ∧ s.heap.Ns1 d mA ∧ RelO (some v) (mA f) := by
  rcases e.2 with ⟨ea, rfl⟩ | ⟨d, ea, ed⟩
  · obtain ⟨t1, ho⟩ := exo_at I.hok ea
    exact ⟨_, none, ⟨ho, rfl, rfl, trivial⟩, fun f v z => nomatch z⟩
  · obtain ⟨t1, ho⟩ := exo_at I.hok ea
    obtain ⟨mA, nsD, rel⟩ := exd_at I.hok ed
    obtain ⟨oD, _, _, hoD, _, _⟩ := nsD.count (within_of rel)
    exact ⟨_, some oD, ⟨ho, rfl, rfl, hoD⟩, fun f v z => ⟨d, oD, mA, rfl, hoD, nsD, by rw [← z]; exact rel f⟩⟩
/-- e.f, e an exception -/
def tAttrE (K : PySem.W.Frag) (te : TE) (f : Str) : TE := fun σ H Q => te σ H fun x H1 => match x with
  | .ref a => ∃ (C : Addr) (fs : List (Str × V)) (v : V), ExAt K H1 a C fs ∧ PySem.W.findIn K (.ref C) f = some none ∧ fs.lookup f = some v ∧ Q v H1
  | _ => False
theorem pe_attrE {e : Expr} {te : TE} {f : Str} {pos : Pos} (he : PE X e te) (hb : attributeBase e f X.env (eval e X.env) = eval e X.env := by rfl) : PE X (.Attribute e f pos) (tAttrE X.K te f) := by
  refine ⟨fun pins s σ H Q I h => ?_⟩
  refine attr_of hb (thn (he.run pins s σ H _ I h) fun u s1 z => ?_)
  obtain ⟨x, H1, I1, rx, q⟩ := z
  cases x with
  | ref a =>
    obtain ⟨C, fs, v, ea, hno, hl, q⟩ := q
    obtain rfl : u = Value.ref a := rx
    obtain ⟨oe, od, inst, fld⟩ := ea.inst I1
    obtain ⟨d, oD, mA, rfl, hoD, nsD, rel⟩ := fld f v hl
    obtain ⟨bmB, newId, T⟩ := ea.1
    obtain ⟨u, hu, ru⟩ := RelO.some_of (v := v) rel
    obtain ⟨od2, ho2, hl2⟩ := lookIn_ns nsD
    rw [hoD] at ho2
    cases ho2
    exact PySem.HandSPX.exc_get I1.kIn inst T.is.hg T.is.hk T.is.hs (PySem.W.findObj_own T.is.hd hno rfl (by rw [hl2, hu])) (handed_of ru) ⟨v, H1, I1.tok _, ru, q⟩
  | _ => exact q.elim
/-- isinstance(e, c), e an exception -/
def isU_E (K : PySem.W.Frag) : List V → Hp → VK → Prop := fun vs H Q => match vs with
  | [.ref a, c] => ∃ (C : Addr) (fs : List (Str × V)) (cv : Value) (b : Bool), ExAt K H a C fs ∧ ClsV c cv ∧ PySem.W.kitOne K (.ref C) cv = some b ∧ Q (.bl b) H
  | _ => False
theorem c_isE : CallR X (.builtin "isinstance") (isU_E X.K) := by
  intro pins s σ H xs us Q I r h
  unfold isU_E at h
  split at h
  · rename_i a c
    obtain ⟨C, fs, cv, b, ea, hc, hk, q⟩ := h
    obtain ⟨u1, u2, rfl, r1, r2⟩ := vals2 r
    obtain rfl : u1 = Value.ref a := r1
    have e2 := hc.eq r2
    subst e2
    obtain ⟨oe, od, inst, _⟩ := ea.inst I
    obtain ⟨bmB, newId, T⟩ := ea.1
    obtain ⟨cd, hcd, _⟩ := T.cd
    exact PySem.W.kia_one (PySem.W.kitx_exc (by rw [hcd]; rfl) T.is.hg T.is.hk T.is.hs T.is.ha T.is.hn T.is.ht T.is.hm) I.kIn inst hk (fun z => nomatch z) fun tk => ⟨.bl b, H, I.kept (t' := tk) fun _ _ z => z, rfl, q⟩
  · exact h.elim
end

/-! ### made to be raised; made without fields -/
section
variable {X : Cx} {x : Str} {C fI : Addr} {k : Nat} {fd : FuncData} {ps : List Str} {sp : Sp} {p pos : Pos} {e : Expr} {es : List Expr} {ta : TA} {B newId initId : String} {bmB : List Value}
/-- C(e, ..) behind raise: what flies is the class with its fields -/
def tPmE (C : Addr) (sp : Sp) (ta : TA) : L2.St → Hp → XK → Prop := fun σ H Q => ta σ H fun vs H1 => vs.length ≤ 1000 ∧ ∀ a, H1 a = none → sp (.ref a :: vs) (upd H1 a (exo a C none))
  (fun v H2 => v = .non ∧ ∃ (d : Addr) (fs : List (Str × V)), H2 a = some (exo a C (some d)) ∧ H2 d = some (exd d fs) ∧ H1 d = none ∧ Q (.ref C) (some d) (upd (del H2 a) d (.xd fs))) E0
theorem pmk_mkE (FB : ExcBaseFacts B newId initId bmB) (T : ExcK X.K C bmB newId) (tyC : PySem.W.typeIn X.K (.ref C) = some (.type "type")) (iC : PySem.W.findIn X.K (.ref C) "__init__" = some (some (.ref fI))) (tI : PySem.W.typeIn X.K (.ref fI) = some (.type "function"))
    (F1 : FnG X.prog X.w X.K X.mg X.base CX0 k fI fd ps sp) (hA : X.A.guards = some []) (hr : Room (k + 1) X.A) (hb : Binds X.K fd ps []) (hg : Gl X x) (hm : X.mg x = some (.ref C)) (ha : PA X (e :: es) ta)
    (hdb : (x == ("__debug__" : Str)) = false := by decide) (he : starEach (e :: es) X.env = (false, eval e X.env) :: starEach es X.env := by rfl) (hpl : (backTo pos (starEach es X.env)).any (·.1) = false := by rfl) :
    PMk X (.Call (.Name x p) (e :: es) [] pos) (tPmE C sp ta) := by
  intro pins s σ H Q I h
  refine wpAny_Call_Name_kw (ld_glob I hg hm ?_ hdb)
  refine PySem.W.callWith_K (h₀ := X.base) I.ok.mod.kin T.kC (thn (ha.run pos pins s σ H _ I h) fun us s1 z => ?_) he hpl
  obtain ⟨vs, H1, I1, r1, hz, q⟩ := z
  refine ⟨I1.kIn, ?_⟩
  have hl : us.length ≤ sizeLine := by rw [← Paired.length r1, sizeLine_eq]; omega
  have len : us.length + 1 = ps.length := by
    have := F1.len _ _ _ _ (q _ (I1.hok.fresh (Nat.le_refl _)))
    rw [List.length_cons, Paired.length r1] at this
    exact this
  obtain ⟨nm, N, qn, bs, bm, hdct, sn, sub, ab, col, dd, k0, k1, k2, k3, k5, hC, hT⟩ := PySem.W.excInit_of I1.kIn T.init
  obtain ⟨heap0, gens0, dr0, tk0, os0⟩ := s1
  have up : heap0.objs.size ≤ heap0.objs.size + 1 := Nat.le_succ _
  have keep : ∀ b o, heap0.get? b = some o → ((heap0.push (PySem.W.kdv_tup us)).push (PySem.HandSPX.excO C heap0.objs.size)).get? b = some o := fun b o z => Heap.get?_push_of_some _ (Heap.get?_push_of_some _ z)
  have there : ((heap0.push (PySem.W.kdv_tup us)).push (PySem.HandSPX.excO C heap0.objs.size)).get? (heap0.objs.size + 1) = some (PySem.HandSPX.excO C heap0.objs.size) := by heap_get
  have J : Inv X pins σ (upd H1 (heap0.objs.size + 1) (exo (heap0.objs.size + 1) C none)) ⟨(heap0.push (PySem.W.kdv_tup us)).push (PySem.HandSPX.excO C heap0.objs.size), gens0, dr0, tk0, os0⟩ :=
    I1.laid (t' := tk0) (h' := (heap0.push (PySem.W.kdv_tup us)).push (PySem.HandSPX.excO C heap0.objs.size)) keep up (exo_ok there)
  have bnd : ∀ z : Value, BindsTo ⟨(heap0.push (PySem.W.kdv_tup us)).push (PySem.HandSPX.excO C heap0.objs.size), gens0, dr0, tk0, os0⟩ fd ⟨z :: us, []⟩ (ps.zip (z :: us)) := fun z => by
    have b := hb ⟨(heap0.push (PySem.W.kdv_tup us)).push (PySem.HandSPX.excO C heap0.objs.size), gens0, dr0, tk0, os0⟩ (z :: us) J.kIn (by rw [List.append_nil]; exact len)
    rw [List.append_nil] at b
    exact b
  refine wpAny_call (PySem.HandSPX.call_own FB hT hC (PySem.W.looks_findIn I1.kIn iC) (fun z => PySem.W.bind_fn I1.kIn z tI) hl (codeAny_mono (F1.run _ (under_guards hA) X.stack _ _ ⟨.ref (heap0.objs.size + 1) :: us, []⟩ (.ref (heap0.objs.size + 1) :: us) (.ref (heap0.objs.size + 1) :: vs) _ E0
    (hr.make C us []) (J.env0.make C us []) (bnd _) (.cons rfl r1) (q _ (I1.hok.fresh up))) fun r' s' z => ?_))
  match r', z with
  | .error er, z => exact pass0 pins σ _ _ er s' J z
  | .ok .next, z => exact z.elim
  | .ok .brk, z => exact z.elim
  | .ok .cont, z => exact z.elim
  | .ok (.ret u), z =>
    obtain ⟨v, H2, os2, bare2, un2, hok2, rv, ev, d, fs, ea, ed, hd1, q2⟩ := z
    subst ev
    obtain ⟨h2, g2, d2, t2, os'⟩ := s'
    exact ⟨rv, mk_end (raises_own T.is.hs tyC) I1 up keep un2 hok2 os2 bare2 ea ed hd1 q2⟩
/-- C(), C without an __init__ of its own -/
theorem pe_mk0 (FB : ExcBaseFacts B newId initId bmB) (q : PySem.W.excIn X.K C bmB newId = true) (kC : PySem.W.keepIn X.K (.ref C) = true) (hg : Gl X x) (hm : X.mg x = some (.ref C)) (hdb : (x == ("__debug__" : Str)) = false := by decide) :
    PE X (.Call (.Name x p) [] [] pos) (fun σ H Q => ∀ a, H a = none → Q (.ref a) (upd H a (exo a C none))) := by
  refine ⟨fun pins s σ H Q I h => ?_⟩
  refine wpAny_Call_Name_kw (ld_glob I hg hm ?_ hdb)
  refine PySem.W.callWith_K0 I.kIn kC ?_
  obtain ⟨bm, N, nm, qn, bs, hdct, sn, sub, ab, col, dd, k0, k1, k2, k3, k5, mN, hC, hN, hni, T⟩ := exc_obj I.kIn q
  refine wpAny_call_exc_subT FB T hC hN hni (fun h' a hm => ?_) (Nat.zero_le _)
  have free : H a = none := I.hok.gone hm.new
  obtain ⟨t, ht, _, _⟩ := hm.there
  exact ⟨.ref a, _, I.laidN hm.keeps hm.new free (exo_ok ht), rfl, h a free⟩
end
end LK

/-! own exceptions made by names alone -/
namespace LK
open PySem PySem.Spec PyProof.Rows L2 Builtin Builtin.ObjectAttr PySem.HandSPX
section
variable {M : Model} {A : Around} {E : Value → Shared → Prop} {h : Heap} {g : Array GenState} {d : Drawn} {t : Nat} {os : OsState}
variable {nm q : Str} {C N : Addr} {bs bm bmB : List Value} {hdct : Bool} {sn : List Str} {sub : List Value} {ab : Bool} {col : Option Bool} {dd : Option Addr} {k0 k1 k2 k3 k5 : Option Value} {B newId initId : String}
variable {n0 : Str} {v0 : Value} {kr : List (Str × Value)}
theorem kw_check (FB : ExcBaseFacts B newId initId bmB) (hT : ∀ X : String, bm.contains (.type X) = bmB.contains (.type X)) {Q : Unit → Shared → Prop}
    (hC : h.get? C = some (excClassObj nm q C N bs bm hdct sn sub ab col dd k0 k1 k2 k3 k5 newId)) (then_ : Q () ⟨h, g, d, t, os⟩) : wpAny M A (checkBuiltinCall newId ⟨[.ref C], (n0, v0) :: kr⟩) Q E ⟨h, g, d, t, os⟩ := by
  have inB : (Value.ref C :: bm).contains (.type B) = true := by rw [List.contains_cons, hT, FB.hasB, Bool.or_true]
  have star := FB.noStar
  simp only [checkBuiltinCall, FB.newKind, FB.newSplit, FB.newRow]
  repeat (first | refine wpAny_loadPart_at hC ?_ | (refine wpAny_isSubtype_exc hC ?_; rw [inB]) | refine wpAny_staticBase_exc hC ?_ | refine wpAny_madeBy_exc hC ?_ | simp only [bne_self_eq_false, Bool.false_eq_true, if_false] | wp_step)
  exact then_
end
section
variable {prog : Program} {w : World} {A : Around} {E : Value → Shared → Prop} {R : Result → Shared → Prop} {h : Heap} {g : Array GenState} {d : Drawn} {t : Nat} {os : OsState}
variable {nm q : Str} {C N : Addr} {bs bm bmB : List Value} {hdct : Bool} {sn : List Str} {sub : List Value} {ab : Bool} {col : Option Bool} {dd : Option Addr} {k0 k1 k2 k3 k5 : Option Value} {B newId initId : String}
variable {n0 : Str} {v0 : Value} {kr : List (Str × Value)}
theorem kw_new (FB : ExcBaseFacts B newId initId bmB) (hT : ∀ X : String, bm.contains (.type X) = bmB.contains (.type X))
    (hC : h.get? C = some (excClassObj nm q C N bs bm hdct sn sub ab col dd k0 k1 k2 k3 k5 newId))
    (then_ : R (.ok (.ret (.ref (h.objs.size + 1)))) ⟨(h.push (PySem.W.kdv_tup [])).push (excO C h.objs.size), g, d, t, os⟩) :
    codeAny (model prog w) A (.builtin newId ⟨[.ref C], (n0, v0) :: kr⟩) R ⟨h, g, d, t, os⟩ := by
  have fin := FB.ends
  have inB : (Value.ref C :: bm).contains (.type B) = true := by rw [List.contains_cons, hT, FB.hasB, Bool.or_true]
  have notA : (Value.ref C :: bm).contains (.type "AttributeError") = false := by rw [List.contains_cons, hT, FB.noAttr]; rfl
  have notN : (Value.ref C :: bm).contains (.type "NameError") = false := by rw [List.contains_cons, hT, FB.noName]; rfl
  refine codeAny_builtinAt FB.entry ?_
  unfold Builtin.«BaseException.__new__»
  refine PySem.wpAt_bind ?_
  show PySem.wpAt _ _ _ (stack >>= _) _ _ _
  refine PySem.wpAt_bind (PySem.wpAt_stack fun pp below => PySem.wpAt_of_wpAny ?_)
  wp_walk
  refine PySem.wpAt_of_wpAny ?_
  rw [FB.owner]
  repeat (first | with_reducible refine wpAny_madeHere_exc FB.canon hC ?_ | with_reducible refine wpAny_loadPart_at hC ?_ | (with_reducible refine wpAny_isSubtype_exc hC ?_; first | rw [inB] | rw [notA] | rw [notN]) | wp_step)
  show R _ _
  rw [Heap.size_push]
  exact then_
theorem kw_type (FB : ExcBaseFacts B newId initId bmB) (hT : ∀ X : String, bm.contains (.type X) = bmB.contains (.type X)) {fI : Addr} {Q : Fin → Shared → Prop}
    (hC : h.get? C = some (excClassObj nm q C N bs bm hdct sn sub ab col dd k0 k1 k2 k3 k5 newId))
    (look : PySem.W.Looks (model prog w) h (typeLookup (.ref C) "__init__") (some (.ref fI))) (bind : ∀ self, PySem.W.Looks (model prog w) h (bindSpecial (.ref fI) self) (.ref fI, [self]))
    (then_ : codeAny (model prog w) A (.call (.ref fI) ⟨[.ref (h.objs.size + 1)], (n0, v0) :: kr⟩)
      (fun r s' => match r with | .ok (.ret v) => v = .none ∧ Q (.done (.ret (.ref (h.objs.size + 1)))) s' | .ok _ => False | .error e => E e s')
      ⟨(h.push (PySem.W.kdv_tup [])).push (excO C h.objs.size), g, d, t, os⟩) :
    wpAny (model prog w) A (Builtin.«type.__call__» ⟨[.ref C], (n0, v0) :: kr⟩) Q E ⟨h, g, d, t, os⟩ := by
  repeat (first | with_reducible refine wpAny_loadPart_at hC ?_ | with_reducible refine wpAny_madeBy_exc hC ?_ | wp_step)
  refine codeAny_call_builtin_code (Code.quiet_builtin _ FB.quiet) (kw_check FB hT hC (kw_new FB hT hC ?_))
  show wpAny _ _ _ _ _ _
  have keep : ∀ b o, h.get? b = some o → ((h.push (PySem.W.kdv_tup [])).push (excO C h.objs.size)).get? b = some o := fun b o z => Heap.get?_push_of_some _ (Heap.get?_push_of_some _ z)
  have hC2 := keep _ _ hC
  have made : ((h.push (PySem.W.kdv_tup [])).push (excO C h.objs.size)).get? (h.objs.size + 1) = some (excO C h.objs.size) := by heap_get
  have own : (Value.ref C :: bm).contains (.ref C) = true := by simp
  have l2 := look.keeps keep
  have b2 := (bind (.ref (h.objs.size + 1))).keeps keep
  unfold isInstance
  repeat (first | with_reducible refine wpAny_loadPart_at made ?_ | (with_reducible refine wpAny_isSubtype_exc hC2 ?_; rw [own]) | wp_step)
  show wpAny _ _ (typeLookup (.ref C) _) _ _ _
  refine l2.at (wpAny_holding (wpAny_bind (b2.at (wpAny_bind (wpAny_call (codeAny_mono then_ fun r s' z => ?_))))))
  rcases r with e | (v | _ | _ | _) <;> first | exact z | exact z.elim | skip
  obtain ⟨rfl, z⟩ := z
  first
    | exact wpAny_pure (wpAny_pure z)
    | (wp_walk; exact z)
theorem kw_callable {M : Model} {A : Around} {E : Value → Shared → Prop} {Q : Unit → Shared → Prop} (hC : h.get? C = some (excClassObj nm q C N bs bm hdct sn sub ab col dd k0 k1 k2 k3 k5 newId)) (then_ : Q () ⟨h, g, d, t, os⟩) :
    wpAny M A (checkBuiltinCall "type.__call__" ⟨[.ref C], (n0, v0) :: kr⟩) Q E ⟨h, g, d, t, os⟩ := by
  have f3 := tc_sub
  have isT : (⟨h, g, d, t, os⟩ : Shared).TypeIs (.ref C) "type" := ⟨_, hC, rfl⟩
  simp only [checkBuiltinCall, tc_kind, tc_split]
  repeat (any_goals (first | assumption | with_reducible refine wpAny_loadPart_at hC ?_ | with_reducible refine wpAny_onRaise ?_ | with_reducible refine wpAny_map ?_ | wp_step))
theorem kw_own (FB : ExcBaseFacts B newId initId bmB) (hT : ∀ X : String, bm.contains (.type X) = bmB.contains (.type X)) {fI : Addr}
    (hC : h.get? C = some (excClassObj nm q C N bs bm hdct sn sub ab col dd k0 k1 k2 k3 k5 newId))
    (look : PySem.W.Looks (model prog w) h (typeLookup (.ref C) "__init__") (some (.ref fI))) (bind : ∀ self, PySem.W.Looks (model prog w) h (bindSpecial (.ref fI) self) (.ref fI, [self]))
    (then_ : codeAny (model prog w) (A.under (.builtin "type.__call__" ⟨[.ref C], (n0, v0) :: kr⟩)) (.call (.ref fI) ⟨[.ref (h.objs.size + 1)], (n0, v0) :: kr⟩) (PySem.W.InitBack (h.objs.size + 1) R)
      ⟨(h.push (PySem.W.kdv_tup [])).push (excO C h.objs.size), g, d, t, os⟩) :
    codeAny (model prog w) A (.call (.ref C) ⟨[], (n0, v0) :: kr⟩) R ⟨h, g, d, t, os⟩ := by
  have f1 := tc_lookup
  have f2 := tc_bind (.ref C)
  have isT : (⟨h, g, d, t, os⟩ : Shared).TypeIs (.ref C) "type" := ⟨_, hC, rfl⟩
  refine codeAny_of_tree ?_
  show wpAny _ _ (callAny (.ref C) _) _ _ _
  repeat (any_goals (first | assumption | with_reducible refine wpAny_loadPart_at hC ?_ | wp_step))
  refine ⟨rfl, ?_⟩
  refine codeAny_call_builtin_at (Code.quiet_builtin _ (by decide +kernel)) entry_typeCall ?_
  refine kw_callable hC (kw_type FB hT hC look bind ?_)
  refine codeAny_mono then_ fun r s' z => ?_
  rcases r with e | (v | _ | _ | _) <;> exact z
end

section
variable {X : Cx} {x kn : Str} {kns : List Str} {C fI : Addr} {k : Nat} {fd : FuncData} {ps : List Str} {sp : Sp} {p pos : Pos} {kws : List Keyword} {tk : TA} {B newId initId : String} {bmB : List Value} {gU : List Value → List Value} {gV : List V → List V}
/-- C(k = v, ..), as a value; gV: the values in the sequence of the parameters -/
def tMkEK (C : Addr) (n : Nat) (gV : List V → List V) (sp : Sp) (tk : TA) : TE := fun σ H Q => tk σ H fun zs H1 => zs.length = n ∧ ∀ a, H1 a = none → sp (.ref a :: gV zs) (upd H1 a (exo a C none)) (fun v H2 => v = .non ∧ Q (.ref a) H2) E0
theorem mk_runK {pins : List (Addr × Obj)} {σ : L2.St} {H1 : Hp} {s1 : Shared} {Q : VK} {w0 : Value} {kr : List (Str × Value)} {gs : List Value} {gz : List V} (FB : ExcBaseFacts B newId initId bmB) (T : ExcK X.K C bmB newId) (iC : PySem.W.findIn X.K (.ref C) "__init__" = some (some (.ref fI)))
    (tI : PySem.W.typeIn X.K (.ref fI) = some (.type "function")) (F1 : FnG X.prog X.w X.K X.mg X.base CX0 k fI fd ps sp) (hA : X.A.guards = some []) (hr : Room (k + 1) X.A) (I1 : Inv X pins σ H1 s1)
    (hb : ∀ (s : Shared) (z : Value), BindsTo s fd ⟨[z], (kn, w0) :: kr⟩ (ps.zip (z :: gs))) (hrel : Vals gz gs)
    (q : ∀ a, H1 a = none → sp (.ref a :: gz) (upd H1 a (exo a C none)) (fun v H2 => v = .non ∧ Q (.ref a) H2) E0) :
    wpAny (model X.prog X.w) X.A (call (.ref C) [] ((kn, w0) :: kr)) (EP X pins σ Q) X.xe s1 := by
  obtain ⟨nm, N, qn, bs, bm, hdct, sn, sub, ab, col, dd, k0, k1, k2, k3, k5, hC, hT⟩ := PySem.W.excInit_of I1.kIn T.init
  obtain ⟨heap0, gens0, dr0, tk0, os0⟩ := s1
  have up : heap0.objs.size ≤ heap0.objs.size + 1 := Nat.le_succ _
  have keep : ∀ b o, heap0.get? b = some o → ((heap0.push (PySem.W.kdv_tup [])).push (PySem.HandSPX.excO C heap0.objs.size)).get? b = some o := fun b o z => Heap.get?_push_of_some _ (Heap.get?_push_of_some _ z)
  have there : ((heap0.push (PySem.W.kdv_tup [])).push (PySem.HandSPX.excO C heap0.objs.size)).get? (heap0.objs.size + 1) = some (PySem.HandSPX.excO C heap0.objs.size) := by heap_get
  have J : Inv X pins σ (upd H1 (heap0.objs.size + 1) (exo (heap0.objs.size + 1) C none)) ⟨(heap0.push (PySem.W.kdv_tup [])).push (PySem.HandSPX.excO C heap0.objs.size), gens0, dr0, tk0, os0⟩ :=
    I1.laid (t' := tk0) (h' := (heap0.push (PySem.W.kdv_tup [])).push (PySem.HandSPX.excO C heap0.objs.size)) keep up (exo_ok there)
  refine wpAny_call (kw_own FB hT hC (PySem.W.looks_findIn I1.kIn iC) (fun z => PySem.W.bind_fn I1.kIn z tI) (codeAny_mono (F1.run _ (under_guards hA) X.stack _ _ ⟨[.ref (heap0.objs.size + 1)], (kn, w0) :: kr⟩ (.ref (heap0.objs.size + 1) :: gs) (.ref (heap0.objs.size + 1) :: gz) _ E0
    (hr.make C [] ((kn, w0) :: kr)) (J.env0.make C [] ((kn, w0) :: kr)) (hb _ _) (.cons rfl hrel) (q _ (I1.hok.fresh up))) fun r' s' z => ?_))
  match r', z with
  | .error er, z => exact pass0 pins σ _ _ er s' J z
  | .ok .next, z => exact z.elim
  | .ok .brk, z => exact z.elim
  | .ok .cont, z => exact z.elim
  | .ok (.ret u), z =>
    obtain ⟨v, H2, J2, rv, ev, q⟩ := J.after z
    subst ev
    exact ⟨rv, .ref _, H2, J2, rfl, q⟩
end
end LK

/-! repr of nested data, dicts among it -/
namespace LK
open PySem PySem.Spec PyProof.Rows L2
def encK : Key → PyData
  | .inl i => .int i
  | .inr x => .str x
mutual
/-- data, dicts with ints and texts as keys among it -/
inductive DpX (K : PySem.W.Frag) (N : Addr → Prop) (H : Hp) : V → PyData → Prop
  | non : DpX K N H .non .none
  | bl (b : Bool) : DpX K N H (.bl b) (.bool b)
  | int (i : Int) : DpX K N H (.int i) (.int i)
  | str (x : Str) : DpX K N H (.str x) (.str x)
  | lst {a : Addr} {xs : List V} {ds : List PyData} : ¬ N a → SqL K H a xs → DpXAll K N H xs ds → DpX K N H (.ref a) (.list ds)
  | tup {a : Addr} {xs : List V} {ds : List PyData} : ¬ N a → SqT K H a xs → DpXAll K N H xs ds → DpX K N H (.ref a) (.tuple ds)
  | dct {a : Addr} {kvs : List (Key × V)} {ds : List PyData} : ¬ N a → H a = some (.dK kvs) → DpXAll K N H (kvs.map (·.2)) ds → DpX K N H (.ref a) (.dict ((kvs.map fun p => encK p.1).zip ds))
inductive DpXAll (K : PySem.W.Frag) (N : Addr → Prop) (H : Hp) : List V → List PyData → Prop
  | nil : DpXAll K N H [] []
  | cons {v : V} {vs : List V} {d : PyData} {ds : List PyData} : DpX K N H v d → DpXAll K N H vs ds → DpXAll K N H (v :: vs) (d :: ds)
end
/-- sys.modules is a dict there -/
def SysD (h : Heap) : Prop := ∃ (o : Obj) (es : Array DictEntry) (ep : Nat), h.get? sysModules = some o ∧ o.data = .dict es ep
section
variable {X : Cx} {pins : List (Addr × Obj)} {σ : L2.St} {H : Hp} {s : Shared} {N : Addr → Prop}
theorem pairs_read {h : Heap} : ∀ {kvs : List (Key × V)} {vs : List (Key × Value)} {ds : List PyData} {bs : List Addr}, KV kvs vs → ReadsAll h (vs.map (·.2)) ds bs → PyProof.V.PairsRead h encK vs ((kvs.map fun p => encK p.1).zip ds) bs := by
  intro kvs vs ds bs r
  induction r generalizing ds bs with
  | nil => intro z; cases z; exact .nil
  | cons h1 t ih =>
    intro z
    cases z with
    | cons z1 z2 =>
      rw [List.map_cons, List.zip_cons_cons, h1.1]
      exact .cons z1 (ih z2)
theorem kv_vals : ∀ {kvs : List (Key × V)} {vs : List (Key × Value)}, KV kvs vs → Vals (kvs.map (·.2)) (vs.map (·.2))
  | _, _, .nil => .nil
  | _, _, .cons h t => .cons h.2 (kv_vals t)
theorem sys_ne {a : Addr} {o : Obj} (S : SysD s.heap) (e : s.heap.get? a = some o) (n : ∀ es ep, o.data ≠ .dict es ep) : sysModules ≠ a := fun z => by
  obtain ⟨o2, es, ep, e2, d⟩ := S
  rw [z, e] at e2
  cases e2
  exact n _ _ d
mutual
theorem DpX.reads (I : Inv X pins σ H s) (S : SysD s.heap) : ∀ {v : V} {d : PyData} {u : Value}, DpX X.K N H v d → RelV v u → ∃ as, Reads s.heap u d as ∧ sysModules ∉ as
  | _, _, _, .non, r => by cases r; exact ⟨_, .none, by simp⟩
  | _, _, _, .bl b, r => by cases r; exact ⟨_, .bool b, by simp⟩
  | _, _, _, .int i, r => by obtain ⟨t, rfl⟩ := r; exact ⟨_, .int i t, by simp⟩
  | _, _, _, .str x, r => by obtain ⟨t, rfl⟩ := r; exact ⟨_, .str x t, by simp⟩
  | _, _, _, .lst _ hs ha, r => by
    cases r
    obtain ⟨its, rv, ⟨o, n, ho, hc, _, hd⟩, _⟩ := I.list hs
    obtain ⟨as, hr, ns⟩ := DpXAll.reads I S ha rv
    refine ⟨_, .list ho hc hd hr, ?_⟩
    rw [List.mem_cons, not_or]
    exact ⟨sys_ne S ho (fun es ep z => by rw [hd] at z; cases z), ns⟩
  | _, _, _, .tup _ hs ha, r => by
    cases r
    obtain ⟨its, rv, ⟨o, ho, hc, n, hd⟩, _⟩ := I.tuple hs
    obtain ⟨as, hr, ns⟩ := DpXAll.reads I S ha rv
    exact ⟨_, .tuple ho hc hd hr, ns⟩
  | _, _, _, .dct _ hk ha, r => by
    cases r
    obtain ⟨_, lo, vs, rel, dd⟩ := dk_of I.hok hk
    have rv : Vals _ (vs.map (·.2)) := kv_vals rel
    obtain ⟨as, hr, ns⟩ := DpXAll.reads I S ha rv
    refine ⟨_, PyProof.V.reads_dictOf (enc := encK) (fun k key z => ?_) dd (pairs_read rel hr), ?_⟩
    · have r := keyIs_rel (show keyIs k key = true from z)
      cases k with
      | inl i => obtain ⟨t, rfl⟩ := r; exact .int i t
      | inr x => obtain ⟨t, rfl⟩ := r; exact .str x t
    · rw [List.mem_cons, not_or]
      exact ⟨fun z => by rw [← z] at lo; simp at lo, ns⟩
theorem DpXAll.reads (I : Inv X pins σ H s) (S : SysD s.heap) : ∀ {vs : List V} {ds : List PyData} {us : List Value}, DpXAll X.K N H vs ds → Vals vs us → ∃ as, ReadsAll s.heap us ds as ∧ sysModules ∉ as
  | _, _, _, .nil, r => by cases r; exact ⟨_, .nil, by simp⟩
  | _, _, _, .cons h1 h2, r => by
    cases r with
    | cons r1 r2 =>
      obtain ⟨as, q1, n1⟩ := DpX.reads I S h1 r1
      obtain ⟨bs, q2, n2⟩ := DpXAll.reads I S h2 r2
      exact ⟨_, .cons q1 q2, by rw [List.mem_append, not_or]; exact ⟨n1, n2⟩⟩
end
end

section
variable {X : Cx}
/-- data that is short enough to be shown -/
structure ShwX (d : PyData) : Prop where
  sh : d.showable = true
  dp : d.depth ≤ 8
  lf : d.leavesShort 25 = true
  wt : d.weight ≤ 100000
def reprX (K : PySem.W.Frag) : List V → Hp → VK → Prop := fun vs H Q => match vs with
  | [.ref a] => ∃ (N : Addr → Prop) (d : PyData), DpX K N H (.ref a) d ∧ ShwX d ∧ Q (.str d.shown) H
  | _ => False
theorem c_reprX (hA : X.A.guards = some []) (hu : X.A.units + 64 < cLine) (SM : SysD X.base) : CallR X (.builtin "repr") (reprX X.K) := by
  intro pins s σ H xs us Q I r h
  unfold reprX at h
  split at h
  · obtain ⟨N, d, hd, hw, q⟩ := h
    obtain ⟨u, rfl, ru⟩ := vals1 r
    obtain rfl : u = Value.ref _ := ru
    have S : SysD s.heap := by
      obtain ⟨o, es, ep, z1, z2⟩ := SM
      exact ⟨o, es, ep, I.bk _ _ z1, z2⟩
    obtain ⟨as, rd, ns⟩ := DpX.reads I S hd (u := Value.ref _) rfl
    refine repr_of_reads' rd hw.sh (fun _ => ns) hA (by have := hw.dp; omega) (fun _ _ e => e) (fun h' u tk hk => ?_) (by have := PyData.shown_le 25 (by omega) d hw.lf; have := hw.wt; have := sizeLine_eq; omega)
    exact ⟨.str d.shown, H, I.kept hk, ⟨u, rfl⟩, q⟩
  · exact h.elim
end
end LK

/-! methods of own classes under guards; what an instance answers to len, in, ==, !=, repr -/
namespace LK
open PySem PySem.Spec PyProof.Rows L2 Builtin
/-- a method and what it promises; its values may come by place or by name -/
structure HasM (P : Program) (w : World) (K : PySem.W.Frag) (mg : Str → Option Value) (base : Heap) (k : Nat) (C : Addr) (m : Str) (ps : List Str) (sp : Sp) : Prop where
  ex : ∃ f fd, FnG P w K mg base CX0 k f fd (("self" : Str) :: ps) sp ∧ Meth K C m f ∧ Binds K fd (("self" : Str) :: ps) [] ∧
    ∀ (s : Shared) (z : Value) (us : List Value), us.length = ps.length → BindsTo s fd ⟨[z], ps.zip us⟩ ((("self" : Str) :: ps).zip (z :: us)) ∧ BindsTo s fd ⟨[z], (ps.zip us).reverse⟩ ((("self" : Str) :: ps).zip (z :: us))
theorem HasM.up {P : Program} {w : World} {K : PySem.W.Frag} {mg : Str → Option Value} {base : Heap} {j k : Nat} {C : Addr} {m : Str} {ps : List Str} {sp : Sp} (F : HasM P w K mg base j C m ps sp) (h : j ≤ k) : HasM P w K mg base k C m ps sp := by
  obtain ⟨f, fd, a, b⟩ := F.ex
  exact ⟨f, fd, a.up h, b⟩
section
variable {X : Cx} {k : Nat} {C : Addr} {ps : List Str} {sp : Sp} {m : Str} {apos pos : Pos} {e o : Expr} {es : List Expr} {kws : List Keyword} {ta : TE} {t tk : TA} {pins : List (Addr × Obj)} {σ : L2.St} {H : Hp} {s : Shared} {a : Addr}
def uMeth (C : Addr) (m : Str) (sp : Sp) (ta : TE) (t : TA) : TE := fun σ H Q => ta σ H fun x H1 => match x with
  | .ref a => ∃ dx fs, H1 a = some (.ins C dx fs) ∧ fs.lookup m = none ∧ t σ H1 fun vs H2 => sp (.ref a :: vs) H2 Q E0
  | _ => False
/-- o.m(e, ..) -/
theorem pe_mH {pl : Sem Bool} (F : HasM X.prog X.w X.K X.mg X.base k C m ps sp) (c : Cls X.K C) (hA : X.A.guards = some []) (hr : Room k X.A) (ho : PE X o ta) (ha : PA X (e :: es) t)
    (st : starEach (e :: es) X.env = (false, eval e X.env) :: starEach es X.env := by rfl) (hpl : (backTo pos (starEach es X.env)).any (·.1) = false := by rfl)
    (ht : eval (.Call (.Attribute o m apos) (e :: es) [] pos) X.env = (do
      let ov ← eval o X.env
      standAt apos.atName
      let (f, first) ← holding [ov] (getMethod ov m pl)
      callWith pos f first (backTo pos (starEach (e :: es) X.env)) (backToKw pos (keywordEach [] X.env))) := by rfl) :
    PE X (.Call (.Attribute o m apos) (e :: es) [] pos) (uMeth C m sp ta t) := by
  obtain ⟨f, fd, F, hm, hb, _⟩ := F.ex
  constructor
  intro pins s σ H Q I w
  refine PySem.W.methodCall_KW (pl := pl) (thn (ho.run pins s σ H _ I w) fun u s1 z => ?_) ht
  obtain ⟨x, H1, I1, rx, q⟩ := z
  cases x with
  | ref a =>
    obtain ⟨dx, fs, ea, l, q⟩ := q
    obtain rfl : u = Value.ref a := rx
    refine getmeth_ok I1 ea c hm l (PySem.W.callWith_K (first := [.ref a]) (h₀ := X.base) I.ok.mod.kin hm.kp (thn (ha.run pos pins s1 σ H1 _ I1 q) fun us s2 z => ?_) st hpl)
    obtain ⟨vs, H2, I2, r, q2⟩ := z
    refine ⟨I2.kIn, runG (us := .ref a :: us) (ws := .ref a :: us) (kw := []) (CX := CX0) (E := E0) F hA hr pass0 I2 (fun n => ?_) (vs := .ref a :: vs) (.cons rfl r) q2⟩
    have b := hb s2 (.ref a :: us) I2.kIn (by simpa using n)
    simpa using b
  | _ => exact q.elim
/-- o.m() -/
theorem pe_mH0 {pl : Sem Bool} (F : HasM X.prog X.w X.K X.mg X.base k C m [] sp) (c : Cls X.K C) (hA : X.A.guards = some []) (hr : Room k X.A) (ho : PE X o ta)
    (ht : eval (.Call (.Attribute o m apos) [] [] pos) X.env = (do
      let ov ← eval o X.env
      standAt apos.atName
      let (f, first) ← holding [ov] (getMethod ov m pl)
      callWith pos f first (backTo pos (starEach [] X.env)) (backToKw pos (keywordEach [] X.env))) := by rfl) :
    PE X (.Call (.Attribute o m apos) [] [] pos) (uMeth C m sp ta tNil) := by
  obtain ⟨f, fd, F, hm, hb, _⟩ := F.ex
  constructor
  intro pins s σ H Q I w
  refine PySem.W.methodCall_KW (pl := pl) (thn (ho.run pins s σ H _ I w) fun u s1 z => ?_) ht
  obtain ⟨x, H1, I1, rx, q⟩ := z
  cases x with
  | ref a =>
    obtain ⟨dx, fs, ea, l, q⟩ := q
    obtain rfl : u = Value.ref a := rx
    refine getmeth_ok I1 ea c hm l (PySem.W.callWith_K0 (first := [.ref a]) I1.kIn hm.kp ?_)
    refine runG (us := [.ref a]) (ws := [.ref a]) (kw := []) (CX := CX0) (E := E0) F hA hr pass0 I1 (fun n => ?_) (vs := [.ref a]) (.cons rfl .nil) q
    have b := hb s1 [.ref a] I1.kIn (by simpa using n)
    simpa using b
  | _ => exact q.elim
/-- o.m(k = v, ..), the names in the sequence of the parameters or turned round -/
theorem pe_mHK {pl : Sem Bool} {ks : List Str} {rv : Bool} (F : HasM X.prog X.w X.K X.mg X.base k C m ps sp) (c : Cls X.K C) (hA : X.A.guards = some []) (hr : Room k X.A) (ho : PE X o ta) (hk : PK X kws tk)
    (hks : (backToKw pos (keywordEach kws X.env)).filterMap (·.1) = ks := by rfl) (hord : (ks = ps ∧ rv = false) ∨ (ks = ps.reverse ∧ rv = true))
    (hall : (backToKw pos (keywordEach kws X.env)).all (·.1.isSome) = true := by rfl) (hpl : ((backTo pos (starEach [] X.env)).any (·.1) || (backToKw pos (keywordEach kws X.env)).any (·.1.isNone)) = false := by rfl)
    (ht : eval (.Call (.Attribute o m apos) [] kws pos) X.env = (do
      let ov ← eval o X.env
      standAt apos.atName
      let (f, first) ← holding [ov] (getMethod ov m pl)
      callWith pos f first (backTo pos (starEach [] X.env)) (backToKw pos (keywordEach kws X.env))) := by rfl) :
    PE X (.Call (.Attribute o m apos) [] kws pos) (uMeth C m sp ta fun σ H R => tk σ H fun zs H1 => zs.length = ps.length ∧ R (if rv = true then zs.reverse else zs) H1) := by
  obtain ⟨f, fd, F, hm, _, hb⟩ := F.ex
  constructor
  intro pins s σ H Q I w
  refine PySem.W.methodCall_KW (pl := pl) (thn (ho.run pins s σ H _ I w) fun u s1 z => ?_) ht
  obtain ⟨x, H1, I1, rx, q⟩ := z
  cases x with
  | ref a =>
    obtain ⟨dx, fs, ea, l, q⟩ := q
    obtain rfl : u = Value.ref a := rx
    refine getmeth_ok I1 ea c hm l (PySem.W.callWith_KW0 (first := [.ref a]) (h₀ := X.base) I.ok.mod.kin hm.kp hall (thn (hk.run pos pins s1 σ H1 _ I1 q) fun us s2 z => ?_) hpl)
    obtain ⟨zs, H2, I2, r, lz, q2⟩ := z
    refine ⟨I2.kIn, ?_⟩
    rw [hks]
    have lu : us.length = ps.length := r.length ▸ lz
    rcases hord with ⟨rfl, rfl⟩ | ⟨rfl, rfl⟩
    · exact runG (us := [.ref a]) (ws := .ref a :: us) (CX := CX0) (E := E0) F hA hr pass0 I2 (fun _ => (hb s2 (.ref a) us lu).1) (vs := .ref a :: zs) (.cons rfl r) q2
    · have lr : us.reverse.length = ps.length := by rw [List.length_reverse]; exact lu
      have b := (hb s2 (.ref a) us.reverse lr).2
      have ez : (ps.zip us.reverse).reverse = ps.reverse.zip us := by
        rw [List.zip_eq_zipWith, List.zip_eq_zipWith, List.reverse_zipWith lr.symm, List.reverse_reverse]
      rw [ez] at b
      exact runG (us := [.ref a]) (ws := .ref a :: us.reverse) (CX := CX0) (E := E0) F hA hr pass0 I2 (fun _ => b) (vs := .ref a :: zs.reverse) (.cons rfl r.reverse) q2
  | _ => exact q.elim

/-! ### what Python asks of an instance by itself -/
/-- a method called one deeper, by Python itself -/
theorem runG1 {f : Addr} {fd : FuncData} {Q : VK} {us : List Value} {vs : List V} (F : FnG X.prog X.w X.K X.mg X.base CX0 k f fd ps sp) (hA : X.A.guards = some []) (hr : Room (k + 1) X.A) (hb : Binds X.K fd ps []) (I : Inv X pins σ H s) (r : Vals vs us)
    (h : sp vs H Q E0) : wpAny (model X.prog X.w) X.A.in1 (call (.ref f) us) (EP X pins σ Q) X.xe s := by
  have n : us.length = ps.length := r.length ▸ F.len vs H Q E0 h
  have b := hb s us I.kIn (by simpa using n)
  simp only [List.append_nil] at b
  refine wpAny_call (codeAny_mono (F.run X.A.in1 hA X.stack s H ⟨us, []⟩ us vs Q E0 hr.in1 I.env0.in1 b r h) ?_)
  rintro (er | fl) s' z
  · exact pass0 pins σ H s er s' I z
  · cases fl
    case ret => exact I.after z
    all_goals exact z.elim
theorem inst_at {C dx : Addr} {fs : List (Str × V)} (I : Inv X pins σ H s) (e : H a = some (.ins C dx fs)) : ∃ (ox : Obj) (od : Option Obj), PySem.W.InstAt s.heap a ox C od := by
  obtain ⟨mA, O, _⟩ := ins_get I.hok e
  obtain ⟨od, J, _⟩ := O.look
  exact ⟨_, _, J⟩
/-- len(o) -/
def lenI (C : Addr) (sp : Sp) : List V → Hp → VK → Prop := fun vs H Q => match vs with
  | [.ref a] => ∃ dx fs, H a = some (.ins C dx fs) ∧ sp [.ref a] H (fun v H' => ∃ n : Nat, v = .int n ∧ n < 2 ^ 62 ∧ Q (.int n) H') E0
  | _ => False
theorem c_lenI (F : HasM X.prog X.w X.K X.mg X.base k C "__len__" [] sp) (hA : X.A.guards = some []) (hr : Room (k + 1) X.A) : CallR X (.builtin "len") (lenI C sp) := by
  intro pins s σ H xs us Q I r h
  unfold lenI at h
  split at h
  · rename_i a
    obtain ⟨dx, fs, ea, q⟩ := h
    obtain ⟨f, fd, F, hm, hb, _⟩ := F.ex
    obtain ⟨u, rfl, ru⟩ := vals1 r
    obtain rfl : u = Value.ref a := ru
    obtain ⟨ox, od, J⟩ := inst_at I ea
    obtain ⟨m', hF⟩ := I.fr
    refine PySem.W.len_K hF I.ok.mod.kin J hm.at_ hm.fn (wpAny_mono (runG1 (us := [.ref a]) (vs := [.ref a]) F hA hr hb I (.cons rfl .nil) q) ?_ fun _ _ z => z)
    rintro v s' ⟨y, H', I', ry, n, rfl, hn, q'⟩
    obtain ⟨t, rfl⟩ := ry
    exact ⟨⟨by omega, by omega⟩, .int n, H', I'.tok _, ⟨_, rfl⟩, q'⟩
  · exact h.elim
/-- x in o, x not in o -/
def inI (C : Addr) (sp : Sp) (neg : Bool) : R2 := fun x y H Q => match y with
  | .ref a => ∃ dx fs, H a = some (.ins C dx fs) ∧ sp [.ref a, x] H (fun v H' => ∃ b : Bool, v = .bl b ∧ Q (.bl (if neg then !b else b)) H') E0
  | _ => False
theorem o_inI {p : Str} (F : HasM X.prog X.w X.K X.mg X.base k C "__contains__" [p] sp) (hA : X.A.guards = some []) (hr : Room k X.A) : OpR X (compareOp .In) (inI C sp false) := by
  intro pins s σ H x y v u Q I rx ry h
  unfold inI at h
  split at h
  · rename_i a
    obtain ⟨dx, fs, ea, q⟩ := h
    obtain ⟨f, fd, F, hm, hb, _⟩ := F.ex
    obtain rfl : u = Value.ref a := ry
    obtain ⟨ox, od, J⟩ := inst_at I ea
    obtain ⟨m', hF⟩ := I.fr
    refine PySem.W.in_K hF I.ok.mod.kin J hm.at_ hm.fn (wpAny_mono (runG (us := [.ref a, v]) (ws := [.ref a, v]) (kw := []) (CX := CX0) (E := E0) F hA hr pass0 I (fun n => ?_) (vs := [.ref a, x]) (.cons rfl (.cons rx .nil)) q) ?_ fun _ _ z => z)
    · have b := hb s [.ref a, v] I.kIn (by simpa using n)
      simpa using b
    · rintro r s' ⟨y, H', I', ry, b, rfl, q'⟩
      obtain rfl : r = Value.bool b := ry
      exact wpAny_truthy_bool ⟨.bl b, H', I', rfl, q'⟩
  · exact h.elim
/-- the type of a value by which the classes are compared -/
def tyK : V → Value
  | .non => .type "NoneType"
  | .bl _ => .type "bool"
  | .int _ => .type "int"
  | .str _ => .type "str"
  | .byt _ => .type "bytes"
  | .flt _ => .type "float"
  | .ty _ => .type "type"
  | .ref _ => .none
end
end LK

/-! == and != of an instance whose class has an __eq__ of its own, beside any value -/
namespace LK
open PySem PySem.Spec PyProof.Rows L2 Builtin
/-- what != asks of the class -/
structure EqC (K : PySem.W.Frag) (C : Addr) : Prop where
  ne : PySem.W.findIn K (.ref C) "__ne__" = some (some (.builtin "object.__ne__"))
  ob : PySem.W.mroIn K C (.type "object") = some true
section
variable {prog : Program} {w : World} {A : Around} {E : Value → Shared → Prop} {s : Shared} {K : PySem.W.Frag} {x C f : Addr} {ox : Obj} {od : Option Obj} {u t : Value}
/-- the type's answer to __ne__ is object's own: it asks __eq__ and turns the answer -/
theorem tryNe (X : K.In s.heap) (J : PySem.W.InstAt s.heap x ox C od) (c : EqC K C) (hs : PySem.W.findIn K (.ref C) "__eq__" = some (some (.ref f))) (hf : PySem.W.isFn K (.ref f) = true) (hu : A.in1.units < cLine) {Q : Option Value → Shared → Prop}
    (h : wpAny (model prog w) A.in1 (call (.ref f) [.ref x, u]) (fun v s' => ∃ b, v = .bool b ∧ Q (some (.bool (!b))) s') E s) : wpAny (model prog w) A (tryCompare (.ref x) "__ne__" u) Q E s := by
  have body : wpAny (model prog w) A (call (.builtin "object.__ne__") [.ref x, u]) (fun v s' => ∃ b, v = .bool (!b) ∧ Q (some (.bool (!b))) s') E s := by
    refine wpAny_call (codeAny_call_builtin F.cmp_object.ne.plain F.cmpEntry_ne (PySem.W.check_slot F.cmpKind_ne F.cmpSplit_ne (J.type.andThen (PySem.W.looks_mroIn X c.ob)) (F.cmpArgs_ne _ _) ?_))
    unfold Builtin.«object.__ne__»
    refine wpAny_bind (m := slotArgs "__ne__" 1 _) (wpAny_pure (wpAny_bind (wpAny_cRoomFor hu ?_)))
    refine wpAny_bind (m := callSpecialIfBound? (.ref x) "__eq__" [u]) (PySem.W.ifBound_K X J hs hf (wpAny_mono h ?_ fun _ _ z => z))
    rintro v s' ⟨b, rfl, q⟩
    exact wpAny_bind (wpAny_truthy_bool (wpAny_pure ⟨b, rfl, q⟩))
  have go : wpAny (model prog w) A (call (.builtin "object.__ne__") ([.ref x] ++ [u]) >>= fun v => pure (some v)) (fun r s' => ∃ b, r = some (.bool (!b)) ∧ Q (some (.bool (!b))) s') E s :=
    wpAny_bind (wpAny_mono body (fun _ _ ⟨b, e, q⟩ => wpAny_pure ⟨b, by rw [e], q⟩) fun _ _ z => z)
  unfold tryCompare
  refine wpAny_bind (m := callSpecialIfBound? (.ref x) "__ne__" [u]) (wpAny_mono (Q := fun r s' => ∃ b, r = some (.bool (!b)) ∧ Q (some (.bool (!b))) s') ?_ (fun r s' ⟨b, e, q⟩ => by subst e; exact wpAny_pure q) fun _ _ z => z)
  simp only [callSpecialIfBound?, bindSpecialIfBound?]
  refine wpAny_holding (wpAny_bind (wpAny_bind (wpAny_bind (J.type.here ((PySem.W.looks_findIn X c.ne).here (wpAny_bind (wpAny_askSetting (wpAny_ite ?_))))))))
  have bnd : ∀ {R : Value × List Value → Shared → Prop} {E' : Value → Shared → Prop}, R (.builtin "object.__ne__", [.ref x]) s → wpAny (model prog w) A (bindSpecial (.builtin "object.__ne__") (.ref x)) R E' s := fun q => wpAny_of_eq (F.cmp_object.ne.bind _) q
  split
  · exact wpAny_bind (bnd (wpAny_pure go))
  · exact wpAny_tryCatch (wpAny_bind (bnd (wpAny_pure go)))
theorem rcNe (X : K.In s.heap) (J : PySem.W.InstAt s.heap x ox C od) (c : EqC K C) (hs : PySem.W.findIn K (.ref C) "__eq__" = some (some (.ref f))) (hf : PySem.W.isFn K (.ref f) = true) (hu : A.in1.units < cLine)
    (hb : PySem.W.Looks (model prog w) s.heap (typeOf u) t) (hn : PySem.W.notFirst K C t = true) {Q : Value → Shared → Prop}
    (h : wpAny (model prog w) A.in1 (call (.ref f) [.ref x, u]) (fun v s' => ∃ b, v = .bool b ∧ Q (.bool (!b)) s') E s) : wpAny (model prog w) A (richCompare .NotEq (.ref x) u) Q E s := by
  have hu0 : A.units < cLine := Nat.lt_of_succ_lt (show A.units + 1 < cLine from hu)
  have one : ∀ {R : Option Value → Shared → Prop}, (∀ (b : Bool) s', Q (.bool (!b)) s' → R (some (.bool (!b))) s') → wpAny (model prog w) A (tryCompare (.ref x) "__ne__" u) R E s := fun k =>
    tryNe X J c hs hf hu (wpAny_mono h (fun _ _ ⟨b, e, q⟩ => ⟨b, e, k b _ q⟩) fun _ _ z => z)
  unfold richCompare
  rw [oneThing_ref]
  refine wpAny_holding (wpAny_bind (wpAny_cRoomFor hu0 ?_))
  refine wpAny_bind (J.type.here (wpAny_bind (hb.here ?_)))
  by_cases e : (Value.ref C != t) = true
  · have su : PySem.W.subIn K t (.ref C) = some false := by
      rcases Bool.or_eq_true_iff.mp hn with z | z
      · rw [beq_iff_eq.mp z] at e
        simp at e
      · exact beq_iff_eq.mp z
    rw [if_pos e]
    refine wpAny_bind ((PySem.W.looks_subIn X su).here ?_)
    simp only [Bool.false_eq_true, if_false]
    exact wpAny_bind (one fun b s' q => wpAny_pure q)
  · rw [if_neg e]
    refine wpAny_bind (wpAny_pure ?_)
    simp only [Bool.false_eq_true, if_false]
    exact wpAny_bind (one fun b s' q => wpAny_pure q)
end
section
variable {X : Cx} {k : Nat} {C : Addr} {sp : Sp} {p : Str}
/-- o == y, o != y -/
def eqI (K : PySem.W.Frag) (C : Addr) (sp : Sp) (neg : Bool) : R2 := fun x y H Q => match x with
  | .ref a => ∃ dx fs t, H a = some (.ins C dx fs) ∧ TyX K H y t ∧ PySem.W.notFirst K C t = true ∧ sp [.ref a, y] H (fun v H' => ∃ b : Bool, v = .bl b ∧ Q (.bl (if neg then !b else b)) H') E0
  | _ => False
theorem o_eqI (F : HasM X.prog X.w X.K X.mg X.base k C "__eq__" [p] sp) (hA : X.A.guards = some []) (hr : Room k X.A) : OpR X (compareOp .Eq) (eqI X.K C sp false) := by
  intro pins s σ H x y v u Q I rx ry h
  unfold eqI at h
  split at h
  · rename_i a
    obtain ⟨dx, fs, t, ea, ty, hn, q⟩ := h
    obtain ⟨f, fd, F, hm, hb, _⟩ := F.ex
    obtain rfl : v = Value.ref a := rx
    obtain ⟨ox, od, J⟩ := inst_at I ea
    obtain ⟨m', hF⟩ := I.fr
    obtain ⟨P, Z, hp, _⟩ := kit_of I ry ty
    refine PySem.W.cmp_K (op := .Eq) (tb := t) hr.units0 hF I.ok.mod.kin J (Z.ty _ _ I.kIn hp) hn hm.at_ hm.fn (wpAny_mono (runG (us := [.ref a, u]) (ws := [.ref a, u]) (kw := []) (CX := CX0) (E := E0) F hA hr pass0 I (fun n => ?_) (vs := [.ref a, y]) (.cons rfl (.cons ry .nil)) q) ?_ fun _ _ z => z)
    · have b := hb s [.ref a, u] I.kIn (by simpa using n)
      simpa using b
    · rintro r s' ⟨z, H', I', rz, b, rfl, q'⟩
      obtain rfl : r = Value.bool b := rz
      exact ⟨.bl b, H', I', rfl, q'⟩
  · exact h.elim
theorem o_neI (F : HasM X.prog X.w X.K X.mg X.base k C "__eq__" [p] sp) (c : EqC X.K C) (hA : X.A.guards = some []) (hr : Room (k + 1) X.A) : OpR X (compareOp .NotEq) (eqI X.K C sp true) := by
  intro pins s σ H x y v u Q I rx ry h
  unfold eqI at h
  split at h
  · rename_i a
    obtain ⟨dx, fs, t, ea, ty, hn, q⟩ := h
    obtain ⟨f, fd, F, hm, hb, _⟩ := F.ex
    obtain rfl : v = Value.ref a := rx
    obtain ⟨ox, od, J⟩ := inst_at I ea
    obtain ⟨P, Z, hp, _⟩ := kit_of I ry ty
    refine rcNe I.kIn J c hm.at_ hm.fn (hr.in1).units0 (Z.ty _ _ I.kIn hp) hn (wpAny_mono (runG1 (us := [.ref a, u]) (vs := [.ref a, y]) F hA hr hb I (.cons rfl (.cons ry .nil)) q) ?_ fun _ _ z => z)
    rintro r s' ⟨z, H', I', rz, b, rfl, q'⟩
    exact ⟨b, rz, .bl (!b), H', I', rfl, q'⟩
  · exact h.elim
end
end LK

/-! {x!r} of nested data in an f-string; repr of an instance -/
namespace LK
open PySem PySem.Spec PyProof.Rows L2 Builtin
section
variable {X : Cx} {e : Expr} {te : TE} {pos : Pos} {k : Nat} {C : Addr} {sp : Sp}
/-- {e!r}, e a list or tuple of data -/
def tFmtD (K : PySem.W.Frag) (te : TE) : TE := fun σ H Q => te σ H fun x H1 => match x with
  | .ref a => ∃ d, Dp K H1 (.ref a) d ∧ Shw d ∧ d.shown.length ≤ sizeLine ∧ Q (.str d.shown) H1
  | .str y => (reprText y).length ≤ sizeLine ∧ Q (.str (reprText y)) H1
  | _ => False
theorem pe_fmtD (hA : X.A.guards = some []) (hu : X.A.units + 64 < cLine) (he : PE X e te) : PE X (.FormattedValue e 114 none pos) (tFmtD X.K te) := by
  constructor
  intro pins s σ H Q I w
  refine wpAny_FormattedValue_repr (thn (he.run pins s σ H _ I w) fun v s1 z => ?_)
  obtain ⟨x, H1, I1, r1, q⟩ := z
  cases x with
  | ref a =>
    obtain ⟨d, hd, hw, hl, q⟩ := q
    obtain rfl : v = Value.ref a := r1
    obtain ⟨as, rd⟩ := Dp.reads I1 d _ (Value.ref a) hd rfl
    have dp := hw.dp
    refine pyReprObj_of_reads rd hw.sh (fun z => (hw.nd z).elim) hA (by omega) (fun _ _ e => e) (fun h' u tk hk => ?_) hl
    have J := I1.kept (t' := tk) hk
    exact wpAny_formatField_str ⟨.str d.shown, H1, J, ⟨_, rfl⟩, q⟩ ⟨.str d.shown, H1, J.tok _, ⟨_, rfl⟩, q⟩ hl
  | str y =>
    obtain ⟨hl, q⟩ := q
    obtain ⟨t, rfl⟩ := r1
    exact pyReprObj_str (wpAny_formatField_str ⟨.str (reprText y), H1, I1.tok _, ⟨_, rfl⟩, q⟩ ⟨.str (reprText y), H1, I1.tok _, ⟨_, rfl⟩, q⟩ hl) hl
  | _ => exact q.elim
/-- repr(o) -/
def reprI (C : Addr) (sp : Sp) : List V → Hp → VK → Prop := fun vs H Q => match vs with
  | [.ref a] => ∃ dx fs, H a = some (.ins C dx fs) ∧ sp [.ref a] H (fun v H' => ∃ y : Str, v = .str y ∧ Q (.str y) H') E0
  | _ => False
theorem c_reprI (F : HasM X.prog X.w X.K X.mg X.base k C "__repr__" [] sp) (hA : X.A.guards = some []) (hr : Room (k + 1) X.A) : CallR X (.builtin "repr") (reprI C sp) := by
  intro pins s σ H xs us Q I r h
  unfold reprI at h
  split at h
  · rename_i a
    obtain ⟨dx, fs, ea, q⟩ := h
    obtain ⟨f, fd, F, hm, hb, _⟩ := F.ex
    obtain ⟨u, rfl, ru⟩ := vals1 r
    obtain rfl : u = Value.ref a := ru
    obtain ⟨ox, od, J⟩ := inst_at I ea
    obtain ⟨m', hF⟩ := I.fr
    refine PySem.W.repr_K (hr.in1).units0 hF I.ok.mod.kin J hm.at_ hm.fn (wpAny_mono (runG1 (us := [.ref a]) (vs := [.ref a]) F hA hr hb I (.cons rfl .nil) q) ?_ fun _ _ z => z)
    rintro v s' ⟨z, H', I', rz, y, rfl, q'⟩
    obtain ⟨t, rfl⟩ := rz
    exact ⟨.str y, H', I', ⟨t, rfl⟩, q'⟩
  · exact h.elim
end
end LK

/-! set(text), sorted of it -/
namespace LK
open PySem PySem.Spec PyProof.Rows L2 PySem.Froz
open PySem.W (EachIs dataLe AllAlike Sortable)
/-- D holds the signs of l; its slots rise; what the order rests on -/
structure SgD (P : Program) (w : World) (D : SD) (l : List Nat) : Prop where
  tx : TxOk P w D (l.map sing)
  ris : Ris D.2.2.place.toList
  led : w.params.followText "set-order" = true ∨ D.2.2.led = true
section
variable {P : Program} {w : World}
theorem tail_ris {ep : Nat} {es1 : Array (Int × Value)} {t2 : SetTable} {wd : Bool} (r : Ris t2.place.toList) : Ris (tailTx ep es1 t2 wd).2.2.place.toList := by
  unfold tailTx; split
  · exact relayAll_ris _ _ _
  · exact r
theorem tail_led {ep : Nat} {es1 : Array (Int × Value)} {t2 : SetTable} {wd : Bool} : (tailTx ep es1 t2 wd).2.2.led = t2.led := by
  unfold tailTx; split
  · exact relayAll_led _ _ _
  · rfl
theorem SgD.add {D : SD} {l : List Nat} (S : SgD P w D l) (c : Nat) (tk : Tok) : SgD P w (addTx (hashStr w (sing c)) (.str (sing c) tk) D) (c :: l) := by
  refine ⟨add_ok tk S.tx, tail_ris ?_, ?_⟩
  · have r := layNew_ris D.2.2 D.1 (hashStr w (sing c)) (.str (sing c) tk) S.ris
    split <;> exact r
  · rcases S.led with h | h
    · exact .inl h
    · refine .inr (tail_led.trans ?_)
      have r : (layNew D.2.2 D.1 (hashStr w (sing c)) (.str (sing c) tk)).2.1.led = true := (layNew_led D.2.2 D.1 _ _).trans h
      split <;> exact r
theorem SgD.run : ∀ (cs : List Nat) (tk : Tok) (D : SD) (l : List Nat), SgD P w D l → SgD P w (runD w cs tk D) (cs.reverse ++ l)
  | [], _, _, _, S => S
  | c :: cs, tk, D, l, S => by
    have r := SgD.run cs (tk + 2) _ (c :: l) (S.add c tk)
    rw [List.reverse_cons, List.append_assoc]
    exact r
/-- what is known of the set of the signs of l that lies at a -/
def SgSet (P : Program) (w : World) (a : Addr) (l : List Nat) (h : Heap) : Prop := ∃ D : SD, h.get? a = some (sObj "set" D) ∧ SgD P w D l
def SetS (P : Program) (w : World) (a : Addr) (l : List Nat) : HO := .ext (SgSet P w a l)
theorem setS_ok {H : Hp} {h : Heap} {a : Addr} {l : List Nat} (S : SgSet P w a l h) : ObjOk P w H h a (SetS P w a l) := by
  obtain ⟨D, e, g⟩ := S
  exact ⟨⟨D, e, g⟩, ⟨_, e⟩, fun h1 h2 ⟨D', e', g'⟩ k => ⟨D', k _ e', g'⟩⟩

variable {A : Around} {E : Value → Shared → Prop} {s : Shared}
abbrev set0 (w : World) : Obj := sObj "set" (#[], 0, .fresh 0 0 (!w.params.followText "set-order"))
theorem new_set1 (a : Value) {R : Value → Shared → Prop} (h : R (.ref s.heap.objs.size) { s with heap := s.heap.push (set0 w) }) :
    codeAny (model P w) A (.call (.builtin "set.__new__") ⟨[.type "set", a], []⟩) (wants R E) s := by
  refine codeAny_of_tree (show wpAny _ A.in1 (checkBuiltinCall "set.__new__" ⟨[.type "set", a], []⟩ >>= fun _ => again (.builtin "set.__new__" ⟨[.type "set", a], []⟩)) _ _ s from ?_)
  refine wpAny_bind (wpAny_of_eq (F.newCall_set_1 a) (wpAny_pure ⟨plainId_quiet F.plain_set_new _, codeAny_builtin F.entry_set_new ?_⟩))
  have hsub := sub_set_self
  rw [Around.under_plainId F.plain_set_new _]; unfold Builtin.«set.__new__» Builtin.Frozenset.newClass
  obtain ⟨hp, g, d, tk, os⟩ := s; dsimp only
  wp_walk
  refine wpAny_askSetting (wpAny_pure ?_); dsimp only; simp only [newObj]
  exact wpAny_bind (wpAny_alloc (wpAny_pure (wpAny_pure h)))
theorem init_text {Q : Value → Shared → Prop} (hh : A.handled = none) (x : Str) (t : Tok) (ha : x.cps.all (· < 128) = true) (nd : x.cps.toList.Nodup) (hl : x.cps.toList.length < scanBound)
    (hQ : ∀ h' tk, (∀ b o, s.heap.get? b = some o → h'.get? b = some o) → SgSet P w s.heap.objs.size x.cps.toList.reverse h' → Q (.ref s.heap.objs.size) { s with heap := h', toks := tk }) :
    wpAny (model P w) A.in1.in1 (Builtin.«set.__init__» ⟨[.ref s.heap.objs.size, .str x t], []⟩)
      (fun fin s' => match fin with | .done f => wants (fun r s₂ => r = .none ∧ Q (.ref s.heap.objs.size) s₂) E (.ok f) s' | .again c' => c'.quiet = true ∧ codeAny (model P w) A.in1 c' (wants (fun r s₂ => r = .none ∧ Q (.ref s.heap.objs.size) s₂) E) s')
      (fun e s' => wants (fun r s₂ => r = .none ∧ Q (.ref s.heap.objs.size) s₂) E (.error e) s') { s with heap := s.heap.push (set0 w) } := by
  have hS : (s.heap.push (set0 w)).get? s.heap.objs.size = some (set0 w) := Heap.get?_push_size _ rfl
  have f1 := PySem.F.sub_str_set
  have f2 := PySem.F.sub_str_frozenset
  have f3 : (Value.type "str" == Value.type "dict") = false := by decide
  unfold Builtin.«set.__init__» noKeywords Builtin.Frozenset.updateFrom
  generalize hPI : pyIter = PI
  wp_walk
  subst hPI
  refine wpAny_pyIter_ascii ha ?_
  refine wpAny_bind (wpAny_runValue ?_)
  have hz : (s.heap.push (set0 w)).objs.size = s.heap.objs.size + 1 := size_push' _ _
  have S0 : SgD P w (#[], 0, .fresh 0 0 (!w.params.followText "set-order")) [] := ⟨TxOk.nil rfl, List.Pairwise.nil, by
    show _ ∨ (!w.params.followText "set-order") = true
    cases w.params.followText "set-order" <;> simp⟩
  have ne : s.heap.objs.size ≠ (s.heap.push (set0 w)).objs.size := by rw [hz]; omega
  refine code_update (P := P) (w := w) (T := "set") (x := x) (u := t) ne (by exact hh) x.cps.toList 0 _ [] _ rfl (Heap.get?_push_of_some _ hS) (Heap.get?_push_size _ rfl) S0.tx (fun _ _ z => nomatch z) nd (by show 0 + x.cps.toList.length < scanBound; omega) ?_
  have R := S0.run x.cps.toList s.toks
  rw [List.append_nil] at R
  show wpAny _ _ _ _ _ _
  refine wpAny_pure ?_
  show wpAny _ _ (ret Value.none) _ _ _
  refine wpAny_pure ⟨rfl, hQ _ _ (fun b o e => ?_) ⟨_, ?_, R⟩⟩
  · have lt := Heap.lt_size e
    refine Heap.get?_push_of_some _ (Heap.get?_push_of_some _ ?_)
    unfold two
    have n2 : s.heap.objs.size ≠ b := Nat.ne_of_gt lt
    have n1 : (s.heap.push (set0 w)).objs.size ≠ b := by rw [hz]; exact Nat.ne_of_gt (Nat.lt_succ_of_lt lt)
    refine PySem.Heap.get?_update_of_ne _ n1 (PySem.Heap.get?_update_of_ne _ n2 ?_)
    exact Heap.get?_push_of_some _ (Heap.get?_push_of_some _ e)
  · refine Heap.get?_push_of_some _ (Heap.get?_push_of_some _ ?_)
    unfold two
    refine PySem.Heap.get?_update_of_ne _ (Ne.symm ne) (get_upd _ (Heap.get?_push_of_some _ hS) rfl)
theorem set_of_text {Q : Value → Shared → Prop} (hh : A.handled = none) (x : Str) (t : Tok) (ha : x.cps.all (· < 128) = true) (nd : x.cps.toList.Nodup) (hl : x.cps.toList.length < scanBound)
    (hQ : ∀ h' tk, (∀ b o, s.heap.get? b = some o → h'.get? b = some o) → SgSet P w s.heap.objs.size x.cps.toList.reverse h' → Q (.ref s.heap.objs.size) { s with heap := h', toks := tk }) :
    wpAny (model P w) A (call (.type "set") [.str x t]) Q E s := by
  obtain ⟨c0, tl0, m0⟩ := F.called_set.mro
  have m1 := F.called_set.made; have m2 := F.called_set.sub; have m3 := F.called_set.notType; have m4 := F.called_set.canCreate
  have m5 := F.typeCall_set_1 (.str x t)
  refine wpAny_call (codeAny_of_tree (show wpAny _ _ (callAny (.type "set") _) _ _ _ from wpAny_pure ⟨Code.quiet_builtin _ (by decide +kernel), codeAny_builtin F.entry_type_call ?_⟩))
  rw [Around.under_plain (weight_type_call_type "set" [.str x t] []) rfl]
  repeat (any_goals (first | assumption | wp_step))
  refine codeAny_mono (new_set1 (.str x t) (E := E) (R := fun obj s₁ => obj = .ref s.heap.objs.size ∧ s₁ = { s with heap := s.heap.push (set0 w) }) ⟨rfl, rfl⟩) fun r s₁ hr => ?_
  match r, hr with
  | .error e, hr => exact hr
  | .ok .next, hr => exact hr.elim
  | .ok .brk, hr => exact hr.elim
  | .ok .cont, hr => exact hr.elim
  | .ok (.ret obj), hr =>
    obtain ⟨rfl, rfl⟩ := hr
    have hS : (s.heap.push (set0 w)).get? s.heap.objs.size = some (set0 w) := Heap.get?_push_size _ rfl
    have hT : Shared.TypeIs { s with heap := s.heap.push (set0 w) } (.ref s.heap.objs.size) "set" := ⟨_, hS, rfl⟩
    have m6 := F.called_set.init.lookup; have m7 := F.called_set.init.bind (.ref s.heap.objs.size)
    repeat (any_goals (first | assumption | wp_step))
    refine codeAny_mono (codeAny_call_builtin (R := wants (fun r s₂ => r = .none ∧ Q (.ref s.heap.objs.size) s₂) E) F.called_set.init.plain F.entry_set_init (check_set_init_1 hT (init_text hh x t ha nd hl hQ))) fun r₂ s₂ hr₂ => ?_
    match r₂, hr₂ with
    | .error e, hr₂ => exact hr₂
    | .ok .next, hr₂ => exact hr₂.elim
    | .ok .brk, hr₂ => exact hr₂.elim
    | .ok .cont, hr₂ => exact hr₂.elim
    | .ok (.ret r), hr₂ =>
      obtain ⟨rfl, hq⟩ := hr₂
      repeat (any_goals (first | assumption | wp_step))
end
end LK

/-! texts, their parts -/
namespace LK
open PySem PySem.Spec PyProof.Rows L2
open scoped List

theorem sub_first {c : Nat} {suf rest : List Nat} : ∀ {pre : List Nat}, c ∉ pre → ((c :: suf) <+ pre ++ c :: rest ↔ suf <+ rest)
  | [], _ => by simp
  | d :: pre, h => by
    have hd : c ≠ d := fun e => h (by simp [e])
    have hp : c ∉ pre := fun e => h (by simp [e])
    rw [List.cons_append]
    constructor
    · intro s
      cases s with
      | cons _ s => exact (sub_first hp).mp s
      | cons_cons _ s => exact (hd rfl).elim
    · intro s
      exact ((sub_first hp).mpr s).cons _
theorem sub_none {c : Nat} {suf b : List Nat} (h : c ∉ b) : ¬ (c :: suf) <+ b := fun s => h (s.subset (by simp))
theorem getD_T (b : List Nat) (v : Nat) : (T b).cps.getD v 0 = b.getD v 0 := by
  show (b.toArray).getD v 0 = b.getD v 0
  simp [Array.getD_eq_getD_getElem?, List.getD_eq_getElem?_getD]
theorem find_step (b : List Nat) (c : Nat) (i : Nat) (h : i ≤ b.length) :
    (Txt.find3 (T b) (T [c]) (i : Int) = -1 ∧ ∀ suf, ¬ (c :: suf) <+ b.drop i) ∨
      ∃ j : Nat, Txt.find3 (T b) (T [c]) (i : Int) = (j : Int) ∧ i ≤ j ∧ j < b.length ∧ ∀ suf, (c :: suf) <+ b.drop i ↔ suf <+ b.drop (j + 1) := by
  have fi : fromIndex (T b).length (i : Int) = i := by
    unfold fromIndex
    rw [if_neg (by omega)]
    omega
  rcases StrLaws.find3_spec (T b) c (i : Int) with ⟨h1, h2⟩ | ⟨j, h1, h2, h3, h4, h5⟩
  · refine .inl ⟨h1, fun suf => sub_none fun hm => ?_⟩
    obtain ⟨v, hv, e⟩ := List.mem_iff_getElem.mp hm
    rw [List.length_drop] at hv
    refine h2 (i + v) (by rw [fi]; omega) (by rw [T_len]; omega) ?_
    rw [getD_T, List.getD_eq_getElem?_getD]
    rw [List.getElem_drop] at e
    rw [List.getElem?_eq_getElem (by omega)]
    exact e
  · rw [fi] at h2 h5
    rw [T_len] at h3
    refine .inr ⟨j, h1, h2, h3, fun suf => ?_⟩
    have hc : b[j] = c := by
      rw [getD_T, List.getD_eq_getElem?_getD, List.getElem?_eq_getElem h3] at h4
      exact h4
    have e : b.drop i = (b.drop i).take (j - i) ++ c :: b.drop (j + 1) := by
      conv => lhs; rw [← List.take_append_drop (j - i) (b.drop i)]
      congr 1
      rw [List.drop_drop, show i + (j - i) = j by omega, List.drop_eq_getElem_cons h3, hc]
    rw [e]
    refine sub_first fun hm => ?_
    obtain ⟨v, hv, e2⟩ := List.mem_iff_getElem.mp hm
    rw [List.length_take, List.length_drop] at hv
    refine h5 (i + v) (by omega) (by omega) ?_
    rw [List.getElem_take, List.getElem_drop] at e2
    rw [getD_T, List.getD_eq_getElem?_getD, List.getElem?_eq_getElem (by omega)]
    exact e2
end LK
namespace LK
open PySem PySem.Spec PyProof.Rows L2
open scoped List
/-! ### all parts -/
/-- each part once -/
def DS : List Nat → List (List Nat)
  | [] => [[]]
  | c :: s => (DS s).filter (fun x => decide (x.head? ≠ some c)) ++ (DS s).map (c :: ·)
theorem mem_DS : ∀ {s x : List Nat}, x ∈ DS s ↔ x <+ s
  | [], x => by simp [DS]
  | c :: s, x => by
    unfold DS
    simp only [List.mem_append, List.mem_filter, List.mem_map, decide_eq_true_eq]
    constructor
    · rintro (⟨h, _⟩ | ⟨y, h, rfl⟩)
      · exact (mem_DS.mp h).cons _
      · exact (mem_DS.mp h).cons_cons _
    · intro h
      cases h with
      | cons _ h =>
        by_cases e : x.head? = some c
        · cases x with
          | nil => cases e
          | cons d x =>
            obtain rfl : d = c := Option.some.inj e
            exact .inr ⟨x, mem_DS.mpr ((List.sublist_cons_self _ _).trans h), rfl⟩
        · exact .inl ⟨mem_DS.mpr h, e⟩
      | cons_cons _ h => exact .inr ⟨_, mem_DS.mpr h, rfl⟩
theorem nodup_DS : ∀ s : List Nat, (DS s).Nodup
  | [] => by simp [DS]
  | c :: s => by
    unfold DS
    refine List.nodup_append.mpr ⟨(nodup_DS s).filter _, ?_, ?_⟩
    · exact List.Pairwise.map _ (fun a b h e => h (List.cons.inj e).2) (nodup_DS s)
    · intro a ha b hb e
      subst e
      obtain ⟨_, h1⟩ := List.mem_filter.mp ha
      obtain ⟨y, _, rfl⟩ := List.mem_map.mp hb
      simp at h1
def NN (s : List Nat) : Int := (DS s).length
def BB (s : List Nat) (d : Nat) : Int := ((DS s).filter fun x => decide (x.head? = some d)).length
theorem NN_nil : NN [] = 1 := rfl
theorem BB_nil (d : Nat) : BB [] d = 0 := by simp [BB, DS]
theorem part_len (l : List (List Nat)) (c : Nat) : (l.filter fun x => decide (x.head? ≠ some c)).length + (l.filter fun x => decide (x.head? = some c)).length = l.length := by
  induction l with
  | nil => rfl
  | cons x l ih =>
    by_cases e : x.head? = some c
    · simp [e] at ih ⊢; omega
    · simp [e] at ih ⊢; omega
theorem NN_cons (c : Nat) (s : List Nat) : NN (c :: s) = 2 * NN s - BB s c := by
  have := part_len (DS s) c
  unfold NN BB
  rw [DS, List.length_append, List.length_map]
  omega
theorem BB_cons (c : Nat) (s : List Nat) (d : Nat) : BB (c :: s) d = if d = c then NN s else BB s d := by
  unfold BB NN
  rw [DS, List.filter_append, List.length_append]
  by_cases e : d = c
  · subst e
    rw [if_pos rfl]
    have h1 : ((DS s).filter (fun x => decide (x.head? ≠ some d))).filter (fun x => decide (x.head? = some d)) = [] := by
      rw [List.filter_filter, List.filter_eq_nil_iff]
      intro a _
      simp
    have h2 : ((DS s).map (d :: ·)).filter (fun x => decide (x.head? = some d)) = (DS s).map (d :: ·) := by
      rw [List.filter_eq_self]
      intro a ha
      obtain ⟨y, _, rfl⟩ := List.mem_map.mp ha
      simp
    rw [h1, h2, List.length_map]
    simp
  · rw [if_neg e]
    have h1 : ((DS s).filter (fun x => decide (x.head? ≠ some c))).filter (fun x => decide (x.head? = some d)) = (DS s).filter (fun x => decide (x.head? = some d)) := by
      rw [List.filter_filter]
      refine List.filter_congr fun x _ => ?_
      by_cases z : x.head? = some d
      · simp [z, e]
      · simp [z]
    have h2 : ((DS s).map (c :: ·)).filter (fun x => decide (x.head? = some d)) = [] := by
      rw [List.filter_eq_nil_iff]
      intro a ha
      obtain ⟨y, _, rfl⟩ := List.mem_map.mp ha
      have : ¬ c = d := fun z => e z.symm
      simp [this]
    rw [h1, h2]
    simp
theorem NN_of {s : List Nat} {ks : List (List Nat)} (nd : ks.Nodup) (h : ∀ x, x ∈ ks ↔ x <+ s) : (ks.length : Int) = NN s := by
  have := ((List.perm_ext_iff_of_nodup nd (nodup_DS s)).mpr fun x => (h x).trans mem_DS.symm).length_eq
  unfold NN; omega
theorem NN_rev (s : List Nat) : NN s.reverse = NN s := by
  have nd : ((DS s).map List.reverse).Nodup := List.Pairwise.map _ (fun a b h e => h (List.reverse_inj.mp e)) (nodup_DS s)
  rw [← NN_of nd (s := s.reverse) ?_, List.length_map]
  · rfl
  · intro x
    rw [List.mem_map]
    constructor
    · rintro ⟨y, h, rfl⟩
      exact List.reverse_sublist.mpr (mem_DS.mp h)
    · intro h
      refine ⟨x.reverse, mem_DS.mpr ?_, List.reverse_reverse x⟩
      rw [← List.reverse_reverse s]
      exact List.reverse_sublist.mpr h
theorem DS_le : ∀ s : List Nat, (DS s).length ≤ 2 ^ s.length
  | [] => by simp [DS]
  | c :: s => by
    have h := DS_le s
    have h2 : ((DS s).filter (fun x => decide (x.head? ≠ some c))).length ≤ (DS s).length := List.length_filter_le _ _
    rw [DS, List.length_append, List.length_map, List.length_cons, Nat.pow_succ]
    omega
end LK
namespace LK
open PySem PySem.Spec PyProof.Rows L2
open scoped List
open PySem.W (dataLe sortLe sortLe_total keyToks)
/-! ### the two ways to sort -/
abbrev tl (a b : List Nat) : Bool := itemOrd.blt (.inr a) (.inr b)
theorem leL_iff (a b : List Nat) : dataLe false encL a b = true ↔ a.length ≤ b.length := by
  show (!(lexLt itemOrd [.inl (b.length : Int)] [.inl (a.length : Int)])) = true ↔ _
  have : lexLt itemOrd [.inl (b.length : Int)] [.inl (a.length : Int)] = decide ((b.length : Int) < a.length) := by
    show (decide ((b.length : Int) < a.length) || (!decide ((a.length : Int) < b.length) && false)) = _
    simp
  rw [this, Bool.not_eq_true', decide_eq_false_iff_not]
  omega
theorem leT_eq (a b : List Nat) : dataLe false encT a b = !tl b a := by
  show (!(lexLt itemOrd [.inr b] [.inr a])) = _
  show (!(tl b a || (!tl a b && false))) = _
  simp
theorem leP_iff (a b : List Nat) : dataLe false encP a b = true ↔ a.length < b.length ∨ (a.length = b.length ∧ dataLe false encT a b = true) := by
  rw [leT_eq]
  show (!(decide ((1:Int) < 1) || (!decide ((1:Int) < 1) && (decide ((b.length : Int) < a.length) || (!decide ((a.length : Int) < b.length) && (decide ((1:Int) < 1) || (!decide ((1:Int) < 1) &&
    (tl b a || (!tl a b && (decide ((0:Int) < 0) || (!decide ((0:Int) < 0) && false)))))))))))  = true ↔ _
  have d1 : decide ((1:Int) < 1) = false := by decide
  have d0 : decide ((0:Int) < 0) = false := by decide
  rw [d1, d0]
  have e1 : decide ((b.length : Int) < a.length) = decide (b.length < a.length) := by
    by_cases h : b.length < a.length
    · rw [decide_eq_true h, decide_eq_true (by omega)]
    · rw [decide_eq_false h, decide_eq_false (by omega)]
  have e2 : decide ((a.length : Int) < b.length) = decide (a.length < b.length) := by
    by_cases h : a.length < b.length
    · rw [decide_eq_true h, decide_eq_true (by omega)]
    · rw [decide_eq_false h, decide_eq_false (by omega)]
  rw [e1, e2]
  by_cases h1 : b.length < a.length
  · have h2 : ¬ a.length < b.length := by omega
    have h3 : ¬ a.length = b.length := by omega
    simp [h1, h2, h3]
  · by_cases h2 : a.length < b.length
    · simp [h1, h2]
    · have h3 : a.length = b.length := by omega
      simp [h1, h2, h3]
theorem leT_anti {a b : List Nat} (h1 : dataLe false encT a b = true) (h2 : dataLe false encT b a = true) : a = b := by
  rw [leT_eq, Bool.not_eq_true'] at h1 h2
  have := itemOrd.total (.inr a) (.inr b) h2 h1
  exact Sum.inr.inj this
theorem leP_anti {a b : List Nat} (h1 : dataLe false encP a b = true) (h2 : dataLe false encP b a = true) : a = b := by
  rcases (leP_iff a b).mp h1 with h1 | ⟨_, h1⟩ <;> rcases (leP_iff b a).mp h2 with h2 | ⟨_, h2⟩
  · omega
  · omega
  · omega
  · exact leT_anti h1 h2
theorem srt (k : List Nat → PyData) (ks : List (List Nat)) : (ks.mergeSort (dataLe false k)).Pairwise fun a b => dataLe false k a b = true :=
  List.pairwise_mergeSort (fun a b c => (sortLe_total (listOrd itemOrd) false fun b => keyToks (k b)).trans a b c) (fun a b => by
    have := (sortLe_total (listOrd itemOrd) false fun b => keyToks (k b)).total a b
    rw [Bool.or_eq_true]; exact this) ks
/-- the parts of a text, the shorter ones first -/
def PP (s : List Nat) : List (List Nat) := (DS s).mergeSort (dataLe false encP)
theorem sort_one {s : List Nat} {ks : List (List Nat)} (nd : ks.Nodup) (h : ∀ x, x ∈ ks ↔ x <+ s) : ks.mergeSort (dataLe false encP) = PP s := by
  have p : ks ~ DS s := (List.perm_ext_iff_of_nodup nd (nodup_DS s)).mpr fun x => (h x).trans mem_DS.symm
  exact List.Perm.eq_of_pairwise (fun a b _ _ => leP_anti) (srt encP ks) (srt encP (DS s)) (((List.mergeSort_perm _ _).trans p).trans (List.mergeSort_perm _ _).symm)
theorem sort_two {s : List Nat} {ks : List (List Nat)} (nd : ks.Nodup) (h : ∀ x, x ∈ ks ↔ x <+ s) : (ks.mergeSort (dataLe false encT)).mergeSort (dataLe false encL) = PP s := by
  rw [← sort_one nd h]
  have p1 := List.mergeSort_perm ks (dataLe false encT)
  have p2 := List.mergeSort_perm (ks.mergeSort (dataLe false encT)) (dataLe false encL)
  have n1 : (ks.mergeSort (dataLe false encT)).Nodup := p1.nodup_iff.mpr nd
  have n2 : ((ks.mergeSort (dataLe false encT)).mergeSort (dataLe false encL)).Nodup := p2.nodup_iff.mpr n1
  refine List.Perm.eq_of_pairwise (fun a b _ _ => leP_anti) ?_ (srt encP ks) ((p2.trans p1).trans (List.mergeSort_perm _ _).symm)
  refine List.pairwise_iff_forall_sublist.mpr fun {a b} hab => ?_
  have hl := List.pairwise_iff_forall_sublist.mp (srt encL _) hab
  rw [leL_iff] at hl
  rw [leP_iff]
  by_cases e : a.length < b.length
  · exact .inl e
  refine .inr ⟨by omega, ?_⟩
  have hne : a ≠ b := by
    have := hab.nodup n2
    simpa using this
  have ha : a ∈ ks.mergeSort (dataLe false encT) := p2.mem_iff.mp (hab.subset (by simp))
  have hb : b ∈ ks.mergeSort (dataLe false encT) := p2.mem_iff.mp (hab.subset (by simp))
  have st : ∀ {x y : List Nat}, [x, y] <+ ks.mergeSort (dataLe false encT) → dataLe false encT x y = true := fun {x y} h => List.pairwise_iff_forall_sublist.mp (srt encT ks) h
  have two : ∀ (l : List (List Nat)), a ∈ l → b ∈ l → [a, b] <+ l ∨ [b, a] <+ l := by
    intro l
    induction l with
    | nil => intro h; cases h
    | cons x l ih =>
      intro h1 h2
      rcases List.mem_cons.mp h1 with ea | h3
      · rcases List.mem_cons.mp h2 with eb | h4
        · exact (hne (ea.trans eb.symm)).elim
        · rw [ea]; exact .inl ((List.singleton_sublist.mpr h4).cons_cons _)
      · rcases List.mem_cons.mp h2 with eb | h4
        · rw [eb]; exact .inr ((List.singleton_sublist.mpr h3).cons_cons _)
        · rcases ih h3 h4 with h | h
          · exact .inl (h.cons _)
          · exact .inr (h.cons _)
  rcases two _ ha hb with h | h
  · exact st h
  · exfalso
    have tt := sortLe_total (listOrd itemOrd) false fun b : List Nat => keyToks (encL b)
    have hba := List.sublist_mergeSort (le := dataLe false encL) (fun a b c => tt.trans a b c) (fun a b => by rw [Bool.or_eq_true]; exact tt.total a b) (ys := [b, a]) (by
      rw [List.pairwise_pair, leL_iff]; omega) h
    have one : ∀ (l : List (List Nat)), l.Nodup → [a, b] <+ l → ¬ [b, a] <+ l := by
      intro l
      induction l with
      | nil => intro _ h; cases h
      | cons x l ih =>
        intro nd h1 h2
        have nx := (List.nodup_cons.mp nd).1
        cases h1 with
        | cons _ h1 =>
          cases h2 with
          | cons _ h2 => exact ih (List.nodup_cons.mp nd).2 h1 h2
          | cons_cons _ h2 => exact nx (h1.subset (by simp))
        | cons_cons _ h1 =>
          cases h2 with
          | cons _ h2 => exact nx (h2.subset (by simp))
          | cons_cons _ h2 => exact hne rfl
    exact one _ n2 hab hba
theorem mem_PP {s x : List Nat} : x ∈ PP s ↔ x <+ s := ((List.mergeSort_perm _ _).mem_iff).trans mem_DS
theorem len_PP (s : List Nat) : ((PP s).length : Int) = NN s := by
  unfold PP NN; rw [List.length_mergeSort]
theorem PP_le (s : List Nat) : (PP s).length ≤ 2 ^ s.length := by
  unfold PP; rw [List.length_mergeSort]; exact DS_le s
end LK

namespace LK
open PySem PySem.Spec PyProof.Rows L2 PySem.Froz
open PySem.W (EachIs dataLe AllAlike Sortable)
/-! ### texts of one sign, sorted -/
theorem perm_of {α : Type} [BEq α] [LawfulBEq α] : ∀ {l ks : List α}, l.Nodup → (∀ x, x ∈ l → x ∈ ks) → ks.length = l.length → ks.Perm l
  | [], ks, _, _, h => by rw [List.length_eq_zero_iff.mp h]
  | x :: l, ks, nd, sub, h => by
    obtain ⟨n1, n2⟩ := List.nodup_cons.mp nd
    have hx := sub x (by simp)
    refine (List.perm_cons_erase hx).trans (.cons x (perm_of n2 (fun y hy => ?_) ?_))
    · have ne : y ≠ x := fun e => n1 (e ▸ hy)
      exact (List.mem_erase_of_ne ne).mpr (sub y (by simp [hy]))
    · rw [List.length_erase_of_mem hx, h]; rfl
theorem sorted_eq {ks l : List (List Nat)} (h : ks.Perm l) (s : l.Pairwise fun a b => dataLe false encT a b = true) (asy : ∀ a b, dataLe false encT a b = true → dataLe false encT b a = true → a = b) : ks.mergeSort (dataLe false encT) = l :=
  List.Perm.eq_of_pairwise (fun a b _ _ => asy a b) (srt encT ks) s ((List.mergeSort_perm _ _).trans h)
section
variable {X : Cx}
def Ris1 (l : List Nat) : Prop := l.Pairwise (· < ·)
/-- set(text) -/
def setT (P : Program) (w : World) : List V → Hp → VK → Prop := fun vs H Q => match vs with
  | [.str z] => Ris1 (cs z) ∧ (∀ c ∈ cs z, c < 128) ∧ (cs z).length ≤ 100 ∧ ∀ p, H p = none → Q (.ref p) (upd H p (SetS P w p (cs z).reverse))
  | _ => False
theorem c_setT (hc : X.calm = true) : CallR X (.type "set") (setT X.prog X.w) := by
  intro pins s σ H xs us Q I r h
  unfold setT at h
  split at h
  · rename_i z
    obtain ⟨hr, ha, hl, q⟩ := h
    obtain ⟨u, rfl, t, rfl⟩ := vals1 r
    have asc : z.cps.all (· < 128) = true := by
      rw [← Array.all_toList, List.all_eq_true]
      intro c hc
      exact decide_eq_true (ha c hc)
    refine set_of_text (I.ok.hd hc) z t asc (hr.imp fun h => Nat.ne_of_lt h) (by have := hl; show (cs z).length < scanBound; unfold scanBound; omega) fun h' tk keep S => ?_
    exact ⟨.ref s.heap.objs.size, upd H s.heap.objs.size (SetS X.prog X.w s.heap.objs.size (cs z).reverse), I.laid (t' := tk) keep (Nat.le_refl _) (setS_ok S), rfl, q _ (I.hok.fresh (Nat.le_refl _))⟩
  · exact h.elim
/-- the keys of the set's elements -/
theorem keys_perm {P : Program} {w : World} {D : SD} {l : List Nat} (S : SgD P w D l) (nd : l.Nodup) : ∃ ks : List (List Nat), ks.Perm (l.map fun c => [c]) ∧ EachIs RT (D.1.toList.map (·.2)) ks := by
  have key : ∀ es : List (Int × Value), (∀ e ∈ es, ∃ k, (strKind P w).is k e.2 = true) → ∃ ks : List (List Nat), EachIs RT (es.map (·.2)) ks ∧ ∀ k, (∃ e ∈ es, (strKind P w).is k e.2 = true) → cs k ∈ ks := by
    intro es
    induction es with
    | nil => exact fun _ => ⟨[], .nil, fun k ⟨e, z, _⟩ => nomatch z⟩
    | cons e es ih =>
      intro h
      obtain ⟨ks, e1, e2⟩ := ih fun x hx => h x (by simp [hx])
      obtain ⟨k, hk⟩ := h e (by simp)
      obtain ⟨t, ev⟩ := Value.isStrOf_shape (show Value.isStrOf k e.2 = true from hk)
      refine ⟨cs k :: ks, .cons ⟨t, ev⟩ e1, ?_⟩
      rintro k' ⟨e', he, hk'⟩
      rcases List.mem_cons.mp he with rfl | he
      · rw [(strKind P w).inj _ k' k hk' hk]; simp
      · exact List.mem_cons_of_mem _ (e2 k' ⟨e', he, hk'⟩)
  obtain ⟨ks, e1, e2⟩ := key D.1.toList fun e he => ⟨_, (S.tx.el e he).1.choose_spec.1⟩
  refine ⟨ks, perm_of ?_ ?_ ?_, e1⟩
  · refine List.Pairwise.map _ (fun a b h e => h (List.cons.inj e).1) nd
  · intro x hx
    obtain ⟨c, hc, rfl⟩ := List.mem_map.mp hx
    exact e2 (sing c) ((S.tx.mem _).mp (List.mem_map.mpr ⟨c, hc, rfl⟩))
  · rw [← e1.length, List.length_map, Array.length_toList, List.length_map]
    have := S.tx.sz
    rw [List.length_map] at this
    exact this
theorem le_sing {a b : Nat} (h : a < b) : dataLe false encT [a] [b] = true := by
  rw [leT_eq]
  show (!decide ([b] < [a])) = true
  have n : ¬ [b] < [a] := fun z => by
    rcases List.cons_lt_cons_iff.mp z with z | ⟨_, z⟩
    · omega
    · exact absurd z (List.lt_irrefl _)
  rw [decide_eq_false n]; rfl
theorem each_perm {α β : Type} {R : α → β → Prop} : ∀ {vs us : List α} {ks : List β}, EachIs R us ks → vs.Perm us → ∃ ks', ks'.Perm ks ∧ EachIs R vs ks' := by
  intro vs us ks e p
  induction p generalizing ks with
  | nil => exact ⟨ks, .refl _, e⟩
  | cons x _ ih => cases e with | cons h t => obtain ⟨k', p', e'⟩ := ih t; exact ⟨_ :: k', p'.cons _, .cons h e'⟩
  | swap x y l => cases e with | cons h t => cases t with | cons h2 t => exact ⟨_, .swap _ _ _, .cons h2 (.cons h t)⟩
  | trans _ _ ih1 ih2 =>
    obtain ⟨k1, p1, e1⟩ := ih2 e
    obtain ⟨k2, p2, e2⟩ := ih1 e1
    exact ⟨k2, p2.trans p1, e2⟩
/-- sorted(a set of signs) -/
def sortedS (P : Program) (w : World) : List V → Hp → VK → Prop := fun vs H Q => match vs with
  | [.ref a] => ∃ l, H a = some (SetS P w a l.reverse) ∧ Ris1 l ∧ l.length ≤ 100 ∧ ∀ p, H p = none → Q (.ref p) (upd H p (.lst (lets l)))
  | _ => False
theorem c_sortedS (hc : X.calm = true) (hu : X.A.units + 64 < cLine) : CallR X (.builtin "sorted") (sortedS X.prog X.w) := by
  intro pins s σ H xs us Q I r h
  unfold sortedS at h
  split at h
  · rename_i a
    obtain ⟨l, hd, hr, hl, q⟩ := h
    obtain ⟨u, rfl, ru⟩ := vals1 r
    obtain rfl : u = Value.ref a := ru
    obtain ⟨D, ho, S⟩ := (I.hok a _ hd).1
    have nd : l.reverse.Nodup := (List.pairwise_reverse.mpr (hr.imp fun h => Nat.ne_of_gt h))
    obtain ⟨ks, pk, ek⟩ := keys_perm S nd
    have sz : D.1.size = l.length := by have := S.tx.sz; rw [List.length_map, List.length_reverse] at this; exact this
    refine call_function_entry_kw kind_sorted plain_sorted entry_sorted (args_sorted1 _) ?_
    unfold Builtin.«sorted»
    refine wpAny_bind (m := checkCount "sorted" 1 1 _) (wpAny_pure ?_)
    refine wpAny_bind (collect_set (A := X.A.in1) (I.ok.hd hc) ⟨_, ho, rfl, rfl⟩ S.tx.fit (by rw [sz]; unfold scanBound; omega) S.ris S.led fun s1 vs k1 hz1 g1 o1 pm => ?_)
    have hvl : vs.length = l.length := by rw [pm.length_eq, List.length_map, Array.length_toList]; exact sz
    -- the values as they came, by their texts
    have ev : ∃ ks', ks'.Perm (l.map fun c => [c]) ∧ EachIs RT vs ks' := by
      obtain ⟨ks', p1, e1⟩ := each_perm ek pm
      refine ⟨ks', p1.trans (pk.trans ?_), e1⟩
      exact (List.reverse_perm l).map _
    obtain ⟨ks', p', e⟩ := ev
    have hz : ks'.length ≤ sizeLine := by rw [← e.length, hvl, sizeLine_eq]; omega
    refine wpAny_bind (wpAny_newList ?_ (by rw [hvl, sizeLine_eq]; omega))
    have hoL : (s1.heap.push (seqObj "list" vs.toArray 0)).get? s1.heap.objs.size = some (seqObj "list" vs.toArray 0) := Heap.get?_push_size _ rfl
    have St := PySem.W.SortsAt.data (prog := X.prog) (w := X.w) (A := X.A.in1.in1) (s := { s1 with heap := PySem.W.sortingHeap (s1.heap.push (seqObj "list" vs.toArray 0)) s1.heap.objs.size vs })
      (PySem.W.each_map (R := fun v d => ∃ as, Reads _ v d as) encT (reads_RT e)) (alike_T ks') (sortable_T ks')
      (PySem.W.bound_map (A := X.A.in1.in1) fun l _ => by show X.A.units + 1 + 1 + 0 < cLine; omega)
    refine wpAny_bind (wpAny_holding (wpAny_call_entry_kw slot_list_sort ⟨_, hoL, rfl⟩ entry_list_sort ?body (args_list_sort _)))
    refine PySem.W.list_sort_vals (s := { s1 with heap := s1.heap.push (seqObj "list" vs.toArray 0) }) hoL St (by rw [e.length]; exact hz) ⟨_, rfl, wpAny_pure ⟨_, rfl, ?_⟩⟩
    obtain ⟨c, hc'⟩ := PyProof.Rows.sortedHeap_at (vs := vs) (out := (PySem.W.sortVals (PySem.W.dataKind (PySem.W.sortingHeap (s1.heap.push (seqObj "list" vs.toArray 0)) s1.heap.objs.size vs) (ks'.map encT)) false vs vs).toArray) hoL
    have ro := PySem.W.sortVals_data (h' := PySem.W.sortingHeap (s1.heap.push (seqObj "list" vs.toArray 0)) s1.heap.objs.size vs) (R := RT) false e (reads_RT e) (alike_T ks')
    rw [sorted_eq p' (List.Pairwise.map _ (fun a b h => le_sing h) hr) (fun a b => leT_anti)] at ro
    have hn : H s1.heap.objs.size = none := I.hok.fresh hz1
    have keep : ∀ b o, s.heap.get? b = some o → (PyProof.Rows.sortedHeap (s1.heap.push (seqObj "list" vs.toArray 0)) s1.heap.objs.size vs (PySem.W.sortVals (PySem.W.dataKind (PySem.W.sortingHeap (s1.heap.push (seqObj "list" vs.toArray 0)) s1.heap.objs.size vs) (ks'.map encT)) false vs vs).toArray).get? b = some o := fun b o hb => by
      have z := k1 b o hb
      have lt := Heap.lt_size z
      rw [PyProof.Rows.sortedHeap_old (Nat.ne_of_lt lt) (by rw [size_push']; exact Nat.lt_succ_of_lt lt)]
      exact Heap.get?_push_of_some _ z
    have J : Inv X pins σ (upd H s1.heap.objs.size (.lst (lets l))) { s with heap := PyProof.Rows.sortedHeap (s1.heap.push (seqObj "list" vs.toArray 0)) s1.heap.objs.size vs (PySem.W.sortVals (PySem.W.dataKind (PySem.W.sortingHeap (s1.heap.push (seqObj "list" vs.toArray 0)) s1.heap.objs.size vs) (ks'.map encT)) false vs vs).toArray, gens := s1.gens, drawn := s1.drawn, toks := s1.toks } :=
      I.call (ch := []) (Un.laid keep hz1 hn) (I.hok.laid keep hz1 ⟨by rw [List.length_map, sizeLine_eq]; omega, _, c, (by
        have v := vals_RT ro
        rw [List.map_map] at v
        exact v), hc'⟩) (by show AllBare s1.gens; rw [g1]; exact I.bare) (fun _ z => nomatch z)
    obtain ⟨hp1, ge1, dr1, tk1, os1⟩ := s1
    cases o1
    exact ⟨.ref _, _, J, rfl, q _ hn⟩
  · exact h.elim
end
end LK

/-! list(text) -/
namespace LK
open PySem PySem.Spec PyProof.Rows L2
section
variable {X : Cx}
/-- list(text): its signs -/
def listT : List V → Hp → VK → Prop := fun vs H Q => match vs with
  | [.str z] => (cs z).length ≤ sizeLine ∧ ∀ p, H p = none → Q (.ref p) (upd H p (.lst (lets (cs z))))
  | _ => False
theorem c_listT (hc : X.calm = true) : CallR X (.type "list") listT := by
  intro pins s σ H xs us Q I r h
  unfold listT at h
  split at h
  · rename_i z
    obtain ⟨hz, q⟩ := h
    obtain ⟨u, rfl, t, rfl⟩ := vals1 r
    refine PySem.call_list_str (I.ok.hd hc) z t (fun h' tk acc c' hk e hi => ?_) hz
    refine ⟨.ref s.heap.objs.size, upd H s.heap.objs.size (.lst (lets (cs z))), I.laid hk (Nat.le_refl _) ⟨by rw [List.length_map]; exact hz, acc.toList, c', ?_, by rw [Array.toArray_toList]; exact e⟩, rfl, q _ (I.hok.fresh (Nat.le_refl _))⟩
    refine vals_of_idx _ _ (by rw [List.length_map, Array.length_toList]; exact hi.1) fun j u hj => ?_
    obtain ⟨c, t', hc, rfl⟩ := hi.2 j u (by rw [← Array.getElem?_toList]; exact hj)
    refine ⟨.str (T [c]), ?_, ⟨t', rfl⟩⟩
    rw [List.getElem?_map]
    have : (cs z)[j]? = some c := by rw [← hc]; exact Array.getElem?_toList
    rw [this]; rfl
  · exact h.elim
end
end LK

/-! for c, y in zip(text, list) -/
namespace LK
open PySem PySem.Spec PyProof.Rows L2
/-- the signs of x beside what the list at b holds at each turn, in new pairs; both are of one length -/
def ItSL (K : PySem.W.Frag) (x : Str) (b : Addr) : It where
  go := fun i H => i < x.cps.size ∧ ∃ ys y, SqL K H b ys ∧ ys[i]? = some y
  yld := fun i H v H' => ∃ T c y, v = .ref T ∧ H T = none ∧ H' = upd H T (.tup [.str ⟨#[c]⟩, y]) ∧ x.cps[i]? = some c ∧ ∀ ys, SqL K H b ys → ys[i]? = some y
  stop := fun i H => i = x.cps.size ∧ ∃ ys, SqL K H b ys ∧ i = ys.length
/-- where the parts of the walk lie -/
structure Far (z TI TO i1 i2 b : Addr) : Prop where
  a1 : TI ≠ z
  a2 : TO ≠ z
  a3 : TI ≠ TO
  a4 : TI ≠ i1
  a5 : TI ≠ i2
  a6 : z ≠ i1
  a7 : z ≠ i2
  a8 : TO ≠ i1
  a9 : TO ≠ i2
  b1 : i1 ≠ i2
  b2 : b ≠ i2
  b3 : z ≠ b
  b4 : TO ≠ b
  b5 : i1 ≠ b
theorem Far.sep {z TI TO i1 i2 b : Addr} (D : Far z TI TO i1 i2 b) : ZipSep2 z TI TO i1 i2 [i1] [i2, b] where
  TIz := D.a1
  TOz := D.a2
  TITO := D.a3
  TIi1 := D.a4
  mem1 := by simp
  zf1 := by simp [D.a6]
  Tf1 := by simp [D.a8]
  TIi2 := D.a5
  mem2 := by simp
  zf2 := by simp [D.a7, D.b3]
  Tf2 := by simp [D.a9, D.b4]
  sep1_2 := by simp [D.b1, D.b5]
  sep2_1 := by simp [D.b1.symm]
def StSL (x : Str) (t : Tok) (z TI TO i1 i2 b : Addr) (i : Nat) (h : Heap) : Prop :=
  IsZip h z TI TO .none ∧ IsPair h TI (.ref i1) (.ref i2) ∧ (∃ u v, IsPair h TO u v) ∧ h.IsStrIter i1 "str_ascii_iterator" x t i ∧ h.IsListIter i2 b i
theorem turn_zipSL {P : Program} {w : World} {K : PySem.W.Frag} {elts : List Expr} {kk : Nat} {tpos : Pos} {x : Str} {t : Tok} {b z TI TO i1 i2 : Addr} (D : Far z TI TO i1 i2 b) :
    Turn P w K (.Tuple elts kk tpos) (ItSL K x b) [z, TI, TO, i1, i2] z (StSL x t z TI TO i1 i2 b) where
  mem := by simp
  obj := fun i h st c hc => by
    obtain ⟨hz, hTI, ⟨u, v, hTO⟩, ⟨o1, e1, _, d1⟩, ⟨o2, e2, _, d2⟩⟩ := st
    simp only [List.mem_cons, List.not_mem_nil, or_false] at hc
    rcases hc with rfl | rfl | rfl | rfl | rfl
    · exact ⟨_, hz, fun v q => nomatch q⟩
    · exact ⟨_, hTI, fun v q => nomatch q⟩
    · exact ⟨_, hTO, fun v q => nomatch q⟩
    · exact ⟨o1, e1, fun v q => by rw [d1] at q; cases q⟩
    · exact ⟨o2, e2, fun v q => by rw [d2] at q; cases q⟩
  keep := fun i h h' st k => by
    obtain ⟨hz, hTI, ⟨u, v, hTO⟩, ⟨o1, e1, r1⟩, h2⟩ := st
    exact ⟨k z (by simp) _ hz, k TI (by simp) _ hTI, ⟨u, v, k TO (by simp) _ hTO⟩, ⟨o1, k i1 (by simp) _ e1, r1⟩, h2.at fun o q => k i2 (by simp) o q⟩
  item := by
    intro X hP hw hK hc i pins s σ H E I hf st ⟨hi, ys, y, hq, hy⟩
    subst hP hw hK
    obtain ⟨hz, hTI, ⟨u0, v0, hTO⟩, h1, h2⟩ := st
    obtain ⟨its, rv, p, _⟩ := I.list hq
    obtain ⟨v, hv, rvv⟩ := rv.get hy
    have hii : i < its.toArray.size := by
      have := (List.getElem?_eq_some_iff.mp hv).1
      simpa using this
    have hh : X.A.in1.handled = none := I.ok.hd hc
    have zl := Heap.lt_size hz
    refine wpAny_pyNext_zipD2_item D.sep (Draws.strAscii hh i1 x t) (Draws.list hh i2 b D.b2 its.toArray) hz hTI hTO h1 ⟨h2, p.isList⟩ hi hii fun c1 c2 h' tk hc1 hc2 z' TO' h1' h2' hT hsz hk => ?_
    obtain ⟨c, ut, hcc, rfl⟩ := hc1
    have e2 : c2 = v := by
      have : its[i]? = some c2 := by simpa using hc2
      rw [hv] at this; exact (Option.some.inj this).symm
    subst e2
    refine ⟨_, rfl, wpAny_letOwnedTupleGo_zip (s := { s with heap := h', toks := tk }) z' fun h'' z'' sb => ?_⟩
    have hT2 : h''.get? s.heap.objs.size = some { cls := .type "tuple", data := .seq #[.str ⟨#[c]⟩ ut, c2] } := (sb.2 _ (Nat.ne_of_gt zl)).trans hT
    have new : ObjOk X.prog X.w (upd H s.heap.objs.size (.tup [.str ⟨#[c]⟩, y])) h'' s.heap.objs.size (.tup [.str ⟨#[c]⟩, y]) :=
      ⟨by show 2 ≤ sizeLine; decide, [.str ⟨#[c]⟩ ut, c2], .cons ⟨ut, rfl⟩ (.cons rvv .nil), ⟨_, hT2, rfl, _, rfl⟩⟩
    have far : ∀ d o, d ∉ [z, TI, TO, i1, i2] → s.heap.get? d = some o → h''.get? d = some o := fun d o nd q => by
      simp only [List.mem_cons, List.not_mem_nil, or_false, not_or] at nd
      exact (sb.2 d nd.1).trans (hk d o nd.1 nd.2.2.1 nd.2.2.2.1 nd.2.2.2.2 q)
    refine ⟨.ref s.heap.objs.size, _, I.turnedNew (t' := tk) (ch := [z, TI, TO, i1, i2]) far hf (Nat.le_refl _) new, rfl, ⟨_, c, y, rfl, I.hok.fresh (Nat.le_refl _), rfl, hcc, fun l hl => by rw [I.list_inj hl hq]; exact hy⟩, ⟨z'', ?_, ⟨_, _, (sb.2 _ D.a2).trans TO'⟩, ?_, ?_⟩, fun d hd => ?_⟩
    · exact (sb.2 _ D.a1).trans (hk _ _ D.a1 D.a3 D.a4 D.a5 hTI)
    · obtain ⟨o1, e1, r1⟩ := h1'
      exact ⟨o1, (sb.2 _ D.a6.symm).trans e1, r1⟩
    · exact h2'.1.at fun o q => (sb.2 _ D.a7.symm).trans q
    · have lt : d < s.heap.objs.size := by
        simp only [List.mem_cons, List.not_mem_nil, or_false] at hd
        obtain ⟨o1, e1, _⟩ := h1
        obtain ⟨o2, e2, _⟩ := h2
        rcases hd with rfl | rfl | rfl | rfl | rfl
        · exact zl
        · exact Heap.lt_size hTI
        · exact Heap.lt_size hTO
        · exact Heap.lt_size e1
        · exact Heap.lt_size e2
      rw [upd_ne (Nat.ne_of_lt lt)]
      exact (hf d hd).1
  done := by
    intro X hP hw hK hc i pins s σ H E I hf st ⟨hi, ys, hq, hl⟩
    subst hP hw hK
    obtain ⟨hz, hTI, ⟨u0, v0, hTO⟩, h1, h2⟩ := st
    obtain ⟨its, rv, p, _⟩ := I.list hq
    have l1 := rv.length
    have hh : X.A.in1.handled = none := I.ok.hd hc
    have e2 : i = its.toArray.size := by rw [List.size_toArray]; omega
    exact wpAny_pyNext_zipD2_end D.sep (Draws.strAscii hh i1 x t) (Draws.list hh i2 b D.b2 its.toArray) hz hTI hTO h1 ⟨h2, p.isList⟩ (by omega) (by omega) (.inl hi) fun h' tk hk => ⟨rfl, I.turnedL (t' := tk) (ch := [z, TI, TO, i1, i2]) (fun d o nd q => by
      simp only [List.mem_cons, List.not_mem_nil, or_false, not_or] at nd
      exact hk d o nd.1 nd.2.2.1 nd.2.2.2.1 nd.2.2.2.2 q) hf⟩
  self := fun A i s Q E st h => wpAny_pyIter_zip st.1 h
section
variable {prog : Program} {w : World} {A : Around} {E : Value → Shared → Prop} {s : Shared}
abbrev zs1 (h : Heap) (x : Str) (t : Tok) : Heap := h.push { cls := .type "str_ascii_iterator", data := .fields #[.str x t, .int 0 0] }
abbrev zs2 (h : Heap) (x : Str) (t : Tok) (b : Addr) : Heap := (zs1 h x t).push { cls := .type "list_iterator", data := .fields #[.ref b, .int 0 0] }
abbrev zs3 (h : Heap) (x : Str) (t : Tok) (b : Addr) : Heap := (zs2 h x t b).push { cls := .type "tuple", data := .seq #[.ref h.objs.size, .ref (zs1 h x t).objs.size] }
abbrev zs4 (h : Heap) (x : Str) (t : Tok) (b : Addr) : Heap := (zs3 h x t b).push { cls := .type "tuple", data := .seq #[.none, .none] }
abbrev zs5 (h : Heap) (x : Str) (t : Tok) (b : Addr) : Heap := (zs4 h x t b).push { cls := .type "zip", data := .fields #[.none, .bool false, .bool false, .ref (zs2 h x t b).objs.size, .ref (zs3 h x t b).objs.size] }
theorem new_zipSL (x : Str) (t : Tok) (b : Addr) (ys : Array Value) (ha : x.cps.all (· < 128) = true) :
    Meets (Builtin.«zip.__new__» ⟨[.type "zip", .str x t, .ref b], []⟩) (fun _ R s => s.heap.IsList b ys ∧ R (.ok (.ret (.ref (zs4 s.heap x t b).objs.size))) { s with heap := zs5 s.heap x t b }) :=
  .of_wp fun prog w A R s h => by
    obtain ⟨hp, g, d, tk, os⟩ := s; obtain ⟨hl, h⟩ := h
    have hsub := sub_zip
    have hL2 : Heap.IsList (Shared.heap ⟨zs1 hp x t, g, d, tk, os⟩) b ys := Heap.IsList.push hl _
    wp_walk using wpAny_pyIter_ascii ha, wpAny_pyIter_list hL2
    exact ⟨_, rfl, h⟩
end
end LK

namespace LK
open PySem PySem.Spec PyProof.Rows L2
section
variable {prog : Program} {w : World} {A : Around} {E : Value → Shared → Prop} {s : Shared}
theorem zip_text_list {x : Str} {t : Tok} {b : Addr} {ys : Array Value} {Q : Value → Shared → Prop} (ha : x.cps.all (· < 128) = true) (hl : s.heap.IsList b ys)
    (h : ∀ h', StSL x t (s.heap.objs.size + 4) (s.heap.objs.size + 2) (s.heap.objs.size + 3) s.heap.objs.size (s.heap.objs.size + 1) b 0 h' →
      (∀ c o, s.heap.get? c = some o → h'.get? c = some o) → Q (.ref (s.heap.objs.size + 4)) { s with heap := h' }) :
    wpAny (model prog w) A (call (.type "zip") [.str x t, .ref b]) Q E s := by
  refine callType_new F.called_zip (by decide) (F.typeCall_zip_2 _ _) (F.newCall_zip_2 _ _) (fun obj => F.args_object_init_3 obj _ _) F.entry_zip_new (new_zipSL x t b ys ha) ⟨hl, ?_⟩
  have z1 : (zs1 s.heap x t).objs.size = s.heap.objs.size + 1 := Heap.size_push ..
  have z2 : (zs2 s.heap x t b).objs.size = s.heap.objs.size + 2 := by rw [Heap.size_push, z1]
  have z3 : (zs3 s.heap x t b).objs.size = s.heap.objs.size + 3 := by rw [Heap.size_push, z2]
  have z4 : (zs4 s.heap x t b).objs.size = s.heap.objs.size + 4 := by rw [Heap.size_push, z3]
  have up : ∀ {c o}, s.heap.get? c = some o → (zs5 s.heap x t b).get? c = some o := fun e =>
    Heap.get?_push_of_some _ (Heap.get?_push_of_some _ (Heap.get?_push_of_some _ (Heap.get?_push_of_some _ (Heap.get?_push_of_some _ e))))
  have g5 : (zs5 s.heap x t b).get? (s.heap.objs.size + 4) = some _ := z4 ▸ Heap.get?_push_size _ rfl
  have g4 : (zs5 s.heap x t b).get? (s.heap.objs.size + 3) = some _ := z3 ▸ Heap.get?_push_of_some _ (Heap.get?_push_size _ rfl)
  have g3 : (zs5 s.heap x t b).get? (s.heap.objs.size + 2) = some _ := z2 ▸ Heap.get?_push_of_some _ (Heap.get?_push_of_some _ (Heap.get?_push_size _ rfl))
  have g2 : (zs5 s.heap x t b).get? (s.heap.objs.size + 1) = some _ := z1 ▸ Heap.get?_push_of_some _ (Heap.get?_push_of_some _ (Heap.get?_push_of_some _ (Heap.get?_push_size _ rfl)))
  have g1 : (zs5 s.heap x t b).get? s.heap.objs.size = some _ := Heap.get?_push_of_some _ (Heap.get?_push_of_some _ (Heap.get?_push_of_some _ (Heap.get?_push_of_some _ (Heap.get?_push_size _ rfl))))
  rw [z2, z3] at g5
  rw [z1] at g3
  show _ ∧ _
  rw [z4]
  exact ⟨⟨_, g5, rfl⟩, h _ ⟨g5, g3, ⟨_, _, g4⟩, ⟨_, g1, rfl, rfl⟩, ⟨_, g2, rfl, rfl⟩⟩ fun c o e => up e⟩
end
theorem far_new (n b : Nat) (h : b < n) : Far (n + 4) (n + 2) (n + 3) n (n + 1) b := by
  constructor <;> (intro e; have e : (_ : Nat) = _ := e; omega)
def iZipSL (K : PySem.W.Frag) (ta : TA) : TI := fun σ H R => ta σ H fun vs H1 => match vs with
  | [.str x, .ref b] => (∀ c ∈ cs x, c < 128) ∧ (∃ ys, SqL K H1 b ys) ∧ R (ItSL K x b) H1
  | _ => False
theorem pi_zipSL {X : Cx} {e e2 : Expr} {ta : TA} {p pos tpos : Pos} {elts : List Expr} {kk : Nat} (hg : Gl X "zip") (hm : X.mg "zip" = none) (ha : PA X [e, e2] ta)
    (hs : starEach [e, e2] X.env = (false, eval e X.env) :: starEach [e2] X.env := by rfl) (hpl : (backTo pos (starEach [e2] X.env)).any (·.1) = false := by rfl) :
    PI X (.Tuple elts kk tpos) (.Call (.Name "zip" p) [e, e2] [] pos) (iZipSL X.K ta) := by
  refine ⟨fun pins s σ H R I h => ?_⟩
  refine Call_ (ld_blt I hg hm PyProof.Rows.boot_zip (PyProof.Rows.callWith_type1 (thn (ha.run pos pins s σ H _ I h) fun us s1 z => ?_) hs hpl))
  obtain ⟨vs, H1, I1, r1, q1⟩ := z
  split at q1
  · rename_i x b
    obtain ⟨hc, ⟨ys, hq⟩, q⟩ := q1
    cases r1 with
    | cons r rr =>
      cases rr with
      | cons r' rr =>
        cases rr
        obtain ⟨t, rfl⟩ := r
        cases r'
        obtain ⟨its, rv, p1, _⟩ := I1.list hq
        have lb : b < s1.heap.objs.size := p1.lt
        have asc : x.cps.all (· < 128) = true := by
          rw [← Array.all_toList, List.all_eq_true]
          exact fun c h => decide_eq_true (hc c h)
        refine zip_text_list asc p1.isList fun h' st hk => wpAny_pyIter_zip st.1 ?_
        refine ⟨_, [s1.heap.objs.size + 4, s1.heap.objs.size + 2, s1.heap.objs.size + 3, s1.heap.objs.size, s1.heap.objs.size + 1], _, _, H1, rfl, I1.kept (t' := s1.toks) hk, turn_zipSL ?_, st, fun c hcm => ?_, q⟩
        · exact far_new _ _ lb
        · have hle : s1.heap.objs.size ≤ c := by
            simp only [List.mem_cons, List.not_mem_nil, or_false] at hcm
            rcases hcm with z | z | z | z | z <;> rw [z]
            · exact Nat.le_add_right _ _
            · exact Nat.le_add_right _ _
            · exact Nat.le_add_right _ _
            · exact Nat.le_refl _
            · exact Nat.le_add_right _ _
          exact I1.fpOk hle (I1.hok.fresh hle)
  · exact q1.elim
/-- the loop -/
theorem for_zipSL {K : PySem.W.Frag} {ta : TA} {b : Addr} {l : List Nat} {ys : List V} {g : TG} {tb : TS} {D : Ends} {σ : L2.St} {H H1 : Hp}
    (h : ∀ R : List V → Hp → Prop, R [.str (T l), .ref b] H1 → ta σ H R) (ha : ∀ c ∈ l, c < 128) (hl : l.length = ys.length) (Iv : Nat → L2.St → Hp → Prop) (h0 : Iv 0 σ H1)
    (hq : ∀ i σ H, Iv i σ H → SqL K H b ys)
    (hs : ∀ (i c : Nat) (y : V) (p : Addr) (σ : L2.St) (H : Hp), l[i]? = some c → ys[i]? = some y → Iv i σ H → H p = none →
      g (.ref p) σ (upd H p (.tup [.str (T [c]), y])) fun σ2 H2 => tb { D with nx := Iv (i + 1), ct := Iv (i + 1), bk := D.nx } σ2 H2)
    (he : ∀ σ H, Iv l.length σ H → D.nx σ H) : tFor (iZipSL K ta) g tb D σ H := by
  refine h _ ⟨ha, ⟨ys, hq _ _ _ h0⟩, ?_⟩
  refine ⟨fun i m σ H => m = l.length - i ∧ i ≤ l.length ∧ Iv i σ H, ⟨l.length, rfl, Nat.zero_le _, h0⟩, ?_⟩
  rintro i m σ H ⟨rfl, hi, iv⟩
  have qy := hq i σ H iv
  by_cases lt : i < l.length
  · have hx : l[i]? = some l[i] := List.getElem?_eq_getElem lt
    have hy : ys[i]? = some (ys[i]'(by omega)) := List.getElem?_eq_getElem (by omega)
    refine .inr ⟨⟨lt, ys, _, qy, hy⟩, Iv (i + 1), fun σ' H' z => ⟨l.length - (i + 1), by omega, rfl, lt, z⟩, ?_⟩
    rintro v H' ⟨p, c, y, rfl, hp, rfl, hc, hyy⟩
    have e1 : c = l[i] := by
      have : (T l).cps[i]? = some l[i] := by rw [← Array.getElem?_toList]; exact hx
      rw [hc] at this; exact Option.some.inj this
    have e2 := hyy ys qy
    subst e1
    exact hs i _ y p σ H hx e2 iv hp
  · have e : i = l.length := by omega
    subst e
    exact .inl ⟨⟨rfl, ys, qy, hl⟩, he σ H iv⟩
end LK

/-! for i, x in enumerate(tuple) -/
namespace LK
open PySem PySem.Spec PyProof.Rows L2
open AutoSeq1 (wpAny_loadPart')
/-- what the tuple at a holds, each item beside its number in a new pair -/
def ItET (K : PySem.W.Frag) (a : Addr) : It where
  go := fun i H => ∃ xs x, SqT K H a xs ∧ xs[i]? = some x
  yld := fun i H v H' => ∃ T x, v = .ref T ∧ H T = none ∧ H' = upd H T (.tup [.int (i : Nat), x]) ∧ ∀ xs, SqT K H a xs → xs[i]? = some x
  stop := fun i H => ∃ xs, SqT K H a xs ∧ i = xs.length
theorem turn_enumT {P : Program} {w : World} {K : PySem.W.Frag} {elts : List Expr} {kk : Nat} {tpos : Pos} {a e it : Addr} (ne : e ≠ it) (n1 : e ≠ a) (n2 : a ≠ it) :
    Turn P w K (.Tuple elts kk tpos) (ItET K a) [e, it] e (fun i h => (∃ old, IsEnum h e it ((i : Nat) : Int) old) ∧ h.IsTupleIter it a i) where
  mem := by simp
  obj := fun i h st c hc => by
    obtain ⟨⟨old, he⟩, o, ho, _, hd⟩ := st
    simp only [List.mem_cons, List.not_mem_nil, or_false] at hc
    rcases hc with rfl | rfl
    · exact ⟨_, he, fun v q => nomatch q⟩
    · exact ⟨o, ho, fun v q => by rw [hd] at q; cases q⟩
  keep := fun i h h' st k => by
    obtain ⟨⟨old, he⟩, hi⟩ := st
    exact ⟨⟨old, k e (by simp) _ he⟩, hi.at fun o q => k it (by simp) o q⟩
  item := by
    intro X hP hw hK hc i pins s σ H E I hf st ⟨xs, x, hq, hx⟩
    subst hP hw hK
    obtain ⟨⟨old, he⟩, hit⟩ := st
    obtain ⟨its, rv, p, _⟩ := I.tuple hq
    obtain ⟨u, hu, ru⟩ := rv.get hx
    have hii : i < its.toArray.size := by
      have := (List.getElem?_eq_some_iff.mp hu).1
      simpa using this
    have hh : X.A.in1.handled = none := I.ok.hd hc
    have el := Heap.lt_size he
    have il : it < s.heap.objs.size := by obtain ⟨_, q, _⟩ := hit; exact Heap.lt_size q
    refine wpAny_pyNext_enum_itemD (Draws.tuple hh it a n2 its.toArray) he ⟨hit, p⟩ hii ne (by simp [ne, n1]) fun y h' tk hy ho hst hT hsz hk => ?_
    have ey : y = u := by
      have z : its[i]? = some y := by simpa using hy
      rw [hu] at z; exact (Option.some.inj z).symm
    subst ey
    refine ⟨_, rfl, wpAny_letOwnedTupleGo_enum (s := { s with heap := h', toks := tk + 1 }) ho fun h'' he' sb => ?_⟩
    have hT2 : h''.get? s.heap.objs.size = some { cls := .type "tuple", data := .seq #[.int i tk, y] } := (sb.2 _ (Nat.ne_of_gt el)).trans hT
    have new : ObjOk X.prog X.w (upd H s.heap.objs.size (.tup [.int (i : Nat), x])) h'' s.heap.objs.size (.tup [.int (i : Nat), x]) :=
      ⟨by show 2 ≤ sizeLine; decide, [.int i tk, y], .cons ⟨_, rfl⟩ (.cons ru .nil), ⟨_, hT2, rfl, _, rfl⟩⟩
    have far : ∀ d o, d ∉ [e, it] → s.heap.get? d = some o → h''.get? d = some o := fun d o nd q => by
      simp only [List.mem_cons, List.not_mem_nil, or_false, not_or] at nd
      exact (sb.2 d nd.1).trans (hk d o nd.1 nd.2 q)
    refine ⟨.ref s.heap.objs.size, _, I.turnedNew (t' := tk + 1) (ch := [e, it]) far hf (Nat.le_refl _) new, rfl, ⟨_, x, rfl, I.hok.fresh (Nat.le_refl _), rfl, fun l hl => by rw [I.tuple_inj hl hq]; exact hx⟩, ⟨⟨y, ?_⟩, hst.1.at fun o q => (sb.2 it ne.symm).trans q⟩, fun d hd => ?_⟩
    · rw [show ((i + 1 : Nat) : Int) = (i : Int) + 1 by omega]; exact he'
    · have lt : d < s.heap.objs.size := by
        simp only [List.mem_cons, List.not_mem_nil, or_false] at hd
        rcases hd with rfl | rfl
        · exact el
        · exact il
      rw [upd_ne (Nat.ne_of_lt lt)]; exact (hf d hd).1
  done := by
    intro X hP hw hK hc i pins s σ H E I hf st ⟨xs, hq, hl⟩
    subst hP hw hK
    obtain ⟨⟨old, he⟩, hit⟩ := st
    obtain ⟨its, rv, p, _⟩ := I.tuple hq
    obtain ⟨f0, f1, f2, f3, f4, f5⟩ := hf it (by simp)
    have l1 := rv.length
    have e2 : i = its.toArray.size := by rw [List.size_toArray]; omega
    have hh : X.A.in1.handled = none := I.ok.hd hc
    subst e2
    exact wpAny_pyNext_enum_endD (Draws.tuple hh it a n2 its.toArray) he ⟨hit, p⟩ fun h' eb => ⟨rfl, I.turned (t' := s.toks) (fun b o hb q => eb b o hb q) f0 f1 f3 f4 f5⟩
  self := fun A i s Q E st h => by obtain ⟨⟨_, he⟩, _⟩ := st; exact wpAny_pyIter_enum he h
theorem new_enumT (l : Addr) (items : Array Value) (n : Nat) (dct : Option Addr) (sl : Array (Option Value)) :
    Meets (Builtin.«enumerate.__new__» ⟨[.type "enumerate", .ref l], []⟩) (fun _ R s => s.heap.get? l = some { cls := .type "tuple", dict := dct, data := .seq items n, slots := sl } ∧
      R (.ok (.ret (.ref (s.heap.push { cls := .type "tuple_iterator", data := .fields #[.ref l, .int 0 0] }).objs.size)))
        { s with heap := (s.heap.push { cls := .type "tuple_iterator", data := .fields #[.ref l, .int 0 0] }).push { cls := .type "enumerate", data := .fields #[.none, .bool false, .ref s.heap.objs.size, rawInt 0, .none, .none] } }) :=
  .of_wp fun prog w A R s h => by
    obtain ⟨hp, g, d, tk, os⟩ := s; obtain ⟨hl, h⟩ := h
    have hsub := sub_enumerate
    have hL : Heap.IsTuple (Shared.heap ⟨hp, g, d, tk, os⟩) l items := ⟨_, hl, rfl, n, rfl⟩
    wp_walk using wpAny_loadPart' hl
    refine wpAny_stack_any fun st => wpAny_pure ?_
    split
    · rename_i c _ _ _ _ _
      cases (c == Value.type "enumerate") <;> (wp_walk using wpAny_loadPart' hl, wpAny_pyIter_tuple hL; exact ⟨_, rfl, h⟩)
    · wp_walk using wpAny_loadPart' hl, wpAny_pyIter_tuple hL
      exact ⟨_, rfl, h⟩
end LK

/-! walks over a list or a tuple -/
namespace LK
open PySem PySem.Spec PyProof.Rows L2
/-- the values of the list (tp = false) or of the tuple at a -/
def SqB (K : PySem.W.Frag) (tp : Bool) (H : Hp) (a : Addr) (xs : List V) : Prop := match tp with | true => SqT K H a xs | false => SqL K H a xs
def ItB (K : PySem.W.Frag) (tp : Bool) (a : Addr) : It := match tp with | true => Itt K a | false => Itl K a
def ItEB (K : PySem.W.Frag) (tp : Bool) (a : Addr) : It := match tp with | true => ItET K a | false => Ite K a
theorem wk_sq {K : PySem.W.Frag} {tp : Bool} {a : Addr} {xs : List V} : Wk (ItB K tp a) xs (fun H => SqB K tp H a xs) := by
  cases tp
  · exact wk_list
  · exact wk_tup
section
variable {X : Cx} {tg e : Expr} {te : TE} {p pos tpos : Pos} {elts : List Expr} {kk : Nat} {ta : TA}
def iSq (K : PySem.W.Frag) (te : TE) : TI := fun σ H R => te σ H fun x H1 => match x with
  | .ref a => ∃ tp xs, SqB K tp H1 a xs ∧ R (ItB K tp a) H1
  | _ => False
theorem pi_sq (he : PE X e te) : PI X tg e (iSq X.K te) := by
  refine ⟨fun pins s σ H R I h => thn (he.run pins s σ H _ I h) fun v s1 z => ?_⟩
  obtain ⟨x, H1, I1, r1, q⟩ := z
  cases x with
  | ref a =>
    obtain ⟨tp, xs, hx, q⟩ := q
    obtain rfl : v = Value.ref a := r1
    cases tp
    · obtain ⟨its, rv, p, _⟩ := I1.list hx
      exact wpAny_pyIter_list p.isList (pi_one (tk := s1.toks) I1 _ (turn_list a _) ⟨_, Heap.get?_push_size _ rfl, rfl, rfl⟩ q)
    · obtain ⟨its, rv, p, _⟩ := I1.tuple hx
      exact wpAny_pyIter_tuple p (pi_one (tk := s1.toks) I1 _ (turn_tuple a _) ⟨_, Heap.get?_push_size _ rfl, rfl, rfl⟩ q)
  | _ => exact q.elim
theorem call_enumT {A : Around} {E : Value → Shared → Prop} {prog : Program} {w : World} {s : Shared} {l : Addr} {items : Array Value} {Q : Value → Shared → Prop} (hL : s.heap.IsTuple l items)
    (h : ∀ h', IsEnum h' (s.heap.objs.size + 1) s.heap.objs.size 0 .none → h'.IsTupleIter s.heap.objs.size l 0 → (∀ b o, s.heap.get? b = some o → h'.get? b = some o) → Q (.ref (s.heap.objs.size + 1)) { s with heap := h' }) :
    wpAny (model prog w) A (call (.type "enumerate") [.ref l]) Q E s := by
  obtain ⟨⟨c, dct, dt, sl⟩, hl, hc, n, hd⟩ := hL
  obtain rfl : c = .type "tuple" := hc
  obtain rfl : dt = .seq items n := hd
  refine callType_new F.called_enumerate (by decide) (F.typeCall_enumerate_1 _) (F.newCall_enumerate_1 _) (fun obj => F.args_object_init_2 obj _) F.entry_enumerate_new (new_enumT l items n dct sl) ⟨hl, ?_⟩
  have hz : (s.heap.push { cls := .type "tuple_iterator", data := .fields #[.ref l, .int 0 0] }).objs.size = s.heap.objs.size + 1 := Heap.size_push ..
  have he : IsEnum ((s.heap.push { cls := .type "tuple_iterator", data := .fields #[.ref l, .int 0 0] }).push { cls := .type "enumerate", data := .fields #[.none, .bool false, .ref s.heap.objs.size, rawInt 0, .none, .none] }) (s.heap.objs.size + 1) s.heap.objs.size 0 .none :=
    hz ▸ Heap.get?_push_size _ rfl
  show _ ∧ _
  rw [hz]
  exact ⟨⟨_, he, rfl⟩, h _ he ⟨_, Heap.get?_push_of_some _ (Heap.get?_push_size _ rfl), rfl, rfl⟩ fun b o x => Heap.get?_push_of_some _ (Heap.get?_push_of_some _ x)⟩
def iEnumB (K : PySem.W.Frag) (ta : TA) : TI := fun σ H R => ta σ H fun vs H1 => match vs with
  | [.ref a] => ∃ tp xs, SqB K tp H1 a xs ∧ R (ItEB K tp a) H1
  | _ => False
theorem pi_enumB (hg : Gl X "enumerate") (hm : X.mg "enumerate" = none) (ha : PA X [e] ta) (hs : starEach [e] X.env = [(false, eval e X.env)] := by rfl) :
    PI X (.Tuple elts kk tpos) (.Call (.Name "enumerate" p) [e] [] pos) (iEnumB X.K ta) := by
  refine ⟨fun pins s σ H R I h => Call_ (ld_blt I hg hm boot_enumerate (PyProof.Rows.callWith_type1 (thn (ha.run pos pins s σ H _ I h) fun us s1 z => ?_) hs rfl))⟩
  obtain ⟨vs, H1, I1, r1, q1⟩ := z
  have key : ∃ a, vs = [.ref a] ∧ ∃ tp xs, SqB X.K tp H1 a xs ∧ R (ItEB X.K tp a) H1 := by
    split at q1
    · exact ⟨_, rfl, q1⟩
    · exact q1.elim
  obtain ⟨a, rfl, tp, xs, hx, q⟩ := key
  obtain ⟨u, rfl, ru⟩ := vals1 r1
  obtain rfl : u = Value.ref a := ru
  have fp : ∀ b ∈ [s1.heap.objs.size + 1, s1.heap.objs.size], FpOk X pins H1 b := fun b hb => by
    have hle : s1.heap.objs.size ≤ b := by
      simp only [List.mem_cons, List.not_mem_nil, or_false] at hb
      rcases hb with z | z <;> rw [z]
      · exact Nat.le_add_right _ _
      · exact Nat.le_refl _
    exact I1.fpOk hle (I1.hok.fresh hle)
  cases tp
  · obtain ⟨its, rv, p', _⟩ := I1.list hx
    refine call_enumerate_list p'.isList fun h' he hit _ hk => wpAny_pyIter_enum he ?_
    exact ⟨s1.heap.objs.size + 1, _, _, _, H1, rfl, I1.kept (t' := s1.toks) hk, turn_enum a (s1.heap.objs.size + 1) s1.heap.objs.size, ⟨⟨.none, he⟩, hit, Nat.succ_ne_self _⟩, fp, q⟩
  · obtain ⟨its, rv, p', _⟩ := I1.tuple hx
    have lt : a < s1.heap.objs.size := by obtain ⟨_, q, _⟩ := id p'; exact Heap.lt_size q
    refine call_enumT (show s1.heap.IsTuple a its.toArray from p') fun h' he hit hk => wpAny_pyIter_enum he ?_
    exact ⟨s1.heap.objs.size + 1, _, _, _, H1, rfl, I1.kept (t' := s1.toks) hk, turn_enumT (Nat.succ_ne_self _) (Nat.ne_of_gt (Nat.lt_succ_of_lt lt)) (Nat.ne_of_lt lt), ⟨⟨.none, he⟩, hit⟩, fp, q⟩
end
section
variable {K : PySem.W.Frag} {g : TG} {te : TE} {tb : TS} {σ : L2.St} {H H1 : Hp} {vs : List Nat} {Q : VK} {t : TE} {ta : TA} {D : Ends} {tp : Bool}
theorem for_sq {a : Addr} {xs : List V} (h : At t σ H (.ref a) H1) (hx : SqB K tp H1 a xs) (Iv : List V → L2.St → Hp → Prop) (hP : ∀ pre σ H, Iv pre σ H → SqB K tp H a xs) (h0 : Iv [] σ H1)
    (hs : ∀ pre x suf σ H, xs = pre ++ x :: suf → Iv pre σ H → g x σ H fun σ2 H2 => tb { D with nx := Iv (pre ++ [x]), ct := Iv (pre ++ [x]), bk := D.nx } σ2 H2)
    (he : ∀ σ H, Iv xs σ H → D.nx σ H) : tFor (iSq K t) g tb D σ H :=
  h _ ⟨tp, xs, hx, for_wk wk_sq Iv hP h0 hs he⟩
theorem lc_sq {a : Addr} {xs : List V} (h : At t σ H (.ref a) H1) (hx : SqB K tp H1 a xs) (R : Addr → List V → List V → Hp → Prop)
    (hP : ∀ D pre acc H, R D pre acc H → SqB K tp H a xs) (h0 : ∀ D, H1 D = none → R D [] [] (upd H1 D (.lst [])))
    (hs : ∀ D, H1 D = none → ∀ pre acc x suf H, xs = pre ++ x :: suf → R D pre acc H → g x (wipe σ vs) H fun σ2 H2 => wipe σ2 vs = wipe σ vs ∧ te σ2 H2 fun y H4 =>
      ∃ acc, H4 D = some (.lst acc) ∧ acc.length < sizeLine ∧ ∃ a, R D (pre ++ [x]) a (upd H4 D (.lst (acc ++ [y]))))
    (he : ∀ D, H1 D = none → ∀ acc H, R D xs acc H → Q (.ref D) H) : tLc (iSq K t) g tYes te vs σ H Q :=
  h _ ⟨tp, xs, hx, fun D nD => lc_wk wk_sq (fun pre acc H => R D pre acc H) (hP D) (h0 D nD) (hs D nD) (he D nD)⟩
/-- enumerate of a list or a tuple -/
theorem for_enB {a : Addr} {xs : List V} (h : ∀ R : List V → Hp → Prop, R [.ref a] H1 → ta σ H R) (hx : SqB K tp H1 a xs) (Iv : Nat → L2.St → Hp → Prop) (hP : ∀ i σ H, Iv i σ H → SqB K tp H a xs) (h0 : Iv 0 σ H1)
    (hs : ∀ (i : Nat) x p σ H, xs[i]? = some x → Iv i σ H → H p = none → g (.ref p) σ (upd H p (.tup [.int (i : Nat), x])) fun σ2 H2 => tb { D with nx := Iv (i + 1), ct := Iv (i + 1), bk := D.nx } σ2 H2)
    (he : ∀ σ H, Iv xs.length σ H → D.nx σ H) : tFor (iEnumB K ta) g tb D σ H := by
  refine h _ ⟨tp, xs, hx, ?_⟩
  refine ⟨fun i m σ H => m = xs.length - i ∧ i ≤ xs.length ∧ Iv i σ H, ⟨xs.length, rfl, Nat.zero_le _, h0⟩, ?_⟩
  rintro i m σ H ⟨rfl, hi, iv⟩
  have q := hP i σ H iv
  by_cases lt : i < xs.length
  · have hxi : xs[i]? = some xs[i] := List.getElem?_eq_getElem lt
    refine .inr ⟨?_, Iv (i + 1), fun σ' H' z => ⟨xs.length - (i + 1), by omega, rfl, lt, z⟩, ?_⟩
    · cases tp
      · exact ⟨xs, _, q, hxi⟩
      · exact ⟨xs, _, q, hxi⟩
    · intro v H' y
      have key : ∃ T x, v = .ref T ∧ H T = none ∧ H' = upd H T (.tup [.int (i : Nat), x]) ∧ xs[i]? = some x := by
        cases tp
        · obtain ⟨T, x, e1, e2, e3, e4⟩ := y; exact ⟨T, x, e1, e2, e3, e4 xs q⟩
        · obtain ⟨T, x, e1, e2, e3, e4⟩ := y; exact ⟨T, x, e1, e2, e3, e4 xs q⟩
      obtain ⟨T, x, rfl, hT, rfl, e⟩ := key
      exact hs i x T σ H e iv hT
  · have e : i = xs.length := by omega
    subst e
    refine .inl ⟨?_, he σ H iv⟩
    cases tp
    · exact ⟨xs, q, Nat.le_refl _⟩
    · exact ⟨xs, q, rfl⟩
end
end LK

/-! instances made, by place and by names the other way round; the fields that are read and written -/
namespace LK
open PySem PySem.Spec PyProof.Rows L2 Builtin
/-- a class that is called: its __init__ keeps sp -/
structure HasI (P : Program) (w : World) (K : PySem.W.Frag) (mg : Str → Option Value) (base : Heap) (k : Nat) (x : Str) (C : Addr) (ps : List Str) (sp : Sp) : Prop where
  ex : ∃ f fd, FnG P w K mg base CX0 k f fd (("self" : Str) :: ps) sp ∧ Mk K C f ∧ Binds K fd (("self" : Str) :: ps) [] ∧ mg x = some (.ref C) ∧
    ∀ (s : Shared) (z : Value) (us : List Value), us.length = ps.length → BindsTo s fd ⟨[z], (ps.zip us).reverse⟩ ((("self" : Str) :: ps).zip (z :: us))
theorem HasI.up {P : Program} {w : World} {K : PySem.W.Frag} {mg : Str → Option Value} {base : Heap} {j k : Nat} {x : Str} {C : Addr} {ps : List Str} {sp : Sp} (F : HasI P w K mg base j x C ps sp) (h : j ≤ k) : HasI P w K mg base k x C ps sp := by
  obtain ⟨f, fd, a, b⟩ := F.ex
  exact ⟨f, fd, a.up h, b⟩
section
variable {X : Cx} {k : Nat} {C : Addr} {x : Str} {ps : List Str} {sp : Sp} {p pos : Pos} {e : Expr} {es : List Expr} {kws : List Keyword} {t tk : TA}
theorem mkI_run {pins : List (Addr × Obj)} {σ : L2.St} {H : Hp} {s : Shared} {Q : VK} {f : Addr} {fd : FuncData} {us ws : List Value} {kw : List (Str × Value)} {vs : List V} (M : Mk X.K C f) (F : FnG X.prog X.w X.K X.mg X.base CX0 k f fd (("self" : Str) :: ps) sp)
    (hA : X.A.guards = some []) (hr : Room (k + 1) X.A) (I : Inv X pins σ H s) (r : Vals vs ws) (n : ws.length = ps.length)
    (b : ∀ s' : Shared, X.K.In s'.heap → ∀ z : Value, BindsTo s' fd ⟨z :: us, kw⟩ ((("self" : Str) :: ps).zip (z :: ws)))
    (h : ∀ a d, H a = none → H d = none → d ≠ a → sp (.ref a :: vs) (upd (upd H d (.own a)) a (.ins C d [])) (fun v H2 => v = .non ∧ Q (.ref a) H2) E0) :
    wpAny (model X.prog X.w) X.A (call (.ref C) us kw) (EP X pins σ Q) X.xe s := by
  have q := h (s.heap.objs.size + 1) s.heap.objs.size (I.hok.fresh (Nat.le_succ _)) (I.hok.fresh (Nat.le_refl _)) (Nat.ne_of_lt (Nat.lt_succ_self _))
  have I2 := Inv.made (C := C) I
  refine wpAny_call (make_map (f := f) I.kIn M.makes M.init (beq_iff_eq.mp M.fn) (codeAny_mono (F.run _ (under_guards hA) X.stack _ _ ⟨.ref (s.heap.objs.size + 1) :: us, kw⟩ (.ref (s.heap.objs.size + 1) :: ws) (.ref (s.heap.objs.size + 1) :: vs) _ E0
    (hr.make C us kw) (I2.env0.make C us kw) (b _ I2.kIn _) (.cons rfl r) q) fun r' s' z => ?_))
  match r', z with
  | .error er, z => exact pass0 pins σ _ _ er s' I2 z
  | .ok .next, z => exact z.elim
  | .ok .brk, z => exact z.elim
  | .ok .cont, z => exact z.elim
  | .ok (.ret u), z =>
    obtain ⟨v, H2, J2, rv, ev, q⟩ := I2.after z
    subst ev
    exact ⟨rv, .ref _, H2, J2, rfl, q⟩
/-- the new instance, and what its __init__ does -/
def mkSp (C : Addr) (sp : Sp) (vs : List V) (H : Hp) (Q : VK) : Prop := ∀ a d, H a = none → H d = none → d ≠ a → sp (.ref a :: vs) (upd (upd H d (.own a)) a (.ins C d [])) (fun v H2 => v = .non ∧ Q (.ref a) H2) E0
/-- C(e, ..) -/
theorem pe_mkI (F : HasI X.prog X.w X.K X.mg X.base k x C ps sp) (hA : X.A.guards = some []) (hr : Room (k + 1) X.A) (hg : Gl X x) (ha : PA X (e :: es) t)
    (hdb : (x == ("__debug__" : Str)) = false := by decide) (he : starEach (e :: es) X.env = (false, eval e X.env) :: starEach es X.env := by rfl) (hpl : (backTo pos (starEach es X.env)).any (·.1) = false := by rfl) :
    PE X (.Call (.Name x p) (e :: es) [] pos) (fun σ H Q => t σ H fun vs H1 => vs.length = ps.length ∧ mkSp C sp vs H1 Q) := by
  obtain ⟨f, fd, F, M, hb, hm, _⟩ := F.ex
  refine ⟨fun pins s σ H Q I h => ?_⟩
  refine wpAny_Call_Name_kw (ld_glob I hg hm ?_ hdb)
  refine PySem.W.callWith_K (h₀ := X.base) I.ok.mod.kin M.kp (thn (ha.run pos pins s σ H _ I h) fun us s1 z => ?_) he hpl
  obtain ⟨vs, H1, I1, r1, n, q⟩ := z
  have l : us.length = ps.length := r1.length ▸ n
  refine ⟨I1.kIn, mkI_run (us := us) (ws := us) (kw := []) M F hA hr I1 r1 l (fun s' X' z => ?_) q⟩
  have b := hb s' (z :: us) X' (by simp [l])
  simpa using b
/-- C(k = v, ..), the names from the last parameter on -/
theorem pe_mkIK {ks : List Str} (F : HasI X.prog X.w X.K X.mg X.base k x C ps sp) (hA : X.A.guards = some []) (hr : Room (k + 1) X.A) (hg : Gl X x) (hk : PK X kws tk)
    (hks : (backToKw pos (keywordEach kws X.env)).filterMap (·.1) = ks := by rfl) (hord : ks = ps.reverse)
    (hall : (backToKw pos (keywordEach kws X.env)).all (·.1.isSome) = true := by rfl) (hpl : ((backTo pos (starEach [] X.env)).any (·.1) || (backToKw pos (keywordEach kws X.env)).any (·.1.isNone)) = false := by rfl)
    (hdb : (x == ("__debug__" : Str)) = false := by decide) :
    PE X (.Call (.Name x p) [] kws pos) (fun σ H Q => tk σ H fun zs H1 => zs.length = ps.length ∧ mkSp C sp zs.reverse H1 Q) := by
  obtain ⟨f, fd, F, M, _, hm, hb⟩ := F.ex
  refine ⟨fun pins s σ H Q I h => ?_⟩
  refine wpAny_Call_Name_kw (ld_glob I hg hm ?_ hdb)
  refine PySem.W.callWith_KW0 (h₀ := X.base) I.ok.mod.kin M.kp hall (thn (hk.run pos pins s σ H _ I h) fun us s1 z => ?_) hpl
  obtain ⟨zs, H1, I1, r, n, q⟩ := z
  have l : us.reverse.length = ps.length := by rw [List.length_reverse, ← r.length]; exact n
  refine ⟨I1.kIn, ?_⟩
  rw [hks, hord]
  refine mkI_run (us := []) (ws := us.reverse) M F hA hr I1 r.reverse l (fun s' _ z => ?_) q
  have b := hb s' z us.reverse l
  have ez : (ps.zip us.reverse).reverse = ps.reverse.zip us := by
    rw [List.zip_eq_zipWith, List.zip_eq_zipWith, List.reverse_zipWith l.symm, List.reverse_reverse]
  rw [ez] at b
  exact b
/-! ### fields -/
def uFld (K : PySem.W.Frag) (f : Str) (ta : TE) : TE := fun σ H Q => ta σ H fun x H1 => match x with
  | .ref a => ∃ C dx fs v, H1 a = some (.ins C dx fs) ∧ Cls K C ∧ NoAttr K C f ∧ fs.lookup f = some v ∧ Q v H1
  | _ => False
theorem pe_fldU {f : Str} {ta : TE} (he : PE X e ta) (hb : attributeBase e f X.env (eval e X.env) = eval e X.env := by rfl) : PE X (.Attribute e f pos) (uFld X.K f ta) := by
  refine PE.imp (pe_fld he hb) fun σ H Q h => ?_
  unfold uFld at h
  unfold tFld
  have e : (fun x H1 => match x with | .ref a => ∃ C dx fs v, H1 a = some (HO.ins C dx fs) ∧ Cls X.K C ∧ NoAttr X.K C f ∧ fs.lookup f = some v ∧ Q v H1 | _ => False) =
      (fun x H1 => ∃ a C dx fs v, x = V.ref a ∧ H1 a = some (HO.ins C dx fs) ∧ Cls X.K C ∧ NoAttr X.K C f ∧ fs.lookup f = some v ∧ Q v H1) := by
    funext x H1
    apply propext
    constructor
    · intro h
      split at h
      · obtain ⟨C, dx, fs, v, h⟩ := h; exact ⟨_, C, dx, fs, v, rfl, h⟩
      · exact h.elim
    · rintro ⟨a, C, dx, fs, v, rfl, h⟩; exact ⟨C, dx, fs, v, h⟩
  rw [e] at h
  exact h
end
end LK

/-! places that are come to, least texts to them -/
namespace LK
abbrev Rows := List (List Nat)
def gls (R : Rows) (p : Nat) : List Nat := R.getD p []
def add1 (f : List Nat) (g : Nat) : List Nat := if g ∈ f then f else f ++ [g]
def adds (f gs : List Nat) : List Nat := gs.foldl add1 f
/-- what is found behind i places gone on with -/
def fnd (R : Rows) (s : Nat) : Nat → List Nat
  | 0 => [s]
  | i + 1 => match (fnd R s i)[i]? with
    | some p => adds (fnd R s i) (gls R p)
    | none => fnd R s i
def met (R : Rows) (s : Nat) : List Nat := fnd R s R.length
/-- each row leads to places that are there -/
structure RowsOk (R : Rows) (m : Nat) : Prop where
  len : ∀ r ∈ R, r.length = m
  lt : ∀ r ∈ R, ∀ g ∈ r, g < R.length
theorem add1_pre {f : List Nat} {g : Nat} : f <+: add1 f g := by
  unfold add1; split
  · exact List.prefix_refl _
  · exact List.prefix_append _ _
theorem adds_pre {gs : List Nat} : ∀ {f : List Nat}, f <+: adds f gs := by
  induction gs with
  | nil => exact List.prefix_refl _
  | cons g gs ih => exact add1_pre.trans ih
theorem mem_add1 {f : List Nat} {g x : Nat} : x ∈ add1 f g ↔ x ∈ f ∨ x = g := by
  unfold add1; split
  · rename_i h
    exact ⟨.inl, fun z => z.elim id fun e => e ▸ h⟩
  · simp
theorem mem_adds {gs : List Nat} {x : Nat} : ∀ {f : List Nat}, x ∈ adds f gs ↔ x ∈ f ∨ x ∈ gs := by
  induction gs with
  | nil => simp [adds]
  | cons g gs ih =>
    intro f
    show x ∈ adds (add1 f g) gs ↔ _
    rw [ih, mem_add1, List.mem_cons, or_assoc]
theorem nd_add1 {f : List Nat} {g : Nat} (h : f.Nodup) : (add1 f g).Nodup := by
  unfold add1; split
  · exact h
  · rename_i n
    exact List.nodup_append.mpr ⟨h, by simp, fun a ha b hb e => n (by simp at hb; rw [← hb, ← e]; exact ha)⟩
theorem nd_adds {gs : List Nat} : ∀ {f : List Nat}, f.Nodup → (adds f gs).Nodup := by
  induction gs with
  | nil => exact fun h => h
  | cons g gs ih => exact fun h => ih (nd_add1 h)
section
variable {R : Rows} {s : Nat}
theorem fnd_pre1 (i : Nat) : fnd R s i <+: fnd R s (i + 1) := by
  show _ <+: (match (fnd R s i)[i]? with | some p => adds (fnd R s i) (gls R p) | none => fnd R s i)
  split
  · exact adds_pre
  · exact List.prefix_refl _
theorem fnd_pre {i j : Nat} (h : i ≤ j) : fnd R s i <+: fnd R s j := by
  induction j with
  | zero => obtain rfl : i = 0 := by omega
            exact List.prefix_refl _
  | succ j ih =>
    by_cases e : i = j + 1
    · rw [e]; exact List.prefix_refl _
    · exact (ih (by omega)).trans (fnd_pre1 j)
theorem fnd_step {i p : Nat} (h : (fnd R s i)[i]? = some p) : fnd R s (i + 1) = adds (fnd R s i) (gls R p) := by
  show (match (fnd R s i)[i]? with | some p => adds (fnd R s i) (gls R p) | none => fnd R s i) = _
  rw [h]
theorem fnd_stop {i : Nat} (h : (fnd R s i).length ≤ i) : ∀ j, i ≤ j → fnd R s j = fnd R s i := by
  intro j hj
  induction j with
  | zero => obtain rfl : i = 0 := by omega
            rfl
  | succ j ih =>
    by_cases e : i = j + 1
    · rw [e]
    · have ij := ih (by omega)
      have n : (fnd R s j)[j]? = none := by rw [ij]; exact List.getElem?_eq_none (by omega)
      show (match (fnd R s j)[j]? with | some p => adds (fnd R s j) (gls R p) | none => fnd R s j) = _
      rw [n]; exact ij
theorem fnd_nd : ∀ i, (fnd R s i).Nodup
  | 0 => by simp [fnd]
  | i + 1 => by
    have ih := fnd_nd i
    show List.Nodup (match (fnd R s i)[i]? with | some p => adds (fnd R s i) (gls R p) | none => fnd R s i)
    split
    · exact nd_adds ih
    · exact ih
theorem fnd_head (i : Nat) : s ∈ fnd R s i := (fnd_pre (Nat.zero_le i)).subset (by simp [fnd])
theorem gls_lt {m p g : Nat} (ok : RowsOk R m) (h : g ∈ gls R p) : g < R.length := by
  unfold gls at h
  rw [List.getD_eq_getElem?_getD] at h
  cases e : R[p]? with
  | none => rw [e] at h; cases h
  | some r => rw [e] at h; exact ok.lt r (List.mem_of_getElem? e) g h
theorem fnd_lt {m : Nat} (ok : RowsOk R m) (hs : s < R.length) : ∀ i, ∀ x ∈ fnd R s i, x < R.length
  | 0, x, h => by simp [fnd] at h; omega
  | i + 1, x, h => by
    have ih := fnd_lt ok hs i
    have h : x ∈ (match (fnd R s i)[i]? with | some p => adds (fnd R s i) (gls R p) | none => fnd R s i) := h
    split at h
    · rcases mem_adds.mp h with h | h
      · exact ih x h
      · exact gls_lt ok h
    · exact ih x h
theorem len_le_of_lt {l : List Nat} {n : Nat} (nd : l.Nodup) (h : ∀ x ∈ l, x < n) : l.length ≤ n := by
  have := List.Nodup.length_le_of_subset nd (l₂ := List.range n) fun x hx => List.mem_range.mpr (h x hx)
  rwa [List.length_range] at this
theorem fnd_len {m : Nat} (ok : RowsOk R m) (hs : s < R.length) (i : Nat) : (fnd R s i).length ≤ R.length := len_le_of_lt (fnd_nd i) (fnd_lt ok hs i)
/-- a walk that has come to its end has met all -/
theorem fnd_met {m i : Nat} (ok : RowsOk R m) (hs : s < R.length) (h : (fnd R s i).length ≤ i) : fnd R s i = met R s := by
  have l := fnd_len ok hs i
  by_cases e : i ≤ R.length
  · exact (fnd_stop h R.length e).symm
  · have l2 := fnd_len ok hs R.length
    exact fnd_stop l2 i (by omega)
theorem fnd_more {i : Nat} (h : i < (fnd R s R.length).length) (hi : i ≤ R.length) : i < (fnd R s i).length := by
  refine Nat.lt_of_not_le fun z => ?_
  rw [fnd_stop z R.length hi] at h
  omega
theorem met_closed {m p g : Nat} (ok : RowsOk R m) (hs : s < R.length) (hp : p ∈ met R s) (hg : g ∈ gls R p) : g ∈ met R s := by
  obtain ⟨k, hk⟩ := List.mem_iff_getElem?.mp hp
  have lk : k < (met R s).length := (List.getElem?_eq_some_iff.mp hk).1
  have ln := fnd_len ok hs R.length
  have lk2 : k < R.length := Nat.lt_of_lt_of_le lk ln
  have l1 := fnd_more lk (by omega)
  have e : (fnd R s k)[k]? = some p := by
    obtain ⟨t, et⟩ := fnd_pre (R := R) (s := s) (i := k) (j := R.length) (by omega)
    have hk2 : (fnd R s R.length)[k]? = some p := hk
    rw [← et, List.getElem?_append_left l1] at hk2
    exact hk2
  refine (fnd_pre (i := k + 1) (j := R.length) lk2).subset ?_
  rw [fnd_step e]
  exact mem_adds.mpr (.inr hg)
inductive Reach (R : Rows) (s : Nat) : Nat → Prop
  | here : Reach R s s
  | on {p g : Nat} : Reach R s p → g ∈ gls R p → Reach R s g
theorem reach_fnd : ∀ i, ∀ x ∈ fnd R s i, Reach R s x
  | 0, x, h => by simp [fnd] at h; rw [h]; exact .here
  | i + 1, x, h => by
    have ih := reach_fnd i
    have h : x ∈ (match (fnd R s i)[i]? with | some p => adds (fnd R s i) (gls R p) | none => fnd R s i) := h
    split at h
    · rename_i p e
      rcases mem_adds.mp h with h | h
      · exact ih x h
      · exact .on (ih p (List.mem_of_getElem? e)) h
    · exact ih x h
theorem mem_met {m x : Nat} (ok : RowsOk R m) (hs : s < R.length) : x ∈ met R s ↔ Reach R s x := by
  refine ⟨reach_fnd _ x, fun h => ?_⟩
  induction h with
  | here => exact fnd_head _
  | on _ hg ih => exact met_closed ok hs ih hg
/-- all places are come to -/
def Whole (R : Rows) : Prop := ∀ x, x < R.length → x ∈ met R 0
end
end LK

namespace LK
/-! ### other numbers for the places -/
def rn (R : Rows) (L : List Nat) : Rows := L.map fun p => (gls R p).map fun g => L.idxOf g
section
variable {R : Rows} {s m : Nat} {L : List Nat}
theorem rn_len : (rn R L).length = L.length := by simp [rn]
theorem rn_gls {x p : Nat} (h : L[x]? = some p) : gls (rn R L) x = (gls R p).map fun g => L.idxOf g := by
  unfold gls rn
  rw [List.getD_eq_getElem?_getD, List.getElem?_map, h]; rfl
theorem gls_len (ok : RowsOk R m) {p : Nat} (h : p < R.length) : (gls R p).length = m := by
  unfold gls
  rw [List.getD_eq_getElem?_getD, List.getElem?_eq_getElem h]
  exact ok.len _ (List.getElem_mem h)
theorem idx_get {p : Nat} (h : p ∈ L) : L[L.idxOf p]? = some p := by
  have lt := List.idxOf_lt_length_iff.mpr h
  rw [List.getElem?_eq_getElem lt, List.getElem_idxOf lt]
theorem rn_ok (ok : RowsOk R m) (hs : s < R.length) (h : ∀ x, x ∈ L ↔ x ∈ met R s) : RowsOk (rn R L) m := by
  constructor
  · intro r hr
    obtain ⟨p, hp, rfl⟩ := List.mem_map.mp hr
    rw [List.length_map]
    exact gls_len ok (fnd_lt ok hs _ p ((h p).mp hp))
  · intro r hr g hg
    obtain ⟨p, hp, rfl⟩ := List.mem_map.mp hr
    obtain ⟨q, hq, rfl⟩ := List.mem_map.mp hg
    rw [rn_len]
    exact List.idxOf_lt_length_iff.mpr ((h q).mpr (met_closed ok hs ((h p).mp hp) hq))
theorem rn_whole (ok : RowsOk R m) (hs : s < R.length) (nd : L.Nodup) (h : ∀ x, x ∈ L ↔ x ∈ met R s) (h0 : L[0]? = some s) : Whole (rn R L) := by
  intro x hx
  rw [rn_len] at hx
  have ok2 := rn_ok ok hs h
  have l0 : 0 < (rn R L).length := by rw [rn_len]; omega
  have key : ∀ p, Reach R s p → Reach (rn R L) 0 (L.idxOf p) := by
    intro p hp
    induction hp with
    | here =>
      have e : L.idxOf s = 0 := by
        cases L with
        | nil => cases h0
        | cons y L => simp at h0; rw [h0]; simp
      rw [e]; exact .here
    | on hp hg ih =>
      rename_i p g
      have hm : p ∈ L := (h p).mpr ((mem_met ok hs).mpr hp)
      refine .on ih ?_
      rw [rn_gls (idx_get hm)]
      exact List.mem_map.mpr ⟨g, hg, rfl⟩
  have hm := List.getElem_mem hx
  have r := key L[x] ((mem_met ok hs).mp ((h _).mp hm))
  rw [nd.idxOf_getElem] at r
  exact (mem_met ok2 l0).mpr r
theorem met_nd : (met R s).Nodup := fnd_nd _
theorem met_zero : (met R s)[0]? = some s := by
  obtain ⟨t, e⟩ := fnd_pre (R := R) (s := s) (Nat.zero_le R.length)
  show (fnd R s R.length)[0]? = _
  rw [← e]; rfl
end
/-! ### least texts -/
abbrev Ents := List (Nat × List Nat)
def add1T (t : List Nat) (f : Ents) (cg : Nat × Nat) : Ents := if cg.2 ∈ f.map (·.1) then f else f ++ [(cg.2, t ++ [cg.1])]
def addsT (t : List Nat) (f : Ents) (cs : List (Nat × Nat)) : Ents := cs.foldl (add1T t) f
def fndT (S : List Nat) (R : Rows) (s : Nat) : Nat → Ents
  | 0 => [(s, [])]
  | i + 1 => match (fndT S R s i)[i]? with
    | some e => addsT e.2 (fndT S R s i) (S.zip (gls R e.1))
    | none => fndT S R s i
section
variable {R : Rows} {s : Nat} {S : List Nat}
theorem addsT_keys {t : List Nat} : ∀ {cs : List (Nat × Nat)} {f : Ents}, (addsT t f cs).map (·.1) = adds (f.map (·.1)) (cs.map (·.2))
  | [], f => rfl
  | cg :: cs, f => by
    show (addsT t (add1T t f cg) cs).map (·.1) = adds (add1 (f.map (·.1)) cg.2) (cs.map (·.2))
    rw [addsT_keys]
    congr 1
    unfold add1T add1
    split <;> simp
theorem fndT_keys (ok : RowsOk R S.length) (hs : s < R.length) : ∀ i, (fndT S R s i).map (·.1) = fnd R s i
  | 0 => rfl
  | i + 1 => by
    have ih := fndT_keys ok hs i
    show List.map Prod.fst (match (fndT S R s i)[i]? with | some e => addsT e.2 (fndT S R s i) (S.zip (gls R e.1)) | none => fndT S R s i) = (match (fnd R s i)[i]? with | some p => adds (fnd R s i) (gls R p) | none => fnd R s i)
    have e1 : (fnd R s i)[i]? = Option.map Prod.fst ((fndT S R s i)[i]?) := by rw [← ih, List.getElem?_map]
    cases h : (fndT S R s i)[i]? with
    | none => rw [h] at e1; rw [e1]; exact ih
    | some e =>
      rw [h] at e1; rw [e1]
      show (addsT e.2 (fndT S R s i) (S.zip (gls R e.1))).map (·.1) = adds (fnd R s i) (gls R e.1)
      rw [addsT_keys, ih]
      congr 1
      have lt : e.1 < R.length := fnd_lt ok hs i e.1 (by rw [← ih]; exact List.mem_map.mpr ⟨e, List.mem_of_getElem? h, rfl⟩)
      have l := gls_len ok lt
      exact List.map_snd_zip (by omega)
theorem fndT_step {i : Nat} {e : Nat × List Nat} (h : (fndT S R s i)[i]? = some e) : fndT S R s (i + 1) = addsT e.2 (fndT S R s i) (S.zip (gls R e.1)) := by
  show (match (fndT S R s i)[i]? with | some e => addsT e.2 (fndT S R s i) (S.zip (gls R e.1)) | none => fndT S R s i) = _
  rw [h]
theorem fndT_stop {i : Nat} (h : (fndT S R s i).length ≤ i) : ∀ j, i ≤ j → fndT S R s j = fndT S R s i := by
  intro j hj
  induction j with
  | zero => obtain rfl : i = 0 := by omega
            rfl
  | succ j ih =>
    by_cases e : i = j + 1
    · rw [e]
    · have ij := ih (by omega)
      have n : (fndT S R s j)[j]? = none := by rw [ij]; exact List.getElem?_eq_none (by omega)
      show (match (fndT S R s j)[j]? with | some e => addsT e.2 (fndT S R s j) (S.zip (gls R e.1)) | none => fndT S R s j) = _
      rw [n]; exact ij
def metT (S : List Nat) (R : Rows) (s : Nat) : Ents := fndT S R s R.length
theorem fndT_met (ok : RowsOk R S.length) (hs : s < R.length) {i : Nat} (h : (fndT S R s i).length ≤ i) : fndT S R s i = metT S R s := by
  have k := fndT_keys ok hs i
  have l : (fndT S R s i).length ≤ R.length := by rw [← List.length_map (f := (·.1)), k]; exact fnd_len ok hs i
  by_cases e : i ≤ R.length
  · exact (fndT_stop h R.length e).symm
  · have k2 := fndT_keys ok hs R.length
    have l2 : (fndT S R s R.length).length ≤ R.length := by rw [← List.length_map (f := (·.1)), k2]; exact fnd_len ok hs R.length
    exact fndT_stop l2 i (by omega)
/-! ### they rise -/
/-- shorter, or of one length and ahead -/
def Lt2 (a b : List Nat) : Prop := a.length < b.length ∨ (a.length = b.length ∧ a < b)
theorem lt_app {a b x y : List Nat} (h : a < b) (l : a.length = b.length) : a ++ x < b ++ y := by
  induction a generalizing b with
  | nil => cases b with
    | nil => exact absurd h (List.lt_irrefl _)
    | cons _ _ => simp at l
  | cons c a ih => cases b with
    | nil => simp at l
    | cons d b =>
      rw [List.cons_append, List.cons_append, List.cons_lt_cons_iff]
      rcases List.cons_lt_cons_iff.mp h with h | ⟨e, h⟩
      · exact .inl h
      · exact .inr ⟨e, ih h (by simpa using l)⟩
theorem lt_app1 {a : List Nat} {c d : Nat} (h : c < d) : a ++ [c] < a ++ [d] := by
  induction a with
  | nil => exact List.cons_lt_cons_iff.mpr (.inl h)
  | cons x a ih => exact List.cons_lt_cons_iff.mpr (.inr ⟨rfl, ih⟩)
theorem Lt2.app {a b : List Nat} {c d : Nat} (h : Lt2 a b) : Lt2 (a ++ [c]) (b ++ [d]) := by
  rcases h with h | ⟨l, h⟩
  · exact .inl (by simp; omega)
  · exact .inr ⟨by simp [l], lt_app h l⟩
/-- the texts rise, each made of one that was gone on with, or empty -/
structure Rsg (f : Ents) (i : Nat) : Prop where
  up : f.Pairwise fun a b => Lt2 a.2 b.2
  from_ : ∀ e ∈ f, e.2 = [] ∨ ∃ j q c, j < i ∧ f[j]? = some q ∧ e.2 = q.2 ++ [c]
theorem add_rise {t : List Nat} : ∀ {cs : List (Nat × Nat)} {f : Ents}, (cs.map (·.1)).Pairwise (· < ·) → f.Pairwise (fun a b => Lt2 a.2 b.2) → (∀ e ∈ f, ∀ cg ∈ cs, Lt2 e.2 (t ++ [cg.1])) →
    (addsT t f cs).Pairwise (fun a b => Lt2 a.2 b.2) ∧ f <+: addsT t f cs ∧ ∀ e ∈ addsT t f cs, e ∈ f ∨ ∃ c, e.2 = t ++ [c]
  | [], f, _, h, _ => ⟨h, List.prefix_refl _, fun e he => .inl he⟩
  | cg :: cs, f, hc, h, hb => by
    obtain ⟨c1, c2⟩ := List.pairwise_cons.mp (show (cg.1 :: cs.map (·.1)).Pairwise (· < ·) from hc)
    have step : (add1T t f cg).Pairwise (fun a b => Lt2 a.2 b.2) ∧ f <+: add1T t f cg ∧ (∀ e ∈ add1T t f cg, ∀ x ∈ cs, Lt2 e.2 (t ++ [x.1])) ∧ ∀ e ∈ add1T t f cg, e ∈ f ∨ ∃ c, e.2 = t ++ [c] := by
      unfold add1T
      split
      · exact ⟨h, List.prefix_refl _, fun e he x hx => hb e he x (by simp [hx]), fun e he => .inl he⟩
      · refine ⟨List.pairwise_append.mpr ⟨h, by simp, fun a ha b hb2 => ?_⟩, List.prefix_append _ _, fun e he x hx => ?_, fun e he => ?_⟩
        · simp at hb2; rw [hb2]; exact hb a ha cg (by simp)
        · rcases List.mem_append.mp he with he | he
          · exact hb e he x (by simp [hx])
          · simp at he; rw [he]
            exact .inr ⟨by simp, lt_app1 (c1 x.1 (List.mem_map.mpr ⟨x, hx, rfl⟩))⟩
        · rcases List.mem_append.mp he with he | he
          · exact .inl he
          · simp at he; exact .inr ⟨cg.1, by rw [he]⟩
    obtain ⟨s1, s2, s3, s4⟩ := step
    obtain ⟨r1, r2, r3⟩ := add_rise c2 s1 s3
    refine ⟨r1, s2.trans r2, fun e he => ?_⟩
    rcases r3 e he with h | h
    · exact s4 e h
    · exact .inr h
theorem zip_keys {S g : List Nat} (hS : S.Pairwise (· < ·)) : ((S.zip g).map (·.1)).Pairwise (· < ·) := by
  refine List.Pairwise.sublist ?_ hS
  clear hS
  induction S generalizing g with
  | nil => simp
  | cons c S ih => cases g with
    | nil => simp
    | cons x g => exact (ih (g := g)).cons₂ c
theorem fndT_rise (hS : S.Pairwise (· < ·)) : ∀ i, Rsg (fndT S R s i) i
  | 0 => ⟨by simp [fndT], fun e he => by simp [fndT] at he; rw [he]; exact .inl rfl⟩
  | i + 1 => by
    have ih := fndT_rise hS i
    cases h : (fndT S R s i)[i]? with
    | none =>
      have e : fndT S R s (i + 1) = fndT S R s i := by
        show (match (fndT S R s i)[i]? with | some e => addsT e.2 (fndT S R s i) (S.zip (gls R e.1)) | none => fndT S R s i) = _
        rw [h]
      rw [e]
      refine ⟨ih.up, fun e he => ?_⟩
      rcases ih.from_ e he with h | ⟨j, q, c, h1, h2, h3⟩
      · exact .inl h
      · exact .inr ⟨j, q, c, by omega, h2, h3⟩
    | some p =>
      rw [fndT_step h]
      have bound : ∀ e ∈ fndT S R s i, ∀ cg ∈ S.zip (gls R p.1), Lt2 e.2 (p.2 ++ [cg.1]) := by
        intro e he cg _
        rcases ih.from_ e he with h' | ⟨j, q, c, h1, h2, h3⟩
        · rw [h']; exact .inl (by simp)
        · rw [h3]
          refine Lt2.app ?_
          have := List.pairwise_iff_getElem.mp ih.up j i (List.getElem?_eq_some_iff.mp h2).1 (List.getElem?_eq_some_iff.mp h).1 h1
          rw [(List.getElem?_eq_some_iff.mp h2).2, (List.getElem?_eq_some_iff.mp h).2] at this
          exact this
      obtain ⟨r1, r2, r3⟩ := add_rise (zip_keys hS) ih.up bound
      have up : ∀ {j : Nat} {q : Nat × List Nat}, (fndT S R s i)[j]? = some q → (addsT p.2 (fndT S R s i) (S.zip (gls R p.1)))[j]? = some q := fun {j q} hq => by
        obtain ⟨t, e⟩ := r2
        rw [← e]; exact (List.getElem?_append_left (List.getElem?_eq_some_iff.mp hq).1).trans hq
      refine ⟨r1, fun e he => ?_⟩
      rcases r3 e he with h' | ⟨c, h'⟩
      · rcases ih.from_ e h' with h | ⟨j, q, c, h1, h2, h3⟩
        · exact .inl h
        · exact .inr ⟨j, q, c, by omega, up h2, h3⟩
      · exact .inr ⟨i, p, c, by omega, up h, h'⟩
end
end LK

/-! what any law's proof wants -/
namespace LK
open PySem PySem.Spec PyProof.Rows L2 LamX
open scoped List
theorem Room.u1 {k : Nat} {A : Around} (r : Room k A) : A.units + 1 < cLine := by have := r.un; omega
theorem Room.u64 {k : Nat} {A : Around} (r : Room k A) : A.units + 64 < cLine := by have := r.un; omega
/-- names of built-ins that the module leaves as they are -/
structure Mx (mg : Str → Option Value) : Prop where
  tuple : mg "tuple" = none
  zip : mg "zip" = none
  set : mg "set" = none
  bool : mg "bool" = none
  any : mg "any" = none
  enumerate : mg "enumerate" = none
  ve : mg "ValueError" = none
  re : mg "RuntimeError" = none
  ae : mg "ArithmeticError" = none
  len : mg "len" = none
  isi : mg "isinstance" = none
  all : mg "all" = none
  str : mg "str" = none
  list : mg "list" = none
  sorted : mg "sorted" = none
  range : mg "range" = none
  sum : mg "sum" = none
  repr : mg "repr" = none
  int : mg "int" = none
  abs : mg "abs" = none
  max : mg "max" = none
  min : mg "min" = none
  divmod : mg "divmod" = none

theorem b_tuple : bootBuiltins "tuple" = some (.type "tuple") := by decide +kernel
theorem b_set : bootBuiltins "set" = some (.type "set") := by decide +kernel
theorem b_bool : bootBuiltins "bool" = some (.type "bool") := by decide +kernel
theorem b_len : bootBuiltins "len" = some (.builtin "len") := by decide +kernel
theorem b_isi : bootBuiltins "isinstance" = some (.builtin "isinstance") := by decide +kernel
theorem b_all : bootBuiltins "all" = some (.builtin "all") := by decide +kernel
theorem b_str : bootBuiltins "str" = some (.type "str") := by decide +kernel
theorem b_list : bootBuiltins "list" = some (.type "list") := by decide +kernel
theorem b_sorted : bootBuiltins "sorted" = some (.builtin "sorted") := by decide +kernel
theorem b_sum : bootBuiltins "sum" = some (.builtin "sum") := by decide +kernel
theorem b_repr : bootBuiltins "repr" = some (.builtin "repr") := by decide +kernel
theorem b_int : bootBuiltins "int" = some (.type "int") := by decide +kernel
theorem b_abs : bootBuiltins "abs" = some (.builtin "abs") := by decide +kernel
theorem b_max : bootBuiltins "max" = some (.builtin "max") := by decide +kernel
theorem b_min : bootBuiltins "min" = some (.builtin "min") := by decide +kernel
theorem b_any : bootBuiltins "any" = some (.builtin "any") := by decide +kernel
theorem b_ve : bootBuiltins "ValueError" = some (.type "ValueError") := by decide +kernel
theorem b_re : bootBuiltins "RuntimeError" = some (.type "RuntimeError") := by decide +kernel
theorem b_ae : bootBuiltins "ArithmeticError" = some (.type "ArithmeticError") := by decide +kernel
theorem b_divmod : bootBuiltins "divmod" = some (.builtin "divmod") := by decide +kernel

/-! ### heaps -/
/-- all stays but what S names and the tables; what is told of the tables stays true -/
structure Ex (TT : List (Addr × Str)) (S : Addr → Prop) (H H' : Hp) : Prop where
  keep : ∀ b o, ¬ S b → H b = some o → (∀ ps, o ≠ .tbl ps) → H' b = some o
  tabs : Tabs TT H → Tabs TT H'
abbrev no : Addr → Prop := fun _ => False
abbrev at1 (p : Addr) : Addr → Prop := fun b => b = p
section
variable {TT : List (Addr × Str)} {S : Addr → Prop} {H H1 H2 : Hp}
theorem Ex.refl : Ex TT S H H := ⟨fun _ _ _ h _ => h, fun h => h⟩
theorem Ex.trans (a : Ex TT S H H1) (b : Ex TT S H1 H2) : Ex TT S H H2 := ⟨fun c o n h m => b.keep c o n (a.keep c o n h m) m, fun t => b.tabs (a.tabs t)⟩
theorem Ex.same (e : Same H H1) : Ex TT S H H1 := ⟨fun b o _ h _ => e b o h, fun t => t.ext e⟩
theorem Ex.mono {S' : Addr → Prop} (e : Ex TT S H H1) (h : ∀ b, S b → S' b) : Ex TT S' H H1 := ⟨fun b o n => e.keep b o (fun z => n (h b z)), e.tabs⟩
theorem Ex.of_no (e : Ex TT no H H1) : Ex TT S H H1 := e.mono fun _ z => z.elim
theorem same_upd {p : Addr} {o : HO} (h : H p = none) : Same H (upd H p o) := fun b x e => by
  rw [upd_ne (ne_of_none e h)]; exact e
theorem Ex.new {p : Addr} {o : HO} (h : H p = none) : Ex TT S H (upd H p o) := .same (same_upd h)
theorem Ex.lst {a : Addr} {xs : List V} (e : Ex TT S H H1) (n : ¬ S a) (h : H a = some (.lst xs)) : H1 a = some (.lst xs) := e.keep a _ n h fun ps z => nomatch z
theorem Ex.sq {K : PySem.W.Frag} {a : Addr} {xs : List V} (e : Ex TT S H H1) (n : ¬ S a) (h : SqL K H a xs) : SqL K H1 a xs := by
  rcases h with (h | ⟨o, h⟩) | h
  · exact .inl (.inl (e.keep _ _ n h fun ps z => nomatch z))
  · exact .inl (.inr ⟨o, e.keep _ _ n h fun ps z => nomatch z⟩)
  · exact .inr h
theorem Ex.extN (e : Ex TT no H H1) : ExtN H H1 := fun b o h n => e.keep b o (fun z => z) h n
theorem ex_of (x : ExtN H H1) (t : Tabs TT H1) : Ex TT S H H1 := ⟨fun b o _ h n => x b o h n, fun _ => t⟩
/-- a list, dict, ... of one's own is written -/
theorem Ex.write {p : Addr} {o o' : HO} (hS : S p) (h : H p = some o) (n : ∀ ps, o ≠ .tbl ps) (n2 : ∀ c q, o ≠ CodeO c q) : Ex TT S H (upd H p o') := by
  refine ⟨fun b u nb hb _ => ?_, fun t x hx => ?_⟩
  · have : b ≠ p := fun e => nb (e ▸ hS)
    rw [upd_ne this]; exact hb
  · obtain ⟨ps, h1, h2, h3⟩ := t x hx
    refine ⟨ps, ?_, h2, fun pos cv hc => ?_⟩
    · have : x.1 ≠ p := fun e => by rw [e, h] at h1; exact n _ (Option.some.inj h1)
      rw [upd_ne this]; exact h1
    · obtain ⟨c, e1, e2⟩ := h3 pos cv hc
      refine ⟨c, e1, ?_⟩
      have : c ≠ p := fun e => by rw [e, h] at e2; exact n2 _ _ (by rw [Option.some.inj e2])
      rw [upd_ne this]; exact e2
end

section
variable {X : Cx} {e : Expr} {t : TE} {K : PySem.W.Frag} {g : TG} {tb : TS} {D : Ends} {σ : L2.St} {H : Hp}
/-- a reading closed upwards -/
def cl (t : TE) : TE := fun σ H Q => ∃ Q0 : VK, t σ H Q0 ∧ ∀ v H', Q0 v H' → Q v H'
theorem pe_cl (h : PE X e t) : PE X e (cl t) := by
  refine ⟨fun pins s σ H Q I z => ?_⟩
  obtain ⟨Q0, h0, m⟩ := z
  refine wpAny_mono (h.run pins s σ H Q0 I h0) (fun v s' q => ?_) (fun _ _ z => z)
  obtain ⟨x, H', I', r, q⟩ := q
  exact ⟨x, H', I', r, m _ _ q⟩
/-- what a loop over a list asks, wherever the list comes to lie -/
def LoopL (K : PySem.W.Frag) (g : TG) (tb : TS) (D : Ends) (σ : L2.St) : VK := fun x H1 => ∃ a xs, x = .ref a ∧ SqL K H1 a xs ∧ ∃ Iv : List V → L2.St → Hp → Prop, (∀ pre σ H, Iv pre σ H → SqL K H a xs) ∧ Iv [] σ H1 ∧
  (∀ pre x suf σ H, xs = pre ++ x :: suf → Iv pre σ H → g x σ H fun σ2 H2 => tb { D with nx := Iv (pre ++ [x]), ct := Iv (pre ++ [x]), bk := D.nx } σ2 H2) ∧ (∀ σ H, Iv xs σ H → D.nx σ H)
theorem forM_list (h : t σ H (LoopL K g tb D σ)) : tFor (iList K (cl t)) g tb D σ H := by
  refine ⟨_, h, fun v H' z => ?_⟩
  obtain ⟨a, xs, rfl, hx, Iv, h1, h2, h3, h4⟩ := z
  exact ⟨a, rfl, ⟨_, hx⟩, for_wk wk_list Iv h1 h2 h3 h4⟩
end
theorem same_upd2 {H H1 : Hp} {p : Addr} {o : HO} (e : Same H H1) (h : H p = none) : Same H (upd H1 p o) := fun b x z => by
  rw [upd_ne (ne_of_none z h)]; exact e b x z

abbrev LT (l : List Nat) : V := .str (T l)
def New (H : Hp) (p : Addr) : Prop := ∀ b o, H b = some o → (∀ ps, o ≠ .tbl ps) → b ≠ p
def Pot (H : Hp) (p : Addr) : Prop := ∃ i j : Int, 0 ≤ i ∧ 0 ≤ j ∧ j < 2 ^ 32 ∧ H p = some (.lst [.int i, .int j])
section
variable {TT : List (Addr × Str)} {S : Addr → Prop} {H H1 : Hp}
theorem Ex.put {D : Addr} {o o' : HO} (e : Ex TT S H H1) (n : H D = none) (h : H1 D = some o) (n1 : ∀ ps, o ≠ .tbl ps) (n2 : ∀ c q, o ≠ CodeO c q) : Ex TT S H (upd H1 D o') :=
  ⟨fun b u nb hb m => by
    have : b ≠ D := ne_of_none hb n
    rw [upd_ne this]; exact e.keep b u nb hb m, fun t => (Ex.write (TT := TT) (S := at1 D) rfl h n1 n2).tabs (e.tabs t)⟩
theorem Pot.put {H : Hp} {p D : Addr} {o : HO} (h : Pot H p) (ne : p ≠ D) : Pot (upd H D o) p := by
  obtain ⟨i, j, a, b, c, d⟩ := h
  exact ⟨i, j, a, b, c, by rw [upd_ne ne]; exact d⟩
theorem Pot.ne {H : Hp} {p D : Addr} (h : Pot H p) (n : H D = none) : p ≠ D := by
  obtain ⟨i, j, a, b, c, d⟩ := h
  exact ne_of_none d n
theorem Pot.ex {p : Addr} (h : Pot H p) (e : Ex TT no H H1) : Pot H1 p := by
  obtain ⟨i, j, a, b, c, d⟩ := h
  exact ⟨i, j, a, b, c, e.lst (fun z => z) d⟩
theorem Ex.free {D : Addr} (e : Ex TT no H H1) (n : H1 D = none) : ¬ (∃ o, H D = some o ∧ ∀ ps, o ≠ .tbl ps) := fun ⟨o, h, m⟩ => by
  have := e.keep D o (fun z => z) h m
  rw [n] at this; cases this
end
section
variable {g : TG} {te : TE} {σ : L2.St} {H : Hp} {vs : List Nat} {Q : VK} {t : TE}
theorem lc_rngM (h : t σ H fun v H1 => ∃ n : Nat, v = .int n ∧ n < 1000000 ∧ ∃ R : Addr → Nat → List V → Hp → Prop, (∀ D, H1 D = none → R D 0 [] (upd H1 D (.lst []))) ∧
    (∀ D, H1 D = none → ∀ i acc H, i < n → R D i acc H → g (.int i) (wipe σ vs) H fun σ2 H2 => wipe σ2 vs = wipe σ vs ∧ te σ2 H2 fun y H4 =>
      ∃ acc, H4 D = some (.lst acc) ∧ acc.length < sizeLine ∧ ∃ a, R D (i + 1) a (upd H4 D (.lst (acc ++ [y])))) ∧
    (∀ D, H1 D = none → ∀ acc H, R D n acc H → Q (.ref D) H)) : tLc (iRng1 (tCons (cl t) tNil)) g tYes te vs σ H Q := by
  refine ⟨_, h, fun v H1 z => ?_⟩
  obtain ⟨n, rfl, hn, R, h0, hs, he⟩ := z
  exact lc_rng (t := fun _ H R => R [.int n] H) (fun R h => h) hn R h0 hs he
end
section
variable {TT : List (Addr × Str)} {S : Addr → Prop} {H H1 : Hp}
theorem Ex.putN {D : Addr} {o o' : HO} (e : Ex TT S H H1) (n : New H D) (h : H1 D = some o) (n1 : ∀ ps, o ≠ .tbl ps) (n2 : ∀ c q, o ≠ CodeO c q) : Ex TT S H (upd H1 D o') :=
  ⟨fun b u nb hb m => by
    have : b ≠ D := n b u hb m
    rw [upd_ne this]; exact e.keep b u nb hb m, fun t => (Ex.write (TT := TT) (S := at1 D) rfl h n1 n2).tabs (e.tabs t)⟩
theorem Ex.newN {p D : Addr} (e : Ex TT (at1 p) H H1) (pot : Pot H1 p) (n : H1 D = none) : New H D := fun b o hb m z => by
  subst z
  by_cases hp : b = p
  · subst hp; exact pot.ne n rfl
  · have := e.keep b o hp hb m
    rw [n] at this; cases this
end
theorem has_of {P : Program} {w : World} {K : PySem.W.Frag} {mg : Str → Option Value} {base : Heap} {k : Nat} {f : Addr} {fd : FuncData} {x : Str} {ps : List Str} {sp : Sp} (F : FnG P w K mg base CX0 k f fd ps sp) (hm : mg x = some (.ref f))
    (kp : PySem.W.keepIn K (.ref f) = true) (b : Binds K fd ps []) (bk : ∀ (s : Shared) (us : List Value), us.length = ps.length → BindsTo s fd ⟨[], ps.zip us⟩ (ps.zip us) ∧ BindsTo s fd ⟨[], (ps.zip us).reverse⟩ (ps.zip us)) : Has P w K mg base k x ps sp :=
  ⟨f, fd, F, hm, kp, b, bk⟩
section
def clT (t : TT) : TT := fun σ H Q => ∃ Q0 : Bool → Hp → Prop, t σ H Q0 ∧ ∀ v H', Q0 v H' → Q v H'
theorem pt_cl {X : Cx} {e : Expr} {t : TT} (h : PT X e t) : PT X e (clT t) := by
  refine ⟨fun pins s σ H Q I z => ?_⟩
  obtain ⟨Q0, h0, m⟩ := z
  refine wpAny_mono (h.run pins s σ H Q0 I h0) (fun v s' q => ?_) (fun _ _ z => z)
  obtain ⟨H', I', q⟩ := q
  exact ⟨H', I', m _ _ q⟩
end
/-! ### data that is shown -/
structure Leaf (d : PyData) : Prop where
  sh : d.showable = true
  nd : d.hasDict = false
  dp : d.depth = 0
  lf : d.leavesShort 13 = true
  wt : d.weight ≤ 400
theorem leaf_bool (b : Bool) : Leaf (.bool b) := ⟨rfl, rfl, rfl, rfl, Nat.zero_le _⟩
theorem leaf_str {l : List Nat} (h : ∀ c ∈ l, c < 16 ^ 8) (hl : l.length ≤ 400) : Leaf (.str (T l)) := by
  refine ⟨rfl, rfl, rfl, ?_, hl⟩
  show (l.all fun c => decide (c < 16 ^ 8)) = true
  rw [List.all_eq_true]
  intro c hc
  exact decide_eq_true (h c hc)
theorem leaf_int {i : Int} (h0 : 0 ≤ i) (h : i ≤ 100000) : Leaf (.int i) := by
  have h1 : i.natAbs < 2 ^ 17 := by omega
  have hl : i.natAbs.log2 < 17 := by
    by_cases e : i.natAbs = 0
    · rw [e]; decide
    · exact (Nat.log2_lt e).mpr h1
  refine ⟨?_, rfl, rfl, ?_, ?_⟩
  · show decide (i.natAbs.log2 < 1920) = true
    exact decide_eq_true (by omega)
  · show decide ((PyData.shown (.int i)).length ≤ 13) = true
    exact decide_eq_true (PyData.shown_int_le (by omega))
  · show (if i == 0 then 0 else i.natAbs.log2 + 1) ≤ 400
    split <;> omega
theorem shw_leaves {ds : List PyData} (h : ∀ d ∈ ds, Leaf d) (n : ds.length ≤ 2000) : Shw (.list ds) := by
  have key : PyData.showableAll ds = true ∧ PyData.hasDictAll ds = false ∧ PyData.depthAll ds = 0 ∧ PyData.leavesShortAll 13 ds = true ∧ PyData.weightAll ds ≤ 401 * ds.length := by
    clear n
    induction ds with
    | nil => exact ⟨rfl, rfl, rfl, rfl, Nat.le_refl _⟩
    | cons d ds ih =>
      obtain ⟨a, b, c, e, f⟩ := ih fun x hx => h x (List.mem_cons_of_mem _ hx)
      obtain ⟨a1, b1, c1, e1, f1⟩ := h d (by simp)
      refine ⟨?_, ?_, ?_, ?_, ?_⟩
      · rw [PyData.showableAll, a1, a]; rfl
      · rw [PyData.hasDictAll, b1, b]; rfl
      · rw [PyData.depthAll, c1, c]; rfl
      · rw [PyData.leavesShortAll, e1, e]; rfl
      · rw [PyData.weightAll, List.length_cons]; omega
  obtain ⟨a, b, c, e, f⟩ := key
  refine ⟨by rw [PyData.showable]; exact a, fun z => ?_, ?_, by rw [PyData.leavesShort]; exact e, ?_⟩
  · rw [PyData.hasDict, b] at z; cases z
  · rw [PyData.depth, c]; decide
  · rw [PyData.weight]
    have : (2 : Nat) ^ 20 = 1048576 := by decide
    omega
theorem dpAll_str {K : PySem.W.Frag} {H : Hp} : ∀ ls : List (List Nat), DpAll K H (ls.map fun l => .str (T l)) (ls.map encT)
  | [] => .nil
  | l :: ls => .cons (.str _) (dpAll_str ls)
theorem dpAll_int {K : PySem.W.Frag} {H : Hp} : ∀ ls : List Int, DpAll K H (ls.map V.int) (ls.map PyData.int)
  | [] => .nil
  | l :: ls => .cons (.int _) (dpAll_int ls)
theorem dpAll_bl {K : PySem.W.Frag} {H : Hp} : ∀ ls : List Bool, DpAll K H (ls.map V.bl) (ls.map PyData.bool)
  | [] => .nil
  | l :: ls => .cons (.bl _) (dpAll_bl ls)
end LK

/-! the program's statements, by their names -/
namespace LK
open PySem PySem.Spec PyProof.Rows L2 LamX
def topM (i : Nat) : Stmt := PySem.Challenge.pw_missedparts_k74_whole_kinds_and_goals_tu.main.body.getD i (.Pass ⟨0, 0, 0, 0⟩)
/-- the i-th statement within the class -/
def inCls (st : Stmt) (i : Nat) : Stmt := match st with
  | .ClassDef (body := b) .. => b.getD i (.Pass ⟨0, 0, 0, 0⟩)
  | _ => .Pass ⟨0, 0, 0, 0⟩
abbrev sIsInt : Stmt := topM 4
abbrev sIsText : Stmt := topM 5
abbrev sIsOver : Stmt := topM 6
abbrev sAreLet : Stmt := topM 7
abbrev sMach : Stmt := topM 24
abbrev sInit : Stmt := inCls sMach 1
abbrev sComeTo : Stmt := inCls sMach 2
abbrev sLetters : Stmt := inCls sMach 3
abbrev sRows : Stmt := inCls sMach 4
abbrev sKinds : Stmt := inCls sMach 5
abbrev sGoal : Stmt := inCls sMach 6
abbrev sGoes : Stmt := inCls sMach 7
abbrev sTakes : Stmt := inCls sMach 8
abbrev sFirstText : Stmt := inCls sMach 9
abbrev sFirstTaken : Stmt := inCls sMach 10
abbrev sAt : Stmt := inCls sMach 11
abbrev sNumbered : Stmt := inCls sMach 12
abbrev sLeast : Stmt := inCls sMach 13
abbrev sLen : Stmt := inCls sMach 14
abbrev sHas : Stmt := inCls sMach 15
abbrev sEq : Stmt := inCls sMach 16
abbrev sRepr : Stmt := inCls sMach 17
abbrev sAnd : Stmt := inCls sMach 18
abbrev sOr : Stmt := inCls sMach 19
abbrev sSub : Stmt := inCls sMach 20
abbrev sInv : Stmt := inCls sMach 21
abbrev sNeedPlace : Stmt := inCls sMach 22
abbrev sLed : Stmt := inCls sMach 23
abbrev sNeedText : Stmt := topM 25
abbrev sSameLet : Stmt := topM 26
abbrev sNeedParts : Stmt := topM 27
abbrev sIsRow : Stmt := topM 28
abbrev sIsPlace : Stmt := topM 29
abbrev sMetFrom : Stmt := topM 30
abbrev sNumFrom : Stmt := topM 31
abbrev sPaired : Stmt := topM 32
abbrev sKindsOf : Stmt := topM 33
abbrev sTurned : Stmt := topM 35
abbrev sRedir : Stmt := topM 36
abbrev sUnlike : Stmt := topM 37
abbrev sPot : Stmt := topM 39
abbrev sDraw : Stmt := topM 40
abbrev sPick : Stmt := topM 41
abbrev sLMet : Stmt := topM 42
abbrev sLTurned : Stmt := topM 43
abbrev sLRows : Stmt := topM 44
abbrev sModel : Stmt := topM 45
abbrev sLMachine : Stmt := topM 46
abbrev sSigns : Stmt := topM 47
abbrev sLTakes : Stmt := topM 48
abbrev sWords : Stmt := topM 49
abbrev sMixed : Stmt := topM 50
abbrev sTModel : Stmt := topM 51
abbrev sSpots : Stmt := topM 52
abbrev sLLed : Stmt := topM 53
abbrev sLedRight : Stmt := topM 54
abbrev sSteps : Stmt := topM 55
abbrev sGreat : Stmt := topM 56
abbrev sRight : Stmt := topM 57
abbrev sLaw : Stmt := topM 58
end LK

/-! k14: the defs of missedparts.basics -/
namespace LK
open PySem PySem.Spec PyProof.Rows L2 LamX
open scoped List
abbrev smalls : List Nat := cs "abcdefghijklmnopqrstuvwxyz"
def Small (l : List Nat) : Prop := ∀ c ∈ l, c ∈ smalls
theorem Small.asc {l : List Nat} (h : Small l) : ∀ c ∈ l, c < 128 := fun c hc => by
  have k : ∀ d ∈ smalls, d < 128 := by decide +kernel
  exact k c (h c hc)
/-- the letters of a machine -/
structure LetOk (S : List Nat) : Prop where
  up : Ris1 S
  sm : Small S
  lo : 1 ≤ S.length
  hi : S.length ≤ 3
abbrev iv (row : List Nat) : List V := row.map fun (g : Nat) => V.int (g : Int)
section
variable {X : Cx} {a b c : Expr} {ta tb tc : TE} {pos : Pos}
theorem pt_ch {op op' : CmpOp} {r r' : R2} (ho : OpR X (compareOp op) r) (ho' : OpR X (compareOp op') r') (ha : PE X a ta) (hb : PE X b tb) (hc : PE X c tc)
    (hm : lastMarks [op, op'] [b, c] = false := by with_unfolding_all rfl) : PT X (.Compare a [op, op'] [b, c] pos) (uT (uChain r r' ta tb tc)) := pt_chainU (t2 := ta) (pt_chain ho ho' ha hb hc hm)
theorem pe_ch {op op' : CmpOp} {r r' : R2} (ho : OpR X (compareOp op) r) (ho' : OpR X (compareOp op') r') (ha : PE X a ta) (hb : PE X b tb) (hc : PE X c tc)
    (hm : lastMarks [op, op'] [b, c] = false := by with_unfolding_all rfl) : PE X (.Compare a [op, op'] [b, c] pos) (uChain r r' ta tb tc) := pe_chainU ho ho' ha hb hc (pe_chain ho ho' ha hb hc hm)
end
section
variable {P : Program} {w : World} {K : PySem.W.Frag} {mg : Str → Option Value} {base : Heap}
theorem scIsInt : FnScope ["value"] ["value"] (defScope sIsInt) := ⟨rfl, rfl, rfl, by decide +kernel, rfl, by decide +kernel, by decide +kernel⟩
def spIsInt : Sp := fun vs H Q _ => ∃ i, vs = [.int i] ∧ Q (.bl true) H
theorem ok_isInt {f : Addr} {fd : FuncData} {k : Nat} (F : Fun K "is_integer" "is_integer" sIsInt f fd) (M : Mx mg) : FnG P w K mg base CX0 (k + 1) f fd ["value"] spIsInt := by
  refine okG F scIsInt (fun vs H Q E h => ?_) (fun cdv A hA outer s H vs Q E hr h => ?_)
  · obtain ⟨i, rfl, _⟩ := h; rfl
  · obtain ⟨i, rfl, q⟩ := h
    refine ⟨_, pss_one (ps_ret (pe_andU (pe_callB call_isi (by rfl) M.isi b_isi (pa_cons (uv 0) (pa_cons (pe_bltn (by rfl) M.int b_int (v := .ty "int") (by rfl)) pa_nil)))
      (pe_one (pe_notU (pe_callB call_isi (by rfl) M.isi b_isi (pa_cons (uv 0) (pa_cons (pe_bltn (by rfl) M.bool b_bool (v := .ty "bool") (by rfl)) pa_nil))))))), ?_⟩
    refine ⟨_, _, _, _, true, rfl, .ty _, .base (.int _), rfl, .yes ?_⟩
    exact ⟨_, _, _, _, false, rfl, .ty _, .base (.int _), rfl, q⟩
theorem scIsText : FnScope ["value", "letter"] ["value"] (defScope sIsText) := ⟨rfl, rfl, rfl, by decide +kernel, rfl, by decide +kernel, by decide +kernel⟩
def spIsText : Sp := fun vs H Q _ => ∃ l, vs = [.str (T l)] ∧ Small l ∧ l.length ≤ 1000000 ∧ ∀ H', Same H H' → Q (.bl true) H'
theorem ok_isText {f : Addr} {fd : FuncData} {k : Nat} {tS : Tok} (F : Fun K "is_text" "is_text" sIsText f fd) (M : Mx mg) (gS : mg "SMALL_LETTERS" = some (.str "abcdefghijklmnopqrstuvwxyz" tS)) :
    FnG P w K mg base CX0 (k + 1) f fd ["value"] spIsText := by
  refine okG F scIsText (fun vs H Q E h => ?_) (fun cdv A hA outer s H vs Q E hr h => ?_)
  · obtain ⟨l, rfl, _⟩ := h; rfl
  · obtain ⟨l, rfl, hs, hl, q⟩ := h
    refine ⟨_, pss_one (ps_ret (pe_andU (pe_callB call_isi (by rfl) M.isi b_isi (pa_cons (uv 0) (pa_cons (pe_bltn (by rfl) M.str b_str (v := .ty "str") (by rfl)) pa_nil)))
      (pe_one (pe_callB (c_all rfl) (by rfl) M.all b_all (pa_cons (pe_lc (own := [("letter", 1)]) (g := gName 1) (tt := tYes) rfl scIsText.nd (pi_str (uv 0)) (blkOk_by (N := ["value", "letter"]) (sc := defScope sIsText) (by decide +kernel))
        (fun _ _ _ _ _ => pg_name (i := 1) scIsText.nd rfl (Or.inl rfl)) (fun _ _ _ _ _ => pts_nil)
        (fun _ _ _ _ _ => pe_cmpR op_in_sign (uv 1) (pe_glob (v := .str "abcdefghijklmnopqrstuvwxyz") (by rfl) gS ⟨tS, rfl⟩) (by rfl))) pa_nil))))), ?_⟩
    refine ⟨_, _, _, _, true, rfl, .ty _, .base (.str _), rfl, .yes ?_⟩
    dsimp only [tCB, tCons]
    refine lc_str (l := l) (H1 := H) (by exact fun _ h => h) (fun D pre acc H1 => H1 = upd H D (.lst acc) ∧ acc = (pre.map fun _ => true).map V.bl) (fun D nD => ⟨rfl, rfl⟩) (fun D nD pre acc c suf H1 e r => ?_) (fun D nD acc H1 r => ?_)
    · obtain ⟨rfl, rfl⟩ := r
      refine ⟨rfl, c, _, rfl, rfl, _, upd_same, ?_, _, upd_upd, ?_⟩
      · have : pre.length < l.length := by rw [e]; simp
        rw [List.length_map, List.length_map, List.length_map]
        have := sizeLine_eq; omega
      · have hc : c ∈ smalls := hs c (by rw [e]; simp)
        have hd : decide (c ∈ (Str.ofString "abcdefghijklmnopqrstuvwxyz").cps.toList) = true := decide_eq_true hc
        rw [hd]
        simp [lets]
    · obtain ⟨rfl, rfl⟩ := r
      refine ⟨_, .inl (.inl upd_same), ?_⟩
      have : (((lets l).map fun _ => true).all id) = true := by simp
      show Q (.bl (((lets l).map fun _ => true).all id)) _
      rw [this]
      exact q _ (same_upd nD)
theorem scIsOver : FnScope ["value", "letters", "letter"] ["value", "letters"] (defScope sIsOver) := ⟨rfl, rfl, rfl, by decide +kernel, rfl, by decide +kernel, by decide +kernel⟩
/-- a text: whether its signs are of the letters; anything else: False -/
def spIsOver (K : PySem.W.Frag) : Sp := fun vs H Q _ => ∃ S x, vs = [x, .str (T S)] ∧
  ((∃ l, x = .str (T l) ∧ l.length ≤ 1000000 ∧ ∀ H', Same H H' → Q (.bl (decide (∀ c ∈ l, c ∈ S))) H') ∨ ∃ t, TyX K H x t ∧ PySem.W.kitOne K t (.type "str") = some false ∧ Q (.bl false) H)
theorem ok_isOver {f : Addr} {fd : FuncData} {k : Nat} (F : Fun K "is_over" "is_over" sIsOver f fd) (M : Mx mg) : FnG P w K mg base CX0 (k + 1) f fd ["value", "letters"] (spIsOver K) := by
  refine okG F scIsOver (fun vs H Q E h => ?_) (fun cdv A hA outer s H vs Q E hr h => ?_)
  · obtain ⟨S, x, rfl, _⟩ := h; rfl
  · obtain ⟨S, x, rfl, q⟩ := h
    refine ⟨_, pss_one (ps_ret (pe_andU (pe_callB call_isi (by rfl) M.isi b_isi (pa_cons (uv 0) (pa_cons (pe_bltn (by rfl) M.str b_str (v := .ty "str") (by rfl)) pa_nil)))
      (pe_one (pe_callB (c_all rfl) (by rfl) M.all b_all (pa_cons (pe_lc (own := [("letter", 2)]) (g := gName 2) (tt := tYes) rfl scIsOver.nd (pi_str (uv 0)) (blkOk_by (N := ["value", "letters", "letter"]) (sc := defScope sIsOver) (by decide +kernel))
        (fun _ _ _ _ _ => pg_name (i := 2) scIsOver.nd rfl (Or.inl rfl)) (fun _ _ _ _ _ => pts_nil)
        (fun _ _ _ _ _ => pe_cmpR op_in_sign (uv 2) (uv 1) (by rfl))) pa_nil))))), ?_⟩
    rcases q with ⟨l, rfl, hl, q⟩ | ⟨t, ty, hk, q⟩
    · refine ⟨_, _, _, _, true, rfl, .ty _, .base (.str _), rfl, .yes ?_⟩
      dsimp only [tCB, tCons]
      refine lc_str (l := l) (H1 := H) (by exact fun _ h => h) (fun D pre acc H1 => ∃ p, pre = lets p ∧ H1 = upd H D (.lst acc) ∧ acc = (p.map fun c => decide (c ∈ S)).map V.bl) (fun D nD => ⟨[], rfl, rfl, rfl⟩) (fun D nD pre acc c suf H1 e r => ?_) (fun D nD acc H1 r => ?_)
      · obtain ⟨p, ep, rfl, rfl⟩ := r
        refine ⟨rfl, c, _, rfl, rfl, _, upd_same, ?_, _, p ++ [c], ?_, upd_upd, ?_⟩
        · have : p.length = pre.length := by have := congrArg List.length ep; simpa using this.symm
          have : pre.length < l.length := by rw [e]; simp
          rw [List.length_map, List.length_map]
          have := sizeLine_eq; omega
        · rw [show lets (pre ++ [c]) = lets pre ++ [.str (T [c])] by simp [lets], ep]; simp [lets]
        · rw [List.map_append, List.map_append]; rfl
      · obtain ⟨p, ep, rfl, rfl⟩ := r
        refine ⟨_, .inl (.inl upd_same), ?_⟩
        have inj : ∀ a b : Nat, V.str (T [a]) = V.str (T [b]) → a = b := fun a b z => by
          have z1 := T_inj (V.str.inj z)
          exact (List.cons.inj z1).1
        obtain rfl : l = p := (List.map_inj_right inj).mp ep
        have e2 : ((l.map fun c => decide (c ∈ S)).all id) = decide (∀ c ∈ l, c ∈ S) := by
          rw [List.all_map, Bool.eq_iff_iff, List.all_eq_true]
          simp
        show Q (.bl ((l.map fun c => decide (c ∈ S)).all id)) _
        rw [e2]
        exact q _ (same_upd nD)
    · exact ⟨_, _, _, _, false, rfl, .ty _, ty, hk, .no q⟩
end
end LK

/-! lists of texts, of numbers, of truth values, rows of numbers: compared -/
namespace LK
open PySem PySem.Spec PyProof.Rows L2 LamX
open scoped List
/-- data that == takes, of a small depth -/
structure Flat (n : Nat) (d : PyData) : Prop where
  lay : d.canLay0 = true
  dp : d.depth ≤ n
theorem flat_int (i : Int) : Flat 0 (.int i) := ⟨rfl, Nat.le_refl _⟩
theorem flat_bl (b : Bool) : Flat 0 (.bool b) := ⟨rfl, Nat.le_refl _⟩
theorem flat_str {l : List Nat} (h : ∀ c ∈ l, c < 0x110000) : Flat 0 (.str (T l)) := ⟨by
  show (T l).cps.all _ = true
  rw [← Array.all_toList, List.all_eq_true]
  exact fun c hc => decide_eq_true (h c hc), Nat.le_refl _⟩
theorem flat_all {n : Nat} : ∀ {ds : List PyData}, (∀ d ∈ ds, Flat n d) → PyData.canLayAll0 ds = true ∧ PyData.depthAll ds ≤ n
  | [], _ => ⟨rfl, Nat.zero_le _⟩
  | d :: ds, h => by
    obtain ⟨a, b⟩ := flat_all fun x hx => h x (List.mem_cons_of_mem _ hx)
    have c := h d (by simp)
    exact ⟨by rw [PyData.canLayAll0, c.lay, a]; rfl, by rw [PyData.depthAll]; exact Nat.max_le.mpr ⟨c.dp, b⟩⟩
theorem flat_list {n : Nat} {ds : List PyData} (h : ∀ d ∈ ds, Flat n d) : Flat (n + 1) (.list ds) := by
  obtain ⟨a, b⟩ := flat_all h
  exact ⟨by rw [PyData.canLay0]; exact a, by rw [PyData.depth]; omega⟩
theorem flat_tup {n : Nat} {ds : List PyData} (h : ∀ d ∈ ds, Flat n d) : Flat (n + 1) (.tuple ds) := by
  obtain ⟨a, b⟩ := flat_all h
  exact ⟨by rw [PyData.canLay0]; exact a, by rw [PyData.depth]; omega⟩
theorem Flat.shaped {n : Nat} {d : PyData} (h : Flat n d) (hn : n ≤ 64) : SeqAt.shaped d = true := by
  show (d.canLay0 && decide (d.depth ≤ 64)) = true
  rw [h.lay, decide_eq_true (Nat.le_trans h.dp hn)]; rfl
/-- equal data answers True -/
theorem eqv_all_iff {α : Type} {f : α → PyData} (hf : ∀ a b, PyData.eqv (f a) (f b) = true ↔ a = b) : ∀ {as bs : List α}, PyData.eqvAll (as.map f) (bs.map f) = true ↔ as = bs
  | [], [] => by simp [PyData.eqvAll]
  | [], _ :: _ => by simp [PyData.eqvAll]
  | _ :: _, [] => by simp [PyData.eqvAll]
  | a :: as, b :: bs => by
    show (PyData.eqv (f a) (f b) && PyData.eqvAll (as.map f) (bs.map f)) = true ↔ _
    rw [Bool.and_eq_true, hf, eqv_all_iff hf, List.cons.injEq]
abbrev encR (r : List Nat) : PyData := .list (r.map fun (g : Nat) => .int (g : Int))
abbrev encRs (R : List (List Nat)) : PyData := .list (R.map encR)
abbrev encB (k : List Bool) : PyData := .list (k.map .bool)
abbrev encTs (ls : List (List Nat)) : PyData := .list (ls.map encT)
theorem eqv_row {a b : List Nat} : PyData.eqv (encR a) (encR b) = true ↔ a = b := by
  show PyData.eqvAll _ _ = true ↔ _
  refine eqv_all_iff (f := fun (g : Nat) => PyData.int (g : Int)) fun x y => ?_
  show ((x : Int) == (y : Int)) = true ↔ _
  rw [beq_iff_eq]; omega
theorem eqv_rows {a b : List (List Nat)} : PyData.eqv (encRs a) (encRs b) = true ↔ a = b := by
  show PyData.eqvAll _ _ = true ↔ _
  exact eqv_all_iff (f := encR) fun x y => eqv_row
theorem eqv_kinds {a b : List Bool} : PyData.eqv (encB a) (encB b) = true ↔ a = b := by
  show PyData.eqvAll _ _ = true ↔ _
  refine eqv_all_iff (f := PyData.bool) fun x y => ?_
  show (x == y) = true ↔ _
  rw [beq_iff_eq]
theorem eqv_strs {a b : List (List Nat)} : PyData.eqv (encTs a) (encTs b) = true ↔ a = b := by
  show PyData.eqvAll _ _ = true ↔ _
  refine eqv_all_iff (f := encT) fun x y => ?_
  show (T x == T y) = true ↔ _
  rw [beq_iff_eq]
  exact ⟨T_inj, fun e => by rw [e]⟩
theorem flat_rows (R : List (List Nat)) : Flat 2 (encRs R) := flat_list fun d hd => by
  obtain ⟨r, _, rfl⟩ := List.mem_map.mp hd
  exact flat_list fun d hd => by
    obtain ⟨g, _, rfl⟩ := List.mem_map.mp hd
    exact flat_int _
theorem flat_kinds (k : List Bool) : Flat 1 (encB k) := flat_list fun d hd => by
  obtain ⟨g, _, rfl⟩ := List.mem_map.mp hd
  exact flat_bl _
theorem flat_strs {ls : List (List Nat)} (h : ∀ l ∈ ls, ∀ c ∈ l, c < 0x110000) : Flat 1 (encTs ls) := flat_list fun d hd => by
  obtain ⟨g, hg, rfl⟩ := List.mem_map.mp hd
  exact flat_str (h g hg)
section
variable {K : PySem.W.Frag} {H : Hp}
theorem dp_lst {a : Addr} {xs : List V} {ds : List PyData} (h : SqL K H a xs) (e : DpAll K H xs ds) : Dp K H (.ref a) (.list ds) := .lst h e
theorem dpAll_lets (l : List Nat) : DpAll K H (lets l) ((l.map fun c => [c]).map encT) := by
  induction l with
  | nil => exact .nil
  | cons c l ih => exact .cons (.str _) ih
end
end LK

namespace LK
open PySem PySem.Spec PyProof.Rows L2 LamX
open scoped List
section
variable {P : Program} {w : World} {K : PySem.W.Frag} {mg : Str → Option Value} {base : Heap}
theorem scAreLet : FnScope ["value"] ["value"] (defScope sAreLet) := ⟨rfl, rfl, rfl, by decide +kernel, rfl, by decide +kernel, by decide +kernel⟩
def spAreLet : Sp := fun vs H Q _ => ∃ S, vs = [.str (T S)] ∧ LetOk S ∧ ∀ H', Same H H' → Q (.bl true) H'
theorem ok_areLet {f : Addr} {fd : FuncData} {k : Nat} {t3 : Tok} (F : Fun K "are_letters" "are_letters" sAreLet f fd) (M : Mx mg) (gM : mg "MOST_LETTERS" = some (.int 3 t3)) (HT : Has P w K mg base k "is_text" ["value"] spIsText) :
    FnG P w K mg base CX0 (k + 1) f fd ["value"] spAreLet := by
  refine okG F scAreLet (fun vs H Q E h => ?_) (fun cdv A hA outer s H vs Q E hr h => ?_)
  · obtain ⟨i, rfl, _⟩ := h; rfl
  · obtain ⟨S, rfl, ok, q⟩ := h
    refine ⟨_, pss_cons (ps_ifU (PW.pt (pw_orU (pt_not (pt_u (pe_callH HT hA hr (by rfl) (pa_cons (uv 0) pa_nil)))) (pw_or1 (pt_not (pt_ch o_le o_le pe_int (pe_callB c_len (by rfl) M.len b_len (pa_cons (uv 0) pa_nil)) (pe_glob (v := .int 3) (by rfl) gM ⟨t3, rfl⟩))))))
        (pss_one (ps_ret pe_bl)) pss_nil)
      (pss_one (ps_ret (pe_cu (o_eq hr.units) (pe_callTy (c_listT rfl) (by rfl) M.list b_list (pa_cons (uv 0) pa_nil))
        (pe_callB (c_sortedS rfl hr.units) (by rfl) M.sorted b_sorted (pa_cons (pe_callTy (c_setT rfl) (by rfl) M.set b_set (pa_cons (uv 0) pa_nil)) pa_nil))))), ?_⟩
    have hi := ok.hi
    have lo := ok.lo
    refine ⟨S, rfl, ok.sm, by omega, fun H1 e1 => .no ⟨by show S.length ≤ sizeLine; rw [sizeLine_eq]; omega, ?_⟩⟩
    have c1 : decide ((1 : Int) ≤ (S.length : Int)) = true := decide_eq_true (by omega)
    have c2 : decide ((S.length : Int) ≤ 3) = true := decide_eq_true (by omega)
    refine ⟨fun _ => .nd (fun z => (z (by show (S.length : Int) ≤ 3; omega)).elim) fun _ => ?_, fun z => ?_⟩
    case refine_2 =>
      have z : decide ((1 : Int) ≤ (S.length : Int)) = false := z
      rw [c1] at z; cases z
    refine ⟨by show S.length ≤ sizeLine; rw [sizeLine_eq]; omega, fun p np => ?_⟩
    refine ⟨ok.up, ok.sm.asc, by show S.length ≤ 100; omega, fun p2 np2 => ?_⟩
    have n2 : p ≠ p2 := ne_of_none upd_same np2
    refine ⟨S, upd_same, ok.up, by omega, fun p3 np3 => ?_⟩
    have n3 : p ≠ p3 := fun z => by rw [← z, upd_ne n2, upd_same] at np3; cases np3
    have l1 : SqL K (upd (upd (upd H1 p (.lst (lets (cs (T S))))) p2 (SetS P w p2 (cs (T S)).reverse)) p3 (.lst (lets S))) p (lets S) := .inl (.inl (by rw [upd_ne n3, upd_ne n2]; exact upd_same))
    have l2 : SqL K (upd (upd (upd H1 p (.lst (lets (cs (T S))))) p2 (SetS P w p2 (cs (T S)).reverse)) p3 (.lst (lets S))) p3 (lets S) := .inl (.inl upd_same)
    have sh : SeqAt.shaped (encTs (S.map fun c => [c])) = true := (flat_strs fun l hl c hc => by
      obtain ⟨d, hd, rfl⟩ := List.mem_map.mp hl
      have := ok.sm.asc d hd
      simp at hc
      omega).shaped (by decide)
    refine ⟨_, _, dp_lst l1 (dpAll_lets S), dp_lst l2 (dpAll_lets S), sh, sh, ?_⟩
    have ev : PyData.eqv (encTs (S.map fun c => [c])) (encTs (S.map fun c => [c])) = true := eqv_strs.mpr rfl
    show Q (.bl (PyData.eqv (encTs (S.map fun c => [c])) (encTs (S.map fun c => [c])))) _
    rw [ev]
    refine q _ (e1.trans ?_)
    exact ((same_upd np).trans (same_upd np2)).trans (same_upd np3)
end
end LK

namespace LK
open PySem PySem.Spec PyProof.Rows L2 LamX
open scoped List
theorem ty_sq {K : PySem.W.Frag} {tp : Bool} {H : Hp} {a : Addr} {xs : List V} (h : SqB K tp H a xs) : TyX K H (.ref a) (.type (if tp then "tuple" else "list")) := by
  cases tp
  · rcases h with (h | ⟨o, h⟩) | ⟨o, is, n, h1, h2, h3, _⟩
    · exact .base (.lst h)
    · exact .base (.frz h)
    · exact .kList h1 h2
  · rcases h with (h | ⟨o, h⟩) | ⟨o, is, n, h1, h2, h3, _⟩
    · exact .base (.tup h)
    · exact .fTuple h
    · exact .kTuple h1 h2
theorem SqB.ext {K : PySem.W.Frag} {tp : Bool} {H H' : Hp} {a : Addr} {xs : List V} (h : SqB K tp H a xs) (e : Same H H') : SqB K tp H' a xs := by
  cases tp
  · rcases h with (h | ⟨o, h⟩) | h
    · exact .inl (.inl (e _ _ h))
    · exact .inl (.inr ⟨o, e _ _ h⟩)
    · exact .inr h
  · rcases h with (h | ⟨o, h⟩) | h
    · exact .inl (.inl (e _ _ h))
    · exact .inl (.inr ⟨o, e _ _ h⟩)
    · exact .inr h
theorem SqB.or {K : PySem.W.Frag} {tp : Bool} {H : Hp} {a : Addr} {xs : List V} (h : SqB K tp H a xs) : SqL K H a xs ∨ SqT K H a xs := by
  cases tp
  · exact .inl h
  · exact .inr h
section
variable {P : Program} {w : World} {K : PySem.W.Frag} {mg : Str → Option Value} {base : Heap}
theorem scNeedText : FnScope ["value", "letters"] ["value", "letters"] (defScope sNeedText) := ⟨rfl, rfl, rfl, by decide +kernel, rfl, by decide +kernel, by decide +kernel⟩
def spNeedText : Sp := fun vs H Q _ => ∃ S l, vs = [.str (T l), .str (T S)] ∧ (∀ c ∈ l, c ∈ S) ∧ l.length ≤ 1000000 ∧ ∀ H', Same H H' → Q .non H'
theorem ok_needText {f : Addr} {fd : FuncData} {k : Nat} (F : Fun K "need_text" "need_text" sNeedText f fd) (HO : Has P w K mg base k "is_over" ["value", "letters"] (spIsOver K)) :
    FnG P w K mg base CX0 (k + 1) f fd ["value", "letters"] spNeedText := by
  refine okG F scNeedText (fun vs H Q E h => ?_) (fun cdv A hA outer s H vs Q E hr h => ?_)
  · obtain ⟨S, l, rfl, _⟩ := h; rfl
  · obtain ⟨S, l, rfl, hs, hl, q⟩ := h
    refine ⟨_, pss_one (ps_ifU (pt_not (pt_u (pe_callH HO hA hr (by rfl) (pa_cons (uv 0) (pa_cons (uv 1) pa_nil))))) (pss_one ps_never) pss_nil), ?_⟩
    refine ⟨S, _, rfl, .inl ⟨l, rfl, hl, fun H' e => ?_⟩⟩
    exact .nd (fun z => (z hs).elim) fun _ => q H' e
theorem scIsPlace : FnScope ["value", "many"] ["value", "many"] (defScope sIsPlace) := ⟨rfl, rfl, rfl, by decide +kernel, rfl, by decide +kernel, by decide +kernel⟩
def spIsPlace : Sp := fun vs H Q _ => ∃ (g n : Nat), vs = [.int g, .int n] ∧ g < n ∧ Q (.bl true) H
theorem ok_isPlace {f : Addr} {fd : FuncData} {k : Nat} (F : Fun K "is_place" "is_place" sIsPlace f fd) (HI : Has P w K mg base k "is_integer" ["value"] spIsInt) :
    FnG P w K mg base CX0 (k + 1) f fd ["value", "many"] spIsPlace := by
  refine okG F scIsPlace (fun vs H Q E h => ?_) (fun cdv A hA outer s H vs Q E hr h => ?_)
  · obtain ⟨g, n, rfl, _⟩ := h; rfl
  · obtain ⟨g, n, rfl, hg, q⟩ := h
    refine ⟨_, pss_one (ps_ret (pe_andU (pe_callH HI hA hr (by rfl) (pa_cons (uv 0) pa_nil)) (pe_one (pe_ch o_le o_lt pe_int (uv 0) (uv 1))))), ?_⟩
    refine ⟨_, rfl, .yes ⟨fun _ => ?_, fun z => ?_⟩⟩
    · have e : decide ((g : Int) < (n : Int)) = true := decide_eq_true (by omega)
      show Q (.bl (decide ((g : Int) < (n : Int)))) H
      rw [e]; exact q
    · have z : decide ((0 : Int) ≤ (g : Int)) = false := z
      rw [decide_eq_true (by omega)] at z; cases z
theorem scIsRow : FnScope ["value", "many_letters", "many_places", "goal"] ["value", "many_letters", "many_places"] (defScope sIsRow) := ⟨rfl, rfl, rfl, by decide +kernel, rfl, by decide +kernel, by decide +kernel⟩
def spIsRow (K : PySem.W.Frag) : Sp := fun vs H Q _ => ∃ (a : Addr) (n m : Nat) (row : List Nat) (tp : Bool), vs = [.ref a, .int m, .int n] ∧ SqB K tp H a (iv row) ∧ row.length = m ∧ m ≤ 100 ∧ (∀ g ∈ row, g < n) ∧ ∀ H', Same H H' → Q (.bl true) H'
theorem ok_isRow {f : Addr} {fd : FuncData} {k : Nat} (F : Fun K "_is_row" "_is_row" sIsRow f fd) (M : Mx mg) (HP : Has P w K mg base k "is_place" ["value", "many"] spIsPlace) :
    FnG P w K mg base CX0 (k + 1) f fd ["value", "many_letters", "many_places"] (spIsRow K) := by
  refine okG F scIsRow (fun vs H Q E h => ?_) (fun cdv A hA outer s H vs Q E hr h => ?_)
  · obtain ⟨a, n, m, row, tp, rfl, _⟩ := h; rfl
  · obtain ⟨a, n, m, row, tp, rfl, hs, hm, hm2, hg, q⟩ := h
    refine ⟨_, pss_cons (ps_ifU (PW.pt (pw_orU (pt_not (pt_u (pe_callB call_isiT (by rfl) M.isi b_isi (pa_cons (uv 0) (pa_cons (pe_tup (pa_cons (pe_bltn (by rfl) M.list b_list (v := .ty "list") (by rfl)) (pa_cons (pe_bltn (by rfl) M.tuple b_tuple (v := .ty "tuple") (by rfl)) pa_nil))) pa_nil)))))
          (pw_or1 (pt_cu (o_ne hr.units) (pe_callB c_len (by rfl) M.len b_len (pa_cons (uv 0) pa_nil)) (uv 1)))))
        (pss_one (ps_ret pe_bl)) pss_nil)
      (pss_one (ps_ret (pe_callB (c_all rfl) (by rfl) M.all b_all (pa_cons (pe_lc (own := [("goal", 3)]) (g := gName 3) (tt := tYes) rfl scIsRow.nd (pi_sq (uv 0)) (blkOk_by (N := ["value", "many_letters", "many_places", "goal"]) (sc := defScope sIsRow) (by decide +kernel))
        (fun _ _ _ _ _ => pg_name (i := 3) scIsRow.nd rfl (Or.inl rfl)) (fun _ _ _ _ _ => pts_nil)
        (fun _ _ _ _ _ => pe_callH HP hA hr (by rfl) (pa_cons (uv 3) (pa_cons (uv 2) pa_nil)))) pa_nil)))), ?_⟩
    refine ⟨by show 2 ≤ sizeLine; decide, fun p np => ?_⟩
    have hs1 : SqB K tp (upd H p (.tup [.ty "list", .ty "tuple"])) a (iv row) := hs.ext (same_upd np)
    refine ⟨_, p, _, _, [.type "list", .type "tuple"], true, rfl, upd_same, .cons (.ty _) (.cons (.ty _) .nil), ty_sq hs1, ?_, .no ?_⟩
    · cases tp
      · rfl
      · rfl
    refine .inl ⟨iv row, hs1.or, ?_⟩
    have e : decide (((iv row).length : Int) = (m : Int)) = true := decide_eq_true (by rw [List.length_map]; omega)
    show Br (!decide (((iv row).length : Int) = (m : Int))) _ _
    rw [e]
    refine .no ?_
    dsimp only [tNext, tRet, tCB, tCons]
    refine lc_sq (K := K) (t := uVar 0) (a := a) (xs := iv row) (tp := tp) (H1 := upd H p (.tup [.ty "list", .ty "tuple"])) (by exact fun _ h => h) hs1 (fun D pre acc H1 => H1 = upd (upd H p (.tup [.ty "list", .ty "tuple"])) D (.lst acc) ∧ acc = (pre.map fun _ => true).map V.bl ∧ upd H p (.tup [.ty "list", .ty "tuple"]) D = none)
      (fun D pre acc H1 r => by obtain ⟨rfl, _, n⟩ := r; exact hs1.ext (same_upd n)) (fun D nD => ⟨rfl, rfl, nD⟩) (fun D nD pre acc x suf H1 e r => ?_) (fun D nD acc H1 r => ?_)
    · obtain ⟨rfl, rfl, _⟩ := r
      obtain ⟨p1, q1, e1, e2, e3⟩ := List.map_eq_append_iff.mp e
      obtain ⟨g, q2, e4, e5, e6⟩ := List.map_eq_cons_iff.mp e3
      subst e5
      refine ⟨rfl, g, n, rfl, hg g (by rw [e1, e4]; simp), _, upd_same, ?_, _, upd_upd, ?_, nD⟩
      · have l1 : pre.length < (iv row).length := by rw [e]; simp
        rw [List.length_map] at l1
        rw [List.length_map, List.length_map]
        have := sizeLine_eq; omega
      · rw [List.map_append, List.map_append]; rfl
    · obtain ⟨rfl, rfl, _⟩ := r
      refine ⟨_, .inl (.inl upd_same), ?_⟩
      have e : (((iv row).map fun _ => true).all id) = true := by simp
      show Q (.bl (((iv row).map fun _ => true).all id)) _
      rw [e]
      exact q _ ((same_upd np).trans (same_upd nD))
end
end LK

namespace LK
open PySem PySem.Spec PyProof.Rows L2 LamX ClX
open scoped List
/-- rows as they are passed: a list or tuple of lists or tuples -/
def RowsAt (K : PySem.W.Frag) (H : Hp) (a : Addr) (R : Rows) : Prop := ∃ (tp : Bool) (rs : List Addr), SqB K tp H a (rs.map V.ref) ∧ rs.length = R.length ∧ ∀ i p, rs[i]? = some p → ∃ t2, SqB K t2 H p (iv (gls R i))
def KindsAt (K : PySem.W.Frag) (H : Hp) (a : Addr) (Kd : List Bool) : Prop := ∃ tp : Bool, SqB K tp H a (Kd.map V.bl)
theorem RowsAt.ext {K : PySem.W.Frag} {H H' : Hp} {a : Addr} {R : Rows} (h : RowsAt K H a R) (e : Same H H') : RowsAt K H' a R := by
  obtain ⟨tp, rs, h1, h2, h3⟩ := h
  exact ⟨tp, rs, h1.ext e, h2, fun i p hp => by
    obtain ⟨t2, h⟩ := h3 i p hp
    exact ⟨t2, h.ext e⟩⟩
theorem KindsAt.ext {K : PySem.W.Frag} {H H' : Hp} {a : Addr} {Kd : List Bool} (h : KindsAt K H a Kd) (e : Same H H') : KindsAt K H' a Kd := by
  obtain ⟨tp, h⟩ := h; exact ⟨tp, h.ext e⟩
/-- a right sheet -/
structure ShOk (S : List Nat) (R : Rows) (Kd : List Bool) : Prop where
  let_ : LetOk S
  rows : RowsOk R S.length
  lo : 1 ≤ R.length
  hi : R.length ≤ 40
  kinds : Kd.length = R.length
section
variable {P : Program} {w : World} {K : PySem.W.Frag} {mg : Str → Option Value} {base : Heap}
theorem scNeedParts : FnScope ["letters", "rows", "kinds", "position", "row", "kind"] ["letters", "rows", "kinds"] (defScope sNeedParts) := ⟨rfl, rfl, rfl, by decide +kernel, rfl, by decide +kernel, by decide +kernel⟩
def spNeedParts (K : PySem.W.Frag) : Sp := fun vs H Q _ => ∃ (r k : Addr) (S : List Nat) (R : Rows) (Kd : List Bool), vs = [.str (T S), .ref r, .ref k] ∧ ShOk S R Kd ∧ RowsAt K H r R ∧ KindsAt K H k Kd ∧ ∀ H', Same H H' → Q .non H'
theorem ok_needParts {f CM : Addr} {mc u : Value} {fd : FuncData} {k : Nat} (F : Fun K "_need_parts" "_need_parts" sNeedParts f fd) (M : Mx mg) (HL : Has P w K mg base k "are_letters" ["value"] spAreLet)
    (HR : Has P w K mg base k "_is_row" ["value", "many_letters", "many_places"] (spIsRow K)) (gM : mg "Machine" = some (.ref CM)) (cr : CRead K CM mc) (cv : CVal K CM mc "MOST_PLACES" (.int 40) u) :
    FnG P w K mg base CX0 (k + 1) f fd ["letters", "rows", "kinds"] (spNeedParts K) := by
  refine okG F scNeedParts (fun vs H Q E h => ?_) (fun cdv A hA outer s H vs Q E hr h => ?_)
  · obtain ⟨r, k, S, R, Kd, rfl, _⟩ := h; rfl
  · obtain ⟨r, k, S, R, Kd, rfl, ok, hR, hK, q⟩ := h
    have nd := scNeedParts.nd
    refine ⟨_, pss_cons (ps_ifU (pt_not (pt_u (pe_callH HL hA hr (by rfl) (pa_cons (uv 0) pa_nil)))) (pss_one ps_never) pss_nil)
      (pss_cons (ps_ifU (PW.pt (pw_orU (pt_not (pt_u (pe_callB call_isiT (by rfl) M.isi b_isi (pa_cons (uv 1) (pa_cons (pe_tup (pa_cons (pe_bltn (by rfl) M.list b_list (v := .ty "list") (by rfl)) (pa_cons (pe_bltn (by rfl) M.tuple b_tuple (v := .ty "tuple") (by rfl)) pa_nil))) pa_nil)))))
          (pw_or1 (pt_cu (o_eq hr.units) (pe_callB c_len (by rfl) M.len b_len (pa_cons (uv 1) pa_nil)) pe_int)))) (pss_one ps_never) pss_nil)
      (pss_cons (ps_for PassesOwn.never rfl (pi_enumB (by rfl) M.enumerate (pa_cons (uv 1) pa_nil)) (pg_tup rfl (pgs_cons (pg_name (i := 3) nd rfl (.inl rfl)) (pgs_cons (pg_name (i := 4) nd rfl (.inl rfl)) pgs_nil)))
        (pss_one (ps_ifU (pt_not (pt_u (pe_callH HR hA hr (by rfl) (pa_cons (uv 4) (pa_cons (pe_callB c_len (by rfl) M.len b_len (pa_cons (uv 0) pa_nil)) (pa_cons (pe_callB c_len (by rfl) M.len b_len (pa_cons (uv 1) pa_nil)) pa_nil)))))) (pss_one ps_never) pss_nil)))
      (pss_cons (ps_ifU (PW.pt (pw_orU (pt_not (pt_u (pe_callB call_isiT (by rfl) M.isi b_isi (pa_cons (uv 2) (pa_cons (pe_tup (pa_cons (pe_bltn (by rfl) M.list b_list (v := .ty "list") (by rfl)) (pa_cons (pe_bltn (by rfl) M.tuple b_tuple (v := .ty "tuple") (by rfl)) pa_nil))) pa_nil)))))
          (pw_or1 (pt_cu (o_ne hr.units) (pe_callB c_len (by rfl) M.len b_len (pa_cons (uv 2) pa_nil)) (pe_callB c_len (by rfl) M.len b_len (pa_cons (uv 1) pa_nil)))))) (pss_one ps_never) pss_nil)
      (pss_cons (ps_for PassesOwn.never rfl (pi_enumB (by rfl) M.enumerate (pa_cons (uv 2) pa_nil)) (pg_tup rfl (pgs_cons (pg_name (i := 3) nd rfl (.inl rfl)) (pgs_cons (pg_name (i := 5) nd rfl (.inl rfl)) pgs_nil)))
        (pss_one (ps_ifU (pt_not (pt_u (pe_callB call_isi (by rfl) M.isi b_isi (pa_cons (uv 5) (pa_cons (pe_bltn (by rfl) M.bool b_bool (v := .ty "bool") (by rfl)) pa_nil))))) (pss_one ps_never) pss_nil)))
      (pss_one (ps_ifU (pt_cu o_gt (pe_callB c_len (by rfl) M.len b_len (pa_cons (uv 1) pa_nil)) (pe_cval (pe_glob (v := .ref CM) (by rfl) gM rfl))) (pss_one ps_never) pss_nil)))))), ?_⟩
    have lo := ok.lo
    have hi := ok.hi
    have sl := sizeLine_eq
    refine ⟨S, rfl, ok.let_, fun H1 e1 => .no ?_⟩
    refine ⟨by show 2 ≤ sizeLine; decide, fun p np => ?_⟩
    have e2 := e1.trans (same_upd (o := .tup [.ty "list", .ty "tuple"]) np)
    obtain ⟨tp, rs, hs, hl, hrow⟩ := hR.ext e2
    refine ⟨_, p, _, _, [.type "list", .type "tuple"], true, rfl, upd_same, .cons (.ty _) (.cons (.ty _) .nil), ty_sq hs, by cases tp <;> rfl, .no ?_⟩
    refine .inl ⟨rs.map V.ref, hs.or, ?_⟩
    have n0 : decide (((rs.map V.ref).length : Int) = 0) = false := decide_eq_false (by rw [List.length_map]; omega)
    show Br (decide (((rs.map V.ref).length : Int) = 0)) _ _
    rw [n0]
    refine .no ?_
    dsimp only [tNext, tSeq]
    have look : ∀ {H2 : Hp}, Same (upd H1 p (.tup [.ty "list", .ty "tuple"])) H2 → SqB K tp H2 r (rs.map V.ref) ∧ ∀ i q, rs[i]? = some q → ∃ t2, SqB K t2 H2 q (iv (gls R i)) := fun e => ⟨hs.ext e, fun i q hq => by
      obtain ⟨t2, h⟩ := hrow i q hq
      exact ⟨t2, h.ext e⟩⟩
    generalize upd H1 p (.tup [.ty "list", .ty "tuple"]) = Ha at e2 hs hrow look
    refine for_enB (K := K) (tp := tp) (a := r) (xs := rs.map V.ref) (H1 := Ha) (by exact fun _ h => h) hs (fun i σ H2 => Same Ha H2 ∧ ∃ y3 y4, σ = [some (.str (T S)), some (.ref r), some (.ref k), y3, y4, none]) (fun i σ H2 iv => (look iv.1).1) ⟨Same.refl _, none, none, rfl⟩ (fun i x p2 σ H2 hx iv np2 => ?_) (fun σ H2 iv => ?_)
    · obtain ⟨e3, y3, y4, rfl⟩ := iv
      rw [List.getElem?_map] at hx
      obtain ⟨q2, hq2, rfl⟩ := Option.map_eq_some_iff.mp hx
      have e4 := e3.trans (same_upd (o := .tup [.int (i : Nat), .ref q2]) np2)
      obtain ⟨hs3, hrow3⟩ := look e4
      obtain ⟨t2, hq3⟩ := hrow3 i q2 hq2
      have li : i < R.length := by
        have := (List.getElem?_eq_some_iff.mp hq2).1
        omega
      refine ⟨p2, _, rfl, .inl (.inl upd_same), rfl, _, _, rfl, _, _, rfl, rfl, ?_⟩
      refine ⟨by show S.length ≤ sizeLine; have := ok.let_.hi; omega, .inl ⟨rs.map V.ref, hs3.or, ?_⟩⟩
      have e5 : (rs.map V.ref).length = R.length := by rw [List.length_map, hl]
      refine ⟨q2, (rs.map V.ref).length, S.length, gls R i, t2, rfl, hq3, gls_len ok.rows li, by have := ok.let_.hi; omega, fun g hg => by rw [e5]; exact gls_lt ok.rows hg, fun H3 e6 => .no ?_⟩
      exact ⟨e4.trans e6, _, _, rfl⟩
    obtain ⟨e3, y3, y4, rfl⟩ := iv
    refine ⟨by show 2 ≤ sizeLine; decide, fun p2 np2 => ?_⟩
    have e4 := e3.trans (same_upd (o := .tup [.ty "list", .ty "tuple"]) np2)
    obtain ⟨tk, hk⟩ := hK.ext (e2.trans e4)
    refine ⟨_, p2, _, _, [.type "list", .type "tuple"], true, rfl, upd_same, .cons (.ty _) (.cons (.ty _) .nil), ty_sq hk, by cases tk <;> rfl, .no ?_⟩
    have e5 : (rs.map V.ref).length = R.length := by rw [List.length_map, hl]
    refine .inl ⟨Kd.map V.bl, hk.or, .inl ⟨rs.map V.ref, (look e4).1.or, ?_⟩⟩
    have n1 : decide (((Kd.map V.bl).length : Int) = ((rs.map V.ref).length : Int)) = true := decide_eq_true (by rw [e5, List.length_map, ok.kinds])
    show Br (!decide (((Kd.map V.bl).length : Int) = ((rs.map V.ref).length : Int))) _ _
    rw [n1]
    refine .no ?_
    generalize upd H2 p2 (.tup [.ty "list", .ty "tuple"]) = Hb at e4 hk
    dsimp only [tNext, tSeq]
    refine for_enB (K := K) (tp := tk) (a := k) (xs := Kd.map V.bl) (H1 := Hb) (by exact fun _ h => h) hk (fun i σ H2 => Same Hb H2 ∧ ∃ y3 y4 y5, σ = [some (.str (T S)), some (.ref r), some (.ref k), y3, y4, y5]) (fun i σ H2 iv => hk.ext iv.1) ⟨Same.refl _, _, _, _, rfl⟩ (fun i x p3 σ H3 hx iv np3 => ?_) (fun σ H3 iv => ?_)
    · obtain ⟨e6, y3, y4, y5, rfl⟩ := iv
      rw [List.getElem?_map] at hx
      obtain ⟨b, _, rfl⟩ := Option.map_eq_some_iff.mp hx
      refine ⟨p3, _, rfl, .inl (.inl upd_same), rfl, _, _, rfl, _, _, rfl, rfl, ?_⟩
      refine ⟨_, _, _, _, true, rfl, .ty _, .base (.bl _), rfl, .no ?_⟩
      exact ⟨e6.trans (same_upd np3), _, _, _, rfl⟩
    obtain ⟨e6, y3, y4, y5, rfl⟩ := iv
    refine .inl ⟨rs.map V.ref, (look (e4.trans e6)).1.or, ?_⟩
    refine ⟨CM, mc, _, u, rfl, cr, cv, ?_⟩
    have n2 : decide ((40 : Int) < ((rs.map V.ref).length : Int)) = false := decide_eq_false (by rw [e5]; omega)
    show Br (decide ((40 : Int) < ((rs.map V.ref).length : Int))) _ _
    rw [n2]
    exact .no (q H3 (e2.trans (e4.trans e6)))
end
end LK

/-! dicts with whole numbers as keys -/
namespace LK
open PySem PySem.Spec PyProof.Rows L2 LamX
open scoped List
abbrev kI (g : Nat) : Key := .inl (g : Int)
abbrev kmp (ps : List (Nat × V)) : List (Key × V) := ps.map fun p => (kI p.1, p.2)
theorem kI_iff {a b : Nat} : kI a = kI b ↔ a = b := ⟨fun h => by have := Sum.inl.inj h; omega, fun h => h ▸ rfl⟩
theorem val_kmp (g : Nat) : ∀ ps : List (Nat × V), valV (kmp ps) (kI g) = ps.lookup g
  | [] => rfl
  | (a, v) :: ps => by
    have ih := val_kmp g ps
    by_cases e : a = g
    · subst e
      rw [List.lookup_cons_self]
      exact valV_pos (p := (kI a, v)) rfl
    · rw [List.lookup_cons]
      have : (g == a) = false := by simpa using fun z => e z.symm
      rw [this]
      exact (valV_neg (p := (kI a, v)) fun z => e (kI_iff.mp z)).trans ih
theorem look_none {ps : List (Nat × V)} {g : Nat} : ps.lookup g = none ↔ g ∉ ps.map (·.1) := by
  induction ps with
  | nil => simp
  | cons p ps ih =>
    rw [List.lookup_cons, List.map_cons, List.mem_cons]
    by_cases e : g = p.1
    · subst e; simp
    · have : (g == p.1) = false := by simpa using e
      rw [this]
      simp [ih, e]
theorem look_isSome {ps : List (Nat × V)} {g : Nat} : (ps.lookup g).isSome = decide (g ∈ ps.map (·.1)) := by
  by_cases h : g ∈ ps.map (·.1)
  · rw [decide_eq_true h]
    cases e : ps.lookup g with
    | none => exact absurd h (look_none.mp e)
    | some v => rfl
  · rw [decide_eq_false h, look_none.mpr h]; rfl
theorem put_kmp {ps : List (Nat × V)} {g : Nat} (v : V) (h : g ∉ ps.map (·.1)) : putK (kmp ps) (kI g) v = kmp (ps ++ [(g, v)]) := by
  rw [putK_new v (by rw [val_kmp]; exact look_none.mpr h), kmp, kmp, List.map_append]; rfl
/-- places by the numbers under which they were met -/
def nums (f : List Nat) : List (Nat × V) := f.zipIdx.map fun p => (p.1, V.int (p.2 : Nat))
theorem nums_keys (f : List Nat) : (nums f).map (·.1) = f := by
  unfold nums
  rw [List.map_map]
  show f.zipIdx.map Prod.fst = f
  exact List.zipIdx_map_fst 0 f
theorem nums_len (f : List Nat) : (nums f).length = f.length := by simp [nums]
theorem nums_app (f : List Nat) (g : Nat) : nums (f ++ [g]) = nums f ++ [(g, V.int (f.length : Nat))] := by
  unfold nums
  rw [List.zipIdx_append, List.map_append]
  simp
theorem nums_look {f : List Nat} {g : Nat} (nd : f.Nodup) (h : g ∈ f) : (nums f).lookup g = some (.int (f.idxOf g : Nat)) := by
  have key : ∀ (f : List Nat) (k : Nat), g ∈ f → ((f.zipIdx k).map fun p => (p.1, V.int (p.2 : Nat))).lookup g = some (.int ((k + f.idxOf g : Nat) : Int)) := by
    intro f
    induction f with
    | nil => intro k h; cases h
    | cons a f ih =>
      intro k h
      rw [List.zipIdx_cons, List.map_cons]
      by_cases e : g = a
      · subst e; rw [List.lookup_cons_self]; simp
      · rw [List.lookup_cons]
        have : (g == a) = false := by simpa using e
        rw [this]
        have hm : g ∈ f := (List.mem_cons.mp h).resolve_left e
        have := ih (k + 1) hm
        have e2 : (a :: f).idxOf g = f.idxOf g + 1 := by
          rw [List.idxOf_cons]
          have : (a == g) = false := by simpa using fun z => e z.symm
          rw [this]; rfl
        rw [this, e2]
        show some (V.int ((k + 1 + f.idxOf g : Nat) : Int)) = some (V.int ((k + (f.idxOf g + 1) : Nat) : Int))
        rw [show k + 1 + f.idxOf g = k + (f.idxOf g + 1) by omega]
  have := key f 0 h
  rw [Nat.zero_add] at this
  exact this
/-- a loop with while, its turns numbered down -/
theorem wh {c : TT} {tb : TS} {D : Ends} {σ : L2.St} {H : Hp} (W : Nat → L2.St → Hp → Prop) {m0 : Nat} (h0 : W m0 σ H)
    (hs : ∀ m σ H, W m σ H → c σ H fun b H1 => if b = true then tb { D with nx := fun σ' H' => ∃ m', m' < m ∧ W m' σ' H', ct := fun σ' H' => ∃ m', m' < m ∧ W m' σ' H', bk := D.nx } σ H1 else D.nx σ H1)
    (mono : ∀ σ H Q Q', (∀ b H1, Q b H1 → Q' b H1) → c σ H Q → c σ H Q') : tWhile c tb D σ H := by
  refine ⟨W, ⟨m0, h0⟩, fun m σ H w => mono σ H _ _ (fun b H1 q => ?_) (hs m σ H w)⟩
  cases b with
  | true => exact ⟨_, fun σ' H' z => z, q⟩
  | false => exact q
end LK

namespace LK
open PySem PySem.Spec PyProof.Rows L2 LamX ClX
open scoped List
theorem iv_app (a b : List Nat) : iv (a ++ b) = iv a ++ iv b := List.map_append
theorem iv_inj {a b : List Nat} (h : iv a = iv b) : a = b := (List.map_inj_right fun x y z => by have := V.int.inj z; omega).mp h
theorem adds_app {f gs : List Nat} {g : Nat} : adds f (gs ++ [g]) = add1 (adds f gs) g := by unfold adds; rw [List.foldl_append]; rfl
theorem adds_len {R : Rows} {m s i p : Nat} {gs rest : List Nat} (ok : RowsOk R m) (hs : s < R.length) (e : gls R p = gs ++ rest) : (adds (fnd R s i) gs).length ≤ R.length :=
  len_le_of_lt (nd_adds (fnd_nd i)) fun x hx => by
    rcases mem_adds.mp hx with h | h
    · exact fnd_lt ok hs i x h
    · exact gls_lt ok (p := p) (by rw [e]; simp [h])
section
variable {P : Program} {w : World} {K : PySem.W.Frag} {mg : Str → Option Value} {base : Heap}
theorem scMetFrom : FnScope ["rows", "start", "numbers", "row", "longer", "place", "goal"] ["rows", "start"] (defScope sMetFrom) := ⟨rfl, rfl, rfl, by decide +kernel, rfl, by decide +kernel, by decide +kernel⟩
def spMetFrom (K : PySem.W.Frag) : Sp := fun vs H Q _ => ∃ (r : Addr) (s m : Nat) (R : Rows), vs = [.ref r, .int s] ∧ RowsAt K H r R ∧ RowsOk R m ∧ s < R.length ∧ R.length ≤ 1000 ∧
  ∀ H' D, Same H H' → H D = none → H' D = some (.dK (kmp (nums (met R s)))) → Q (.ref D) H'
theorem ok_metFrom {f : Addr} {fd : FuncData} {k : Nat} (F : Fun K "_met_from" "_met_from" sMetFrom f fd) (M : Mx mg) : FnG P w K mg base CX0 (k + 1) f fd ["rows", "start"] (spMetFrom K) := by
  refine okG F scMetFrom (fun vs H Q E h => ?_) (fun cdv A hA outer s H vs Q E hr h => ?_)
  · obtain ⟨r, s0, m, R, rfl, _⟩ := h; rfl
  · obtain ⟨r, s0, m, R, rfl, hR, ok, hs, hn, q⟩ := h
    have nd := scMetFrom.nd
    have sl := sizeLine_eq
    refine ⟨_, pss_cons (ps_set (i := 2) nd rfl (.inl rfl) (pe_disp (pps_cons (uv 1) pe_int pps_nil) (by rfl) (by rfl) (fun z => by cases z) (by decide)))
      (pss_cons (ps_set (i := 3) nd rfl (.inl rfl) (pe_lst (pa_cons (uv 1) pa_nil)))
      (pss_cons (ps_while PassesOwn.never (pt_truth (uv 3) (by intro _; rfl))
        (pss_cons (ps_set (i := 4) nd rfl (.inl rfl) (pe_lst pa_nil))
        (pss_cons (ps_for PassesOwn.never rfl (pi_list (uv 3)) (pg_name (i := 5) nd rfl (.inl rfl))
          (pss_one (ps_for PassesOwn.never rfl (pi_sq (pe_ixU (uv 0) (uv 5))) (pg_name (i := 6) nd rfl (.inl rfl))
            (pss_one (ps_ifU (pt_cmp (pc_dnotin (Room.u1 hr) (uv 6) (uv 2)))
              (pss_cons (ps_dput (Room.u1 hr) (uv 2) (uv 6) (pe_callB c_len (by rfl) M.len b_len (pa_cons (uv 2) pa_nil)) rfl)
              (pss_one (ps_expr (pe_bm PySem.F.plainAttrs_list PySem.F.slot_list_append PySem.F.type_list_append mt_append (uv 4) (pa_cons (uv 6) pa_nil))))) pss_nil)))))
        (pss_one (ps_set (i := 3) nd rfl (.inl rfl) (uv 4))))))
      (pss_one (ps_ret (uv 2))))), ?_⟩
    obtain ⟨tp, rs, hs', hl', hrow'⟩ := hR
    intro D nD
    refine ⟨upd_same, [(kI s0, .int 0)], rfl, by show 1 ≤ 15; omega, ?_⟩
    refine ⟨by show 1 ≤ sizeLine; omega, fun L nL => ?_⟩
    have eD : upd (upd H D (.dK [])) D (.dK (mergeK [] [(kI s0, V.int 0)])) = upd H D (.dK (kmp (nums (fnd R s0 0)))) := by rw [upd_upd]; rfl
    rw [eD] at nL ⊢
    have hLD : L ≠ D := fun e => by rw [e, upd_same] at nL; cases nL
    have sD : Same H (upd H D (.dK (kmp (nums (fnd R s0 0))))) := same_upd nD
    have nLH : H L = none := Same.free sD nL
    dsimp only [tSeq, tAsg, gName]
    show tWhile _ _ _ _ _
    refine wh (m0 := R.length) (fun mm σ H2 => ∃ i L y4 y5 y6, mm = R.length - i ∧ i ≤ (fnd R s0 i).length ∧ Same H H2 ∧ H2 D = some (.dK (kmp (nums (fnd R s0 i)))) ∧ H2 L = some (.lst (iv ((fnd R s0 i).drop i))) ∧ H L = none ∧ L ≠ D ∧
      σ = [some (.ref r), some (.int s0), some (.ref D), some (.ref L), y4, y5, y6]) ⟨0, L, none, none, none, rfl, Nat.zero_le _, same_upd2 sD nLH, by rw [upd_ne hLD.symm]; exact upd_same, upd_same, nLH, hLD, rfl⟩ (fun mm σ H2 iv2 => ?_) (fun σ H Q Q' hm h => ?_)
    case refine_2 =>
      simp only [uVar] at h ⊢
      split at h
      · obtain ⟨kk, a, b⟩ := h; exact ⟨kk, a, hm _ _ b⟩
      · exact h.elim
    clear nL hLD sD nLH eD L
    obtain ⟨i, L, y4, y5, y6, rfl, hi, e2, hD, hL, nL, hLD, rfl⟩ := iv2
    have hf := fnd_len ok hs i
    generalize hfe : fnd R s0 i = fi at hi hD hL hf
    by_cases hlt : fi.length ≤ i
    · have e3 : fi.drop i = [] := List.drop_eq_nil_iff.mpr hlt
      refine ⟨false, .inl ⟨_, .inl (.inl hL), by rw [e3]; rfl⟩, ?_⟩
      have em : fi = met R s0 := by rw [← hfe]; exact fnd_met ok hs (by rw [hfe]; exact hlt)
      rw [em] at hD
      show (if false = true then _ else _)
      rw [if_neg Bool.false_ne_true]
      exact q _ _ e2 nD hD
    have e3 : (!(iv (fi.drop i)).isEmpty) = true := by
      have : fi.drop i ≠ [] := fun z => hlt (List.drop_eq_nil_iff.mp z)
      cases h : fi.drop i with
      | nil => exact absurd h this
      | cons _ _ => rfl
    refine ⟨true, .inl ⟨_, .inl (.inl hL), e3.symm⟩, ?_⟩
    show (if true = true then _ else _)
    rw [if_pos rfl]
    refine ⟨by show 0 ≤ sizeLine; omega, fun B nB => ?_⟩
    have hBD : B ≠ D := fun e => by rw [e, hD] at nB; cases nB
    have hBL : B ≠ L := fun e => by rw [e, hL] at nB; cases nB
    have nBH : H B = none := Same.free e2 nB
    dsimp only [tNext, tSeq]
    refine for_list (K := K) (a := L) (xs := iv (fi.drop i)) (H1 := upd H2 B (.lst [])) (by exact fun _ h => h) (.inl (.inl (by rw [upd_ne hBL.symm]; exact hL))) (fun pre σ H3 => ∃ j y5 y6, pre = iv ((fi.drop i).take j) ∧ j ≤ (fi.drop i).length ∧ Same H H3 ∧
        H3 D = some (.dK (kmp (nums (fnd R s0 (i + j))))) ∧ H3 L = some (.lst (iv (fi.drop i))) ∧ H3 B = some (.lst (iv ((fnd R s0 (i + j)).drop fi.length))) ∧ σ = [some (.ref r), some (.int s0), some (.ref D), some (.ref L), some (.ref B), y5, y6])
      (fun pre σ H3 h => ?_) ⟨0, y5, y6, rfl, Nat.zero_le _, same_upd2 e2 nBH, ?_, ?_, ?_, rfl⟩ (fun pre x suf σ H3 ex h => ?_) (fun σ H3 h => ?_)
    · obtain ⟨_, _, _, _, _, _, _, h, _⟩ := h; exact .inl (.inl h)
    · rw [upd_ne hBD.symm]; show _ = some (HO.dK (kmp (nums (fnd R s0 (i + 0))))); rw [Nat.add_zero, hfe]; exact hD
    · rw [upd_ne hBL.symm]; exact hL
    · rw [upd_same, Nat.add_zero, hfe, List.drop_length]; rfl
    · obtain ⟨j, y5, y6, rfl, hj, e4, hD4, hL4, hB4, rfl⟩ := h
      have lj : (iv ((fi.drop i).take j)).length = j := by rw [List.length_map, List.length_take]; omega
      have hj2 : j < (fi.drop i).length := by
        have := congrArg List.length ex
        rw [List.length_append, lj, List.length_map, List.length_cons] at this
        omega
      have hx : (iv (fi.drop i))[j]? = some x := by
        rw [ex, List.getElem?_append_right (by omega), lj, Nat.sub_self]; rfl
      rw [List.getElem?_map, List.getElem?_eq_getElem hj2] at hx
      have hx := (Option.some.inj hx).symm
      subst hx
      have hp0 : fi[i + j]? = some (fi.drop i)[j] := by rw [← List.getElem?_drop]; exact List.getElem?_eq_getElem hj2
      generalize (fi.drop i)[j] = p at hp0 ex ⊢
      have hp : (fnd R s0 (i + j))[i + j]? = some p := by
        obtain ⟨t, et⟩ := fnd_pre (R := R) (s := s0) (i := i) (j := i + j) (by omega)
        rw [← et, hfe, List.getElem?_append_left (List.getElem?_eq_some_iff.mp hp0).1]; exact hp0
      have plt : p < R.length := fnd_lt ok hs (i + j) p (List.mem_of_getElem? hp)
      have hqa : rs[p]? = some rs[p] := List.getElem?_eq_getElem (by omega)
      generalize rs[p] = qa at hqa
      obtain ⟨t2, hq⟩ := hrow' p qa hqa
      have fl : fi.length ≤ (fnd R s0 (i + j)).length := by
        have := (fnd_pre (R := R) (s := s0) (i := i) (j := i + j) (by omega)).length_le
        rw [hfe] at this; exact this
      show tFor (iSq K (tOp (ixU K) (uVar 0) (uVar 5))) _ _ _ _ _
      refine for_sq (K := K) (tp := t2) (a := qa) (xs := iv (gls R p)) (H1 := H3) (fun R' hR' => ⟨rs.map V.ref, .ref qa, (hs'.ext e4).or, atI_nat (by rw [List.getElem?_map, hqa]; rfl), hR'⟩) (hq.ext e4)
        (fun pre2 σ H4 => ∃ gs rest y6, gls R p = gs ++ rest ∧ pre2 = iv gs ∧ Same H H4 ∧ H4 D = some (.dK (kmp (nums (adds (fnd R s0 (i + j)) gs)))) ∧ H4 L = some (.lst (iv (fi.drop i))) ∧ H4 B = some (.lst (iv ((adds (fnd R s0 (i + j)) gs).drop fi.length))) ∧
          σ = [some (.ref r), some (.int s0), some (.ref D), some (.ref L), some (.ref B), some (.int p), y6])
        (fun pre2 σ H4 h => by obtain ⟨_, _, _, _, _, h, _⟩ := h; exact hq.ext h) ⟨[], gls R p, y6, rfl, rfl, e4, hD4, hL4, hB4, rfl⟩ (fun pre2 x2 suf2 σ H4 ex2 h => ?_) (fun σ H4 h => ?_)
      · obtain ⟨gs, rest, y6, eg, rfl, e5, hD5, hL5, hB5, rfl⟩ := h
        have er : iv rest = x2 :: suf2 := by
          have e7 : iv gs ++ iv rest = iv gs ++ x2 :: suf2 := by rw [← ex2, eg, iv_app]
          exact List.append_cancel_left e7
        obtain ⟨g, rest', rfl, rfl, rfl⟩ := List.map_eq_cons_iff.mp er
        have cl := adds_len (i := i + j) ok hs eg
        have cl2 : fi.length ≤ (adds (fnd R s0 (i + j)) gs).length := Nat.le_trans fl adds_pre.length_le
        have eg2 : gls R p = (gs ++ [g]) ++ rest' := by rw [eg]; simp
        have ea := adds_app (f := fnd R s0 (i + j)) (gs := gs) (g := g)
        generalize adds (fnd R s0 (i + j)) gs = cur at hD5 hB5 cl cl2 ea
        refine ⟨D, _, rfl, DGet.k (k := kI g) hD5, _, rfl, ?_⟩
        rw [val_kmp, look_isSome, nums_keys]
        refine .nd (fun hg => ?_) (fun hg => ?_)
        · have ec : add1 cur g = cur ++ [g] := if_neg hg
          have lk : (kmp (nums cur)).length = cur.length := by rw [List.length_map, nums_len]
          have ep : putK (kmp (nums cur)) (kI g) (.int ((kmp (nums cur)).length : Nat)) = kmp (nums (cur ++ [g])) := by
            rw [put_kmp _ (by rw [nums_keys]; exact hg), nums_app, lk]
          refine .inr ⟨_, hD5, D, _, rfl, DPut.k (k := kI g) hD5 (by rw [lk]; omega), ?_⟩
          rw [ep]
          have hB6 : (upd H4 D (.dK (kmp (nums (cur ++ [g]))))) B = some (.lst (iv (cur.drop fi.length))) := by rw [upd_ne hBD]; exact hB5
          refine ⟨.inl ⟨rfl, _, .inl (.inl hB6)⟩, B, _, _, rfl, rfl, hB6, by rw [List.length_map, List.length_drop]; omega, ?_⟩
          refine ⟨gs ++ [g], rest', _, eg2, by rw [iv_app]; rfl, same_upd2 (same_upd2 e5 nD) nBH, ?_, ?_, ?_, rfl⟩
          · rw [upd_ne hBD.symm, upd_same, ea, ec]
          · rw [upd_ne hBL.symm, upd_ne hLD]; exact hL5
          · rw [upd_same, ea, ec, List.drop_append_of_le_length cl2, iv_app]; rfl
        · have ec : add1 cur g = cur := if_pos hg
          exact ⟨gs ++ [g], rest', _, eg2, by rw [iv_app]; rfl, e5, by rw [ea, ec]; exact hD5, hL5, by rw [ea, ec]; exact hB5, rfl⟩
      · obtain ⟨gs, rest, y6, eg, e6, e5, hD5, hL5, hB5, rfl⟩ := h
        obtain rfl := iv_inj e6
        have es := fnd_step hp
        rw [← es] at hD5 hB5
        refine ⟨j + 1, _, _, ?_, hj2, e5, hD5, hL5, hB5, rfl⟩
        have : (fi.drop i).take (j + 1) = (fi.drop i).take j ++ [p] := by
          rw [List.take_add_one, show (fi.drop i)[j]? = some p by rw [List.getElem?_drop]; exact hp0]; rfl
        rw [this, iv_app]; rfl
    · obtain ⟨j, y5, y6, ej, hj, e4, hD4, hL4, hB4, rfl⟩ := h
      have ej := iv_inj ej
      have lj : j = (fi.drop i).length := by
        have := congrArg List.length ej
        rw [List.length_take] at this
        omega
      have ij : i + j = fi.length := by rw [lj, List.length_drop]; omega
      rw [ij] at hD4 hB4
      have fl : fi.length ≤ (fnd R s0 fi.length).length := by
        have := (fnd_pre (R := R) (s := s0) (i := i) (j := fi.length) (by omega)).length_le
        rw [hfe] at this; exact this
      exact ⟨R.length - fi.length, by omega, fi.length, B, _, _, _, rfl, fl, e4, hD4, hB4, nBH, hBD, rfl⟩
end
end LK

/-! comprehensions with if -/
namespace LK
open PySem PySem.Spec PyProof.Rows L2 LamX
open scoped List
theorem lc_wkF {J : It} {xs : List V} {P : Hp → Prop} (W : Wk J xs P) {g : TG} {tt : TT} {te : TE} {σ : L2.St} {H : Hp} {vs : List Nat} {Q : VK} {D : Addr} (R : List V → List V → Hp → Prop)
    (hP : ∀ pre acc H, R pre acc H → P H) (h0 : R [] [] (upd H D (.lst [])))
    (hs : ∀ pre acc x suf H, xs = pre ++ x :: suf → R pre acc H → g x (wipe σ vs) H fun σ2 H2 => wipe σ2 vs = wipe σ vs ∧ tt σ2 H2 fun b H3 => if b = true then te σ2 H3 fun y H4 =>
      ∃ acc, H4 D = some (.lst acc) ∧ acc.length < sizeLine ∧ ∃ a, R (pre ++ [x]) a (upd H4 D (.lst (acc ++ [y]))) else ∃ a, R (pre ++ [x]) a H3)
    (he : ∀ acc H, R xs acc H → Q (.ref D) H) :
    ∃ W : Nat → Nat → Hp → Prop, (∃ m, W 0 m (upd H D (.lst []))) ∧ ∀ i m H, W i m H →
  (J.stop i H ∧ Q (.ref D) H) ∨ (J.go i H ∧ ∃ Nx : Hp → Prop, (∀ H', Nx H' → ∃ m', m' < m ∧ W (i + 1) m' H') ∧ ∀ x H', J.yld i H x H' → g x (wipe σ vs) H' fun σ2 H2 => wipe σ2 vs = wipe σ vs ∧ tt σ2 H2 fun b H3 =>
    if b = true then te σ2 H3 fun y H4 => ∃ acc, H4 D = some (.lst acc) ∧ acc.length < sizeLine ∧ Nx (upd H4 D (.lst (acc ++ [y]))) else Nx H3) := by
  refine ⟨fun i m H => i + m = xs.length ∧ ∃ acc, R (xs.take i) acc H, ⟨xs.length, by omega, [], h0⟩, fun i m H h => ?_⟩
  obtain ⟨em, acc, iv⟩ := h
  by_cases hi : i < xs.length
  · have hx := List.getElem?_eq_getElem hi
    obtain ⟨e1, e2⟩ := split_at hx
    refine .inr ⟨W.go i H (hP _ _ _ iv) hi, fun H' => ∃ acc, R (xs.take i ++ [xs[i]]) acc H', fun H' n => ?_, fun x H' y => ?_⟩
    · obtain ⟨acc, n⟩ := n
      exact ⟨m - 1, by omega, by omega, acc, by rw [e2]; exact n⟩
    · obtain ⟨rfl, hx2⟩ := W.yld i H x H' (hP _ _ _ iv) hi y
      rw [hx] at hx2
      cases hx2
      exact hs _ _ _ _ _ e1 iv
  · have e : xs.take i = xs := List.take_of_length_le (by omega)
    rw [e] at iv
    exact .inl ⟨W.stop i H (hP _ _ _ iv) (by omega), he _ _ iv⟩
section
variable {K : PySem.W.Frag} {g : TG} {tt : TT} {te : TE} {σ : L2.St} {H H1 : Hp} {vs : List Nat} {Q : VK} {t : TA}
theorem lc_rngF {n : Nat} (h : ∀ R : List V → Hp → Prop, R [.int n] H1 → t σ H R) (hn : n < 1000000) (R : Addr → Nat → List V → Hp → Prop)
    (h0 : ∀ D, H1 D = none → R D 0 [] (upd H1 D (.lst [])))
    (hs : ∀ D, H1 D = none → ∀ i acc H, i < n → R D i acc H → g (.int i) (wipe σ vs) H fun σ2 H2 => wipe σ2 vs = wipe σ vs ∧ tt σ2 H2 fun b H3 => if b = true then te σ2 H3 fun y H4 =>
      ∃ acc, H4 D = some (.lst acc) ∧ acc.length < sizeLine ∧ ∃ a, R D (i + 1) a (upd H4 D (.lst (acc ++ [y]))) else ∃ a, R D (i + 1) a H3)
    (he : ∀ D, H1 D = none → ∀ acc H, R D n acc H → Q (.ref D) H) : tLc (iRng1 t) g tt te vs σ H Q := by
  refine h _ ⟨n, rfl, by omega, by omega, fun D nD => ?_⟩
  refine lc_wkF (wk_rng 0 n) (fun pre acc H => R D pre.length acc H) (fun _ _ _ _ => trivial) (h0 D nD) (fun pre acc x suf H2 e r => ?_) (fun acc H r => he D nD acc H ?_)
  · have hl : pre.length < n := by
      have := congrArg List.length e
      simp at this; omega
    have hx : (rng 0 n)[pre.length]? = some x := by rw [e]; simp
    rw [List.getElem?_map, List.getElem?_range hl] at hx
    have hx := Option.some.inj hx
    simp only [Int.zero_add] at hx
    subst hx
    have z := hs D nD pre.length acc H2 hl r
    rw [List.length_append]
    exact z
  · rw [List.length_map, List.length_range] at r; exact r
end
end LK

/-! own errors with one field: made, raised, caught; defs that raise; for any law -/
namespace LK
open PySem PySem.Spec PyProof.Rows L2 LamX
open scoped List
section
variable {P : Program} {w : World} {K : PySem.W.Frag} {mg : Str → Option Value} {base : Heap}
/-- self.f = y for each field: the exception gets its dict -/
def spI (C : Addr) (fs : List Str) : Sp := fun vs H Q _ => ∃ (a : Addr) (ys : List V), vs = .ref a :: ys ∧ ys.length = fs.length ∧ H a = some (exo a C none) ∧
  ∀ d H', H d = none → d ≠ a → H' a = some (exo a C (some d)) → H' d = some (exd d (fs.zip ys).reverse) → (∀ b, b ≠ a → b ≠ d → H' b = H b) → Q .non H'
theorem ok_init1 {q fn : Str} {st : Stmt} {f : Addr} {fd : FuncData} {k : Nat} {C : Addr} {bmB : List Value} {B newId : String} {p1 p2 p3 p4 : Pos} (SF : StoreFacts B bmB "object.__setattr__" "object") (F : Fun K "__init__" q st f fd) (S : FnScope ["self", fn] ["self", fn] (defScope st))
    (body : defBody st = [.Assign [.Attribute (.Name "self" p1) fn p2] (.Name fn p3) p4]) (v0 : Vis (defScope st) "self") (v1 : Vis (defScope st) fn) (d1 : (fn == ("__debug__" : Str)) = false) (c1 : (fn == ("__classdict__" : Str)) = false)
    (sw : ∀ env : Env, env.scope = defScope st → swapsWith (.Name fn p3) (some (.Attribute (.Name "self" p1) fn p2)) p4.line env = pure false) (T : ExcK K C bmB newId) (hno : PySem.W.takerIn K C fn = some none) :
    FnG P w K mg base CX0 (k + 1) f fd ["self", fn] (spI C [fn]) := by
  refine okG F S (fun vs H Q E h => ?_) (fun cdv A hA outer s H vs Q E hr h => ?_)
  · obtain ⟨a, ys, rfl, hl, _⟩ := h
    rw [List.length_cons, hl]; rfl
  · obtain ⟨a, ys, rfl, hl, ha, qq⟩ := h
    match ys, hl with
    | [y], _ =>
      rw [body]
      refine ⟨_, pss_one (ps_stE SF (uv 0 rfl v0) (uv 1 rfl v1 d1 c1) (sw _ rfl)), ?_⟩
      refine ⟨C, newId, T, hno, .inl ⟨ha, fun d nd ne => ?_⟩⟩
      exact qq d _ nd ne upd_same (by rw [upd_ne ne, upd_same]; rfl) (fun b h1 h2 => by rw [upd_ne h1, upd_ne h2])
end
/-- an own error class of the module: its fields, how it is made -/
structure HasC (P : Program) (w : World) (K : PySem.W.Frag) (mg : Str → Option Value) (base : Heap) (k : Nat) (x : Str) (C : Addr) (fs : List Str) : Prop where
  ex : ∃ (B newId initId : String) (bmB : List Value) (fI : Addr) (fd : FuncData), ExcBaseFacts B newId initId bmB ∧ ExcK K C bmB newId ∧ PySem.W.typeIn K (.ref C) = some (.type "type") ∧ PySem.W.findIn K (.ref C) "__init__" = some (some (.ref fI)) ∧
    PySem.W.typeIn K (.ref fI) = some (.type "function") ∧ FnG P w K mg base CX0 k fI fd (("self" : Str) :: fs) (spI C fs) ∧ Binds K fd (("self" : Str) :: fs) [] ∧
    (∀ (s : Shared) (z : Value) (ws : List Value), ws.length = fs.length → BindsTo s fd ⟨[z], fs.zip ws⟩ ((("self" : Str) :: fs).zip (z :: ws)) ∧ BindsTo s fd ⟨[z], (fs.zip ws).reverse⟩ ((("self" : Str) :: fs).zip (z :: ws)))
  mgC : mg x = some (.ref C)
theorem HasC.up {P : Program} {w : World} {K : PySem.W.Frag} {mg : Str → Option Value} {base : Heap} {j k : Nat} {x : Str} {C : Addr} {fs : List Str} (F : HasC P w K mg base j x C fs) (h : j ≤ k) : HasC P w K mg base k x C fs := by
  obtain ⟨B, newId, initId, bmB, fI, fd, a, b, c, d, e, f, g⟩ := F.ex
  exact ⟨⟨B, newId, initId, bmB, fI, fd, a, b, c, d, e, f.up h, g⟩, F.mgC⟩
section
variable {X : Cx} {x : Str} {C : Addr} {k : Nat} {fs : List Str} {p pos : Pos} {e : Expr} {es : List Expr} {ta : TA}
theorem pmk_new (F : HasC X.prog X.w X.K X.mg X.base k x C fs) (hA : X.A.guards = some []) (hr : Room (k + 1) X.A) (hg : Gl X x) (ha : PA X (e :: es) ta)
    (hdb : (x == ("__debug__" : Str)) = false := by decide) (he : starEach (e :: es) X.env = (false, eval e X.env) :: starEach es X.env := by rfl) (hpl : (backTo pos (starEach es X.env)).any (·.1) = false := by rfl) :
    PMk X (.Call (.Name x p) (e :: es) [] pos) (tPmE C (spI C fs) ta) := by
  obtain ⟨B, newId, initId, bmB, fI, fd, FB, T, ty, iC, tI, F1, hb, _⟩ := F.ex
  exact pmk_mkE (pos := pos) (p := p) FB T ty iC tI F1 hA hr hb hg F.mgC ha hdb he hpl
/-- the reading of a new error behind raise: all else stays, the fields lie in a new dict -/
theorem pm_end {vs : List V} {H1 : Hp} {Q : XK} (hl : vs.length = fs.length) (q : ∀ d H', Same H1 H' → H1 d = none → H' d = some (HO.xd (fs.zip vs).reverse) → Q (.ref C) (some d) H') (a : Addr) (na : H1 a = none) :
    spI C fs (.ref a :: vs) (upd H1 a (exo a C none)) (fun v H2 => v = .non ∧ ∃ d gs, H2 a = some (exo a C (some d)) ∧ H2 d = some (exd d gs) ∧ H1 d = none ∧ Q (.ref C) (some d) (upd (del H2 a) d (HO.xd gs))) E0 := by
  refine ⟨a, vs, rfl, hl, upd_same, fun d H' nd ne ha hd rest => ⟨rfl, d, _, ha, hd, ?_, ?_⟩⟩
  · rw [upd_ne ne] at nd; exact nd
  · have nd1 : H1 d = none := by rw [upd_ne ne] at nd; exact nd
    refine q d _ (fun b o hb => ?_) nd1 upd_same
    have na' : b ≠ a := ne_of_none hb na
    have nd' : b ≠ d := ne_of_none hb nd1
    rw [upd_ne nd', show del H' a b = H' b from if_neg na', rest b na' nd', upd_ne na']
    exact hb
end
/-- a clause: its class, the slot of its name, its suite's reading -/
abbrev Cl := Value × Option Nat × (Addr → Value → Option Addr → TS)
/-- behind the suite the name is gone -/
def offE (i : Nat) (D : Ends) : Ends := ⟨fun τ J => D.nx (τ.set i none) J, D.rt, fun τ J => D.bk (τ.set i none) J, fun τ J => D.ct (τ.set i none) J⟩
def Cl.enter (c : Cl) (a : Addr) (cls : Value) (d : Option Addr) : TS := fun D σ H => match c.2.1 with
  | none => c.2.2 a cls d D σ H
  | some i => c.2.2 a cls d (offE i D) (σ.set i (some (.ref a))) H
/-- the first clause whose class fits takes it; there is one -/
def catches (K : PySem.W.Frag) (D : Ends) : List Cl → WX
  | [] => fun _ _ _ _ => False
  | c :: r => fun cls d σ H => ∃ b, PySem.W.exmOne K cls c.1 = some b ∧ (b = true → ∀ a, H a = none → c.enter a cls d D σ H) ∧ (b = false → catches K D r cls d σ H)
/-- the suite of a clause, whatever it caught -/
def Suite (X : Cx) (b : Stmt) (r : List Stmt) (ts : Addr → Value → Option Addr → TS) : Prop :=
  ∀ (a : Addr) (oe : Obj) (cls : Value) (d : Option Addr) (pn : List (Addr × Obj)), Zc cls d oe → (∃ vs, oe.data = .fields vs) → PSs (X.suite a ((a, oe) :: pn)) (b :: r) (ts a cls d)
inductive HdsX (X : Cx) : List ExceptHandler → List Cl → Prop
  | nil : HdsX X [] []
  | one {x : Str} {c : Value} {ts : Addr → Value → Option Addr → TS} {b : Stmt} {r : List Stmt} {p q : Pos} {hs : List ExceptHandler} {l : List Cl} :
      Names X x c → Suite X b r ts → HdsX X hs l → HdsX X (.ExceptHandler (some (.Name x p)) none (b :: r) q :: hs) ((c, none, ts) :: l)
  | as {x n : Str} {i : Nat} {c : Value} {ts : Addr → Value → Option Addr → TS} {b : Stmt} {r : List Stmt} {p q : Pos} {hs : List ExceptHandler} {l : List Cl} :
      X.N[i]? = some n → X.env.kindOf n = some .local → Names X x c → Suite X b r ts → HdsX X hs l → HdsX X (.ExceptHandler (some (.Name x p)) (some n) (b :: r) q :: hs) ((c, some i, ts) :: l)

/-- while the clauses are asked: a is what was caught, sI the state without it, B the ground -/
structure Hand (X : Cx) (pins : List (Addr × Obj)) (σ : L2.St) (H : Hp) (a : Addr) (cls : Value) (d : Option Addr) (B : Heap) (sI s : Shared) : Prop where
  inv : Inv X pins σ H sI
  gr : ∀ b o, sI.heap.get? b = some o → b ∉ frs X.stack → B.get? b = some o
  up : sI.heap.UpToSlots s.heap
  fly : HandSPX.FlyingZ B (X.env :: X.outer) a (Zc cls d) s.heap
  na : H a = none
  os : s.os = sI.os
  bare : AllBare s.gens
section
variable {X : Cx} {pins pn' : List (Addr × Obj)} {σ : L2.St} {H : Hp} {a : Addr} {cls : Value} {d : Option Addr} {B : Heap} {sI s : Shared} {D : Ends}
theorem Hand.here (h : Hand X pins σ H a cls d B sI s) : Inv X pins σ H s :=
  h.inv.landed h.gr h.fly.1 h.up h.os h.bare
theorem Hand.room (h : Hand X pins σ H a cls d B sI s) (hf : X.env.frame = some X.env.locals) :
    ∃ oe, s.heap.get? a = some oe ∧ Zc cls d oe ∧ (∃ vs, oe.data = .fields vs) ∧ Inv (X.suite a ((a, oe) :: (X.pn ++ pins))) [] σ H s := by
  obtain ⟨oe, vs, e, z, dt⟩ := h.fly.there
  have far : ∀ b ∈ frs (X.env :: X.outer), a ≠ b := by
    rintro b m rfl
    obtain ⟨_, o, e2, n⟩ := h.fly.2.2.1.mem m
    cases e.symm.trans e2
    exact n vs dt
  refine ⟨oe, e, z, ⟨vs, dt⟩, h.here.suite e dt h.na (far _ (List.mem_filterMap.mpr ⟨_, .head _, hf⟩)) fun m => ?_⟩
  obtain ⟨v, hv, q⟩ := List.mem_filterMap.mp m
  exact far a (List.mem_filterMap.mpr ⟨v, .tail _ hv, q⟩) rfl
/-- its flight is set to none once more -/
theorem Hand.rest {M : Model} {A : Around} {Q : Unit → Shared → Prop} {E : Value → Shared → Prop} (h : Hand X pins σ H a cls d B sI s)
    (q : ∀ s', Hand X pins σ H a cls d B sI s' → Q () s') : wpAny M A (setFlight (.ref a) none) Q E s :=
  HandSPX.lands_againZ h.fly fun g f u => q { s with heap := g } { inv := h.inv, gr := h.gr, up := h.up.trans u, fly := f, na := h.na, os := h.os, bare := h.bare }
theorem named {x : Str} {c : Value} {np : Pos} {Q : Value → Shared → Prop} {E : Value → Shared → Prop} {pn : List (Addr × Obj)} (h : Names X x c) (I : Inv (X.suite a pn) pins σ H s) (q : Q c s) :
    wpAny (model X.prog X.w) (X.A.mark (some (.ref a))) (eval (.Name x np) X.env) Q E s := by
  rcases h with ⟨g, db, m | ⟨m, v, n⟩⟩
  · exact ld_glob I g m q db
  · exact ld_blt I g m v q n db
theorem sp_suite {q : Addr × Obj} {f : Flow} (ok : X.Ok) (h : SP (X.suite a (q :: (X.pn ++ pins))) [] D f s) : SP X pins D f s := by
  cases f
  case ret => obtain ⟨v, τ, J, I, r, z⟩ := h; exact ⟨v, τ, J, I.unsuite ok, r, z⟩
  all_goals (obtain ⟨τ, J, I, z⟩ := h; exact ⟨τ, J, I.unsuite ok, z⟩)
theorem sp_named {q : Addr × Obj} {f : Flow} {i : Nat} {n : Str} {pos : Pos} (ok : X.Ok) (hN : X.N.Nodup) (hi : X.N[i]? = some n) (hl : X.env.kindOf n = some .local) (h : SP (X.suite a (q :: (X.pn ++ pins))) [] (offE i D) f s) :
    wpAny (model X.prog X.w) X.A (do bindName X.env n .none; unbindBehindTheSuite X.env n pos) (fun _ s' => SP X pins D f s') X.xe s := by
  cases f
  case ret => obtain ⟨v, τ, J, I, r, z⟩ := h; exact gone_ok (I.unsuite ok) hN hi hl fun _ I' => ⟨v, _, J, I', r, z⟩
  all_goals (obtain ⟨τ, J, I, z⟩ := h; exact gone_ok (I.unsuite ok) hN hi hl fun _ I' => ⟨_, J, I', z⟩)
theorem sp_try {xe : Value → Shared → Prop} {f : Flow} (ok : X.Ok) (h : SP (X.tr (X.pn ++ pins) xe) pn' D f s) : SP X pins D f s := by
  cases f
  case ret => obtain ⟨v, τ, J, I, r, z⟩ := h; exact ⟨v, τ, J, I.ofTry ok, r, z⟩
  all_goals (obtain ⟨τ, J, I, z⟩ := h; exact ⟨τ, J, I.ofTry ok, z⟩)
/-- the clauses are asked -/
theorem ask (hf : X.env.frame = some X.env.locals) (hN : X.N.Nodup) {hs : List ExceptHandler} {l : List Cl} (hh : HdsX X hs l) : Hand X pins σ H a cls d B sI s → catches X.K D l cls d σ H →
    wpAny (model X.prog X.w) X.A (handleBy (.ref a) X.env hs) (SP X pins D) X.xe s := by
  induction hh with
  | nil => exact fun _ w => w.elim
  | one hc hsu _ ih =>
    intro h ⟨b, fits, yes, next⟩
    have ok := h.inv.ok
    obtain ⟨o1, e1, z1, _, I1⟩ := h.room hf
    refine wpAny_handleBy_cons (codeAny_handlers_test (named hc I1 ?_)) (fun z => nomatch z)
    refine (PySem.W.exm_one (M := model X.prog X.w) I1.kIn (fun _ _ _ _ k z => wpAny_typeOf_ref (k _ _ e1) (z1.1.symm ▸ z)) fits).here ?_
    cases b
    · exact ih h (next rfl)
    · refine codeAny_handlers_suite (h.rest fun s2 h2 => ?_)
      obtain ⟨o2, _, z2, d2, I2⟩ := h2.room hf
      exact wpAny_mono ((hsu a o2 cls d _ z2 d2).run [] s2 σ H D I2 (yes rfl a h.na)) (fun _ _ z => sp_suite ok z) fun _ _ z => z.elim
  | as hi hl hc hsu _ ih =>
    intro h ⟨b, fits, yes, next⟩
    have ok := h.inv.ok
    obtain ⟨o1, e1, z1, _, I1⟩ := h.room hf
    refine wpAny_handleBy_cons (codeAny_handlers_test (named hc I1 ?_)) (fun z => nomatch z)
    refine (PySem.W.exm_one (M := model X.prog X.w) I1.kIn (fun _ _ _ _ k z => wpAny_typeOf_ref (k _ _ e1) (z1.1.symm ▸ z)) fits).here ?_
    cases b
    · exact ih h (next rfl)
    · refine codeAny_handlers_suite_as (h.rest fun s2 h2 => ?_)
      obtain ⟨o2, _, z2, d2, I2⟩ := h2.room hf
      refine store_ok (X := X.suite a ((a, o2) :: (X.pn ++ pins))) (v := .ref a) I2 hN hi (.inl hl) rfl (fun s3 I3 => ?_) (.inr hl)
      exact wpAny_mono ((hsu a o2 cls d _ z2 d2).run [] s3 _ H (offE _ D) I3 (yes rfl a h.na)) (fun _ _ z => sp_named ok hN hi hl z) fun _ _ z => z.elim
/-- try: body, except .. -/
theorem ps_try_mix {body : List Stmt} {h0 : ExceptHandler} {hs : List ExceptHandler} {l : List Cl} {pos : Pos} {tb : WX → TS} (st : X.stack = X.env :: X.outer) (hf : X.env.frame = some X.env.locals) (hN : X.N.Nodup)
    (hb : ∀ (W : WX) (pn : List (Addr × Obj)) (xe : Value → Shared → Prop), Takes (X.tr pn xe) W → PSs (X.tr pn xe) body (tb W)) (hh : HdsX X (h0 :: hs) l) :
    PS X (.Try body (h0 :: hs) [] [] pos) (fun D σ H => tb (catches X.K D l) D σ H) := by
  constructor
  intro pins s σ H D I w
  have ok := I.ok
  let xe : Value → Shared → Prop := fun e s1 => wpAny (model X.prog X.w) X.A (noteFrame e X.env) (fun _ s2 => wpAny (model X.prog X.w) X.A (setFlight e none)
    (fun _ s3 => wpAny (model X.prog X.w) X.A (handleBy e X.env (h0 :: hs)) (SP X pins D) X.xe s3) X.xe s2) X.xe s1
  have tk : Takes (X.tr (X.pn ++ pins) xe) (catches X.K D l) := by
    rintro u s1 ⟨a, B, sI, pins', τ, J, cls, d, rfl, I1, gr, up, sky, na, os, bare, c⟩
    have I2 := I1.ofTry (pins := pins) ok
    refine Sky.land Zc.steady (ok.frames.trans (congrArg some st)) hf (st ▸ sky) fun g fl u2 => ?_
    exact ask hf hN hh { inv := I2, gr := gr, up := up.trans u2, fly := fl, na := na, os := os, bare := bare } c
  refine wpAny_Try_except (wpAny_mono ((hb _ _ xe tk).run [] s σ H D (I.toTry _) w) (fun f s1 z => ?_) fun _ _ z => z)
  have z2 := sp_try ok z
  cases f
  case next => exact wpAny_execs_nil z2
  all_goals exact z2
end
section
variable {X : Cx} {CX : CXT} {k : Nat} {f C : Addr} {fd : FuncData} {ps : List Str} {sp : Sp} {E : L2.St → XK} {x : Str} {p pos : Pos} {e : Expr} {es : List Expr} {t : TA}
/-- a call that may raise -/
theorem pe_callSG (F : FnG X.prog X.w X.K X.mg X.base CX k f fd ps sp) (hA : X.A.guards = some []) (hr : Room k X.A) (hg : Gl X x) (hm : X.mg x = some (.ref f)) (hk : PySem.W.keepIn X.K (.ref f) = true)
    (hb : Binds X.K fd ps []) (hx : ∀ σ, PassesAt CX X σ (E σ)) (ha : PA X (e :: es) t) (db : (x == ("__debug__" : Str)) = false := by decide)
    (st : starEach (e :: es) X.env = (false, eval e X.env) :: starEach es X.env := by rfl) (pl : (backTo pos (starEach es X.env)).any (·.1) = false := by rfl) : PE X (.Call (.Name x p) (e :: es) [] pos) (tCallS sp E t) := by
  constructor
  intro pins s σ H Q I w
  have go : ∀ us s1, (∃ vs H1, Inv X pins σ H1 s1 ∧ Vals vs us ∧ sp vs H1 Q (E σ)) → wpAny (model X.prog X.w) X.A (call (.ref f) us) (EP X pins σ Q) X.xe s1 := by
    rintro us s1 ⟨vs, H1, I1, r, q⟩
    have n : us.length = ps.length := r.length ▸ F.len vs H1 Q _ q
    have b := hb s1 us I1.kIn (by simpa using n)
    simp only [List.append_nil] at b
    apply wpAny_call
    apply codeAny_mono (F.run X.A hA X.stack s1 H1 ⟨us, []⟩ us vs Q _ hr I1.env0 b r q)
    rintro (u | fl) s2 z
    · exact hx σ pins H1 s1 u s2 I1 z
    · cases fl
      case ret => exact I1.after z
      all_goals exact z.elim
  refine wpAny_Call_Name_kw (ld_glob I hg hm (PySem.W.callWith_K (h₀ := X.base) I.ok.mod.kin hk (thn (ha.run pos pins s σ H _ I w) fun us s1 z => ?_) st pl) db)
  obtain ⟨vs, H1, I1, r, q⟩ := z
  exact ⟨I1.kIn, go us s1 ⟨vs, H1, I1, r, q⟩⟩
end
section
variable {P : Program} {w : World} {K : PySem.W.Frag} {mg : Str → Option Value} {base : Heap}
/-- a def that raises -/
theorem okGX {x q : Str} {st : Stmt} {f : Addr} {fd : FuncData} {N ps : List Str} {k : Nat} {sp : Sp} (F : Fun K x q st f fd)
    (S : FnScope N ps (defScope st)) (len : ∀ vs H Q E, sp vs H Q E → vs.length = ps.length)
    (hb : ∀ (cd : Value) (A : Around), A.guards = some [] → ∀ (outer : List Env) (s : Shared) (H : Hp) (vs : List V) (Q : VK) (E : XK),
      Room k (A.deeper (envOfC q (defScope st) s.heap.objs.size f cd)) → sp vs H Q E →
      ∃ t, PSs (cxOf (CX P w) P w K mg base N q (defScope st) f cd A outer s H E) (defBody st) t ∧
        t { nx := fun _ H' => Q .non H', rt := Q } (start N vs) H) : FnG P w K mg base (CX P w) (k + 1) f fd ps sp := by
  obtain ⟨oc, od, kV, dc, pm, an, cd, ct, sl, rfl, lk, hc⟩ := F.ex
  refine fnG_of lk hc S len ?_
  intro A hA outer s H vs Q E hr hs
  exact hb cd A hA outer s H vs Q E hr hs
end
section
variable {P : Program} {w : World} {K : PySem.W.Frag} {mg : Str → Option Value} {base : Heap}
/-- where no error is wanted none leaves -/
theorem FnG.ox {k : Nat} {f : Addr} {fd : FuncData} {ps : List Str} {sp sp' : Sp} (F : FnG P w K mg base (CX P w) k f fd ps sp) (h : ∀ vs H Q E, sp' vs H Q E → sp vs H Q E0) : FnG P w K mg base CX0 k f fd ps sp' where
  len := fun vs H Q E q => F.len _ _ _ _ (h _ _ _ _ q)
  run := fun A hA outer s H args us vs Q E hr e b v q => codeAny_mono (F.run A hA outer s H args us vs Q E0 hr e b v (h _ _ _ _ q)) (fun r s' z => by
    cases r with
    | ok fl => cases fl <;> exact z
    | error e => obtain ⟨_, _, _, _, _, _, _, _, _, _, _, _, z⟩ := z; exact z.elim)
/-- a class whose __init__ may raise -/
structure HasIX (P : Program) (w : World) (K : PySem.W.Frag) (mg : Str → Option Value) (base : Heap) (k : Nat) (x : Str) (C : Addr) (ps : List Str) (sp : Sp) : Prop where
  ex : ∃ f fd, FnG P w K mg base (CX P w) k f fd (("self" : Str) :: ps) sp ∧ Mk K C f ∧ Binds K fd (("self" : Str) :: ps) [] ∧ mg x = some (.ref C) ∧
    ∀ (s : Shared) (z : Value) (us : List Value), us.length = ps.length → BindsTo s fd ⟨[z], (ps.zip us).reverse⟩ ((("self" : Str) :: ps).zip (z :: us))
theorem HasIX.up {j k : Nat} {x : Str} {C : Addr} {ps : List Str} {sp : Sp} (F : HasIX P w K mg base j x C ps sp) (h : j ≤ k) : HasIX P w K mg base k x C ps sp := by
  obtain ⟨f, fd, a, b⟩ := F.ex
  exact ⟨f, fd, a.up h, b⟩
theorem HasIX.calm {k : Nat} {x : Str} {C : Addr} {ps : List Str} {sp sp' : Sp} (F : HasIX P w K mg base k x C ps sp) (h : ∀ vs H Q E, sp' vs H Q E → sp vs H Q E0) : HasI P w K mg base k x C ps sp' := by
  obtain ⟨f, fd, a, b⟩ := F.ex
  exact ⟨f, fd, a.ox h, b⟩
/-- a def that may raise -/
structure HasX (P : Program) (w : World) (K : PySem.W.Frag) (mg : Str → Option Value) (base : Heap) (k : Nat) (x : Str) (ps : List Str) (sp : Sp) : Prop where
  ex : ∃ f fd, FnG P w K mg base (CX P w) k f fd ps sp ∧ mg x = some (.ref f) ∧ PySem.W.keepIn K (.ref f) = true ∧ Binds K fd ps [] ∧
    ∀ (s : Shared) (us : List Value), us.length = ps.length → BindsTo s fd ⟨[], ps.zip us⟩ (ps.zip us) ∧ BindsTo s fd ⟨[], (ps.zip us).reverse⟩ (ps.zip us)
theorem HasX.up {j k : Nat} {x : Str} {ps : List Str} {sp : Sp} (F : HasX P w K mg base j x ps sp) (h : j ≤ k) : HasX P w K mg base k x ps sp := by
  obtain ⟨f, fd, a, b⟩ := F.ex
  exact ⟨f, fd, a.up h, b⟩
theorem HasX.calm {k : Nat} {x : Str} {ps : List Str} {sp sp' : Sp} (F : HasX P w K mg base k x ps sp) (h : ∀ vs H Q E, sp' vs H Q E → sp vs H Q E0) : Has P w K mg base k x ps sp' := by
  obtain ⟨f, fd, a, b⟩ := F.ex
  exact ⟨f, fd, a.ox h, b⟩
end
section
variable {X : Cx} {k : Nat} {C : Addr} {x : Str} {ps : List Str} {sp : Sp} {p pos : Pos} {e : Expr} {es : List Expr} {t : TA} {E : L2.St → XK}
def mkSpX (C : Addr) (sp : Sp) (E : XK) (vs : List V) (H : Hp) (Q : VK) : Prop := ∀ a d, H a = none → H d = none → d ≠ a → sp (.ref a :: vs) (upd (upd H d (.own a)) a (.ins C d [])) (fun v H2 => v = .non ∧ Q (.ref a) H2) E
/-- C(e, ..), which may raise -/
theorem pe_mkIX (F : HasIX X.prog X.w X.K X.mg X.base k x C ps sp) (hA : X.A.guards = some []) (hr : Room (k + 1) X.A) (hg : Gl X x) (hx : ∀ σ, PassesAt (CX X.prog X.w) X σ (E σ)) (ha : PA X (e :: es) t)
    (hdb : (x == ("__debug__" : Str)) = false := by decide) (he : starEach (e :: es) X.env = (false, eval e X.env) :: starEach es X.env := by rfl) (hpl : (backTo pos (starEach es X.env)).any (·.1) = false := by rfl) :
    PE X (.Call (.Name x p) (e :: es) [] pos) (fun σ H Q => t σ H fun vs H1 => vs.length = ps.length ∧ mkSpX C sp (E σ) vs H1 Q) := by
  obtain ⟨f, fd, F, M, hb, hm, _⟩ := F.ex
  refine ⟨fun pins s σ H Q I h => ?_⟩
  refine wpAny_Call_Name_kw (ld_glob I hg hm ?_ hdb)
  refine PySem.W.callWith_K (h₀ := X.base) I.ok.mod.kin M.kp (thn (ha.run pos pins s σ H _ I h) fun us s1 z => ?_) he hpl
  obtain ⟨vs, H1, I1, r1, n, q⟩ := z
  have l : us.length = ps.length := r1.length ▸ n
  refine ⟨I1.kIn, ?_⟩
  have q := q (s1.heap.objs.size + 1) s1.heap.objs.size (I1.hok.fresh (Nat.le_succ _)) (I1.hok.fresh (Nat.le_refl _)) (Nat.ne_of_lt (Nat.lt_succ_self _))
  have I2 := Inv.made (C := C) I1
  refine wpAny_call (make_map (f := f) I1.kIn M.makes M.init (beq_iff_eq.mp M.fn) (codeAny_mono (F.run _ (under_guards hA) X.stack _ _ ⟨.ref (s1.heap.objs.size + 1) :: us, []⟩ (.ref (s1.heap.objs.size + 1) :: us) (.ref (s1.heap.objs.size + 1) :: vs) _ (E σ)
    (hr.make C us []) (I2.env0.make C us []) (by
      have b := hb _ (.ref (s1.heap.objs.size + 1) :: us) I2.kIn (by simp [l])
      simpa using b) (.cons rfl r1) q) fun r' s' z => ?_))
  match r', z with
  | .error er, z => exact hx σ pins _ _ er s' I2 z
  | .ok .next, z => exact z.elim
  | .ok .brk, z => exact z.elim
  | .ok .cont, z => exact z.elim
  | .ok (.ret u), z =>
    obtain ⟨v, H2, J2, rv, ev, q⟩ := I2.after z
    subst ev
    exact ⟨rv, .ref _, H2, J2, rfl, q⟩
/-- a call that may raise -/
theorem pe_callXH (F : HasX X.prog X.w X.K X.mg X.base k x ps sp) (hA : X.A.guards = some []) (hr : Room k X.A) (hg : Gl X x) (hx : ∀ σ, PassesAt (CX X.prog X.w) X σ (E σ)) (ha : PA X (e :: es) t)
    (db : (x == ("__debug__" : Str)) = false := by decide) (st : starEach (e :: es) X.env = (false, eval e X.env) :: starEach es X.env := by rfl) (pl : (backTo pos (starEach es X.env)).any (·.1) = false := by rfl) :
    PE X (.Call (.Name x p) (e :: es) [] pos) (tCallS sp E t) := by
  obtain ⟨f, fd, F, hm, hk, hb, _⟩ := F.ex
  exact pe_callSG F hA hr hg hm hk hb hx ha db st pl
end
end LK

namespace LK
open PySem PySem.Spec PyProof.Rows L2 LamX ClX
open scoped List
/-- what is kept of the class: its fields are its own -/
structure ClsM (K : PySem.W.Frag) (C : Addr) : Prop where
  cls : Cls K C
  nL : NoAttr K C "_letters"
  nR : NoAttr K C "_rows"
  nK : NoAttr K C "_kinds"
abbrev mf1 (S : List Nat) : List (Str × V) := [("_letters", .str (T S))]
abbrev mf2 (S : List Nat) (r : Addr) : List (Str × V) := [("_letters", .str (T S)), ("_rows", .ref r)]
abbrev mf3 (S : List Nat) (r k : Addr) : List (Str × V) := [("_letters", .str (T S)), ("_rows", .ref r), ("_kinds", .ref k)]
/-- a: a machine with these letters, rows, kinds, in lists of its own -/
def Mach (C : Addr) (H : Hp) (a : Addr) (S : List Nat) (R : Rows) (Kd : List Bool) : Prop := ∃ (dx r k : Addr) (rs : List Addr), H a = some (.ins C dx (mf3 S r k)) ∧
  H r = some (.lst (rs.map V.ref)) ∧ rs.length = R.length ∧ (∀ i p, rs[i]? = some p → H p = some (.lst (iv (gls R i)))) ∧ H k = some (.lst (Kd.map V.bl))
theorem Mach.ext {C : Addr} {H H' : Hp} {a : Addr} {S : List Nat} {R : Rows} {Kd : List Bool} (h : Mach C H a S R Kd) (e : Same H H') : Mach C H' a S R Kd := by
  obtain ⟨dx, r, k, rs, h1, h2, h3, h4, h5⟩ := h
  exact ⟨dx, r, k, rs, e _ _ h1, e _ _ h2, h3, fun i p hp => e _ _ (h4 i p hp), e _ _ h5⟩
/-- .. in lists that are new beside H0 -/
def MachN (C : Addr) (H0 H : Hp) (a : Addr) (S : List Nat) (R : Rows) (Kd : List Bool) : Prop := ∃ (dx r k : Addr) (rs : List Addr), H a = some (.ins C dx (mf3 S r k)) ∧
  H r = some (.lst (rs.map V.ref)) ∧ rs.length = R.length ∧ (∀ i p, rs[i]? = some p → H p = some (.lst (iv (gls R i))) ∧ H0 p = none) ∧ H k = some (.lst (Kd.map V.bl)) ∧ H0 r = none ∧ H0 k = none
theorem MachN.m {C : Addr} {H0 H : Hp} {a : Addr} {S : List Nat} {R : Rows} {Kd : List Bool} (h : MachN C H0 H a S R Kd) : Mach C H a S R Kd := by
  obtain ⟨dx, r, k, rs, h1, h2, h3, h4, h5, _⟩ := h
  exact ⟨dx, r, k, rs, h1, h2, h3, fun i p hp => (h4 i p hp).1, h5⟩
theorem MachN.of {C : Addr} {H0 H1 H : Hp} {a : Addr} {S : List Nat} {R : Rows} {Kd : List Bool} (h : MachN C H1 H a S R Kd) (e : Same H0 H1) : MachN C H0 H a S R Kd := by
  obtain ⟨dx, r, k, rs, h1, h2, h3, h4, h5, h6, h7⟩ := h
  have fr : ∀ b, H1 b = none → H0 b = none := fun b n => by
    cases hb : H0 b with
    | none => rfl
    | some o => rw [e b o hb] at n; cases n
  exact ⟨dx, r, k, rs, h1, h2, h3, fun i p hp => ⟨(h4 i p hp).1, fr _ (h4 i p hp).2⟩, h5, fr _ h6, fr _ h7⟩
/-- all stays but what stands at a -/
def But (a : Addr) (H H' : Hp) : Prop := ∀ b o, b ≠ a → H b = some o → H' b = some o
theorem But.of {a : Addr} {H H' : Hp} (e : Same H H') : But a H H' := fun b o _ h => e b o h
theorem But.trans {a : Addr} {H H' H'' : Hp} (e : But a H H') (e2 : But a H' H'') : But a H H'' := fun b o n h => e2 b o n (e b o n h)
theorem But.at {a : Addr} {H : Hp} {o : HO} : But a H (upd H a o) := fun b u n h => by rw [upd_ne n]; exact h
theorem But.new {a p : Addr} {H : Hp} {o : HO} (n : H p = none) : But a H (upd H p o) := .of (same_upd n)
theorem But.put {a p : Addr} {H H' : Hp} {o : HO} (e : But a H H') (n : H p = none) : But a H (upd H' p o) := fun b u nb h => by
  rw [upd_ne (ne_of_none h n)]; exact e b u nb h
theorem SqB.but {K : PySem.W.Frag} {tp : Bool} {a C dx x : Addr} {fs : List (Str × V)} {H H' : Hp} {xs : List V} (h : SqB K tp H x xs) (e : But a H H') (ha : H a = some (.ins C dx fs)) : SqB K tp H' x xs := by
  have ne : ∀ o, H x = some o → (∀ C dx fs, o ≠ .ins C dx fs) → x ≠ a := fun o ho n z => by
    rw [z, ha] at ho; exact n _ _ _ (Option.some.inj ho).symm
  cases tp
  · rcases h with (h | ⟨o, h⟩) | h
    · exact .inl (.inl (e _ _ (ne _ h fun _ _ _ z => nomatch z) h))
    · exact .inl (.inr ⟨o, e _ _ (ne _ h fun _ _ _ z => nomatch z) h⟩)
    · exact .inr h
  · rcases h with (h | ⟨o, h⟩) | h
    · exact .inl (.inl (e _ _ (ne _ h fun _ _ _ z => nomatch z) h))
    · exact .inl (.inr ⟨o, e _ _ (ne _ h fun _ _ _ z => nomatch z) h⟩)
    · exact .inr h
section
variable {P : Program} {w : World} {K : PySem.W.Frag} {mg : Str → Option Value} {base : Heap}
theorem scInit : FnScope ["self", "letters", "rows", "kinds", "met", "missing", "place", "row"] ["self", "letters", "rows", "kinds"] (defScope sInit) := ⟨rfl, rfl, rfl, by decide +kernel, rfl, by decide +kernel, by decide +kernel⟩
def spInit (K : PySem.W.Frag) (C : Addr) : Sp := fun vs H Q _ => ∃ (a dx r k : Addr) (S : List Nat) (R : Rows) (Kd : List Bool), vs = [.ref a, .str (T S), .ref r, .ref k] ∧ ShOk S R Kd ∧ Whole R ∧ RowsAt K H r R ∧ KindsAt K H k Kd ∧ H a = some (.ins C dx []) ∧
  ∀ H', (∀ b o, b ≠ a → H b = some o → H' b = some o) → MachN C H H' a S R Kd → Q .non H'
/-- .. and if some places are not come to -/
def spInitX (K : PySem.W.Frag) (C cN : Addr) : Sp := fun vs H Q E => ∃ (a dx r k : Addr) (S : List Nat) (R : Rows) (Kd : List Bool), vs = [.ref a, .str (T S), .ref r, .ref k] ∧ ShOk S R Kd ∧ RowsAt K H r R ∧ KindsAt K H k Kd ∧ H a = some (.ins C dx []) ∧
  (Whole R → ∀ H', (∀ b o, b ≠ a → H b = some o → H' b = some o) → MachN C H H' a S R Kd → Q .non H') ∧ (¬ Whole R → ∀ d H', Same H H' → E (.ref cN) (some d) H')
theorem spInit_X {K : PySem.W.Frag} {C cN : Addr} (vs : List V) (H : Hp) (Q : VK) (E : XK) (h : spInit K C vs H Q E) : spInitX K C cN vs H Q E0 := by
  obtain ⟨a, dx, r, k, S, R, Kd, e, ok, wh, hR, hK, ha, q⟩ := h
  exact ⟨a, dx, r, k, S, R, Kd, e, ok, hR, hK, ha, fun _ => q, fun n => absurd wh n⟩
theorem iv_len (l : List Nat) : (iv l).length = l.length := List.length_map _
theorem miss_nil {R : Rows} : ((List.range R.length).filter fun x => !decide (x ∈ met R 0)) = [] ↔ Whole R := by
  rw [List.filter_eq_nil_iff]
  constructor
  · intro h x hx
    have := h x (List.mem_range.mpr hx)
    simpa using this
  · intro h x hx
    have := h x (List.mem_range.mp hx)
    simpa using this
theorem ok_initX {f C cN : Addr} {fd : FuncData} {k : Nat} (F : Fun K "__init__" "Machine.__init__" sInit f fd) (M : Mx mg) (cM : ClsM K C) (HN : Has P w K mg base (k + 1) "_need_parts" ["letters", "rows", "kinds"] (spNeedParts K))
    (HM : Has P w K mg base (k + 1) "_met_from" ["rows", "start"] (spMetFrom K)) (HC : HasC P w K mg base k "NotComeTo" cN ["place"]) : FnG P w K mg base (CX P w) (k + 2) f fd ["self", "letters", "rows", "kinds"] (spInitX K C cN) := by
  refine okGX F scInit (fun vs H Q E h => ?_) (fun cdv A hA outer s H vs Q E hr h => ?_)
  · obtain ⟨a, dx, r, k, S, R, Kd, rfl, _⟩ := h; rfl
  · obtain ⟨a, dx, r, k, S, R, Kd, rfl, ok, hR, hK, ha, q, qx⟩ := h
    have nd := scInit.nd
    have sl := sizeLine_eq
    have hi := ok.hi
    refine ⟨_, pss_cons (ps_expr (pe_callH HN hA hr (by rfl) (pa_cons (uv 1) (pa_cons (uv 2) (pa_cons (uv 3) pa_nil)))))
      (pss_cons (ps_set (i := 4) nd rfl (.inr rfl) (pe_callH HM hA hr (by rfl) (pa_cons (uv 2) (pa_cons pe_int pa_nil))))
      (pss_cons (ps_setLc (i := 5) (own := [("place", 6)]) (g := gName 6) (by rfl) nd rfl rfl (sw_true rfl rfl rfl (by decide +kernel)) (pi_range1 (by rfl) M.range (pa_cons (pe_callB c_len (by rfl) M.len b_len (pa_cons (uv 2) pa_nil)) pa_nil))
        (blkOk_by (N := ["self", "letters", "rows", "kinds", "met", "missing", "place", "row"]) (sc := defScope sInit) (by decide +kernel))
        (fun _ _ _ _ _ => pg_name (i := 6) nd rfl (Or.inl rfl)) (fun _ _ _ _ _ => pts_one (pt_cmp (pc_dnotin (Room.u1 hr) (uv 6) (uv 4)))) (fun _ _ _ _ _ => uv 6))
      (pss_cons (ps_ifU (pt_truth (uv 5) (by intro _; rfl)) (pss_one (ps_raise rfl (takes_of rfl rfl rfl rfl) (pmk_new HC hA hr (by rfl) (pa_cons (pe_ixU (uv 5) pe_int) pa_nil)))) pss_nil)
      (pss_cons (ps_fld (uv 0) (uv 1) (by rfl))
      (pss_cons (ps_fld (uv 0) (pe_lc (own := [("row", 7)]) (g := gName 7) (tt := tYes) rfl nd (pi_sq (uv 2)) (blkOk_by (N := ["self", "letters", "rows", "kinds", "met", "missing", "place", "row"]) (sc := defScope sInit) (by decide +kernel))
        (fun _ _ _ _ _ => pg_name (i := 7) nd rfl (Or.inl rfl)) (fun _ _ _ _ _ => pts_nil) (fun _ _ _ _ _ => pe_callTy (r := listU K) (c_list rfl) (by rfl) M.list b_list (pa_cons (uv 7) pa_nil))) (by rfl))
      (pss_one (ps_fld (uv 0) (pe_callTy (c_list rfl) (by rfl) M.list b_list (pa_cons (uv 3) pa_nil)) (by rfl)))))))), ?_⟩
    refine ⟨r, k, S, R, Kd, rfl, ok, hR, hK, fun H1 e1 => ?_⟩
    refine ⟨r, 0, S.length, R, rfl, hR.ext e1, ok.rows, by have := ok.lo; omega, by omega, fun H2 D e2 nD hD => ?_⟩
    have e3 := e1.trans e2
    obtain ⟨tp, rs, hs', hl', hrow'⟩ := hR
    obtain ⟨tk, hk'⟩ := hK
    have lr : (rs.map V.ref).length = R.length := by rw [List.length_map, hl']
    dsimp only [tSeq, tAsg, gName]
    have nLen : ∀ i, ((List.range i).filter fun x => !decide (x ∈ met R 0)).length ≤ i := fun i => by
      have := List.length_filter_le (fun x => !decide (x ∈ met R 0)) (List.range i)
      rw [List.length_range] at this; exact this
    refine lc_rngF (n := (rs.map V.ref).length) (H1 := H2) (fun R' h => .inl ⟨rs.map V.ref, (hs'.ext e3).or, h⟩) (by omega) (fun D2 i acc H3 => H3 = upd H2 D2 (.lst (iv ((List.range i).filter fun x => !decide (x ∈ met R 0))))) (fun D2 n2 => rfl) (fun D2 n2 i acc H3 hi2 h => ?_) (fun D2 n2 acc H3 h => ?_)
    · subst h
      have ne : D ≠ D2 := ne_of_none hD n2
      refine ⟨rfl, D, _, rfl, DGet.k (k := kI i) (by rw [upd_ne ne]; exact hD), _, rfl, ?_⟩
      rw [val_kmp, look_isSome, nums_keys]
      by_cases hm : i ∈ met R 0
      · rw [decide_eq_true hm]
        simp only [Bool.not_true, Bool.false_eq_true, if_false]
        refine ⟨[], ?_⟩
        rw [List.range_succ, List.filter_append, show [i].filter (fun x => !decide (x ∈ met R 0)) = [] by simp [hm], List.append_nil]
      · rw [decide_eq_false hm]
        simp only [Bool.not_false, if_true]
        refine ⟨_, upd_same, by rw [iv_len]; have := nLen i; omega, [], ?_⟩
        rw [List.range_succ, List.filter_append, show [i].filter (fun x => !decide (x ∈ met R 0)) = [i] by simp [hm], iv_app, upd_upd]
        rfl
    subst h
    rw [lr] at *
    by_cases wh : Whole R
    case neg =>
      have hne : ((List.range R.length).filter fun x => !decide (x ∈ met R 0)) ≠ [] := fun z => wh (miss_nil.mp z)
      obtain ⟨c, l, el⟩ := List.exists_cons_of_ne_nil hne
      rw [el]
      have e4 : Same H (upd H2 D2 (.lst (iv (c :: l)))) := same_upd2 e3 (Same.free e3 n2)
      refine ⟨true, .inl ⟨_, .inl (.inl upd_same), rfl⟩, .yes ?_⟩
      refine ⟨iv (c :: l), .int (c : Nat), .inl (.inl (.inl upd_same)), atI_nat (xs := iv (c :: l)) (j := 0) (v := V.int (c : Nat)) rfl, ?_⟩
      exact ⟨by show 1 ≤ 1000; omega, fun a' na => pm_end (vs := [.int (c : Nat)]) (fs := ["place"]) rfl (fun d H' e nd hd => qx wh d H' (e4.trans e)) a' na⟩
    have q := q wh
    rw [miss_nil.mpr wh]
    refine ⟨false, .inl ⟨[], .inl (.inl upd_same), rfl⟩, .no ?_⟩
    have e4 : Same H (upd H2 D2 (.lst (iv []))) := same_upd2 e3 (Same.free e3 n2)
    generalize upd H2 D2 (.lst (iv [])) = H3 at e4
    refine ⟨a, C, dx, [], rfl, e4 _ _ ha, cM.cls, cM.nL, by show 0 < 1000; omega, ?_⟩
    have b4 : But a H (upd H3 a (.ins C dx (putF "_letters" (.str (T S)) []))) := (But.of e4).trans .at
    have h4 : (upd H3 a (.ins C dx (putF "_letters" (.str (T S)) []))) a = some (.ins C dx (mf1 S)) := upd_same
    have ex : ∀ b, H b ≠ none → (upd H3 a (.ins C dx (putF "_letters" (.str (T S)) []))) b ≠ none := fun b hb z => by
      by_cases e : b = a
      · subst e; rw [h4] at z; cases z
      · cases h : H b with
        | none => exact hb h
        | some o => rw [b4 b o e h] at z; cases z
    generalize upd H3 a (.ins C dx (putF "_letters" (.str (T S)) [])) = H4 at b4 h4 ex
    have fr : ∀ b, H4 b = none → H b = none := fun b z => Classical.byContradiction fun n => ex b n z
    dsimp only [tSeq, sFld]
    refine lc_sq (K := K) (tp := tp) (a := r) (xs := rs.map V.ref) (H1 := H4) (by exact fun _ h => h) (hs'.but b4 ha) (fun D3 pre acc H5 => ∃ ls : List Addr, pre = (rs.take ls.length).map V.ref ∧ ls.length ≤ rs.length ∧ acc = ls.map V.ref ∧ But a H H5 ∧
        H5 a = some (.ins C dx (mf1 S)) ∧ H5 D3 = some (.lst (ls.map V.ref)) ∧ ∀ i p, ls[i]? = some p → H5 p = some (.lst (iv (gls R i))) ∧ p ≠ D3 ∧ p ≠ a ∧ H p = none)
      (fun D3 pre acc H5 h => by obtain ⟨_, _, _, _, h, _⟩ := h; exact hs'.but h ha) (fun D3 n3 => ⟨[], rfl, Nat.zero_le _, rfl, b4.put (fr _ n3), by rw [upd_ne (ne_of_none h4 n3)]; exact h4, upd_same, fun i p z => nomatch z⟩)
      (fun D3 n3 pre acc x suf H5 ex2 h => ?_) (fun D3 n3 acc H5 h => ?_)
    · obtain ⟨ls, rfl, ll, rfl, b5, h5, hd5, hl5⟩ := h
      have l1 : ((rs.take ls.length).map V.ref).length = ls.length := by rw [List.length_map, List.length_take]; omega
      have l2 : ls.length < rs.length := by
        have := congrArg List.length ex2
        rw [List.length_append, l1, List.length_map, List.length_cons] at this
        omega
      have hx : (rs.map V.ref)[ls.length]? = some x := by rw [ex2, List.getElem?_append_right (by omega), l1, Nat.sub_self]; rfl
      rw [List.getElem?_map] at hx
      obtain ⟨qa, hqa, rfl⟩ := Option.map_eq_some_iff.mp hx
      obtain ⟨t2, hq⟩ := hrow' _ qa hqa
      refine ⟨rfl, .inl ⟨iv (gls R ls.length), (hq.but b5 ha).or, fun l nl => ?_⟩⟩
      have n1 : l ≠ a := fun z => by rw [z, h5] at nl; cases nl
      have n2 : l ≠ D3 := fun z => by rw [z, hd5] at nl; cases nl
      have nlH : H l = none := Classical.byContradiction fun n => by
        cases h : H l with
        | none => exact n h
        | some o => rw [b5 l o n1 h] at nl; cases nl
      refine ⟨ls.map V.ref, by rw [upd_ne n2.symm]; exact hd5, by rw [List.length_map]; omega, _, ls ++ [l], ?_, by rw [List.length_append]; exact l2, rfl, (b5.put nlH).put (fr _ n3), ?_, by rw [upd_same, List.map_append]; rfl, fun i p hp => ?_⟩
      · rw [List.length_append]
        show _ = (rs.take (ls.length + 1)).map V.ref
        rw [List.take_add_one, hqa, List.map_append]; rfl
      · have n3' : a ≠ D3 := ne_of_none h4 n3
        rw [upd_ne n3', upd_ne n1.symm]; exact h5
      · rcases Nat.lt_or_ge i ls.length with hlt | hge
        · rw [List.getElem?_append_left hlt] at hp
          obtain ⟨g1, g2, g3, g0⟩ := hl5 i p hp
          have n4 : p ≠ l := fun z => by rw [z, nl] at g1; cases g1
          exact ⟨by rw [upd_ne g2, upd_ne n4]; exact g1, g2, g3, g0⟩
        · rw [List.getElem?_append_right hge] at hp
          have e6 : i - ls.length = 0 := by
            have := (List.getElem?_eq_some_iff.mp hp).1
            simp at this; omega
          rw [e6] at hp
          have : l = p := by simpa using hp
          subst this
          have : i = ls.length := by omega
          subst this
          exact ⟨by rw [upd_ne n2]; exact upd_same, n2, n1, nlH⟩
    obtain ⟨ls, el, ll, rfl, b5, h5, hd5, hl5⟩ := h
    have lls : ls.length = rs.length := by
      have := congrArg List.length el
      rw [List.length_map, List.length_map, List.length_take] at this
      omega
    refine ⟨a, C, dx, (mf1 S), rfl, h5, cM.cls, cM.nR, by show 1 < 1000; omega, ?_⟩
    have e6 : putF "_rows" (.ref D3) (mf1 S) = (mf2 S D3) := rfl
    rw [e6]
    have b6 : But a H (upd H5 a (.ins C dx (mf2 S D3))) := b5.trans .at
    refine .inl ⟨Kd.map V.bl, (hk'.but b6 ha).or, fun l nl => ?_⟩
    have n3' : D3 ≠ a := fun z => by rw [z, h5] at hd5; cases hd5
    have nla : l ≠ a := fun z => by rw [z, upd_same] at nl; cases nl
    have nld : l ≠ D3 := fun z => by rw [z, upd_ne n3', hd5] at nl; cases nl
    refine ⟨a, C, dx, (mf2 S D3), rfl, by rw [upd_ne nla.symm]; exact upd_same, cM.cls, cM.nK, by show 2 < 1000; omega, ?_⟩
    have e7 : putF "_kinds" (.ref l) (mf2 S D3) = (mf3 S D3 l) := rfl
    rw [e7]
    have nlH : H l = none := Classical.byContradiction fun n => by
      cases h : H l with
      | none => exact n h
      | some o => rw [b6 l o nla h] at nl; cases nl
    refine q _ ((b6.put nlH).trans .at) ⟨dx, D3, l, ls, upd_same, ?_, by omega, fun i p hp => ?_, ?_, fr _ n3, nlH⟩
    · rw [upd_ne n3', upd_ne nld.symm, upd_ne n3']; exact hd5
    · obtain ⟨g1, g2, g3, g0⟩ := hl5 i p hp
      have n4 : p ≠ l := fun z => by rw [z] at g1 g3; rw [upd_ne g3, g1] at nl; cases nl
      exact ⟨by rw [upd_ne g3, upd_ne n4, upd_ne g3]; exact g1, g0⟩
    · rw [upd_ne nla]; exact upd_same
end
end LK

namespace LK
open PySem PySem.Spec PyProof.Rows L2 LamX ClX
open scoped List
theorem occ_idx {S : List Nat} {c : Nat} (nd : S.Nodup) (h : c ∈ S) : ∃ rest, Builtin.Str.occurrences (T S) (T [c]) 0 (T S).length 1 = S.idxOf c :: rest := by
  have f := PySem.StrLaws.found_one (T S) c
  cases e : Builtin.Str.occurrences (T S) (T [c]) 0 (T S).length 1 with
  | nil =>
    have e' : Builtin.Str.occurrences (T S) ⟨#[c]⟩ 0 (T S).length 1 = [] := e
    rw [e', show decide (c ∈ (T S).cps.toList) = true from decide_eq_true h] at f
    cases f
  | cons i rest =>
    refine ⟨rest, ?_⟩
    have g := (PySem.StrLaws.subAt_one (T S) c i).mp (PySem.StrLaws.occ_spec (T S) (T [c]) 0 (T S).length 1 i (by rw [e]; simp))
    have g : S[i]? = some c := g
    obtain ⟨hi, hc⟩ := List.getElem?_eq_some_iff.mp g
    rw [← hc, nd.idxOf_getElem]
/-- where a text leads -/
def led (S : List Nat) (R : Rows) (p : Nat) (l : List Nat) : Nat := l.foldl (fun p c => (gls R p).getD (S.idxOf c) 0) p
theorem led_snoc {S : List Nat} {R : Rows} {p c : Nat} {l : List Nat} : led S R p (l ++ [c]) = (gls R (led S R p l)).getD (S.idxOf c) 0 := by unfold led; rw [List.foldl_append]; rfl
theorem led_lt {S : List Nat} {R : Rows} {p : Nat} (ok : RowsOk R S.length) (hp : p < R.length) : ∀ l : List Nat, (∀ c ∈ l, c ∈ S) → led S R p l < R.length := by
  intro l
  induction l generalizing p with
  | nil => exact fun _ => hp
  | cons c l ih =>
    intro h
    have lt : S.idxOf c < (gls R p).length := by rw [gls_len ok hp]; exact List.idxOf_lt_length_iff.mpr (h c (by simp))
    refine ih (p := (gls R p).getD (S.idxOf c) 0) ?_ fun d hd => h d (by simp [hd])
    rw [List.getD_eq_getElem?_getD, List.getElem?_eq_getElem lt]
    exact gls_lt ok (List.getElem_mem lt)
theorem Ris1.nodup {S : List Nat} (h : Ris1 S) : S.Nodup := h.imp fun z => Nat.ne_of_lt z
section
variable {P : Program} {w : World} {K : PySem.W.Frag} {mg : Str → Option Value} {base : Heap} {C : Addr}
theorem scNeedPlace : FnScope ["self", "value"] ["self", "value"] (defScope sNeedPlace) := ⟨rfl, rfl, rfl, by decide +kernel, rfl, by decide +kernel, by decide +kernel⟩
def spNeedPlace (C : Addr) : Sp := fun vs H Q _ => ∃ (a : Addr) (g : Nat) (S : List Nat) (R : Rows) (Kd : List Bool), vs = [.ref a, .int g] ∧ Mach C H a S R Kd ∧ g < R.length ∧ Q .non H
theorem ok_needPlace {f : Addr} {fd : FuncData} {k : Nat} (F : Fun K "_need_place" "Machine._need_place" sNeedPlace f fd) (M : Mx mg) (cM : ClsM K C) (HP : Has P w K mg base k "is_place" ["value", "many"] spIsPlace) :
    FnG P w K mg base CX0 (k + 1) f fd ["self", "value"] (spNeedPlace C) := by
  refine okG F scNeedPlace (fun vs H Q E h => ?_) (fun cdv A hA outer s H vs Q E hr h => ?_)
  · obtain ⟨a, g, S, R, Kd, rfl, _⟩ := h; rfl
  · obtain ⟨a, g, S, R, Kd, rfl, ⟨dx, r, kk, rs, h1, h2, h3, h4, h5⟩, hg, q⟩ := h
    refine ⟨_, pss_one (ps_ifU (pt_not (pt_u (pe_callH HP hA hr (by rfl) (pa_cons (uv 1) (pa_cons (pe_callB c_len (by rfl) M.len b_len (pa_cons (pe_fldU (uv 0)) pa_nil)) pa_nil))))) (pss_one ps_never) pss_nil), ?_⟩
    refine ⟨C, dx, _, .ref r, h1, cM.cls, cM.nR, rfl, ?_⟩
    refine .inl ⟨rs.map V.ref, .inl (.inl (.inl h2)), ?_⟩
    exact ⟨g, (rs.map V.ref).length, rfl, by rw [List.length_map]; omega, .no q⟩
theorem scKinds : FnScope ["self"] ["self"] (defScope sKinds) := ⟨rfl, rfl, rfl, by decide +kernel, rfl, by decide +kernel, by decide +kernel⟩
def spKinds (C : Addr) : Sp := fun vs H Q _ => ∃ (a : Addr) (S : List Nat) (R : Rows) (Kd : List Bool), vs = [.ref a] ∧ Mach C H a S R Kd ∧ ∀ p, H p = none → Q (.ref p) (upd H p (.lst (Kd.map V.bl)))
theorem ok_kinds {f : Addr} {fd : FuncData} {k : Nat} (F : Fun K "kinds" "Machine.kinds" sKinds f fd) (M : Mx mg) (cM : ClsM K C) : FnG P w K mg base CX0 (k + 1) f fd ["self"] (spKinds C) := by
  refine okG F scKinds (fun vs H Q E h => ?_) (fun cdv A hA outer s H vs Q E hr h => ?_)
  · obtain ⟨a, S, R, Kd, rfl, _⟩ := h; rfl
  · obtain ⟨a, S, R, Kd, rfl, ⟨dx, r, kk, rs, h1, h2, h3, h4, h5⟩, q⟩ := h
    refine ⟨_, pss_one (ps_ret (pe_callTy (c_list rfl) (by rfl) M.list b_list (pa_cons (pe_fldU (uv 0)) pa_nil))), ?_⟩
    exact ⟨C, dx, _, .ref kk, h1, cM.cls, cM.nK, rfl, .inl ⟨Kd.map V.bl, .inl (.inl (.inl h5)), q⟩⟩
theorem scLen : FnScope ["self"] ["self"] (defScope sLen) := ⟨rfl, rfl, rfl, by decide +kernel, rfl, by decide +kernel, by decide +kernel⟩
def spLen (C : Addr) : Sp := fun vs H Q _ => ∃ (a : Addr) (S : List Nat) (R : Rows) (Kd : List Bool), vs = [.ref a] ∧ Mach C H a S R Kd ∧ Q (.int (R.length : Nat)) H
theorem ok_len {f : Addr} {fd : FuncData} {k : Nat} (F : Fun K "__len__" "Machine.__len__" sLen f fd) (M : Mx mg) (cM : ClsM K C) : FnG P w K mg base CX0 (k + 1) f fd ["self"] (spLen C) := by
  refine okG F scLen (fun vs H Q E h => ?_) (fun cdv A hA outer s H vs Q E hr h => ?_)
  · obtain ⟨a, S, R, Kd, rfl, _⟩ := h; rfl
  · obtain ⟨a, S, R, Kd, rfl, ⟨dx, r, kk, rs, h1, h2, h3, h4, h5⟩, q⟩ := h
    refine ⟨_, pss_one (ps_ret (pe_callB c_len (by rfl) M.len b_len (pa_cons (pe_fldU (uv 0)) pa_nil))), ?_⟩
    refine ⟨C, dx, _, .ref r, h1, cM.cls, cM.nR, rfl, .inl ⟨rs.map V.ref, .inl (.inl (.inl h2)), ?_⟩⟩
    rw [List.length_map, h3]; exact q
theorem scLed : FnScope ["self", "place", "text", "letter"] ["self", "place", "text"] (defScope sLed) := ⟨rfl, rfl, rfl, by decide +kernel, rfl, by decide +kernel, by decide +kernel⟩
def spLed (C : Addr) : Sp := fun vs H Q _ => ∃ (a : Addr) (p : Nat) (l S : List Nat) (R : Rows) (Kd : List Bool), vs = [.ref a, .int p, .str (T l)] ∧ Mach C H a S R Kd ∧ S.Nodup ∧ RowsOk R S.length ∧ p < R.length ∧ (∀ c ∈ l, c ∈ S) ∧ Q (.int (led S R p l : Nat)) H
theorem ok_led {f : Addr} {fd : FuncData} {k : Nat} (F : Fun K "_led" "Machine._led" sLed f fd) (M : Mx mg) (cM : ClsM K C) : FnG P w K mg base CX0 (k + 1) f fd ["self", "place", "text"] (spLed C) := by
  refine okG F scLed (fun vs H Q E h => ?_) (fun cdv A hA outer s H vs Q E hr h => ?_)
  · obtain ⟨a, p, l, S, R, Kd, rfl, _⟩ := h; rfl
  · obtain ⟨a, p, l, S, R, Kd, rfl, ⟨dx, r, kk, rs, h1, h2, h3, h4, h5⟩, ndS, ok, hp, hl, q⟩ := h
    have nd := scLed.nd
    refine ⟨_, pss_cons (ps_for PassesOwn.never rfl (pi_str (uv 2)) (pg_name (i := 3) nd rfl (.inl rfl))
        (pss_one (ps_set (i := 1) nd rfl (.inl rfl) (pe_ixU (pe_ixU (pe_fldU (uv 0)) (uv 1)) (pe_bm PySem.F.plainAttrs_str PySem.F.slot_str_index PySem.F.type_str_index mt_sindex (pe_fldU (uv 0)) (pa_cons (uv 3) pa_nil))))))
      (pss_one (ps_ret (uv 1))), ?_⟩
    dsimp only [tSeq, tAsg, gName]
    refine for_str (l := l) (H1 := H) (by exact fun _ h => h) (fun pre σ H2 => H2 = H ∧ ∃ y3, σ = [some (.ref a), some (.int (led S R p pre : Nat)), some (.str (T l)), y3]) ⟨rfl, none, rfl⟩ (fun pre c suf σ H2 e iv => ?_) (fun σ H2 iv => ?_)
    · obtain ⟨rfl, y3, rfl⟩ := iv
      have hpre : ∀ d ∈ pre, d ∈ S := fun d hd => hl d (by rw [e]; simp [hd])
      have hc : c ∈ S := hl c (by rw [e]; simp)
      have lt := led_lt ok hp pre hpre
      obtain ⟨rest, ho⟩ := occ_idx ndS hc
      have lt2 : S.idxOf c < (gls R (led S R p pre)).length := by rw [gls_len ok lt]; exact List.idxOf_lt_length_iff.mpr hc
      have hq : rs[led S R p pre]? = some rs[led S R p pre] := List.getElem?_eq_getElem (by omega)
      have hrow := h4 _ _ hq
      refine ⟨C, dx, _, .ref r, h1, cM.cls, cM.nR, rfl, rs.map V.ref, .ref rs[led S R p pre], .inl (.inl (.inl h2)), atI_nat (by rw [List.getElem?_map, hq]; rfl), ?_⟩
      refine ⟨C, dx, _, .str (T S), h1, cM.cls, cM.nL, rfl, rfl, T S, T [c], S.idxOf c, rest, rfl, rfl, ho, ?_⟩
      refine ⟨iv (gls R (led S R p pre)), .int ((gls R (led S R p pre)).getD (S.idxOf c) 0 : Nat), .inl (.inl (.inl hrow)), atI_nat (by rw [List.getElem?_map, List.getElem?_eq_getElem lt2, List.getD_eq_getElem?_getD, List.getElem?_eq_getElem lt2]; rfl), ?_⟩
      exact ⟨rfl, _, by rw [led_snoc]; rfl⟩
    · obtain ⟨rfl, y3, rfl⟩ := iv
      exact q
end
end LK

namespace LK
open PySem PySem.Spec PyProof.Rows L2 LamX ClX
open scoped List
/-- no field of a machine has the name of a method -/
theorem mf_none {S : List Nat} {r k : Addr} {m : Str} (h1 : (m == ("_letters" : Str)) = false) (h2 : (m == ("_rows" : Str)) = false) (h3 : (m == ("_kinds" : Str)) = false) : (mf3 S r k).lookup m = none := by
  show List.lookup m [_, _, _] = none
  rw [List.lookup_cons, h1]
  show List.lookup m [_, _] = none
  rw [List.lookup_cons, h2]
  show List.lookup m [_] = none
  rw [List.lookup_cons, h3]; rfl
section
variable {P : Program} {w : World} {K : PySem.W.Frag} {mg : Str → Option Value} {base : Heap} {C : Addr}
theorem scGoal : FnScope ["self", "place", "letter"] ["self", "place", "letter"] (defScope sGoal) := ⟨rfl, rfl, rfl, by decide +kernel, rfl, by decide +kernel, by decide +kernel⟩
/-- the letters are unlike, the rows lead to places that are there -/
structure MOk (S : List Nat) (R : Rows) (Kd : List Bool) : Prop where
  nd : S.Nodup
  rows : RowsOk R S.length
  kinds : Kd.length = R.length
  lo : 1 ≤ R.length
def spGoal (C : Addr) : Sp := fun vs H Q _ => ∃ (a : Addr) (p c : Nat) (S : List Nat) (R : Rows) (Kd : List Bool), vs = [.ref a, .int p, .str (T [c])] ∧ Mach C H a S R Kd ∧ MOk S R Kd ∧ p < R.length ∧ c ∈ S ∧ Q (.int ((gls R p).getD (S.idxOf c) 0 : Nat)) H
theorem ok_goal {f : Addr} {fd : FuncData} {k : Nat} (F : Fun K "goal" "Machine.goal" sGoal f fd) (M : Mx mg) (cM : ClsM K C) (HP : HasM P w K mg base k C "_need_place" ["value"] (spNeedPlace C)) :
    FnG P w K mg base CX0 (k + 1) f fd ["self", "place", "letter"] (spGoal C) := by
  refine okG F scGoal (fun vs H Q E h => ?_) (fun cdv A hA outer s H vs Q E hr h => ?_)
  · obtain ⟨a, p, c, S, R, Kd, rfl, _⟩ := h; rfl
  · obtain ⟨a, p, c, S, R, Kd, rfl, mm, ok, hp, hc, q⟩ := h
    refine ⟨_, pss_cons (ps_expr (pe_mH HP cM.cls hA hr (uv 0) (pa_cons (uv 1) pa_nil)))
      (pss_cons (ps_ifU (PW.pt (pw_orU (pt_not (pt_u (pe_callB call_isi (by rfl) M.isi b_isi (pa_cons (uv 2) (pa_cons (pe_bltn (by rfl) M.str b_str (v := .ty "str") (by rfl)) pa_nil)))))
          (pw_orU (pt_cu (o_ne hr.units) (pe_callB c_len (by rfl) M.len b_len (pa_cons (uv 2) pa_nil)) pe_int) (pw_or1 (pt_cu op_notIn_sign (uv 2) (pe_fldU (uv 0)) (by rfl)))))) (pss_one ps_never) pss_nil)
      (pss_one (ps_ret (pe_ixU (pe_ixU (pe_fldU (uv 0)) (uv 1)) (pe_bm PySem.F.plainAttrs_str PySem.F.slot_str_index PySem.F.type_str_index mt_sindex (pe_fldU (uv 0)) (pa_cons (uv 2) pa_nil)))))), ?_⟩
    obtain ⟨dx, r, kk, rs, h1, h2, h3, h4, h5⟩ := id mm
    refine ⟨dx, _, h1, mf_none (by decide +kernel) (by decide +kernel) (by decide +kernel), a, p, S, R, Kd, rfl, mm, hp, ?_⟩
    refine ⟨_, _, _, _, true, rfl, .ty _, .base (.str _), rfl, .no ?_⟩
    refine ⟨by show 1 ≤ sizeLine; rw [sizeLine_eq]; omega, .no ?_⟩
    refine ⟨C, dx, _, .str (T S), h1, cM.cls, cM.nL, rfl, c, T S, rfl, rfl, ?_⟩
    have e : (!decide (c ∈ (T S).cps.toList)) = false := by rw [decide_eq_true (show c ∈ (T S).cps.toList from hc)]; rfl
    rw [e]
    refine .no ?_
    obtain ⟨rest, ho⟩ := occ_idx ok.nd hc
    have lt2 : S.idxOf c < (gls R p).length := by rw [gls_len ok.rows hp]; exact List.idxOf_lt_length_iff.mpr hc
    have hq : rs[p]? = some rs[p] := List.getElem?_eq_getElem (by omega)
    have hrow := h4 _ _ hq
    refine ⟨C, dx, _, .ref r, h1, cM.cls, cM.nR, rfl, rs.map V.ref, .ref rs[p], .inl (.inl (.inl h2)), atI_nat (by rw [List.getElem?_map, hq]; rfl), ?_⟩
    refine ⟨C, dx, _, .str (T S), h1, cM.cls, cM.nL, rfl, rfl, T S, T [c], S.idxOf c, rest, rfl, rfl, ho, ?_⟩
    exact ⟨iv (gls R p), .int ((gls R p).getD (S.idxOf c) 0 : Nat), .inl (.inl (.inl hrow)), atI_nat (by rw [List.getElem?_map, List.getElem?_eq_getElem lt2, List.getD_eq_getElem?_getD, List.getElem?_eq_getElem lt2]; rfl), q⟩
theorem scGoes : FnScope ["self", "place", "text"] ["self", "place", "text"] (defScope sGoes) := ⟨rfl, rfl, rfl, by decide +kernel, rfl, by decide +kernel, by decide +kernel⟩
def spGoes (C : Addr) : Sp := fun vs H Q _ => ∃ (a : Addr) (p : Nat) (l S : List Nat) (R : Rows) (Kd : List Bool), vs = [.ref a, .int p, .str (T l)] ∧ Mach C H a S R Kd ∧ MOk S R Kd ∧ p < R.length ∧ (∀ c ∈ l, c ∈ S) ∧ l.length ≤ 1000000 ∧ ∀ H', Same H H' → Q (.int (led S R p l : Nat)) H'
theorem ok_goes {f : Addr} {fd : FuncData} {k : Nat} (F : Fun K "goes" "Machine.goes" sGoes f fd) (M : Mx mg) (cM : ClsM K C) (HP : HasM P w K mg base k C "_need_place" ["value"] (spNeedPlace C)) (HL : HasM P w K mg base k C "_led" ["place", "text"] (spLed C))
    (HT : Has P w K mg base k "need_text" ["value", "letters"] spNeedText) : FnG P w K mg base CX0 (k + 1) f fd ["self", "place", "text"] (spGoes C) := by
  refine okG F scGoes (fun vs H Q E h => ?_) (fun cdv A hA outer s H vs Q E hr h => ?_)
  · obtain ⟨a, p, c, S, R, Kd, rfl, _⟩ := h; rfl
  · obtain ⟨a, p, l, S, R, Kd, rfl, mm, ok, hp, hl, hz, q⟩ := h
    refine ⟨_, pss_cons (ps_expr (pe_mH HP cM.cls hA hr (uv 0) (pa_cons (uv 1) pa_nil)))
      (pss_cons (ps_expr (pe_callH HT hA hr (by rfl) (pa_cons (uv 2) (pa_cons (pe_fldU (uv 0)) pa_nil))))
      (pss_one (ps_ret (pe_mH HL cM.cls hA hr (uv 0) (pa_cons (uv 1) (pa_cons (uv 2) pa_nil)))))), ?_⟩
    obtain ⟨dx, r, kk, rs, h1, h2, h3, h4, h5⟩ := id mm
    refine ⟨dx, _, h1, mf_none (by decide +kernel) (by decide +kernel) (by decide +kernel), a, p, S, R, Kd, rfl, mm, hp, ?_⟩
    refine ⟨C, dx, _, .str (T S), h1, cM.cls, cM.nL, rfl, S, l, rfl, hl, hz, fun H1 e1 => ?_⟩
    exact ⟨dx, _, e1 _ _ h1, mf_none (by decide +kernel) (by decide +kernel) (by decide +kernel), a, p, l, S, R, Kd, rfl, mm.ext e1, ok.nd, ok.rows, hp, hl, q H1 e1⟩
theorem scTakes : FnScope ["self", "text"] ["self", "text"] (defScope sTakes) := ⟨rfl, rfl, rfl, by decide +kernel, rfl, by decide +kernel, by decide +kernel⟩
def spTakes (C : Addr) : Sp := fun vs H Q _ => ∃ (a : Addr) (l S : List Nat) (R : Rows) (Kd : List Bool), vs = [.ref a, .str (T l)] ∧ Mach C H a S R Kd ∧ MOk S R Kd ∧ (∀ c ∈ l, c ∈ S) ∧ l.length ≤ 1000000 ∧ ∀ H', Same H H' → Q (.bl (Kd.getD (led S R 0 l) false)) H'
theorem ok_takes {f : Addr} {fd : FuncData} {k : Nat} (F : Fun K "takes" "Machine.takes" sTakes f fd) (M : Mx mg) (cM : ClsM K C) (HL : HasM P w K mg base k C "_led" ["place", "text"] (spLed C))
    (HT : Has P w K mg base k "need_text" ["value", "letters"] spNeedText) : FnG P w K mg base CX0 (k + 1) f fd ["self", "text"] (spTakes C) := by
  refine okG F scTakes (fun vs H Q E h => ?_) (fun cdv A hA outer s H vs Q E hr h => ?_)
  · obtain ⟨a, c, S, R, Kd, rfl, _⟩ := h; rfl
  · obtain ⟨a, l, S, R, Kd, rfl, mm, ok, hl, hz, q⟩ := h
    refine ⟨_, pss_cons (ps_expr (pe_callH HT hA hr (by rfl) (pa_cons (uv 1) (pa_cons (pe_fldU (uv 0)) pa_nil))))
      (pss_one (ps_ret (pe_ixU (pe_fldU (uv 0)) (pe_mH HL cM.cls hA hr (uv 0) (pa_cons pe_int (pa_cons (uv 1) pa_nil)))))), ?_⟩
    obtain ⟨dx, r, kk, rs, h1, h2, h3, h4, h5⟩ := id mm
    refine ⟨C, dx, _, .str (T S), h1, cM.cls, cM.nL, rfl, S, l, rfl, hl, hz, fun H1 e1 => ?_⟩
    refine ⟨C, dx, _, .ref kk, e1 _ _ h1, cM.cls, cM.nK, rfl, ?_⟩
    have lo := ok.lo
    have lt := led_lt (p := 0) ok.rows (by omega) l hl
    have hk : Kd[led S R 0 l]? = some (Kd.getD (led S R 0 l) false) := by
      rw [List.getD_eq_getElem?_getD, List.getElem?_eq_getElem (by rw [ok.kinds]; exact lt)]; rfl
    refine ⟨dx, _, e1 _ _ h1, mf_none (by decide +kernel) (by decide +kernel) (by decide +kernel), a, 0, l, S, R, Kd, rfl, mm.ext e1, ok.nd, ok.rows, by omega, hl, ?_⟩
    exact ⟨Kd.map V.bl, .bl (Kd.getD (led S R 0 l) false), .inl (.inl (.inl (e1 _ _ h5))), atI_nat (by rw [List.getElem?_map, hk]; rfl), q H1 e1⟩
theorem scRows : FnScope ["self", "row"] ["self"] (defScope sRows) := ⟨rfl, rfl, rfl, by decide +kernel, rfl, by decide +kernel, by decide +kernel⟩
/-- new lists all through -/
def spRows (C : Addr) : Sp := fun vs H Q _ => ∃ (a : Addr) (S : List Nat) (R : Rows) (Kd : List Bool), vs = [.ref a] ∧ Mach C H a S R Kd ∧ R.length ≤ 1000 ∧ ∀ (H' : Hp) (p : Addr) (ls : List Addr), Same H H' → H p = none → H' p = some (.lst (ls.map V.ref)) → ls.length = R.length →
  (∀ i q, ls[i]? = some q → H q = none ∧ q ≠ p ∧ H' q = some (.lst (iv (gls R i)))) → ls.Nodup → Q (.ref p) H'
theorem ok_rows {f : Addr} {fd : FuncData} {k : Nat} (F : Fun K "rows" "Machine.rows" sRows f fd) (M : Mx mg) (cM : ClsM K C) : FnG P w K mg base CX0 (k + 1) f fd ["self"] (spRows C) := by
  refine okG F scRows (fun vs H Q E h => ?_) (fun cdv A hA outer s H vs Q E hr h => ?_)
  · obtain ⟨a, S, R, Kd, rfl, _⟩ := h; rfl
  · obtain ⟨a, S, R, Kd, rfl, ⟨dx, r, kk, rs, h1, h2, h3, h4, h5⟩, hz, q⟩ := h
    have nd := scRows.nd
    have sl := sizeLine_eq
    refine ⟨_, pss_one (ps_ret (pe_lc (own := [("row", 1)]) (g := gName 1) (tt := tYes) rfl nd (pi_list (pe_fldU (uv 0))) (blkOk_by (N := ["self", "row"]) (sc := defScope sRows) (by decide +kernel))
        (fun _ _ _ _ _ => pg_name (i := 1) nd rfl (Or.inl rfl)) (fun _ _ _ _ _ => pts_nil) (fun _ _ _ _ _ => pe_callTy (r := listU K) (c_list rfl) (by rfl) M.list b_list (pa_cons (uv 1) pa_nil)))), ?_⟩
    dsimp only [tRet]
    refine lc_list (K := K) (t := uFld K "_rows" (uVar 0)) (a := r) (xs := rs.map V.ref) (H1 := H) (fun R' h => ⟨C, dx, _, .ref r, h1, cM.cls, cM.nR, rfl, h⟩) (.inl (.inl h2)) (fun D pre acc H5 => ∃ ls : List Addr, pre = (rs.take ls.length).map V.ref ∧ ls.length ≤ rs.length ∧ acc = ls.map V.ref ∧ Same H H5 ∧
        H5 D = some (.lst (ls.map V.ref)) ∧ (∀ i p, ls[i]? = some p → H p = none ∧ p ≠ D ∧ H5 p = some (.lst (iv (gls R i)))) ∧ ls.Nodup)
      (fun D pre acc H5 h => by obtain ⟨_, _, _, _, h, _⟩ := h; exact .inl (.inl (h _ _ h2))) (fun D nD => ⟨[], rfl, Nat.zero_le _, rfl, same_upd nD, upd_same, (fun i p z => nomatch z), List.Pairwise.nil⟩)
      (fun D nD pre acc x suf H5 ex2 h => ?_) (fun D nD acc H5 h => ?_)
    · obtain ⟨ls, rfl, ll, rfl, b5, hd5, hl5, ndl⟩ := h
      have l1 : ((rs.take ls.length).map V.ref).length = ls.length := by rw [List.length_map, List.length_take]; omega
      have l2 : ls.length < rs.length := by
        have := congrArg List.length ex2
        rw [List.length_append, l1, List.length_map, List.length_cons] at this
        omega
      have hx : (rs.map V.ref)[ls.length]? = some x := by rw [ex2, List.getElem?_append_right (by omega), l1, Nat.sub_self]; rfl
      rw [List.getElem?_map] at hx
      obtain ⟨qa, hqa, rfl⟩ := Option.map_eq_some_iff.mp hx
      refine ⟨rfl, .inl ⟨iv (gls R ls.length), .inl (.inl (.inl (b5 _ _ (h4 _ _ hqa)))), fun l nl => ?_⟩⟩
      have n2 : l ≠ D := fun z => by rw [z, hd5] at nl; cases nl
      have nlH := Same.free b5 nl
      refine ⟨ls.map V.ref, by rw [upd_ne n2.symm]; exact hd5, by rw [List.length_map]; omega, _, ls ++ [l], ?_, by rw [List.length_append]; exact l2, rfl, same_upd2 (same_upd2 b5 nlH) nD, by rw [upd_same, List.map_append]; rfl, fun i p hp => ?_, ?_⟩
      · rw [List.length_append]
        show _ = (rs.take (ls.length + 1)).map V.ref
        rw [List.take_add_one, hqa, List.map_append]; rfl
      · rcases Nat.lt_or_ge i ls.length with hlt | hge
        · rw [List.getElem?_append_left hlt] at hp
          obtain ⟨g1, g2, g3⟩ := hl5 i p hp
          have n4 : p ≠ l := fun z => by rw [z, nl] at g3; cases g3
          exact ⟨g1, g2, by rw [upd_ne g2, upd_ne n4]; exact g3⟩
        · rw [List.getElem?_append_right hge] at hp
          have e6 : i - ls.length = 0 := by
            have := (List.getElem?_eq_some_iff.mp hp).1
            simp at this; omega
          rw [e6] at hp
          have : l = p := by simpa using hp
          subst this
          have : i = ls.length := by omega
          subst this
          exact ⟨nlH, n2, by rw [upd_ne n2]; exact upd_same⟩
      · refine List.nodup_append.mpr ⟨ndl, by simp, fun x hx y hy e => ?_⟩
        simp at hy; subst hy; subst e
        obtain ⟨i, hi⟩ := List.mem_iff_getElem?.mp hx
        have := (hl5 i x hi).2.2
        rw [nl] at this; cases this
    · obtain ⟨ls, el, ll, rfl, b5, hd5, hl5, ndl⟩ := h
      have lls : ls.length = rs.length := by
        have := congrArg List.length el
        rw [List.length_map, List.length_map, List.length_take] at this
        omega
      exact q _ D ls b5 nD hd5 (by omega) hl5 ndl
end
end LK

namespace LK
open PySem PySem.Spec PyProof.Rows L2 LamX ClX
open scoped List
def RowsL (H : Hp) (r : Addr) (R : Rows) : Prop := ∃ rs : List Addr, H r = some (.lst (rs.map V.ref)) ∧ rs.length = R.length ∧ ∀ i p, rs[i]? = some p → H p = some (.lst (iv (gls R i)))
theorem RowsL.ext {H H' : Hp} {r : Addr} {R : Rows} (h : RowsL H r R) (e : Same H H') : RowsL H' r R := by
  obtain ⟨rs, h1, h2, h3⟩ := h
  exact ⟨rs, e _ _ h1, h2, fun i p hp => e _ _ (h3 i p hp)⟩
/-- what isinstance asks of the class -/
structure IsM (K : PySem.W.Frag) (C : Addr) : Prop where
  ty : ∀ (H : Hp) (a dx : Addr) (fs : List (Str × V)), H a = some (.ins C dx fs) → fs.lookup ("__class__" : Str) = none → TyX K H (.ref a) (.ref C)
  yes : PySem.W.kitOne K (.ref C) (.ref C) = some true
/-- a property and its promise -/
structure HasP (P : Program) (w : World) (K : PySem.W.Frag) (mg : Str → Option Value) (base : Heap) (k : Nat) (C : Addr) (f : Str) (sp : Sp) : Prop where
  ex : ∃ p g fd, PropOf K C f p g ∧ FnOk P w K mg base CX0 k g fd ["self"] sp ∧ Binds K fd ["self"] []
theorem HasP.up {P : Program} {w : World} {K : PySem.W.Frag} {mg : Str → Option Value} {base : Heap} {j k : Nat} {C : Addr} {f : Str} {sp : Sp} (F : HasP P w K mg base j C f sp) (h : j ≤ k) : HasP P w K mg base k C f sp := by
  obtain ⟨p, g, fd, a, b, c⟩ := F.ex
  exact ⟨p, g, fd, a, ⟨b.len, fun A outer s H args us vs Q E r => b.run A outer s H args us vs Q E (r.mono h)⟩, c⟩
theorem pe_propH {X : Cx} {k : Nat} {C : Addr} {f : Str} {sp : Sp} {e : Expr} {ta : TE} {pos : Pos} (F : HasP X.prog X.w X.K X.mg X.base k C f sp) (c : Cls X.K C) (hr : Room (k + 1) X.A) (he : PE X e ta)
    (hab : attributeBase e f X.env (eval e X.env) = eval e X.env := by rfl) : PE X (.Attribute e f pos) (tProp C sp [] E0 ta) := by
  obtain ⟨p, g, fd, hp, F, hb⟩ := F.ex
  exact pe_prop he c hp F hr hb .nil pass0 hab
theorem dpAll_rows {K : PySem.W.Frag} {H : Hp} : ∀ {rs : List Addr} {R : Rows}, rs.length = R.length → (∀ i p, rs[i]? = some p → H p = some (.lst (iv (gls R i)))) → DpAll K H (rs.map V.ref) (R.map encR)
  | [], [], _, _ => .nil
  | [], _ :: _, h, _ => by cases h
  | _ :: _, [], h, _ => by cases h
  | p :: rs, r :: R, h, hr => by
    refine .cons (.lst (.inl (.inl (hr 0 p rfl))) ?_) (dpAll_rows (by simpa using h) fun i q hq => hr (i + 1) q hq)
    show DpAll K H (iv r) (r.map fun (g : Nat) => .int (g : Int))
    induction r with
    | nil => exact .nil
    | cons g r ih => exact .cons (.int _) (dpAll_ints r)
where dpAll_ints {K : PySem.W.Frag} {H : Hp} : ∀ r : List Nat, DpAll K H (iv r) (r.map fun (g : Nat) => .int (g : Int))
  | [] => .nil
  | g :: r => .cons (.int _) (dpAll_ints r)
theorem dp_rows {K : PySem.W.Frag} {H : Hp} {r : Addr} {R : Rows} (h : RowsL H r R) : Dp K H (.ref r) (encRs R) := by
  obtain ⟨rs, h1, h2, h3⟩ := h
  exact .lst (.inl (.inl h1)) (dpAll_rows h2 h3)
theorem dp_kinds {K : PySem.W.Frag} {H : Hp} {k : Addr} {Kd : List Bool} (h : H k = some (.lst (Kd.map V.bl))) : Dp K H (.ref k) (encB Kd) := .lst (.inl (.inl h)) (dpAll_bl Kd)
theorem eqv_rowsB {a b : Rows} : PyData.eqv (encRs a) (encRs b) = decide (a = b) := by rw [Bool.eq_iff_iff, eqv_rows, decide_eq_true_eq]
theorem eqv_kindsB {a b : List Bool} : PyData.eqv (encB a) (encB b) = decide (a = b) := by rw [Bool.eq_iff_iff, eqv_kinds, decide_eq_true_eq]
section
variable {P : Program} {w : World} {K : PySem.W.Frag} {mg : Str → Option Value} {base : Heap} {C : Addr}
theorem scEq : FnScope ["self", "other"] ["self", "other"] (defScope sEq) := ⟨rfl, rfl, rfl, by decide +kernel, rfl, by decide +kernel, by decide +kernel⟩
/-- is it a machine with the same parts -/
def spEq (K : PySem.W.Frag) (C : Addr) : Sp := fun vs H Q _ => ∃ (a : Addr) (y : V) (S : List Nat) (R : Rows) (Kd : List Bool), vs = [.ref a, y] ∧ Mach C H a S R Kd ∧ R.length ≤ 1000 ∧
  ((∃ (b : Addr) (S' : List Nat) (R' : Rows) (Kd' : List Bool), y = .ref b ∧ Mach C H b S' R' Kd' ∧ R'.length ≤ 1000 ∧ ∀ H', Same H H' → Q (.bl (decide (S = S' ∧ R = R' ∧ Kd = Kd'))) H') ∨
    ∃ t, TyX K H y t ∧ PySem.W.kitOne K t (.ref C) = some false ∧ Q (.bl false) H)
theorem ok_eq {f : Addr} {fd : FuncData} {k : Nat} (F : Fun K "__eq__" "Machine.__eq__" sEq f fd) (M : Mx mg) (cM : ClsM K C) (iM : IsM K C) (gM : mg "Machine" = some (.ref C)) (HL : HasP P w K mg base k C "letters" (getSp C "_letters")) (HR : HasM P w K mg base (k + 1) C "rows" [] (spRows C)) (HK : HasM P w K mg base (k + 1) C "kinds" [] (spKinds C)) :
    FnG P w K mg base CX0 (k + 2) f fd ["self", "other"] (spEq K C) := by
  refine okG F scEq (fun vs H Q E h => ?_) (fun cdv A hA outer s H vs Q E hr h => ?_)
  · obtain ⟨a, x, S, R, Kd, rfl, _⟩ := h; rfl
  · obtain ⟨a, y, S, R, Kd, rfl, mm, hz, q⟩ := h
    refine ⟨_, pss_one (ps_ret (pe_andU (pe_callB call_isi (by rfl) M.isi b_isi (pa_cons (uv 1) (pa_cons (pe_glob (v := .ref C) (by rfl) gM rfl) pa_nil)))
      (pe_andU (pe_cu (o_eq hr.units) (pe_fldU (uv 0)) (pe_propH HL cM.cls hr (uv 1)))
      (pe_andU (pe_cu (o_eq hr.units) (pe_fldU (uv 0)) (pe_mH0 HR cM.cls hA hr (uv 1)))
      (pe_one (pe_cu (o_eq hr.units) (pe_fldU (uv 0)) (pe_mH0 HK cM.cls hA hr (uv 1)))))))), ?_⟩
    obtain ⟨dx, r, kk, rs, h1, h2, h3, h4, h5⟩ := id mm
    rcases q with ⟨b, S', R', Kd', rfl, mb, hz', q⟩ | ⟨t, ty, hk, q⟩
    · obtain ⟨dx', r', kk', rs', g1, g2, g3, g4, g5⟩ := id mb
      refine ⟨_, _, _, _, true, rfl, .own C, iM.ty _ _ _ _ g1 (mf_none (by decide +kernel) (by decide +kernel) (by decide +kernel)), iM.yes, .yes ?_⟩
      refine ⟨C, dx, _, .str (T S), h1, cM.cls, cM.nL, rfl, b, dx', _, rfl, g1, b, dx', _, .str (T S'), rfl, g1, rfl, ?_⟩
      refine Br.d (p := cs (T S) = cs (T S')) (fun eS => ?_) (fun nS => ?_)
      · have eS : S = S' := eS
        refine ⟨C, dx, _, .ref r, h1, cM.cls, cM.nR, rfl, dx', _, g1, mf_none (by decide +kernel) (by decide +kernel) (by decide +kernel), b, S', R', Kd', rfl, mb, hz', fun H1 p ls e1 np hp hl hls _ => ?_⟩
        refine ⟨encRs R, encRs R', dp_rows ⟨rs, e1 _ _ h2, h3, fun i p hp => e1 _ _ (h4 i p hp)⟩, dp_rows ⟨ls, hp, hl, fun i p hp => (hls i p hp).2.2⟩, (flat_rows R).shaped (by decide), (flat_rows R').shaped (by decide), ?_⟩
        show Br (PyData.eqv (encRs R) (encRs R')) _ _
        rw [eqv_rowsB]
        refine Br.d (fun eR => ?_) (fun nR => ?_)
        · refine ⟨C, dx, _, .ref kk, e1 _ _ h1, cM.cls, cM.nK, rfl, dx', _, e1 _ _ g1, mf_none (by decide +kernel) (by decide +kernel) (by decide +kernel), b, S', R', Kd', rfl, mb.ext e1, fun p2 np2 => ?_⟩
          refine ⟨encB Kd, encB Kd', dp_kinds (same_upd np2 _ _ (e1 _ _ h5)), dp_kinds upd_same, (flat_kinds Kd).shaped (by decide), (flat_kinds Kd').shaped (by decide), ?_⟩
          have := q _ (e1.trans (same_upd (o := .lst (Kd'.map V.bl)) np2))
          show Q (.bl (PyData.eqv (encB Kd) (encB Kd'))) _
          rw [eqv_kindsB]
          have e : decide (S = S' ∧ R = R' ∧ Kd = Kd') = decide (Kd = Kd') := decide_eq_decide.mpr ⟨fun z => z.2.2, fun z => ⟨eS, eR, z⟩⟩
          rw [e] at this
          exact this
        · have := q H1 e1
          rw [decide_eq_false (fun z => nR z.2.1)] at this
          exact this
      · have := q H (Same.refl _)
        rw [decide_eq_false (fun z => nS (by rw [z.1]))] at this
        exact this
    · exact ⟨_, _, _, _, false, rfl, .own C, ty, hk, .no q⟩
end
end LK

/-! == and != of lists of instances whose class has an __eq__ of its own, where all are equal one by one; no repr is under way -/
namespace LK
open PySem PySem.Spec PyProof.Rows L2 Builtin
open PySem.SeqAt
open AutoSeq1 (wpAny_loadPart')
open MeetsSeq MeetsSeq2 MeetsSeq3 SeqRoads2
section
variable {prog : Program} {w : World} {A : Around} {R : Result → Shared → Prop}
theorem ne_loopG (l b : Addr) (N : Nat) (I : Nat → Shared → Prop) (hl : GQ.ListI prog w A (fun e s' => R (.error e) s') l b N I)
    (fin : ∀ s, I N s → R (.ok (.ret (.bool false))) s) (k : Nat) :
    ∀ i : Nat, N - i = k → i ≤ N → ∀ s, I i s →
      wpAny (model prog w) A.in1 (Builtin.«list.__eq__.loop» ⟨[.ref l, .ref b, rawInt i, rawInt 3], []⟩) (GQ.FinOf prog w A R) (fun e s' => R (.error e) s') s := by
  induction k with
  | zero =>
    intro i hk hi s h
    obtain ⟨xs, ys, n1, n2, g1, g2, z1, z2, _⟩ := hl _ _ h
    have e : i = N := by omega
    have hR : R (.ok (.ret (.bool false))) s := fin s (e ▸ h)
    obtain ⟨hp, g, d, tk, os⟩ := s
    wp_walk using wpAny_loadPart' g1, wpAny_loadPart' g2
    have o1 : xs[((i : Nat) : Int).toNat]? = none := by simp; omega
    have o2 : ys[((i : Nat) : Int).toNat]? = none := by simp; omega
    rw [o1, o2]
    wp_walk using wpAny_loadPart' g1, wpAny_loadPart' g2
    show R (.ok (.ret (.bool (xs.size != ys.size)))) _
    rw [z1, z2]
    simpa using hR
  | succ k ih =>
    intro i hk hi s h
    obtain ⟨xs, ys, n1, n2, g1, g2, z1, z2, turn⟩ := hl _ _ h
    have l1 : i < xs.size := by omega
    have l2 : i < ys.size := by omega
    have ht := turn l1 l2
    obtain ⟨hp, g, d, tk, os⟩ := s
    wp_walk using wpAny_loadPart' g1, wpAny_loadPart' g2
    have o1 : xs[((i : Nat) : Int).toNat]? = some xs[i] := by simp [l1]
    have o2 : ys[((i : Nat) : Int).toNat]? = some ys[i] := by simp [l2]
    have hc : ((i : Int) + 1) = ((i + 1 : Nat) : Int) := by omega
    rw [o1, o2]
    refine wpAny_bind (wpAny_mono ht (fun r s2 ⟨hr, h2⟩ => ?_) fun _ _ x => x)
    subst hr
    have hrec := ih (i + 1) (by omega) (by omega) s2 h2
    obtain ⟨hp2, g2, d2, tk2, os2⟩ := s2
    wp_walk
    rw [hc]
    exact ⟨plainId_quiet plain_eq_loop _, codeAny_builtin entry_eq_loop (by
      rw [Around.under_plainId plain_eq_loop _]
      exact hrec)⟩
theorem list_neG (l b : Addr) (N : Nat) (I : Nat → Shared → Prop) (hl : GQ.ListI prog w A (fun e s' => R (.error e) s') l b N I)
    (fin : ∀ s, I N s → R (.ok (.ret (.bool false))) s) {s : Shared} (h : I 0 s) :
    wpAny (model prog w) A.in1 (Builtin.«list.__ne__» ⟨[.ref l, .ref b], []⟩) (GQ.FinOf prog w A R) (fun e s' => R (.error e) s') s := by
  obtain ⟨xs, ys, n1, n2, g1, g2, z1, z2, _⟩ := hl _ _ h
  have hrec := ne_loopG (A := A) (R := R) l b N I hl fin _ 0 rfl (Nat.zero_le _) s h
  obtain ⟨hp, g, d, tk, os⟩ := s
  have f3 := AutoSeq1.sub_list_list
  have hne : ¬ (xs.size != ys.size) = true := by simp [z1, z2]
  wp_walk using wpAny_loadPart' g1, wpAny_loadPart' g2
  exact ⟨plainId_quiet plain_eq_loop _, codeAny_builtin entry_eq_loop (by
    rw [Around.under_plainId plain_eq_loop _]
    exact hrec)⟩
end
section
variable {prog : Program} {w : World} {A : Around} {E : Value → Shared → Prop} {s : Shared}
theorem rc_listNG {l b : Addr} {N : Nat} {Q : Value → Shared → Prop} (hu : A.units < cLine) (I : Nat → Shared → Prop) (hl : GQ.ListI prog w A E l b N I)
    (fin : ∀ s, I N s → Q (.bool false) s) (h : I 0 s) : wpAny (model prog w) A (richCompare .NotEq (.ref l) (.ref b)) Q E s := by
  obtain ⟨xs, ys, n1, n2, g1, g2, _, _, _⟩ := hl _ _ h
  refine wpAny_richCompare_same_room (op := .NotEq) ⟨_, g1, rfl⟩ ⟨_, g2, rfl⟩ F.slot_list_ne (GQ.call_here F.slot_list_ne ⟨_, g1, rfl⟩ F.entry_list_ne (F.args_list_ne_2 _ _) ?_) hu
  exact list_neG (R := wants (fun v s' => v ≠ .notImplemented ∧ Q v s') E) l b N I hl (fun s' q => ⟨(fun x => nomatch x), fin s' q⟩) h
end
/-- below the running body, no repr under way -/
structure SubG (X : Cx) (n : Nat) (A : Around) : Prop where
  room : Room n A
  fr : A.frames = X.A.frames
  gd : A.guards = some []
theorem SubG.in1 {X : Cx} {n : Nat} {A : Around} (s : SubG X (n + 1) A) : SubG X n A.in1 := ⟨s.room.in1, s.fr, s.gd⟩
/-- what is asked below a body X at a place A -/
theorem Inv.envAt {X : Cx} {pins : List (Addr × Obj)} {σ : L2.St} {H : Hp} {s : Shared} {A : Around} (I : Inv X pins σ H s) (h : A.frames = X.A.frames) : Env0 X.prog X.w X.K X.mg X.base A X.stack s H := by
  have e := I.env0
  exact ⟨by rw [h]; exact e.frames, e.mod, e.bs, e.bsz, e.funs, e.frf, e.hok, e.bare⟩
section
variable {X : Cx} {n k : Nat} {C : Addr} {sp : Sp} {p : Str}
/-- two instances that the class calls equal, now and later -/
def DI (C : Addr) (sp : Sp) : Eqv := fun x y H => ∃ a b dx dy fs gs, x = .ref a ∧ y = .ref b ∧ ∀ H', Ext H H' → H' a = some (.ins C dx fs) ∧ H' b = some (.ins C dy gs) ∧ sp [.ref a, .ref b] H' (fun v H2 => v = .bl true ∧ Ext H' H2) E0
theorem DI.mon {C : Addr} {sp : Sp} {x y : V} {H H' : Hp} (d : DI C sp x y H) (e : Ext H H') : DI C sp x y H' := by
  obtain ⟨a, b, dx, dy, fs, gs, h1, h2, h3⟩ := d
  exact ⟨a, b, dx, dy, fs, gs, h1, h2, fun H2 e2 => h3 H2 (e.trans e2)⟩
theorem eqB_ins (F : HasM X.prog X.w X.K X.mg X.base n C "__eq__" [p] sp) {A : Around} {pins : List (Addr × Obj)} {s : Shared} {σ : L2.St} {H : Hp} {x y : V} {u v : Value} (sb : SubG X n A) (I : Inv X pins σ H s) (rx : RelV x u) (ry : RelV y v) (d : DI C sp x y H) :
    wpAny (model X.prog X.w) A (eqBool u v) (fun r s' => r = true ∧ ∃ H', Inv X pins σ H' s' ∧ Ext H H') X.xe s := by
  obtain ⟨a, b, dx, dy, fs, gs, rfl, rfl, h⟩ := d
  obtain ⟨ha, hb', q⟩ := h H Ext.rfl'
  obtain rfl : u = Value.ref a := rx
  obtain rfl : v = Value.ref b := ry
  by_cases hab : a = b
  · subst hab
    exact SeqAt.EqAt.same (A := A) (s := s) (.ref a) X.prog X.w X.xe _ ⟨rfl, H, I, Ext.rfl'⟩
  obtain ⟨f, fd, F, hm, hb, _⟩ := F.ex
  obtain ⟨mA, J, _⟩ := ins_get I.hok ha
  obtain ⟨mB, J', _⟩ := ins_get I.hok hb'
  obtain ⟨od, J, _⟩ := J.look
  obtain ⟨od', J', _⟩ := J'.look
  obtain ⟨m, hF⟩ := I.fr
  refine GQ.eqBool_refG hab (PySem.W.cmp_K (op := .Eq) (tb := .ref C) sb.room.units0 hF I.ok.mod.kin J J'.type (by simp [PySem.W.notFirst]) hm.at_ hm.fn ?_)
  have r2 : Vals [V.ref a, V.ref b] [Value.ref a, Value.ref b] := .cons rfl (.cons rfl .nil)
  have hl := F.len _ _ _ _ q
  refine wpAny_call (codeAny_mono (F.run A sb.gd X.stack s H ⟨[.ref a, .ref b], []⟩ [.ref a, .ref b] [.ref a, .ref b] _ E0 sb.room (Inv.envAt I sb.fr) (by
    have := hb s [.ref a, .ref b] I.kIn (by simpa using hl)
    simpa using this) r2 q) fun r s' hq => ?_)
  cases r with
  | error e => exact pass0 pins σ H s e s' I hq
  | ok fl =>
    cases fl with
    | ret w =>
      obtain ⟨z, H', I', rz, ez, ex⟩ := I.after hq
      subst ez
      obtain rfl : w = Value.bool true := rz
      exact ⟨true, rfl, rfl, H', I', ex⟩
    | next => exact hq.elim
    | brk => exact hq.elim
    | cont => exact hq.elim
/-- one list beside another one, all equal one by one -/
def eqLI (C : Addr) (sp : Sp) (neg : Bool) : R2 := fun x y H Q => ∃ a b xs ys, x = .ref a ∧ y = .ref b ∧ H a = some (.lst xs) ∧ H b = some (.lst ys) ∧ Prs (DI C sp) xs ys H ∧ ∀ H', Ext H H' → Q (.bl (!neg)) H'
theorem listI_ins (F : HasM X.prog X.w X.K X.mg X.base n C "__eq__" [p] sp) {A : Around} {pins : List (Addr × Obj)} {σ : L2.St} {H : Hp} {a b : Addr} {xs ys : List V} (sb : SubG X (n + 1) A) (ha : H a = some (.lst xs)) (hb : H b = some (.lst ys)) (pr : Prs (DI C sp) xs ys H) :
    GQ.ListI X.prog X.w A X.xe a b xs.length (fun _ s' => LoopI X pins σ H s') := by
  intro i s' q
  obtain ⟨H1, I1, e1⟩ := id q
  obtain ⟨z, its, k, r, e⟩ := I1.hok a _ (e1 _ _ ha)
  obtain ⟨z2, its2, k2, r2, e2⟩ := I1.hok b _ (e1 _ _ hb)
  refine ⟨its.toArray, its2.toArray, k, k2, e, e2, by rw [List.size_toArray, ← r.length], by rw [List.size_toArray, ← r2.length, ← pr.1], fun h1 h2 => ?_⟩
  have g1 : its[i]? = some its.toArray[i] := by
    have h1' : i < its.length := by simpa using h1
    rw [List.getElem?_eq_getElem h1'] <;> simp
  have g2 : its2[i]? = some its2.toArray[i] := by
    have h2' : i < its2.length := by simpa using h2
    rw [List.getElem?_eq_getElem h2'] <;> simp
  have k1 : i < xs.length := by rw [r.length]; simpa using h1
  have k2 : i < ys.length := by rw [r2.length]; simpa using h2
  obtain ⟨u, hu, ru⟩ := r.get (List.getElem?_eq_getElem k1)
  obtain ⟨v, hv, rv⟩ := r2.get (List.getElem?_eq_getElem k2)
  rw [g1] at hu
  rw [g2] at hv
  rw [Option.some.inj hu, Option.some.inj hv]
  refine wpAny_mono (eqB_ins F sb.in1 I1 ru rv ((pr.2 i _ _ (List.getElem?_eq_getElem k1) (List.getElem?_eq_getElem k2)).mon e1)) (fun r s2 q => ?_) fun _ _ x => x
  obtain ⟨hr, H2, I2, e2⟩ := q
  exact ⟨hr, H2, I2, e1.trans e2⟩
theorem o_eqLI (F : HasM X.prog X.w X.K X.mg X.base n C "__eq__" [p] sp) (hA : X.A.guards = some []) (hr : Room (n + 1) X.A) : OpR X (compareOp .Eq) (eqLI C sp false) := by
  intro pins s σ H x y v u Q I rx ry hq
  obtain ⟨a, b, xs, ys, rfl, rfl, ha, hb, pr, q⟩ := hq
  obtain rfl : v = Value.ref a := rx
  obtain rfl : u = Value.ref b := ry
  show wpAny (model X.prog X.w) X.A (richCompare .Eq (.ref a) (.ref b)) (EP X pins σ Q) X.xe s
  refine GQ.rc_listG (N := xs.length) hr.units0 (fun _ s' => LoopI X pins σ H s') (listI_ins F ⟨hr, rfl, hA⟩ ha hb pr) (fun s' z => ?_) ⟨H, I, Ext.rfl'⟩
  obtain ⟨H', I', e⟩ := z
  exact ⟨.bl true, H', I', rfl, q H' e⟩
theorem o_neLI (F : HasM X.prog X.w X.K X.mg X.base n C "__eq__" [p] sp) (hA : X.A.guards = some []) (hr : Room (n + 1) X.A) : OpR X (compareOp .NotEq) (eqLI C sp true) := by
  intro pins s σ H x y v u Q I rx ry hq
  obtain ⟨a, b, xs, ys, rfl, rfl, ha, hb, pr, q⟩ := hq
  obtain rfl : v = Value.ref a := rx
  obtain rfl : u = Value.ref b := ry
  show wpAny (model X.prog X.w) X.A (richCompare .NotEq (.ref a) (.ref b)) (EP X pins σ Q) X.xe s
  refine rc_listNG (N := xs.length) hr.units0 (fun _ s' => LoopI X pins σ H s') (listI_ins F ⟨hr, rfl, hA⟩ ha hb pr) (fun s' z => ?_) ⟨H, I, Ext.rfl'⟩
  obtain ⟨H', I', e⟩ := z
  exact ⟨.bl false, H', I', rfl, q H' e⟩
end
end LK

/-! a promise that is asked also where reprs of lists are under way, each of a list that holds an instance; repr of a list of instances whose class has a __repr__ of its own -/
namespace LK
open PySem PySem.Spec PyProof.Rows L2 Builtin
/-- each list of which a repr is under way holds an instance -/
def GN (g : List Code) (H : Hp) : Prop := ∀ id v rest kw, Code.builtin id ⟨v :: rest, kw⟩ ∈ g → ∃ (b : Addr) (xs : List V) (m C dx : Addr) (fs : List (Str × V)), v = .ref b ∧ H b = some (.lst xs) ∧ V.ref m ∈ xs ∧ H m = some (.ins C dx fs)
theorem GN.nil {H : Hp} : GN [] H := fun _ _ _ _ h => nomatch h
theorem GN.ext {g : List Code} {H H' : Hp} (h : GN g H) (e : Ext H H') : GN g H' := fun id v rest kw hm => by
  obtain ⟨b, xs, m, C, dx, fs, h1, h2, h3, h4⟩ := h id v rest kw hm
  exact ⟨b, xs, m, C, dx, fs, h1, e _ _ h2, h3, e _ _ h4⟩
theorem ReadsAll.item {h : Heap} : ∀ {vs : List Value} {ds : List PyData} {as : List Addr}, ReadsAll h vs ds as → ∀ v ∈ vs, ∃ d bs, Reads h v d bs
  | _, _, _, .nil, _, hv => nomatch hv
  | _, _, _, .cons r rs, v, hv => by
    rcases List.mem_cons.mp hv with rfl | hv
    · exact ⟨_, _, r⟩
    · exact ReadsAll.item rs v hv
section
variable {X : Cx} {pins : List (Addr × Obj)} {σ : L2.St} {H : Hp} {s : Shared}
theorem GN.clear {g : List Code} (h : GN g H) (I : Inv X pins σ H s) {b : Addr} {d : PyData} {as : List Addr} (r : Reads s.heap (.ref b) d as) : Clear g b := by
  intro id v rest kw hm e
  obtain ⟨b', xs, m, C, dx, fs, rfl, hb, hx, hi⟩ := h id v rest kw hm
  obtain rfl : b' = b := Value.ref.inj e
  obtain ⟨z, its, k, r1, e1⟩ := I.hok b' _ hb
  obtain ⟨i, gi⟩ := List.mem_iff_getElem?.mp hx
  obtain ⟨u, gu, ru⟩ := r1.get gi
  obtain rfl : u = Value.ref m := ru
  obtain ⟨mA, J, _⟩ := ins_get I.hok hi
  obtain ⟨od, ⟨J, jc, _⟩, _⟩ := J.look
  cases r with
  | list h1 h2 h3 h4 =>
    rw [e1] at h1
    obtain rfl := Option.some.inj h1
    injection h3 with h3 h5
    subst h3
    obtain ⟨d', bs, r'⟩ := ReadsAll.item h4 (.ref m) (by simpa using List.mem_of_getElem? gu)
    cases r' with
    | list k1 k2 k3 k4 => rw [J] at k1; obtain rfl := Option.some.inj k1; rw [jc] at k2; cases k2
    | tuple k1 k2 k3 k4 => rw [J] at k1; obtain rfl := Option.some.inj k1; rw [jc] at k2; cases k2
    | dict k1 k2 k3 k4 k5 => rw [J] at k1; obtain rfl := Option.some.inj k1; rw [jc] at k2; cases k2
  | tuple h1 h2 h3 h4 => rw [e1] at h1; obtain rfl := Option.some.inj h1; exact absurd h2 (by intro z; injection z with z; exact absurd z (by decide))
  | dict h1 h2 h3 h4 h5 => rw [e1] at h1; obtain rfl := Option.some.inj h1; exact absurd h2 (by intro z; injection z with z; exact absurd z (by decide))
end
end LK

namespace LK
open PySem PySem.Spec PyProof.Rows L2 Builtin
/-- a def's promise where reprs of lists that hold instances may be under way -/
structure FnR (P : Program) (w : World) (K : PySem.W.Frag) (mg : Str → Option Value) (base : Heap) (CX : CXT) (k : Nat) (f : Addr) (fd : FuncData) (ps : List Str) (sp : Sp) : Prop where
  len : ∀ vs H Q E, sp vs H Q E → vs.length = ps.length
  run : ∀ (A : Around) (g : List Code), A.guards = some g → ∀ (outer : List Env) (s : Shared) (H : Hp) (args : Args) (us : List Value) (vs : List V) (Q : VK) (E : XK), GN g H → Room k A → Env0 P w K mg base A outer s H →
    BindsTo s fd args (ps.zip us) → Vals vs us → sp vs H Q E → codeAny (model P w) A (.call (.ref f) args) (CR CX outer P w H s Q E) s
section
variable {P : Program} {w : World} {K : PySem.W.Frag} {mg : Str → Option Value} {base : Heap} {CX : CXT} {k : Nat} {f : Addr} {fd : FuncData} {ps : List Str} {sp : Sp}
theorem FnR.g (F : FnR P w K mg base CX k f fd ps sp) : FnG P w K mg base CX k f fd ps sp := ⟨F.len, fun A h outer s H args us vs Q E r e b v q => F.run A [] h outer s H args us vs Q E GN.nil r e b v q⟩
theorem FnR.up {j : Nat} (F : FnR P w K mg base CX j f fd ps sp) (h : j ≤ k) : FnR P w K mg base CX k f fd ps sp := ⟨F.len, fun A g hg outer s H args us vs Q E gn r => F.run A g hg outer s H args us vs Q E gn (r.mono h)⟩
theorem fnR_of {nm q : Str} {pa : Arguments} {bd : List Stmt} {sc : Scope} {dV kV dc pm cd ct oc : Value} {an od : Option Addr} {sl : Array (Option Value)} {N : List Str}
    (lk : K.lookup f = some ⟨oc, od, .func (PySem.W.fnOf nm q pa bd sc dV kV dc pm an cd ct), sl⟩) (hc : PySem.W.codeIn K cd q = true) (S : FnScope N ps sc) (len : ∀ vs H Q E, sp vs H Q E → vs.length = ps.length)
    (hb : ∀ (A : Around) (g : List Code), A.guards = some g → ∀ (outer : List Env) (s : Shared) (H : Hp) (vs : List V) (Q : VK) (E : XK), GN g H → Room k (A.deeper (envOfC q sc s.heap.objs.size f cd)) → sp vs H Q E →
      ∃ t, PSs (cxOf CX P w K mg base N q sc f cd A outer s H E) bd t ∧ t { nx := fun _ H' => Q .non H', rt := Q } (start N vs) H) :
    FnR P w K mg base CX (k + 1) f (PySem.W.fnOf nm q pa bd sc dV kV dc pm an cd ct) ps sp where
  len := len
  run := by
    intro A g hg outer s H args us vs Q E gn hr e0 bnd rel hs
    have inB : ∀ b o, base.get? b = some o → s.heap.get? b = some o := fun b o e => (e0.bs b o e).1
    have kin : K.In s.heap := e0.mod.kin.keeps inB
    have kd : ∀ y ∈ ps.zip us, sc.names.lookup y.1 = some .local ∨ (sc.names.lookup y.1 = some .cell ∧ ((cellsFrom (s.heap.objs.size + 1) sc.names []).lookup y.1).isSome = true) := fun y hy =>
      (S.par y.1 (List.of_mem_zip (a := y.1) (b := y.2) hy).1).imp id fun z => ⟨z, PySem.W.cellsFrom_some _ _ _ (.inl z)⟩
    refine codeAny_call_function hr.depth (kin _ _ lk) rfl S.co S.gen rfl (PySem.W.codeRec_of kin hc) (bnd _ _ _ _ ?_)
    refine wpAny_newFunctionEnv_cells S.kind kd ?_
    intro env he s1 inC
    subst he
    refine ⟨(e0.mod.nolimit.keeps inB).keeps inC.toInCall.keep, codeAny_func ?_⟩
    obtain ⟨t, ht, hq⟩ := hb A g hg outer s H vs Q E gn (hr.deeper _) hs
    have I0 := inv_start (CX := CX) (mg := mg) (E := E) S hr.hd e0 (len _ _ _ _ hs) rel inC
    refine wpAny_mono (ht.run [] s1 (start N vs) H _ I0 hq) ?_ (fun _ _ z => z)
    intro fl s' z
    have fin : ∀ (σ' : L2.St) (H' : Hp) (v : V) (u : Value), Inv (cxOf CX P w K mg base N q sc f cd A outer s H E) [] σ' H' s' → L2.RelV v u → Q v H' → CE outer P w H s Q u s' :=
      fun _ H' v _ J rv y => ⟨v, H', J.os, J.bare, J.base, J.hok, rv, y⟩
    cases fl with
    | ret u => obtain ⟨v, σ', H', J, rv, y⟩ := z; exact fin σ' H' v u J rv y
    | next => obtain ⟨σ', H', J, y⟩ := z; exact fin σ' H' V.non Value.none J rfl y
    | brk => obtain ⟨_, _, _, y⟩ := z; exact y.elim
    | cont => obtain ⟨_, _, _, y⟩ := z; exact y.elim
end
section
variable {P : Program} {w : World} {K : PySem.W.Frag} {mg : Str → Option Value} {base : Heap}
theorem okR {x q : Str} {st : Stmt} {f : Addr} {fd : FuncData} {N ps : List Str} {k : Nat} {sp : Sp} (F : Fun K x q st f fd) (S : FnScope N ps (defScope st)) (len : ∀ vs H Q E, sp vs H Q E → vs.length = ps.length)
    (hb : ∀ (cd : Value) (A : Around) (g : List Code), A.guards = some g → ∀ (outer : List Env) (s : Shared) (H : Hp) (vs : List V) (Q : VK) (E : XK), GN g H → Room k (A.deeper (envOfC q (defScope st) s.heap.objs.size f cd)) → sp vs H Q E →
      ∃ t, PSs (cxOf CX0 P w K mg base N q (defScope st) f cd A outer s H E).nox (defBody st) t ∧ t { nx := fun _ H' => Q .non H', rt := Q } (start N vs) H) : FnR P w K mg base CX0 (k + 1) f fd ps sp := by
  obtain ⟨oc, od, kV, dc, pm, an, cd, ct, sl, rfl, lk, hc⟩ := F.ex
  refine fnR_of lk hc S len ?_
  intro A g hg outer s H vs Q E gn hr hs
  obtain ⟨t, h, z⟩ := hb cd A g hg outer s H vs Q E gn hr hs
  exact ⟨t, h.nox, z⟩
/-- a method with such a promise -/
structure HasR (P : Program) (w : World) (K : PySem.W.Frag) (mg : Str → Option Value) (base : Heap) (k : Nat) (C : Addr) (m : Str) (sp : Sp) : Prop where
  ex : ∃ f fd, FnR P w K mg base CX0 k f fd ["self"] sp ∧ Meth K C m f ∧ Binds K fd ["self"] []
theorem HasR.up {j k : Nat} {C : Addr} {m : Str} {sp : Sp} (F : HasR P w K mg base j C m sp) (h : j ≤ k) : HasR P w K mg base k C m sp := by
  obtain ⟨f, fd, a, b⟩ := F.ex
  exact ⟨f, fd, a.up h, b⟩
end
section
variable {X : Cx} {e : Expr} {te : TE} {pos : Pos} {g : List Code}
/-- {e!r}, e a list of data, where reprs may be under way -/
def tFmtR (K : PySem.W.Frag) (g : List Code) (te : TE) : TE := fun σ H Q => te σ H fun x H1 => match x with
  | .ref a => ∃ d ds, GN g H1 ∧ Dp K H1 (.ref a) (.list (d :: ds)) ∧ Shw (.list (d :: ds)) ∧ (PyData.list (d :: ds)).shown.length ≤ sizeLine ∧ Q (.str (PyData.list (d :: ds)).shown) H1
  | .str y => (reprText y).length ≤ sizeLine ∧ Q (.str (reprText y)) H1
  | _ => False
theorem pe_fmtR (hA : X.A.guards = some g) (hu : X.A.units + 64 < cLine) (he : PE X e te) : PE X (.FormattedValue e 114 none pos) (tFmtR X.K g te) := by
  constructor
  intro pins s σ H Q I w
  refine wpAny_FormattedValue_repr (thn (he.run pins s σ H _ I w) fun v s1 z => ?_)
  obtain ⟨x, H1, I1, r1, q⟩ := z
  cases x with
  | ref a =>
    obtain ⟨d, ds, gn, hd, hw, hl, q⟩ := q
    obtain rfl : v = Value.ref a := r1
    obtain ⟨as, rd⟩ := Dp.reads I1 (.list (d :: ds)) _ (Value.ref a) hd rfl
    have dp := hw.dp
    have fin : ∀ h' u tk, (∀ b o, s1.heap.get? b = some o → h'.get? b = some o) → wpAny (model X.prog X.w) X.A (formatField (.str (PyData.list (d :: ds)).shown u) Str.empty) (EP X pins σ Q) X.xe { s1 with heap := h', toks := tk } := fun h' u tk hk => by
      have J := I1.kept (t' := tk) hk
      exact wpAny_formatField_str ⟨.str _, H1, J, ⟨_, rfl⟩, q⟩ ⟨.str _, H1, J.tok _, ⟨_, rfl⟩, q⟩ hl
    have rd0 := rd
    cases rd with
    | list h1 h2 h3 h4 =>
      rename_i o vs n as1
      have hz' : (listText (PyData.shownAll (d :: ds))).length ≤ sizeLine := by simpa only [PyData.shown] using hl
      have sh := hw.sh
      obtain ⟨bs, hb, hk⟩ := ReprAllK.of_readsAll (prog := X.prog) (w := X.w) h4 (by simpa [PyData.showable] using sh) (fun hx hm => (hw.nd (by simpa [PyData.hasDict] using hx)).elim) (fun t ht => Nat.le_trans (listText_mem_le ht) hz')
      have hna : a ∉ bs := not_mem_of_deeper rd0 (by simp only [PyData.depth]; omega) hb
      simp only [PyData.depth] at dp
      obtain ⟨l⟩ := vs
      cases l with
      | nil => cases h4
      | cons y l =>
        refine wpAny_pyReprObj_listK h1 h2 h3 hna (by simpa using hk.length_eq) (fun i z e => hk.item i z (by simpa using e)) hA (fun b hm => ?_) (by omega) (fun _ _ e => e) (fun h' u tk hkp => ?_) hz'
        · rcases List.mem_cons.mp hm with rfl | hm
          · exact gn.clear I1 rd0
          · obtain ⟨d', as', r', _⟩ := hb b hm
            exact gn.clear I1 r'
        · have := fin h' u tk hkp
          simpa only [PyData.shown] using this
  | str y =>
    obtain ⟨hl, q⟩ := q
    obtain ⟨t, rfl⟩ := r1
    exact pyReprObj_str (wpAny_formatField_str ⟨.str (reprText y), H1, I1.tok _, ⟨_, rfl⟩, q⟩ ⟨.str (reprText y), H1, I1.tok _, ⟨_, rfl⟩, q⟩ hl) hl
  | _ => exact q.elim
end
end LK

namespace LK
open PySem PySem.Spec PyProof.Rows L2 Builtin
open Builtin.List
theorem bndBy {M : Model} {A : Around} {E : Value → Shared → Prop} {s : Shared} {K : PySem.W.Frag} {x C f : Addr} {ox : Obj} {od : Option Obj} {name : Str} {last : Value → List Value → Sem Value} {Q : Option Value → Shared → Prop}
    (X : K.In s.heap) (J : PySem.W.InstAt s.heap x ox C od) (hs : PySem.W.findIn K (.ref C) name = some (some (.ref f))) (hf : PySem.W.isFn K (.ref f) = true)
    (h : wpAny M A (last (.ref f) [.ref x]) (fun v => Q (some v)) E s) : wpAny M A (callSpecialIfBoundBy? last (.ref x) name) Q E s := by
  simp only [callSpecialIfBoundBy?, bindSpecialIfBound?]
  refine wpAny_holding (wpAny_bind (wpAny_bind (wpAny_bind (J.type.here ((PySem.W.looks_findIn X hs).here ?_)))))
  refine wpAny_bind (wpAny_askSetting (wpAny_ite ?_))
  have fin : wpAny M A (last (.ref f) [.ref x] >>= fun v => pure (some v)) Q E s := wpAny_bind (wpAny_mono h (fun v s' h' => wpAny_pure h') fun _ _ h' => h')
  split
  · exact wpAny_bind ((PySem.W.bind_fn X _ (beq_iff_eq.mp hf)).here (wpAny_pure (by exact fin)))
  · exact wpAny_tryCatch (wpAny_bind ((PySem.W.bind_fn X _ (beq_iff_eq.mp hf)).here (wpAny_pure (by exact fin))))
section
variable {X : Cx} {pins : List (Addr × Obj)} {σ : L2.St} {H : Hp} {s : Shared} {n : Nat} {C : Addr} {sp : Sp}
theorem item_repr (F : HasR X.prog X.w X.K X.mg X.base n C "__repr__" sp) {A : Around} {g : List Code} {E : Value → Shared → Prop} {m dx : Addr} {fs : List (Str × V)} {t : Str} {base : Nat} (hA : A.guards = some g) (hf : A.frames = X.A.frames) (hr : Room n A)
    (I : Inv X pins σ H s) (gn : GN g H) (hi : H m = some (.ins C dx fs)) (hb : base ≤ sizeLine) (q : sp [.ref m] H (fun v H' => v = .str t ∧ Ext H H') E0) {Q : Str → Shared → Prop} (fin : ∀ s' H', Inv X pins σ H' s' → Ext H H' → Q t s') :
    wpAny (model X.prog X.w) A (pyReprUnder base (.ref m)) Q E s := by
  obtain ⟨f, fd, F, hm, hbd⟩ := F.ex
  obtain ⟨ox, od, J⟩ := inst_at I hi
  have kin := I.kIn
  refine wpAny_pyReprUnder_ref hb ?_
  unfold pyReprObjUnder pyReprObjBy
  refine wpAny_bind (wpAny_cRoomFor hr.units0 ?_)
  refine wpAny_bind (wpAny_bind (J.type.here ((PySem.W.looks_findIn kin hm.at_).here ?_)))
  show wpAny _ _ (if (some (Value.ref f)).isNone = true then _ else _) _ _ _
  rw [if_neg (by simp)]
  refine wpAny_bind (m := callSpecialIfBoundBy? _ (.ref m) (Str.ofString "__repr__")) (bndBy kin J hm.at_ hm.fn ?_)
  show wpAny _ _ (call (.ref f) [.ref m]) _ _ _
  have hl := F.len _ _ _ _ q
  refine wpAny_call (codeAny_mono (F.run A g hA X.stack s H ⟨[.ref m], []⟩ [.ref m] [.ref m] _ E0 gn hr (Inv.envAt I hf) (by
    have := hbd s [.ref m] I.kIn (by simpa using hl)
    simpa using this) (.cons rfl .nil) q) fun r s' hq => ?_)
  cases r with
  | error e => exact hq.elim
  | ok fl =>
    cases fl with
    | ret w =>
      obtain ⟨z, H', I', rz, ez, ex⟩ := I.after hq
      subst ez
      obtain ⟨tk, rfl⟩ := rz
      exact wpAny_bind (wpAny_isInstance (T := "str") (b := true) rfl isSubtype_str_str (wpAny_pure ⟨t, tk, rfl, fin _ _ I' ex⟩))
    | next => exact hq.elim
    | brk => exact hq.elim
    | cont => exact hq.elim
theorem loop_depth {A : Around} {args : Args} : (A.under (.builtin "list.__repr__.loop" args)).depth ≤ A.depth + 1 := by
  first | exact Nat.le_refl _ | exact Nat.le_succ _ | (simp [Around.under, Code.weight, Code.isCreation, Code.isGuard, Code.isCaller, Code.frames, Code.isFrame, guardIds]) | (unfold Around.under; simp [Code.weight]; split <;> omega)
theorem room_loop {k : Nat} {A : Around} {args : Args} (r : Room (k + 1) A) : Room k (A.under (.builtin "list.__repr__.loop" args)) :=
  ⟨r.hd, by have := r.dp; have := loop_depth (A := A) (args := args); omega, by have := r.un; rw [units_under_list_loop]; omega⟩
theorem strs_of : ∀ {l : List Str} {us : List Value}, Vals (l.map V.str) us → ∃ done : List (Str × Tok), us = strValues done ∧ done.map (·.1) = l
  | [], [], _ => ⟨[], rfl, rfl⟩
  | [], _ :: _, h => by cases h
  | _ :: _, [], h => by cases h
  | t :: l, u :: us, .cons r h => by
    obtain ⟨done, e1, e2⟩ := strs_of h
    obtain ⟨tk, rfl⟩ := r
    exact ⟨(t, tk) :: done, by rw [e1]; rfl, by rw [List.map_cons, e2]⟩
theorem loop_repr (F : HasR X.prog X.w X.K X.mg X.base n C "__repr__" sp) {A : Around} {L P : Addr} {ms : List Addr} {ts : List Str} {base : Nat} {R : Result → Shared → Prop} (hA : A.guards = some []) (hf : A.frames = X.A.frames) (hr : Room (n + 1) A)
    (hL : H L = some (.lst (ms.map V.ref))) (hne : L ≠ P) (hlen : ts.length = ms.length)
    (hT : ∀ (i : Nat) (m : Addr) (t : Str), ms[i]? = some m → ts[i]? = some t → ∀ H', Ext H H' → ∃ dx fs, H' m = some (.ins C dx fs) ∧ sp [.ref m] H' (fun v H2 => v = .str t ∧ Ext H' H2) E0)
    (hsz : base + (listText ts).length ≤ sizeLine) (fin : ∀ s' H' u, Inv X pins σ H' s' → Ext H H' → R (.ok (.ret (.str (listText ts) u))) s') :
    ∀ (k i : Nat) (s : Shared) (H' : Hp), ms.length - i = k → i ≤ ms.length → Inv X pins σ H' s → Ext H H' → H' P = some (.lst ((ts.take i).map V.str)) → H P = none →
    codeAny (model X.prog X.w) A (.builtin "list.__repr__.loop" ⟨[.ref L, rawInt i, .ref P, rawInt ((base + piled (ts.take i) : Nat) : Int)], []⟩) R s := by
  have hX : (listText ts).length = (textFrom 0 "[" ts).length + 1 := by
    show (textFrom 0 "[" ts ++ "]").length = _
    rw [strLen_append]; rfl
  have hTl := textFrom_len ts 0 "["
  have sz1 : ms.length ≤ sizeLine := by
    have h1 := hTl.1
    rw [if_neg (Nat.lt_irrefl 0)] at h1
    omega
  have sz2 : ∀ t ∈ ts, t.length ≤ sizeLine := fun t ht => by
    have h2 := hTl.2.1 t ht
    omega
  have sz3 : (listText ts).length ≤ sizeLine := by omega
  have hp3 := piled_le_listText ts
  intro k
  induction k with
  | zero =>
    intro i s H' hk hi I e hP nP
    have ei : i = ms.length := by omega
    obtain ⟨z, its, c, r1, g1⟩ := I.hok L _ (e _ _ hL)
    obtain ⟨z2, its2, c2, r2, g2⟩ := I.hok P _ hP
    have l1 : its.length = ms.length := by rw [← r1.length, List.length_map]
    obtain ⟨done, rfl, ed⟩ := strs_of r2
    refine codeAny_builtin PySem.F.entry_list_repr_loop ?_
    show wpAny _ _ («list.__repr__.loop» ⟨[.ref L, .int i 0, .ref P, .int ((base + piled (ts.take i) : Nat) : Int) 0], []⟩) _ _ s
    rw [repr_loop_tree]
    refine wpAny_bind (wpAny_listItems g1 rfl ?_)
    have hnone : its.toArray[(i : Int).toNat]? = none := by simp [ei, l1]
    simp only [hnone]
    unfold reprEnd
    refine wpAny_bind (wpAny_listItems g2 rfl ?_)
    rw [show (strValues done).toArray.toList = strValues done by simp, repr_fold]
    refine wpAny_bind (wpAny_pure ?_)
    have hall : done.map (·.1) = ts := by rw [ed, ei, ← hlen, List.take_length]
    rw [hall]
    refine wpAny_bind (wpAny_mkStr (wpAny_pure ?_) sz3)
    exact fin _ _ _ (I.tok _) e
  | succ k ih =>
    intro i s H' hk hi I e hP nP
    have hlt : i < ms.length := by omega
    obtain ⟨z, its, c, r1, g1⟩ := I.hok L _ (e _ _ hL)
    have l1 : its.length = ms.length := by rw [← r1.length, List.length_map]
    have hm : ms[i]? = some ms[i] := List.getElem?_eq_getElem hlt
    obtain ⟨t, ht⟩ : ∃ t, ts[i]? = some t := ⟨_, List.getElem?_eq_getElem (by omega)⟩
    obtain ⟨dx, fs, hi2, q⟩ := hT i _ t hm ht H' e
    have hp1 := piled_take_succ ht
    have hp2 := piled_take_le ts (i + 1)
    obtain ⟨u, hu, ru⟩ := r1.get (show (ms.map V.ref)[i]? = some (.ref ms[i]) by rw [List.getElem?_map, hm]; rfl)
    obtain rfl : u = Value.ref ms[i] := ru
    refine codeAny_builtin PySem.F.entry_list_repr_loop ?_
    show wpAny _ _ («list.__repr__.loop» ⟨[.ref L, .int i 0, .ref P, .int ((base + piled (ts.take i) : Nat) : Int) 0], []⟩) _ _ s
    rw [repr_loop_tree]
    refine wpAny_bind (wpAny_listItems g1 rfl ?_)
    have hsome : its.toArray[(i : Int).toNat]? = some (.ref ms[i]) := by simpa using hu
    simp only [hsome]
    rw [Int.toNat_natCast]
    have gd := guards_under_guard (A := A) (c := .builtin "list.__repr__.loop" ⟨[.ref L, .int i 0, .ref P, .int ((base + piled (ts.take i) : Nat) : Int) 0], []⟩) (isGuard_list_loop _) hA
    have gn : GN [Code.builtin "list.__repr__.loop" ⟨[.ref L, .int i 0, .ref P, .int ((base + piled (ts.take i) : Nat) : Int) 0], []⟩] H' := fun id v rest kw hm2 => by
      rw [List.mem_singleton] at hm2
      injection hm2 with h1 h2
      injection h2 with h3 h4
      injection h3 with h5 h6
      exact ⟨L, _, ms[i], C, dx, fs, h5, e _ _ hL, List.mem_map.mpr ⟨ms[i], List.getElem_mem hlt, rfl⟩, hi2⟩
    refine wpAny_bind (wpAny_holding (item_repr F gd ?_ ?_ I gn hi2 (by omega) q fun s2 H2 I2 e2 => ?_))
    · rw [← hf]; first | rfl | (simp [Around.under, Code.envs, Code.isFrame, pushEnvs])
    · exact room_loop hr
    refine wpAny_bind (wpAny_mkStr ?_ (sz2 t (List.mem_of_getElem? ht)))
    refine wpAny_bind ?_
    show wpAny _ _ (updateSeq P _) _ _ _
    obtain ⟨z2, its2, c2, r2, g2⟩ := I2.hok P _ (e2 _ _ hP)
    have l2 : its2.length = i := by rw [← r2.length, List.length_map, List.length_take]; omega
    refine wpAny_updateSeq g2 rfl (wpAny_pure ⟨PySem.F.quiet_list_repr_loop _, ?_⟩) (by rw [List.size_toArray]; omega)
    have e1 : ((i : Int) + 1) = ((i + 1 : Nat) : Int) := by omega
    have e3 : base + piled (ts.take i) + (t.length + 2) = base + piled (ts.take (i + 1)) := by omega
    rw [e1, e3]
    have et : (ts.take (i + 1)).map V.str = (ts.take i).map V.str ++ [V.str t] := by rw [List.take_add_one, ht, List.map_append]; rfl
    refine ih (i + 1) _ (upd H2 P (.lst ((ts.take (i + 1)).map V.str))) (by omega) hlt ?_ (fun b o hb => ?_) upd_same nP
    · refine I2.write (x := P) (e := P) (by rw [e2 _ _ hP]; exact True.intro) (.inl rfl) (fun b u nb hb => (Heap.get?_update_other _ _ (fun h : P = b => nb h.symm)).trans hb) ⟨_, Heap.get?_update_self _ g2 rfl⟩ ?_
      obtain ⟨n2, gu⟩ : ∃ n2, (s2.heap.update P (Obj.mapSeq fun x => x.push (Value.str t s2.toks))).get? P = some { cls := .type "list", data := .seq (its2.toArray.push (.str t s2.toks)) n2 } := ⟨_, Heap.get?_update_self _ g2 rfl⟩
      refine ⟨by rw [List.length_map, List.length_take]; omega, its2 ++ [.str t s2.toks], n2, by rw [et]; exact Vals.append r2 (.cons ⟨_, rfl⟩ .nil), ?_⟩
      rw [show (its2 ++ [Value.str t s2.toks]).toArray = its2.toArray.push (.str t s2.toks) by simp]
      exact gu
    · have nb : b ≠ P := ne_of_none hb nP
      rw [upd_ne nb]; exact e2 _ _ (e _ _ hb)
/-- repr of a list of instances -/
def reprLI (C : Addr) (sp : Sp) : List V → Hp → VK → Prop := fun vs H Q => match vs with
  | [.ref L] => ∃ (ms : List Addr) (ts : List Str), H L = some (.lst (ms.map V.ref)) ∧ ms ≠ [] ∧ ts.length = ms.length ∧
      (∀ (i : Nat) (m : Addr) (t : Str), ms[i]? = some m → ts[i]? = some t → ∀ H', Ext H H' → ∃ dx fs, H' m = some (.ins C dx fs) ∧ sp [.ref m] H' (fun v H2 => v = .str t ∧ Ext H' H2) E0) ∧
      (listText ts).length ≤ sizeLine ∧ ∀ H', Ext H H' → Q (.str (listText ts)) H'
  | _ => False
theorem c_reprLI (F : HasR X.prog X.w X.K X.mg X.base n C "__repr__" sp) (hA : X.A.guards = some []) (hr : Room (n + 2) X.A) : CallR X (.builtin "repr") (reprLI C sp) := by
  intro pins s σ H xs us Q I r h
  unfold reprLI at h
  split at h
  · rename_i L
    obtain ⟨ms, ts, hL, hne, hlen, hT, hsz, q⟩ := h
    obtain ⟨u, rfl, ru⟩ := vals1 r
    obtain rfl : u = Value.ref L := ru
    obtain ⟨z, its, c, r1, g1⟩ := I.hok L _ hL
    have l1 : its.length = ms.length := by rw [← r1.length, List.length_map]
    cases its with
    | nil => exact absurd (List.eq_nil_of_length_eq_zero l1.symm) hne
    | cons x l =>
      have hu := hr.un
      refine call_repr_slot (by omega) ⟨_, g1, rfl⟩ PySem.F.slot_list_repr.toG ?_
      refine wpAny_call (codeAny_call_builtin PySem.F.slot_list_repr.plain PySem.F.entry_list_repr (PySem.F.slot_list_repr.check _ _ _ _ _ _ _ _ ⟨_, g1, rfl⟩ (PySem.F.args_list_repr_1 _) ?_))
      refine wpAny_list_repr_head (g := []) hA (fun v rest kw hm => nomatch hm) g1 rfl ?_
      refine wpAny_bind (m := newList []) (wpAny_newObj_type ?_)
      refine wpAny_pure ⟨PySem.F.quiet_list_repr_loop _, ?_⟩
      have nP : H s.heap.objs.size = none := I.hok.fresh (Nat.le_refl _)
      have I1 : Inv X pins σ (upd H s.heap.objs.size (.lst [])) { s with heap := s.heap.push { cls := .type "list", dict := none, data := .seq #[] 0 } } :=
        I.laid (t' := s.toks) (fun b u z => Heap.get?_push_of_some _ z) (Nat.le_refl _) ⟨by show 0 ≤ sizeLine; omega, [], _, .nil, Heap.get?_push_size _ rfl⟩
      refine loop_repr (A := X.A.in1) (P := s.heap.objs.size) (base := 0) (ms := ms) (ts := ts) (H := H) F hA rfl hr.in1 hL (ne_of_none hL nP) hlen hT (by omega) (fun s' H' u I' e' => ?_) _ 0 _ _ rfl (Nat.zero_le _) I1 (Ext.upd nP) upd_same nP
      exact ⟨_, u, rfl, .str _, H', I', ⟨u, rfl⟩, q H' e'⟩
  · exact h.elim
end
end LK

namespace LK
open PySem PySem.Spec PyProof.Rows L2 LamX ClX
open scoped List
/-! a sheet's rows and kinds as they are shown -/
structure Shn (n m : Nat) (d : PyData) : Prop where
  sh : d.showable = true
  nd : d.hasDict = false
  dp : d.depth ≤ n
  lf : d.leavesShort 13 = true
  wt : d.weight ≤ m
theorem shn_int {g : Nat} (h : g < 64) : Shn 0 6 (.int g) := by
  have key : ∀ g : Nat, g < 64 → (PyData.int (g : Int)).showable = true ∧ (PyData.int (g : Int)).leavesShort 13 = true ∧ (PyData.int (g : Int)).weight ≤ 6 := by decide +kernel
  obtain ⟨a, b, c⟩ := key g h
  exact ⟨a, rfl, Nat.le_refl _, b, c⟩
theorem shn_bl (b : Bool) : Shn 0 6 (.bool b) := ⟨rfl, rfl, Nat.le_refl _, rfl, by show 0 ≤ 6; omega⟩
theorem shn_list {n m : Nat} {ds : List PyData} (h : ∀ d ∈ ds, Shn n m d) : Shn (n + 1) ((m + 1) * ds.length) (.list ds) := by
  have key : PyData.showableAll ds = true ∧ PyData.hasDictAll ds = false ∧ PyData.depthAll ds ≤ n ∧ PyData.leavesShortAll 13 ds = true ∧ PyData.weightAll ds ≤ (m + 1) * ds.length := by
    induction ds with
    | nil => exact ⟨rfl, rfl, Nat.zero_le _, rfl, Nat.zero_le _⟩
    | cons d ds ih =>
      obtain ⟨a, b, c, e, f⟩ := ih fun x hx => h x (List.mem_cons_of_mem _ hx)
      obtain ⟨a1, b1, c1, e1, f1⟩ := h d (by simp)
      refine ⟨by rw [PyData.showableAll, a1, a]; rfl, by rw [PyData.hasDictAll, b1, b]; rfl, by rw [PyData.depthAll]; exact Nat.max_le.mpr ⟨c1, c⟩, by rw [PyData.leavesShortAll, e1, e]; rfl, ?_⟩
      rw [PyData.weightAll, List.length_cons, Nat.mul_succ]; omega
  obtain ⟨a, b, c, e, f⟩ := key
  exact ⟨by rw [PyData.showable]; exact a, by rw [PyData.hasDict]; exact b, by rw [PyData.depth]; omega, by rw [PyData.leavesShort]; exact e, by rw [PyData.weight]; exact f⟩
theorem Shn.mono {n m m' : Nat} {d : PyData} (h : Shn n m d) (l : m ≤ m') : Shn n m' d := ⟨h.sh, h.nd, h.dp, h.lf, Nat.le_trans h.wt l⟩
theorem Shn.shw {n m : Nat} {d : PyData} (h : Shn n m d) (hn : n ≤ 3) (hm : m ≤ 2 ^ 20) : Shw d := ⟨h.sh, (fun z => by rw [h.nd] at z; cases z), Nat.le_trans h.dp hn, h.lf, Nat.le_trans h.wt hm⟩
theorem Shn.len {n m : Nat} {d : PyData} (h : Shn n m d) : d.shown.length ≤ 15 * m + 13 := by
  have a := PyData.shown_le 13 (by omega) d h.lf
  have b := Nat.mul_le_mul_left 15 h.wt
  omega
theorem shn_rows {S : List Nat} {R : Rows} {Kd : List Bool} (ok : ShOk S R Kd) : Shn 2 880 (encRs R) := by
  have hi := ok.hi
  have l3 := ok.let_.hi
  have : Shn 2 ((21 + 1) * (R.map encR).length) (encRs R) := shn_list fun d hd => by
    obtain ⟨r, hr, rfl⟩ := List.mem_map.mp hd
    have lr := ok.rows.len r hr
    refine (shn_list (m := 6) fun d hd => ?_).mono (by rw [List.length_map]; omega)
    obtain ⟨g, hg, rfl⟩ := List.mem_map.mp hd
    exact shn_int (by have := ok.rows.lt r hr g hg; omega)
  exact this.mono (by rw [List.length_map]; omega)
theorem shn_kinds {S : List Nat} {R : Rows} {Kd : List Bool} (ok : ShOk S R Kd) : Shn 1 280 (encB Kd) := by
  have hi := ok.hi
  have hk := ok.kinds
  exact (shn_list (m := 6) fun d hd => by
    obtain ⟨g, _, rfl⟩ := List.mem_map.mp hd
    exact shn_bl _).mono (by rw [List.length_map]; omega)
theorem rep_let {S : List Nat} (ok : LetOk S) : (reprText (T S)).length ≤ 32 := by
  have a := PySem.StrLaws.reprText_len (T S) fun c hc => by
    have := ok.sm.asc c hc
    have : (128 : Nat) < 16 ^ 8 := by decide
    omega
  have b : (T S).length = S.length := rfl
  have := ok.hi
  omega
/-- a machine as it is shown -/
def spk (S : List Nat) (R : Rows) (Kd : List Bool) : Str := Str.empty ++ "Machine(" ++ reprText (T S) ++ ", " ++ (encRs R).shown ++ ", " ++ (encB Kd).shown ++ ")"
section
variable {P : Program} {w : World} {K : PySem.W.Frag} {mg : Str → Option Value} {base : Heap} {C : Addr}
theorem scRepr : FnScope ["self"] ["self"] (defScope sRepr) := ⟨rfl, rfl, rfl, by decide +kernel, rfl, by decide +kernel, by decide +kernel⟩
def spRepr (C : Addr) : Sp := fun vs H Q _ => ∃ (a : Addr) (S : List Nat) (R : Rows) (Kd : List Bool), vs = [.ref a] ∧ Mach C H a S R Kd ∧ ShOk S R Kd ∧ Q (.str (spk S R Kd)) H
theorem ok_repr {f : Addr} {fd : FuncData} {k : Nat} (F : Fun K "__repr__" "Machine.__repr__" sRepr f fd) (cM : ClsM K C) : FnR P w K mg base CX0 (k + 1) f fd ["self"] (spRepr C) := by
  refine okR F scRepr (fun vs H Q E h => ?_) (fun cdv A g hA outer s H vs Q E gn hr h => ?_)
  · obtain ⟨a, S, R, Kd, rfl, _⟩ := h; rfl
  · obtain ⟨a, S, R, Kd, rfl, mm, ok, q⟩ := h
    refine ⟨_, pss_one (ps_ret (pe_joined (.cons pe_str (.cons (pe_fmtR hA hr.units (pe_fldU (uv 0))) (.cons pe_str (.cons (pe_fmtR hA hr.units (pe_fldU (uv 0))) (.cons pe_str (.cons (pe_fmtR hA hr.units (pe_fldU (uv 0))) (.cons pe_str .nil))))))))), ?_⟩
    have lo := ok.lo
    have lk := ok.kinds
    obtain ⟨r0, R', rfl⟩ := List.exists_cons_of_ne_nil (l := R) (fun z => by rw [z] at lo; exact absurd lo (by decide))
    obtain ⟨b0, B', rfl⟩ := List.exists_cons_of_ne_nil (l := Kd) (fun z => by rw [z] at lk; simp at lk)
    obtain ⟨dx, r, kk, rs, h1, h2, h3, h4, h5⟩ := id mm
    have sl := sizeLine_eq
    have r1 := rep_let ok.let_
    have r2 := (shn_rows ok).len
    have r3 := (shn_kinds ok).len
    have r2' : (PyData.list (encR r0 :: R'.map encR)).shown.length ≤ 15 * 880 + 13 := r2
    have r3' : (PyData.list (PyData.bool b0 :: B'.map PyData.bool)).shown.length ≤ 15 * 280 + 13 := r3
    have k1 : (Str.empty ++ Str.ofString "Machine(").length = 8 := by decide +kernel
    have k2 : (Str.ofString ", ").length = 2 := by decide +kernel
    have k3 : (Str.ofString ")").length = 1 := by decide +kernel
    have ad : ∀ x y : Str, (x ++ y).length = x.length + y.length := fun x y => PySem.strLen_append x y
    refine ⟨_, rfl, by rw [k1]; omega, C, dx, _, .str (T S), h1, cM.cls, cM.nL, rfl, ⟨by omega, _, rfl, by rw [ad, k1]; omega, ?_⟩⟩
    refine ⟨_, rfl, by rw [ad, ad, k1, k2]; omega, C, dx, _, .ref r, h1, cM.cls, cM.nR, rfl, encR r0, R'.map encR, gn, dp_rows ⟨rs, h2, h3, h4⟩, (shn_rows ok).shw (by omega) (by decide), (show (encRs (r0 :: R')).shown.length ≤ sizeLine by omega), _, rfl, by rw [ad, ad, ad, k1, k2]; omega, ?_⟩
    refine ⟨_, rfl, by rw [ad, ad, ad, ad, k1, k2]; omega, C, dx, _, .ref kk, h1, cM.cls, cM.nK, rfl, PyData.bool b0, B'.map PyData.bool, gn, dp_kinds h5, (shn_kinds ok).shw (by omega) (by decide), (show (encB (b0 :: B')).shown.length ≤ sizeLine by omega), _, rfl, by rw [ad, ad, ad, ad, ad, k1, k2]; omega, ?_⟩
    exact ⟨_, rfl, by rw [ad, ad, ad, ad, ad, ad, k1, k2, k3]; omega, q⟩
end
end LK

/-! missedparts.edits: need_unlike_places -/
namespace LK
open PySem PySem.Spec PyProof.Rows L2 LamX ClX
open scoped List
section
variable {K : PySem.W.Frag} {g : TG} {te : TE} {σ : L2.St} {H H1 : Hp} {vs : List Nat} {Q : VK} {ta : TA} {tp : Bool}
/-- a comprehension over enumerate of a list or a tuple -/
theorem lc_enB {a : Addr} {xs : List V} (h : ∀ R : List V → Hp → Prop, R [.ref a] H1 → ta σ H R) (hx : SqB K tp H1 a xs) (R : Addr → Nat → List V → Hp → Prop) (hP : ∀ D i acc H, R D i acc H → SqB K tp H a xs) (h0 : ∀ D, H1 D = none → R D 0 [] (upd H1 D (.lst [])))
    (hs : ∀ D, H1 D = none → ∀ (i : Nat) acc x p H, xs[i]? = some x → R D i acc H → H p = none → g (.ref p) (wipe σ vs) (upd H p (.tup [.int (i : Nat), x])) fun σ2 H2 => wipe σ2 vs = wipe σ vs ∧ te σ2 H2 fun y H4 =>
      ∃ acc, H4 D = some (.lst acc) ∧ acc.length < sizeLine ∧ ∃ a, R D (i + 1) a (upd H4 D (.lst (acc ++ [y]))))
    (he : ∀ D, H1 D = none → ∀ acc H, R D xs.length acc H → Q (.ref D) H) : tLc (iEnumB K ta) g tYes te vs σ H Q := by
  refine h _ ⟨tp, xs, hx, fun D nD => ?_⟩
  refine ⟨fun i m H => m = xs.length - i ∧ i ≤ xs.length ∧ ∃ acc, R D i acc H, ⟨xs.length, rfl, Nat.zero_le _, [], h0 D nD⟩, ?_⟩
  rintro i m H ⟨rfl, hi, acc, iv⟩
  have q := hP D i acc H iv
  by_cases lt : i < xs.length
  · have hxi : xs[i]? = some xs[i] := List.getElem?_eq_getElem lt
    refine .inr ⟨?_, fun H' => ∃ acc, R D (i + 1) acc H', fun H' z => ?_, ?_⟩
    · cases tp
      · exact ⟨xs, _, q, hxi⟩
      · exact ⟨xs, _, q, hxi⟩
    · exact ⟨xs.length - (i + 1), by omega, rfl, lt, z⟩
    · intro v H' y
      have key : ∃ T x, v = .ref T ∧ H T = none ∧ H' = upd H T (.tup [.int (i : Nat), x]) ∧ xs[i]? = some x := by
        cases tp
        · obtain ⟨T, x, e1, e2, e3, e4⟩ := y; exact ⟨T, x, e1, e2, e3, e4 xs q⟩
        · obtain ⟨T, x, e1, e2, e3, e4⟩ := y; exact ⟨T, x, e1, e2, e3, e4 xs q⟩
      obtain ⟨T, x, rfl, hT, rfl, e⟩ := key
      exact hs D nD i acc x T H e iv hT
  · have e : i = xs.length := by omega
    subst e
    refine .inl ⟨?_, he D nD acc H iv⟩
    cases tp
    · exact ⟨xs, q, Nat.le_refl _⟩
    · exact ⟨xs, q, rfl⟩
/-- .. wherever the list comes to lie -/
theorem lc_enM {t : TE} (h : t σ H fun v H1 => ∃ (a : Addr) (tp : Bool) (xs : List V), v = .ref a ∧ SqB K tp H1 a xs ∧ ∃ R : Addr → Nat → List V → Hp → Prop, (∀ D i acc H, R D i acc H → SqB K tp H a xs) ∧ (∀ D, H1 D = none → R D 0 [] (upd H1 D (.lst []))) ∧
    (∀ D, H1 D = none → ∀ (i : Nat) acc x p H, xs[i]? = some x → R D i acc H → H p = none → g (.ref p) (wipe σ vs) (upd H p (.tup [.int (i : Nat), x])) fun σ2 H2 => wipe σ2 vs = wipe σ vs ∧ te σ2 H2 fun y H4 =>
      ∃ acc, H4 D = some (.lst acc) ∧ acc.length < sizeLine ∧ ∃ a, R D (i + 1) a (upd H4 D (.lst (acc ++ [y])))) ∧
    (∀ D, H1 D = none → ∀ acc H, R D xs.length acc H → Q (.ref D) H)) : tLc (iEnumB K (tCons (cl t) tNil)) g tYes te vs σ H Q := by
  refine ⟨_, h, fun v H1 z => ?_⟩
  obtain ⟨a, tp, xs, rfl, hx, R, hP, h0, hs, he⟩ := z
  exact lc_enB (K := K) (ta := fun _ H R => R [.ref a] H) (tp := tp) (a := a) (xs := xs) (H := H1) (H1 := H1) (fun R h => h) hx R hP h0 hs he
end
/-- x[lo:hi] of a list or of a tuple that isn't taken whole -/
abbrev slB (K : PySem.W.Frag) : V → Option Int → Option Int → Hp → VK → Prop := fun x lo hi H Q => rSlL K x lo hi H Q ∨ rSlT K x lo hi H Q
theorem sl_B {X : Cx} : SlR X (slB X.K) := sl_list.or sl_tup
theorem cut_take {xs : List V} {i : Nat} (h : i ≤ xs.length) : cutV xs none (some (i : Int)) = xs.take i := by
  unfold cutV
  rw [HT.sIx_none, HT.sIx_nat, List.drop_zero, Nat.min_eq_left h, Nat.sub_zero]
theorem slB_take {K : PySem.W.Frag} {tp : Bool} {H : Hp} {a : Addr} {xs : List V} {i : Nat} {Q : VK} (h : SqB K tp H a xs) (hi : i < xs.length) (q : ∀ p o, H p = none → SqB K tp (upd H p o) p (xs.take i) → (tp = false ∨ tp = true) → Q (.ref p) (upd H p o)) : slB K (.ref a) none (some (i : Int)) H Q := by
  have e := cut_take (xs := xs) (i := i) (by omega)
  cases tp
  · refine .inl ⟨a, xs, rfl, h, fun p np => ?_⟩
    rw [e]
    exact q p _ np (.inl (.inl upd_same)) (.inl rfl)
  · refine .inr ⟨a, xs, rfl, h, fun z => ?_, fun p np => ?_⟩
    · have z2 := z.2
      rw [HT.sIx_nat] at z2
      omega
    · rw [e]
      exact q p _ np (.inl (.inl upd_same)) (.inr rfl)
theorem SqB.or2 {K : PySem.W.Frag} {tp : Bool} {H : Hp} {a : Addr} {xs : List V} (h : SqB K tp H a xs) : SqL K H a xs ∨ SqT K H a xs := by
  cases tp
  · exact .inl h
  · exact .inr h
theorem flat_iv (f : List Nat) : (iv f).all flatV = true := by
  rw [List.all_eq_true]
  intro x hx
  obtain ⟨g, _, rfl⟩ := List.mem_map.mp hx
  rfl
theorem in_iv (g : Nat) (f : List Nat) : inV (.int g) (iv f) = decide (g ∈ f) := by
  unfold inV
  rw [List.any_map, Bool.eq_iff_iff, List.any_eq_true, decide_eq_true_eq]
  constructor
  · rintro ⟨x, hx, e⟩
    have e : ((x : Int) == (g : Int)) = true := e
    have : (x : Int) = g := beq_iff_eq.mp e
    have : x = g := by omega
    exact this ▸ hx
  · intro h
    exact ⟨g, h, by show ((g : Int) == (g : Int)) = true; simp⟩
section
variable {P : Program} {w : World} {K : PySem.W.Frag} {mg : Str → Option Value} {base : Heap} {C : Addr}
theorem scUnlike : FnScope ["machine", "value", "position", "place"] ["machine", "value"] (defScope sUnlike) := ⟨rfl, rfl, rfl, by decide +kernel, rfl, by decide +kernel, by decide +kernel⟩
/-- unlike places of the machine, in a list or a tuple -/
def spUnlike (K : PySem.W.Frag) (C : Addr) : Sp := fun vs H Q _ => ∃ (a b : Addr) (tp : Bool) (S : List Nat) (R : Rows) (Kd : List Bool) (ls : List Nat), vs = [.ref a, .ref b] ∧ Mach C H a S R Kd ∧ SqB K tp H b (iv ls) ∧ ls.Nodup ∧ (∀ p ∈ ls, p < R.length) ∧ R.length ≤ 1000 ∧ ∀ H', Same H H' → Q .non H'
theorem ok_unlike {f : Addr} {fd : FuncData} {k : Nat} (F : Fun K "need_unlike_places" "need_unlike_places" sUnlike f fd) (M : Mx mg) (HP : Has P w K mg base (k + 1) "is_place" ["value", "many"] spIsPlace) (HL : HasM P w K mg base k C "__len__" [] (spLen C)) :
    FnG P w K mg base CX0 (k + 2) f fd ["machine", "value"] (spUnlike K C) := by
  refine okG F scUnlike (fun vs H Q E h => ?_) (fun cdv A hA outer s H vs Q E hr h => ?_)
  · obtain ⟨a, b, tp, S, R, Kd, ls, rfl, _⟩ := h; rfl
  · obtain ⟨a, b, tp, S, R, Kd, ls, rfl, mm, hb, ndl, hl, hz, q⟩ := h
    have nd := scUnlike.nd
    have sl := sizeLine_eq
    refine ⟨_, pss_cons (ps_ifU (pt_not (pt_u (pe_callB call_isiT (by rfl) M.isi b_isi (pa_cons (uv 1) (pa_cons (pe_tup (pa_cons (pe_bltn (by rfl) M.list b_list (v := .ty "list") (by rfl)) (pa_cons (pe_bltn (by rfl) M.tuple b_tuple (v := .ty "tuple") (by rfl)) pa_nil))) pa_nil))))) (pss_one ps_never) pss_nil)
      (pss_one (ps_for PassesOwn.never rfl (pi_enumB (by rfl) M.enumerate (pa_cons (uv 1) pa_nil)) (pg_tup rfl (pgs_cons (pg_name (i := 2) nd rfl (.inl rfl)) (pgs_cons (pg_name (i := 3) nd rfl (.inl rfl)) pgs_nil)))
        (pss_one (ps_ifU (PW.pt (pw_orU (pt_not (pt_u (pe_callH HP hA hr (by rfl) (pa_cons (uv 3) (pa_cons (pe_callB (c_lenI HL hA hr) (by rfl) M.len b_len (pa_cons (uv 0) pa_nil)) pa_nil)))))
          (pw_or1 (pt_cu op_in_seq (uv 3) (pe_slice sl_B (uv 1) po_none (po_u (uv 2))) (by rfl))))) (pss_one ps_never) pss_nil)))), ?_⟩
    refine ⟨by show 2 ≤ sizeLine; decide, fun p np => ?_⟩
    have e2 := same_upd (o := .tup [.ty "list", .ty "tuple"]) np
    have hb2 := hb.ext e2
    refine ⟨_, p, _, _, [.type "list", .type "tuple"], true, rfl, upd_same, .cons (.ty _) (.cons (.ty _) .nil), ty_sq hb2, by cases tp <;> rfl, .no ?_⟩
    dsimp only [tNext, tSeq]
    generalize upd H p (.tup [.ty "list", .ty "tuple"]) = Ha at e2 hb2
    refine for_enB (K := K) (tp := tp) (a := b) (xs := iv ls) (H1 := Ha) (by exact fun _ h => h) hb2 (fun i σ H2 => Same Ha H2 ∧ ∃ y3 y4, σ = [some (.ref a), some (.ref b), y3, y4]) (fun i σ H2 z => hb2.ext z.1) ⟨Same.refl _, none, none, rfl⟩ (fun i x p2 σ H2 hx z np2 => ?_) (fun σ H2 z => ?_)
    · obtain ⟨e3, y3, y4, rfl⟩ := z
      have li : i < (iv ls).length := (List.getElem?_eq_some_iff.mp hx).1
      rw [List.getElem?_map] at hx
      obtain ⟨g, hg, rfl⟩ := Option.map_eq_some_iff.mp hx
      have e4 := e3.trans (same_upd (o := .tup [.int (i : Nat), .int (g : Nat)]) np2)
      have gl := hl g (List.mem_of_getElem? hg)
      have m4 := mm.ext (e2.trans e4)
      obtain ⟨dx, _, _, _, h1, _⟩ := id m4
      refine ⟨p2, _, rfl, .inl (.inl upd_same), rfl, _, _, rfl, _, _, rfl, rfl, ?_⟩
      refine ⟨dx, _, h1, a, S, R, Kd, rfl, m4, R.length, rfl, by omega, ?_⟩
      refine ⟨g, R.length, rfl, gl, .no ?_⟩
      refine slB_take (hb2.ext e4) li fun p3 o np3 hp3 _ => ?_
      have et : (iv ls).take i = iv (ls.take i) := by show (ls.map fun c : Nat => V.int (c : Int)).take i = (ls.take i).map _; rw [List.map_take]
      rw [et] at hp3
      refine ⟨p3, iv (ls.take i), rfl, hp3.or2, rfl, flat_iv _, ?_⟩
      have nin : g ∉ ls.take i := fun m => by
        obtain ⟨j, hj⟩ := List.mem_iff_getElem?.mp m
        have jl : j < i := by
          have := (List.getElem?_eq_some_iff.mp hj).1
          rw [List.length_take] at this; omega
        rw [List.getElem?_take_of_lt jl] at hj
        obtain ⟨l1, q1⟩ := List.getElem?_eq_some_iff.mp hj
        obtain ⟨l2, q2⟩ := List.getElem?_eq_some_iff.mp hg
        have : j = i := (List.getElem_inj ndl).mp (q1.trans q2.symm)
        omega
      show Br (inV (.int (g : Nat)) (iv (ls.take i))) _ _
      rw [in_iv, decide_eq_false nin]
      refine .no ?_
      exact ⟨e4.trans (same_upd np3), _, _, rfl⟩
    · obtain ⟨e3, _, _, rfl⟩ := z
      exact q _ (e2.trans e3)
end
end LK

/-! missedparts.edits: turned -/
namespace LK
open PySem PySem.Spec PyProof.Rows L2 LamX ClX
open scoped List
theorem mach_newN {K : PySem.W.Frag} {C : Addr} {H : Hp} {Q : VK} {S : List Nat} {R : Rows} {Kd : List Bool} {r k : Addr} (ok : ShOk S R Kd) (wh : Whole R) (hr : RowsAt K H r R) (hk : KindsAt K H k Kd)
    (q : ∀ H' a, Same H H' → H a = none → MachN C H H' a S R Kd → Q (.ref a) H') : mkSp C (spInit K C) [.str (T S), .ref r, .ref k] H Q := by
  intro a d na nd nad
  have e9 : Same H (upd (upd H d (.own a)) a (.ins C d [])) := (same_upd nd).trans (same_upd (by rw [upd_ne nad.symm]; exact na))
  refine ⟨a, d, r, k, S, R, Kd, rfl, ok, wh, hr.ext e9, hk.ext e9, upd_same, fun H' but mach => ⟨rfl, q H' a (fun b o hb => ?_) na (mach.of e9)⟩⟩
  exact but b o (ne_of_none hb na) (e9 _ _ hb)
/-- .. or an error, if some places are not come to -/
theorem mach_newX {K : PySem.W.Frag} {C cN : Addr} {H : Hp} {Q : VK} {E : XK} {S : List Nat} {R : Rows} {Kd : List Bool} {r k : Addr} (ok : ShOk S R Kd) (hr : RowsAt K H r R) (hk : KindsAt K H k Kd)
    (q : Whole R → ∀ H' a, Same H H' → H a = none → MachN C H H' a S R Kd → Q (.ref a) H') (qx : ¬ Whole R → ∀ d H', Same H H' → E (.ref cN) (some d) H') : mkSpX C (spInitX K C cN) E [.str (T S), .ref r, .ref k] H Q := by
  intro a d na nd nad
  have e9 : Same H (upd (upd H d (.own a)) a (.ins C d [])) := (same_upd nd).trans (same_upd (by rw [upd_ne nad.symm]; exact na))
  refine ⟨a, d, r, k, S, R, Kd, rfl, ok, hr.ext e9, hk.ext e9, upd_same, fun wh H' but mach => ⟨rfl, q wh H' a (fun b o hb => ?_) na (mach.of e9)⟩, fun wh d H' e => qx wh d H' (e9.trans e)⟩
  exact but b o (ne_of_none hb na) (e9 _ _ hb)
theorem same_none {H H' : Hp} {a : Addr} (e : Same H H') (n : H' a = none) : H a = none := by
  cases h : H a with
  | none => rfl
  | some o => rw [e a o h] at n; cases n
theorem RowsL.at {K : PySem.W.Frag} {H : Hp} {r : Addr} {R : Rows} (h : RowsL H r R) : RowsAt K H r R := by
  obtain ⟨rs, h1, h2, h3⟩ := h
  exact ⟨false, rs, .inl (.inl h1), h2, fun i p hp => ⟨false, .inl (.inl (h3 i p hp))⟩⟩
theorem ShOk.mok {S : List Nat} {R : Rows} {Kd : List Bool} (h : ShOk S R Kd) : MOk S R Kd := ⟨h.let_.up.nodup, h.rows, h.kinds, h.lo⟩
/-- the kinds, turned at the places ls -/
def turnK (Kd : List Bool) (ls : List Nat) : List Bool := (List.range Kd.length).map fun i => !decide (Kd.getD i false = decide (i ∈ ls))
theorem turnK_len {Kd : List Bool} {ls : List Nat} : (turnK Kd ls).length = Kd.length := by unfold turnK; rw [List.length_map, List.length_range]
section
variable {P : Program} {w : World} {K : PySem.W.Frag} {mg : Str → Option Value} {base : Heap} {C : Addr}
theorem scTurned : FnScope ["machine", "places", "kinds", "place", "kind"] ["machine", "places"] (defScope sTurned) := ⟨rfl, rfl, rfl, by decide +kernel, rfl, by decide +kernel, by decide +kernel⟩
def spTurned (K : PySem.W.Frag) (C : Addr) : Sp := fun vs H Q _ => ∃ (a b : Addr) (tp : Bool) (S : List Nat) (R : Rows) (Kd : List Bool) (ls : List Nat), vs = [.ref a, .ref b] ∧ Mach C H a S R Kd ∧ ShOk S R Kd ∧ Whole R ∧ SqB K tp H b (iv ls) ∧ ls.Nodup ∧ (∀ p ∈ ls, p < R.length) ∧
  ∀ H' m, Same H H' → H m = none → MachN C H H' m S R (turnK Kd ls) → Q (.ref m) H'
theorem ok_turned {f : Addr} {fd : FuncData} {k : Nat} (F : Fun K "turned" "turned" sTurned f fd) (M : Mx mg) (cM : ClsM K C) (HU : Has P w K mg base (k + 1) "need_unlike_places" ["machine", "value"] (spUnlike K C)) (HK : HasM P w K mg base (k + 1) C "kinds" [] (spKinds C))
    (HR : HasM P w K mg base (k + 1) C "rows" [] (spRows C)) (HL : HasP P w K mg base k C "letters" (getSp C "_letters")) (HI : HasI P w K mg base k "Machine" C ["letters", "rows", "kinds"] (spInit K C)) :
    FnG P w K mg base CX0 (k + 2) f fd ["machine", "places"] (spTurned K C) := by
  refine okG F scTurned (fun vs H Q E h => ?_) (fun cdv A hA outer s H vs Q E hr h => ?_)
  · obtain ⟨a, b, tp, S, R, Kd, ls, rfl, _⟩ := h; rfl
  · obtain ⟨a, b, tp, S, R, Kd, ls, rfl, mm, ok, wh, hb, ndl, hl, q⟩ := h
    have nd := scTurned.nd
    have sl := sizeLine_eq
    have hhi := ok.hi
    refine ⟨_, pss_cons (ps_expr (pe_callH HU hA hr (by rfl) (pa_cons (uv 0) (pa_cons (uv 1) pa_nil))))
      (pss_cons (ps_setLc (i := 2) (own := [("place", 3), ("kind", 4)]) (g := gTup K 2 (gCons (gName 3) (gCons (gName 4) gNil))) (by rfl) nd rfl rfl (sw_true rfl rfl rfl (by decide +kernel)) (pi_enumB (by rfl) M.enumerate (pa_cons (pe_cl (pe_mH0 HK cM.cls hA hr (uv 0))) pa_nil))
        (blkOk_by (N := ["machine", "places", "kinds", "place", "kind"]) (sc := defScope sTurned) (by decide +kernel))
        (fun _ _ _ _ _ => pg_tup rfl (pgs_cons (pg_name (i := 3) nd rfl (.inl rfl)) (pgs_cons (pg_name (i := 4) nd rfl (.inl rfl)) pgs_nil))) (fun _ _ _ _ _ => pts_nil)
        (fun _ _ _ _ _ => pe_cu (r := eqU K true) (o_ne hr.units) (uv 4) (pe_cu (r := rIn K false) op_in_seq (uv 3) (uv 1) (by rfl))))
      (pss_one (ps_ret (pe_mkI HI hA hr (by rfl) (pa_cons (pe_propH HL cM.cls hr (uv 0)) (pa_cons (pe_mH0 HR cM.cls hA hr (uv 0)) (pa_cons (uv 2) pa_nil))))))), ?_⟩
    refine ⟨a, b, tp, S, R, Kd, ls, rfl, mm, hb, ndl, hl, by omega, fun H1 e1 => ?_⟩
    obtain ⟨dx, _, _, _, h1, _⟩ := id mm
    have m1 := mm.ext e1
    have kl := ok.kinds
    dsimp only [tSeq, tAsg]
    have hb1 := hb.ext e1
    obtain ⟨dx1, _, _, _, g1, _⟩ := id m1
    refine lc_enM (K := K) ⟨dx1, _, g1, mf_none (by decide +kernel) (by decide +kernel) (by decide +kernel), a, S, R, Kd, rfl, m1, fun p np => ?_⟩
    have e2 := e1.trans (same_upd (o := .lst (Kd.map V.bl)) np)
    have hp2 : (upd H1 p (.lst (Kd.map V.bl))) p = some (.lst (Kd.map V.bl)) := upd_same
    generalize upd H1 p (.lst (Kd.map V.bl)) = H2 at e2 hp2
    have hb2 := hb.ext e2
    have lenK : (Kd.map V.bl).length = Kd.length := List.length_map _
    refine ⟨p, false, Kd.map V.bl, rfl, .inl (.inl hp2), fun D i acc H3 => ∃ ks : List Bool, acc = ks.map V.bl ∧ ks.length = i ∧ (∀ j, j < i → ks[j]? = some (!decide (Kd.getD j false = decide (j ∈ ls)))) ∧ Same H2 H3 ∧ H3 D = some (.lst acc),
      (fun D i acc H3 r => by obtain ⟨_, _, _, _, r, _⟩ := r; exact .inl (.inl (r _ _ hp2))), (fun D nD => ⟨[], rfl, rfl, fun j z => absurd z (Nat.not_lt_zero _), same_upd nD, upd_same⟩), (fun D nD i acc x p3 H3 hx r np3 => ?_), (fun D nD acc H3 r => ?_)⟩
    · obtain ⟨ks, rfl, hl3, hks, e3, hD⟩ := r
      have li : i < Kd.length := by have := (List.getElem?_eq_some_iff.mp hx).1; omega
      rw [List.getElem?_map] at hx
      obtain ⟨kd, hkd, rfl⟩ := Option.map_eq_some_iff.mp hx
      have e4 := e3.trans (same_upd (o := .tup [.int (i : Nat), .bl kd]) np3)
      have nDp : D ≠ p3 := ne_of_none hD np3
      refine ⟨p3, _, rfl, .inl (.inl upd_same), rfl, _, _, rfl, _, _, rfl, rfl, rfl, ?_⟩
      refine ⟨b, iv ls, rfl, (hb2.ext e4).or2, rfl, flat_iv _, ?_⟩
      refine ⟨ks.map V.bl, by rw [upd_ne nDp]; exact hD, by rw [List.length_map]; omega, _, ks ++ [!decide (kd = inV (.int (i : Nat)) (iv ls))], by rw [List.map_append]; rfl, by rw [List.length_append]; show ks.length + 1 = _; omega, fun j hj => ?_, same_upd2 e4 nD, upd_same⟩
      rcases Nat.lt_or_ge j ks.length with h1 | h1
      · rw [List.getElem?_append_left h1]; exact hks j (by omega)
      · have : j = ks.length := by omega
        subst this
        rw [List.getElem?_append_right (Nat.le_refl _), Nat.sub_self, in_iv, hl3, List.getD_eq_getElem?_getD, hkd]
        rfl
    obtain ⟨ks, rfl, hl3, hks, e3, hD⟩ := r
    have eK : ks = turnK Kd ls := by
      refine List.ext_getElem? fun j => ?_
      unfold turnK
      rw [List.getElem?_map]
      by_cases hj : j < Kd.length
      · rw [hks j (by omega), List.getElem?_range hj]; rfl
      · rw [List.getElem?_eq_none (by omega), List.getElem?_eq_none (by rw [List.length_range]; omega)]; rfl
    subst eK
    have e13 := e2.trans e3
    have m3 := mm.ext e13
    obtain ⟨dx3, _, _, _, g3, _⟩ := id m3
    refine ⟨a, dx3, _, rfl, g3, a, dx3, _, .str (T S), rfl, g3, rfl, ?_⟩
    refine ⟨dx3, _, g3, mf_none (by decide +kernel) (by decide +kernel) (by decide +kernel), a, S, R, Kd, rfl, m3, by omega, fun H4 pr rs e4 nr hr4 lr hrs ndr => ?_⟩
    refine ⟨rfl, ?_⟩
    exact mach_newN ⟨ok.let_, ok.rows, ok.lo, ok.hi, by rw [turnK_len]; exact kl⟩ wh (RowsL.at ⟨rs, hr4, lr, fun i p hp => (hrs i p hp).2.2⟩) ⟨false, .inl (.inl (e4 _ _ hD))⟩ fun H5 m e5 nm mach => q H5 m ((e13.trans e4).trans e5) (same_none (e13.trans e4) nm) (mach.of (e13.trans e4))
end
end LK

/-! missedparts.edits: redirected -/
namespace LK
open PySem PySem.Spec PyProof.Rows L2 LamX ClX
open scoped List
theorem nil_none {α : Type} {i : Nat} {q : α} (h : ([] : List α)[i]? = some q) : False := by rw [List.getElem?_nil] at h; cases h
/-- the rows with another goal of one step -/
def setR (R : Rows) (p j g : Nat) : Rows := R.set p ((gls R p).set j g)
theorem setR_len {R : Rows} {p j g : Nat} : (setR R p j g).length = R.length := List.length_set
theorem gls_set {R : Rows} {p i : Nat} {r : List Nat} (hp : p < R.length) : gls (R.set p r) i = if p = i then r else gls R i := by
  unfold gls
  rw [List.getD_eq_getElem?_getD, List.getElem?_set]
  split
  · first | rfl | (rw [if_pos (by omega)]; rfl)
  · rw [List.getD_eq_getElem?_getD]
theorem setR_ok {R : Rows} {m p j g : Nat} (ok : RowsOk R m) (hp : p < R.length) (hg : g < R.length) : RowsOk (setR R p j g) m := by
  have hr : ∀ r ∈ setR R p j g, r ∈ R ∨ r = (gls R p).set j g := fun r hr => List.mem_or_eq_of_mem_set hr
  refine ⟨fun r h => ?_, fun r h x hx => ?_⟩
  · rcases hr r h with h | rfl
    · exact ok.len r h
    · rw [List.length_set, gls_len ok hp]
  · rw [setR_len]
    rcases hr r h with h | rfl
    · exact ok.lt r h x hx
    · rcases List.mem_or_eq_of_mem_set hx with h | rfl
      · exact gls_lt ok h
      · exact hg
theorem iv_set (l : List Nat) (j g : Nat) : (iv l).set j (.int (g : Nat)) = iv (l.set j g) := by
  show (l.map fun c : Nat => V.int (c : Int)).set j _ = (l.set j g).map _
  rw [List.map_set]
theorem ixN_nat {d n : Nat} (h : d < n) : ixN n (d : Int) = some d := by
  unfold ixN
  rw [if_pos (by omega), if_pos (by omega)]; simp
/-- one row of new lists is written: the rows with another goal -/
theorem rows_put {H H1 : Hp} {R : Rows} {pr q : Addr} {rs : List Addr} {p j g : Nat} (hp : p < R.length) (h1 : H1 pr = some (.lst (rs.map V.ref))) (hl : rs.length = R.length) (hr : ∀ i q, rs[i]? = some q → H q = none ∧ q ≠ pr ∧ H1 q = some (.lst (iv (gls R i)))) (nd : rs.Nodup)
    (hq : rs[p]? = some q) : RowsL (upd H1 q (.lst (iv ((gls R p).set j g)))) pr (setR R p j g) := by
  refine ⟨rs, by rw [upd_ne (hr p q hq).2.1.symm]; exact h1, by rw [setR_len]; exact hl, fun i x hx => ?_⟩
  unfold setR
  rw [gls_set hp]
  by_cases e : p = i
  · subst e
    rw [hq] at hx
    cases hx
    rw [if_pos rfl]; exact upd_same
  · rw [if_neg e]
    have ne : x ≠ q := fun z => e (by
      subst z
      obtain ⟨l1, q1⟩ := List.getElem?_eq_some_iff.mp hq
      obtain ⟨l2, q2⟩ := List.getElem?_eq_some_iff.mp hx
      exact (List.getElem_inj nd).mp (q1.trans q2.symm))
    rw [upd_ne ne]
    exact (hr i x hx).2.2
section
variable {P : Program} {w : World} {K : PySem.W.Frag} {mg : Str → Option Value} {base : Heap} {C cN : Addr}
theorem scRedir : FnScope ["machine", "place", "letter", "goal", "rows"] ["machine", "place", "letter", "goal"] (defScope sRedir) := ⟨rfl, rfl, rfl, by decide +kernel, rfl, by decide +kernel, by decide +kernel⟩
def spRedirX (C cN : Addr) : Sp := fun vs H Q E => ∃ (a : Addr) (p c g : Nat) (S : List Nat) (R : Rows) (Kd : List Bool), vs = [.ref a, .int p, .str (T [c]), .int g] ∧ Mach C H a S R Kd ∧ ShOk S R Kd ∧ p < R.length ∧ c ∈ S ∧ g < R.length ∧
  (Whole (setR R p (S.idxOf c) g) → ∀ H' m, Same H H' → H m = none → MachN C H H' m S (setR R p (S.idxOf c) g) Kd → Q (.ref m) H') ∧ (¬ Whole (setR R p (S.idxOf c) g) → ∀ d H', Same H H' → E (.ref cN) (some d) H')
/-- .. where all places are come to -/
def spRedir (C : Addr) : Sp := fun vs H Q _ => ∃ (a : Addr) (p c g : Nat) (S : List Nat) (R : Rows) (Kd : List Bool), vs = [.ref a, .int p, .str (T [c]), .int g] ∧ Mach C H a S R Kd ∧ ShOk S R Kd ∧ p < R.length ∧ c ∈ S ∧ g < R.length ∧
  Whole (setR R p (S.idxOf c) g) ∧ ∀ H' m, Same H H' → H m = none → MachN C H H' m S (setR R p (S.idxOf c) g) Kd → Q (.ref m) H'
theorem spRedir_X (vs : List V) (H : Hp) (Q : VK) (E : XK) (h : spRedir C vs H Q E) : spRedirX C cN vs H Q E0 := by
  obtain ⟨a, p, c, g, S, R, Kd, e, mm, ok, hp, hc, hg, wh, q⟩ := h
  exact ⟨a, p, c, g, S, R, Kd, e, mm, ok, hp, hc, hg, fun _ => q, fun n => absurd wh n⟩
theorem ok_redir {f : Addr} {fd : FuncData} {k : Nat} (F : Fun K "redirected" "redirected" sRedir f fd) (M : Mx mg) (cM : ClsM K C) (HP : Has P w K mg base (k + 1) "is_place" ["value", "many"] spIsPlace) (HN : HasM P w K mg base k C "__len__" [] (spLen C))
    (HG : HasM P w K mg base (k + 1) C "goal" ["place", "letter"] (spGoal C)) (HK : HasM P w K mg base (k + 1) C "kinds" [] (spKinds C)) (HR : HasM P w K mg base (k + 1) C "rows" [] (spRows C)) (HL : HasP P w K mg base k C "letters" (getSp C "_letters"))
    (HI : HasIX P w K mg base k "Machine" C ["letters", "rows", "kinds"] (spInitX K C cN)) : FnG P w K mg base (CX P w) (k + 2) f fd ["machine", "place", "letter", "goal"] (spRedirX C cN) := by
  refine okGX F scRedir (fun vs H Q E h => ?_) (fun cdv A hA outer s H vs Q E hr h => ?_)
  · obtain ⟨a, p, c, g, S, R, Kd, rfl, _⟩ := h; rfl
  · obtain ⟨a, p, c, g, S, R, Kd, rfl, mm, ok, hp, hc, hg, q, qx⟩ := h
    have nd := scRedir.nd
    have sl := sizeLine_eq
    have hhi := ok.hi
    refine ⟨_, pss_cons (ps_expr (pe_mH HG cM.cls hA hr (uv 0) (pa_cons (uv 1) (pa_cons (uv 2) pa_nil))))
      (pss_cons (ps_ifU (pt_not (pt_u (pe_callH HP hA hr (by rfl) (pa_cons (uv 3) (pa_cons (pe_callB (c_lenI HN hA hr) (by rfl) M.len b_len (pa_cons (uv 0) pa_nil)) pa_nil))))) (pss_one ps_never) pss_nil)
      (pss_cons (ps_set (i := 4) nd rfl (.inl rfl) (pe_mH0 HR cM.cls hA hr (uv 0)))
      (pss_cons (ps_asg (uv 3) (pg_sub (pe_ixU (uv 4) (uv 1)) (pe_bm PySem.F.plainAttrs_str PySem.F.slot_str_index PySem.F.type_str_index mt_sindex (pe_propH HL cM.cls hr (uv 0)) (pa_cons (uv 2) pa_nil)) set_list) rfl)
      (pss_one (ps_ret (pe_mkIX HI hA hr (by rfl) (fun σ => passAt (takes_of rfl rfl rfl rfl) σ) (pa_cons (pe_propH HL cM.cls hr (uv 0)) (pa_cons (uv 4) (pa_cons (pe_mH0 HK cM.cls hA hr (uv 0)) pa_nil))))))))), ?_⟩
    obtain ⟨dx, _, _, _, h1, _⟩ := id mm
    refine ⟨dx, _, h1, mf_none (by decide +kernel) (by decide +kernel) (by decide +kernel), a, p, c, S, R, Kd, rfl, mm, ok.mok, hp, hc, ?_⟩
    refine ⟨dx, _, h1, a, S, R, Kd, rfl, mm, R.length, rfl, by omega, ?_⟩
    refine ⟨g, R.length, rfl, hg, .no ?_⟩
    refine ⟨dx, _, h1, mf_none (by decide +kernel) (by decide +kernel) (by decide +kernel), a, S, R, Kd, rfl, mm, by omega, fun H1 pr rs e1 npr hpr lrs hrs ndr => ?_⟩
    obtain ⟨q1, hq1⟩ : ∃ q1, rs[p]? = some q1 := ⟨_, List.getElem?_eq_getElem (by omega)⟩
    obtain ⟨nq1, nqp, hq1v⟩ := hrs p q1 hq1
    have ji : S.idxOf c < (gls R p).length := by rw [gls_len ok.rows hp]; exact List.idxOf_lt_length_iff.mpr hc
    obtain ⟨rest, ho⟩ := occ_idx ok.let_.up.nodup hc
    refine ⟨_, _, .inl (.inl (.inl hpr)), atI_nat (by rw [List.getElem?_map, hq1]; rfl), ?_⟩
    refine ⟨a, dx, _, rfl, e1 _ _ h1, a, dx, _, .str (T S), rfl, e1 _ _ h1, rfl, ?_⟩
    refine ⟨rfl, T S, T [c], S.idxOf c, rest, rfl, rfl, ho, ?_⟩
    refine ⟨q1, iv (gls R p), (S.idxOf c : Nat), S.idxOf c, rfl, rfl, hq1v, by rw [iv_len]; exact ixN_nat ji, ?_⟩
    rw [iv_set]
    have rl := rows_put (j := S.idxOf c) (g := g) hp hpr lrs hrs ndr hq1
    have e2 : Same H (upd H1 q1 (.lst (iv ((gls R p).set (S.idxOf c) g)))) := same_upd2 e1 nq1
    generalize upd H1 q1 (.lst (iv ((gls R p).set (S.idxOf c) g))) = H2 at rl e2
    have m2 := mm.ext e2
    refine ⟨a, dx, _, rfl, e2 _ _ h1, a, dx, _, .str (T S), rfl, e2 _ _ h1, rfl, ?_⟩
    refine ⟨dx, _, e2 _ _ h1, mf_none (by decide +kernel) (by decide +kernel) (by decide +kernel), a, S, R, Kd, rfl, m2, fun pk npk => ?_⟩
    have e3 : Same H (upd H2 pk (.lst (Kd.map V.bl))) := e2.trans (same_upd npk)
    refine ⟨rfl, ?_⟩
    refine mach_newX ⟨ok.let_, setR_ok ok.rows hp hg, by rw [setR_len]; exact ok.lo, by rw [setR_len]; exact ok.hi, by rw [setR_len]; exact ok.kinds⟩ (rl.ext (same_upd npk)).at ⟨false, .inl (.inl upd_same)⟩ (fun wh H' m e nm mach => q wh H' m (e3.trans e) (same_none e3 nm) (mach.of e3)) fun wh d H' e => qx wh d H' (e3.trans e)
end
end LK

/-! comprehensions over known lists whose body changes nothing: all that was stays -/
namespace LK
open PySem PySem.Spec PyProof.Rows L2 LamX
open scoped List
theorem split_map {α : Type} {enc : α → V} {ls : List α} {pre suf : List V} {x : V} (h : ls.map enc = pre ++ x :: suf) : ∃ p g q, ls = p ++ g :: q ∧ pre = p.map enc ∧ x = enc g := by
  obtain ⟨p, q, e1, e2, e3⟩ := List.map_eq_append_iff.mp h
  obtain ⟨g, q', rfl, rfl, _⟩ := List.map_eq_cons_iff.mp e3
  exact ⟨p, g, q', e1, e2.symm, rfl⟩
section
variable {K : PySem.W.Frag} {g : TG} {te : TE} {σ : L2.St} {H H1 : Hp} {vs : List Nat} {Q : VK} {t : TE} {α : Type} {ls : List α} {enc out : α → V} {a : Addr}
/-- each item comes of one of the list -/
theorem lc_mapS (h : ∀ R : VK, R (.ref a) H1 → t σ H R) (hx : H1 a = some (.lst (ls.map enc))) (hn : ls.length < sizeLine)
    (hs : ∀ H' x, x ∈ ls → Same H1 H' → ∀ Qy : VK, (∀ H'', Same H' H'' → Qy (out x) H'') → g (enc x) (wipe σ vs) H' fun σ2 H2 => wipe σ2 vs = wipe σ vs ∧ te σ2 H2 Qy)
    (he : ∀ D H', H1 D = none → Same H1 H' → H' D = some (.lst (ls.map out)) → Q (.ref D) H') : tLc (iList K t) g tYes te vs σ H Q := by
  refine lc_list (K := K) (a := a) (xs := ls.map enc) (H1 := H1) h (.inl (.inl hx)) (fun D pre acc H' => ∃ p q : List α, ls = p ++ q ∧ pre = p.map enc ∧ acc = p.map out ∧ Same H1 H' ∧ H' D = some (.lst (p.map out)))
    (fun D pre acc H' r => ?_) (fun D nD => ⟨[], ls, rfl, rfl, rfl, same_upd nD, upd_same⟩) (fun D nD pre acc x suf H' ex r => ?_) (fun D nD acc H' r => ?_)
  · obtain ⟨_, _, _, _, _, e, _⟩ := r
    exact .inl (.inl (e _ _ hx))
  · obtain ⟨p, q, el, rfl, rfl, e, hD⟩ := r
    cases q with
    | nil =>
      rw [List.append_nil] at el
      have := congrArg List.length ex
      rw [el, List.length_append, List.length_cons] at this
      omega
    | cons y q =>
      have hy : x = enc y := by
        rw [el, List.map_append] at ex
        have := List.append_cancel_left ex
        exact (List.cons.inj this).1.symm
      subst hy
      refine hs H' y (by rw [el]; simp) e _ fun H'' e2 => ?_
      have lp : p.length < sizeLine := by
        have := congrArg List.length el
        rw [List.length_append, List.length_cons] at this
        omega
      refine ⟨p.map out, e2 _ _ hD, by rw [List.length_map]; exact lp, _, p ++ [y], q, by rw [el]; simp, by rw [List.map_append]; rfl, rfl, same_upd2 (e.trans e2) nD, by rw [upd_same, List.map_append]; rfl⟩
  · obtain ⟨p, q, el, ep, rfl, e, hD⟩ := r
    have : q = [] := by
      have h1 := congrArg List.length ep
      have h2 := congrArg List.length el
      rw [List.length_map, List.length_map] at h1
      rw [List.length_append] at h2
      exact List.eq_nil_of_length_eq_zero (by omega)
    subst this
    rw [List.append_nil] at el
    subst el
    exact he D H' nD e hD
/-- each item is a new object that comes of one of the list -/
theorem lc_refS {o : α → HO} (h : ∀ R : VK, R (.ref a) H1 → t σ H R) (hx : H1 a = some (.lst (ls.map enc))) (hn : ls.length < sizeLine)
    (hs : ∀ H' x, x ∈ ls → Same H1 H' → ∀ Qy : VK, (∀ H'' q, Same H' H'' → H' q = none → H'' q = some (o x) → Qy (.ref q) H'') → g (enc x) (wipe σ vs) H' fun σ2 H2 => wipe σ2 vs = wipe σ vs ∧ te σ2 H2 Qy)
    (he : ∀ (D : Addr) (H' : Hp) (qs : List Addr), H1 D = none → Same H1 H' → H' D = some (.lst (qs.map V.ref)) → qs.length = ls.length → (∀ (i : Nat) (q : Addr) (x : α), qs[i]? = some q → ls[i]? = some x → H1 q = none ∧ q ≠ D ∧ H' q = some (o x)) → qs.Nodup → Q (.ref D) H') : tLc (iList K t) g tYes te vs σ H Q := by
  refine lc_list (K := K) (a := a) (xs := ls.map enc) (H1 := H1) h (.inl (.inl hx)) (fun D pre acc H' => ∃ (p q : List α) (qs : List Addr), ls = p ++ q ∧ pre = p.map enc ∧ acc = qs.map V.ref ∧ qs.length = p.length ∧ Same H1 H' ∧ H' D = some (.lst (qs.map V.ref)) ∧
      (∀ (i : Nat) (q : Addr) (x : α), qs[i]? = some q → p[i]? = some x → H1 q = none ∧ q ≠ D ∧ H' q = some (o x)) ∧ qs.Nodup ∧ ∀ q ∈ qs, H' q ≠ none)
    (fun D pre acc H' r => ?_) (fun D nD => ⟨[], ls, [], rfl, rfl, rfl, rfl, same_upd nD, upd_same, (fun i q x z => (nil_none z).elim), List.Pairwise.nil, (fun q z => nomatch z)⟩) (fun D nD pre acc x suf H' ex r => ?_) (fun D nD acc H' r => ?_)
  · obtain ⟨_, _, _, _, _, _, _, e, _⟩ := r
    exact .inl (.inl (e _ _ hx))
  · obtain ⟨p, q, qs, el, rfl, rfl, lq, e, hD, hq, ndq, hne⟩ := r
    cases q with
    | nil =>
      rw [List.append_nil] at el
      have := congrArg List.length ex
      rw [el, List.length_append, List.length_cons] at this
      omega
    | cons y q =>
      have hy : x = enc y := by
        rw [el, List.map_append] at ex
        have := List.append_cancel_left ex
        exact (List.cons.inj this).1.symm
      subst hy
      refine hs H' y (by rw [el]; simp) e _ fun H'' qn e2 nq hqn => ?_
      have lp : p.length < sizeLine := by
        have := congrArg List.length el
        rw [List.length_append, List.length_cons] at this
        omega
      have nD2 : qn ≠ D := fun z => by rw [z, hD] at nq; cases nq
      refine ⟨qs.map V.ref, e2 _ _ hD, by rw [List.length_map]; omega, _, p ++ [y], q, qs ++ [qn], by rw [el]; simp, by rw [List.map_append]; rfl, rfl, by rw [List.length_append, List.length_append, lq]; rfl, same_upd2 (e.trans e2) nD, by rw [upd_same, List.map_append]; rfl, fun i q' x' hq' hx' => ?_, ?_, fun q' hq' => ?_⟩
      · rcases Nat.lt_or_ge i qs.length with hlt | hge
        · rw [List.getElem?_append_left hlt] at hq'
          rw [List.getElem?_append_left (by omega)] at hx'
          obtain ⟨a1, a2, a3⟩ := hq i q' x' hq' hx'
          exact ⟨a1, a2, by rw [upd_ne a2]; exact e2 _ _ a3⟩
        · rw [List.getElem?_append_right hge] at hq'
          rw [List.getElem?_append_right (by omega)] at hx'
          have e6 : i - qs.length = 0 := by
            have := (List.getElem?_eq_some_iff.mp hq').1
            simp at this; omega
          rw [e6] at hq'
          rw [show i - p.length = 0 by omega] at hx'
          have : qn = q' := by simpa using hq'
          subst this
          have : y = x' := by simpa using hx'
          subst this
          exact ⟨Same.free e nq, nD2, by rw [upd_ne nD2]; exact hqn⟩
      · refine List.nodup_append.mpr ⟨ndq, by simp, fun x hx y hy e => ?_⟩
        simp at hy; subst hy; subst e
        exact hne _ hx nq
      · by_cases e9 : q' = D
        · subst e9; rw [upd_same]; exact fun z => nomatch z
        · rw [upd_ne e9]
          rcases List.mem_append.mp hq' with h | h
          · intro z
            cases h2 : H' q' with
            | none => exact hne _ h h2
            | some u => rw [e2 _ _ h2] at z; cases z
          · simp at h; subst h; rw [hqn]; exact fun z => nomatch z
  · obtain ⟨p, q, qs, el, ep, rfl, lq, e, hD, hq, ndq, _⟩ := r
    have : q = [] := by
      have h1 := congrArg List.length ep
      have h2 := congrArg List.length el
      rw [List.length_map, List.length_map] at h1
      rw [List.length_append] at h2
      exact List.eq_nil_of_length_eq_zero (by omega)
    subst this
    rw [List.append_nil] at el
    subst el
    exact he D H' qs nD e hD lq hq ndq
end
end LK

/-! ~machine -/
namespace LK
open PySem PySem.Spec PyProof.Rows L2 LamX ClX
open scoped List
section
variable {X : Cx} {k : Nat} {C : Addr} {sp : Sp}
def invI (C : Addr) (sp : Sp) : V → Hp → VK → Prop := fun x H Q => match x with
  | .ref a => ∃ dx fs, H a = some (.ins C dx fs) ∧ sp [.ref a] H Q E0
  | _ => False
theorem un_invI (F : HasM X.prog X.w X.K X.mg X.base k C "__invert__" [] sp) (hA : X.A.guards = some []) (hr : Room k X.A) : UnR X (unaryOp .Invert) (invI C sp) := by
  intro pins s σ H x v Q I rx h
  unfold invI at h
  split at h
  · rename_i a
    obtain ⟨dx, fs, ea, q⟩ := h
    obtain ⟨f, fd, F, hm, hb, _⟩ := F.ex
    obtain rfl : v = Value.ref a := rx
    obtain ⟨ox, od, J⟩ := inst_at I ea
    obtain ⟨m', hF⟩ := I.fr
    refine PySem.W.ksp_inv hF I.ok.mod.kin J hm.at_ hm.fn (runG (us := [.ref a]) (ws := [.ref a]) (kw := []) (CX := CX0) (E := E0) F hA hr pass0 I (fun n => ?_) (vs := [.ref a]) (.cons rfl .nil) q)
    have b := hb s [.ref a] I.kIn (by simpa using n)
    simpa using b
  · exact h.elim
end
section
variable {P : Program} {w : World} {K : PySem.W.Frag} {mg : Str → Option Value} {base : Heap} {C : Addr}
theorem scInv : FnScope ["self", "kind"] ["self"] (defScope sInv) := ⟨rfl, rfl, rfl, by decide +kernel, rfl, by decide +kernel, by decide +kernel⟩
def spInv (C : Addr) : Sp := fun vs H Q _ => ∃ (a : Addr) (S : List Nat) (R : Rows) (Kd : List Bool), vs = [.ref a] ∧ Mach C H a S R Kd ∧ ShOk S R Kd ∧ Whole R ∧ ∀ H' m, Same H H' → H m = none → MachN C H H' m S R (Kd.map not) → Q (.ref m) H'
theorem ok_invert {f : Addr} {fd : FuncData} {k : Nat} (F : Fun K "__invert__" "Machine.__invert__" sInv f fd) (cM : ClsM K C) (HI : HasI P w K mg base k "Machine" C ["letters", "rows", "kinds"] (spInit K C)) :
    FnG P w K mg base CX0 (k + 2) f fd ["self"] (spInv C) := by
  refine okG F scInv (fun vs H Q E h => ?_) (fun cdv A hA outer s H vs Q E hr h => ?_)
  · obtain ⟨a, S, R, Kd, rfl, _⟩ := h; rfl
  · obtain ⟨a, S, R, Kd, rfl, mm, ok, wh, q⟩ := h
    have nd := scInv.nd
    have sl := sizeLine_eq
    have hhi := ok.hi
    have kl := ok.kinds
    refine ⟨_, pss_one (ps_ret (pe_mkI HI hA hr (by rfl) (pa_cons (pe_fldU (uv 0)) (pa_cons (pe_fldU (uv 0)) (pa_cons (pe_lc (own := [("kind", 1)]) (g := gName 1) (tt := tYes) rfl nd (pi_list (pe_fldU (uv 0)))
        (blkOk_by (N := ["self", "kind"]) (sc := defScope sInv) (by decide +kernel)) (fun _ _ _ _ _ => pg_name (i := 1) nd rfl (Or.inl rfl)) (fun _ _ _ _ _ => pts_nil) (fun _ _ _ _ _ => pe_notU (uv 1))) pa_nil))))), ?_⟩
    obtain ⟨dx, r, kk, rs, h1, h2, h3, h4, h5⟩ := id mm
    refine ⟨C, dx, _, .str (T S), h1, cM.cls, cM.nL, rfl, C, dx, _, .ref r, h1, cM.cls, cM.nR, rfl, ?_⟩
    refine lc_mapS (K := K) (t := uFld K "_kinds" (uVar 0)) (a := kk) (ls := Kd) (enc := V.bl) (out := fun b => V.bl (!b)) (H := H) (H1 := H) (fun R' h => ⟨C, dx, _, .ref kk, h1, cM.cls, cM.nK, rfl, h⟩) h5 (by omega) (fun H' x hx e Qy hy => ?_) (fun D H' nD e hD => ?_)
    · exact ⟨rfl, hy H' (Same.refl _)⟩
    · refine ⟨rfl, ?_⟩
      refine mach_newN (R := R) (Kd := Kd.map not) ⟨ok.let_, ok.rows, ok.lo, ok.hi, by rw [List.length_map]; exact kl⟩ wh (RowsL.at ⟨rs, e _ _ h2, h3, fun i p hp => e _ _ (h4 i p hp)⟩) ⟨false, .inl (.inl (by rw [hD, List.map_map]; rfl))⟩ fun H5 m e5 nm mach => q H5 m (e.trans e5) (same_none e nm) (mach.of e)
end
end LK

namespace LK
open PySem PySem.Spec PyProof.Rows L2 LamX
/-! k74: _law_pot, _law_draw, _law_pick -/
open scoped List
section
variable {P : Program} {w : World} {K : PySem.W.Frag} {mg : Str → Option Value} {base : Heap} (TT : List (Addr × Str))
/-! ### _law_pot -/
theorem scPot : FnScope ["_law_script", "_law_k", "_law_cell"] ["_law_script", "_law_k"] (defScope sPot) := ⟨rfl, rfl, rfl, by decide +kernel, rfl, by decide +kernel, by decide +kernel⟩
def spPot (K : PySem.W.Frag) : Sp := fun vs H Q _ => ∃ (a : Addr) (ns : List Int) (k : Nat), vs = [.ref a, .int k] ∧ SqL K H a (ns.map V.int) ∧ k ≤ 10 ∧ ∀ H' p, Same H H' → H p = none → Pot H' p → Q (.ref p) H'
theorem atI_nat' {α : Type} {xs : List α} {k : Nat} {x : α} (h : xs[k]? = some x) : atI xs (k : Int) = some x := atI_nat h
theorem ok_pot {f : Addr} {fd : FuncData} {k : Nat} (F : Fun K "_law_pot" "_law_pot" sPot f fd) (M : Mx mg) : FnG P w K mg base CX0 (k + 1) f fd ["_law_script", "_law_k"] (spPot K) := by
  refine okG F scPot (fun vs H Q E h => ?_) (fun cdv A hA outer s H vs Q E hr h => ?_)
  · obtain ⟨a, ns, k, rfl, _⟩ := h; rfl
  · obtain ⟨a, ns, k, rfl, hs, hk, q⟩ := h
    have nd := scPot.nd
    refine ⟨_, pss_cons (ps_set (i := 2) nd rfl (.inl rfl) (pe_op o_add (pe_op o_mul pe_int (uv 1)) pe_int))
      (pss_cons (ps_ifU (pt_cu o_lt (uv 1) (pe_callB c_len (by rfl) M.len b_len (pa_cons (uv 0) pa_nil)))
        (pss_one (ps_set (i := 2) nd rfl (.inl rfl) (pe_callB c_abs (by rfl) M.abs b_abs (pa_cons (pe_ixU (uv 0) (uv 1)) pa_nil)))) pss_nil)
      (pss_one (ps_ret (pe_lst (pa_cons (pe_callB (c_max2 rfl) (by rfl) M.max b_max (pa_cons pe_int (pa_cons (pe_op o_sub (uv 2) (pe_op o_pow pe_int pe_int)) pa_nil)))
        (pa_cons (pe_op o_add (pe_op o_mod (pe_callTy c_int (by rfl) M.int b_int (pa_cons (pe_op o_add (pe_op o_mul (pe_op o_mod (pe_callTy c_int (by rfl) M.int b_int (pa_cons (uv 2) pa_nil)) pe_int) (pe_op o_add (pe_op o_mul pe_int (uv 1)) pe_int)) pe_int) pa_nil)) pe_int) pe_int) pa_nil)))))), ?_⟩
    refine ⟨.inl ⟨by decide, by decide⟩, ?_⟩
    have fin : ∀ cell : Int, 0 ≤ cell → (tRet (tLst (tCons (tCB (mm2U max) (tCons (tC (.int 0)) (tCons (tOp rSubU (uVar 2) (tOp rPowU (tC (.int 10)) (tC (.int 18)))) tNil)))
        (tCons (tOp rAddU (tOp rModU (tCB intU (tCons (tOp rAddU (tOp rMulU (tOp rModU (tCB intU (tCons (uVar 2) tNil)) (tC (.int 2147483563))) (tOp rAddU (tOp rMulU (tC (.int 2)) (uVar 1)) (tC (.int 3)))) (tC (.int 157))) tNil)) (tC (.int 2147483543))) (tC (.int 1))) tNil))))
        { nx := fun x H' => Q V.non H', rt := Q } [some (.ref a), some (.int k), some (.int cell)] H := by
      intro cell hc
      refine ⟨⟨by decide, by decide, by decide⟩, ?_⟩
      refine ⟨by decide, .inl ⟨by decide, by decide⟩, .inr ⟨by omega, by omega⟩, by decide, ?_⟩
      refine ⟨by show 2 ≤ sizeLine; decide, fun p np => ?_⟩
      refine q _ p (same_upd np) np ⟨_, _, ?_, ?_, ?_, upd_same⟩
      · exact Int.le_max_left _ _
      · have := Int.emod_nonneg (cell % 2147483563 * (2 * (k : Int) + 3) + 157) (b := 2147483543) (by decide)
        omega
      · have := Int.emod_lt_of_pos (cell % 2147483563 * (2 * (k : Int) + 3) + 157) (b := 2147483543) (by decide)
        omega
    refine .inl ⟨_, .inl hs, ?_⟩
    refine .d (fun hlt => ?_) (fun _ => ?_)
    · rw [List.length_map] at hlt
      have hk : k < ns.length := by omega
      have hx : (ns.map V.int)[k]? = some (.int ns[k]) := by rw [List.getElem?_map, List.getElem?_eq_getElem hk]; rfl
      exact ⟨_, _, .inl hs, atI_nat hx, fin _ (by omega)⟩
    · exact fin _ (by omega)
/-! ### _law_draw -/
theorem scDraw : FnScope ["_law_pot_here", "_law_size", "_law_digit"] ["_law_pot_here", "_law_size"] (defScope sDraw) := ⟨rfl, rfl, rfl, by decide +kernel, rfl, by decide +kernel, by decide +kernel⟩
def spDraw : Sp := fun vs H Q _ => ∃ (p : Addr) (n : Nat), vs = [.ref p, .int n] ∧ 0 < n ∧ n ≤ 1000 ∧ Pot H p ∧ ∀ H' (d : Nat), Ex TT (at1 p) H H' → Pot H' p → d < n → Q (.int d) H'
theorem Pot.sq {H : Hp} {p : Addr} {i j : Int} (h : H p = some (.lst [.int i, .int j])) : SqL K H p [V.int i, V.int j] := .inl (.inl h)
theorem ok_draw {f : Addr} {fd : FuncData} {k : Nat} (F : Fun K "_law_draw" "_law_draw" sDraw f fd) (M : Mx mg) : FnG P w K mg base CX0 (k + 1) f fd ["_law_pot_here", "_law_size"] (spDraw TT) := by
  refine okG F scDraw (fun vs H Q E h => ?_) (fun cdv A hA outer s H vs Q E hr h => ?_)
  · obtain ⟨p, n, rfl, _⟩ := h; rfl
  · obtain ⟨p, n, rfl, h0, h1, hp, q⟩ := h
    have nd := scDraw.nd
    refine ⟨_, pss_cons (ps_ifU (pt_cu o_gt (pe_ixU (uv 0) pe_int) pe_int)
        (pss_cons (ps_asg (pe_callB c_divmod (by rfl) M.divmod b_divmod (pa_cons (pe_ixU (uv 0) pe_int) (pa_cons (uv 1) pa_nil))) (pg_tup rfl (pgs_cons (pg_sub (uv 0) pe_int set_list) (pgs_cons (pg_name (i := 2) nd rfl (.inl rfl)) pgs_nil))) rfl)
          (pss_one (ps_ret (uv 2)))) pss_nil)
      (pss_cons (ps_asg (pe_op o_mod (pe_callTy c_int (by rfl) M.int b_int (pa_cons (pe_op o_add (pe_op o_mul (pe_ixU (uv 0) pe_int) pe_int) pe_int) pa_nil)) pe_int) (pg_sub (uv 0) pe_int set_list) rfl)
      (pss_one (ps_ret (pe_op o_mod (pe_callTy c_int (by rfl) M.int b_int (pa_cons (pe_op o_fdiv (pe_op o_mod (pe_callTy c_int (by rfl) M.int b_int (pa_cons (pe_op o_mul (pe_ixU (uv 0) pe_int) (pe_ixU (uv 0) pe_int)) pa_nil)) pe_int) pe_int) pa_nil)) (uv 1))))), ?_⟩
    obtain ⟨i, j, hi, hj, hj2, hp⟩ := hp
    have hsq : SqL K H p [V.int i, V.int j] := .inl (.inl hp)
    have cd : CDiv i (n : Int) := ⟨by omega, by omega⟩
    refine ⟨_, V.int i, .inl hsq, rfl, ?_⟩
    refine .d (fun hlt => ?_) (fun _ => ?_)
    · refine ⟨_, V.int i, .inl hsq, rfl, cd, fun p' np => ?_⟩
      have ne : p ≠ p' := ne_of_none hp np
      have hp2 : (upd H p' (.tup [V.int (i / n), V.int (i % n)])) p = some (.lst [.int i, .int j]) := by rw [upd_ne ne]; exact hp
      refine ⟨p', _, rfl, .inl (.inl upd_same), rfl, _, _, rfl, p, _, 0, 0, rfl, rfl, hp2, rfl, ?_⟩
      refine ⟨_, _, rfl, rfl, ?_⟩
      have m0 := Int.emod_nonneg i (b := (n : Int)) (by omega)
      have m1 := Int.emod_lt_of_pos i (b := (n : Int)) (by omega)
      have e : i % (n : Int) = ((i % (n : Int)).toNat : Int) := by omega
      have r := q (upd (upd H p' (.tup [V.int (i / n), V.int (i % n)])) p (.lst ([V.int i, V.int j].set 0 (V.int (i / n))))) (i % (n : Int)).toNat
        ((Ex.new np).trans (Ex.write rfl hp2 (fun _ z => nomatch z) (fun _ _ z => nomatch z))) ⟨i / n, j, Int.ediv_nonneg hi (by omega), hj, hj2, upd_same⟩ (by omega)
      rw [← e] at r
      exact r
    · refine ⟨_, V.int j, .inl hsq, rfl, .inr ⟨by decide, by decide⟩, by decide, ?_⟩
      have m0 := Int.emod_nonneg (j * 48271 + 14107) (b := 2147483587) (by decide)
      have m1 := Int.emod_lt_of_pos (j * 48271 + 14107) (b := 2147483587) (by decide)
      refine ⟨p, _, 1, 1, rfl, rfl, hp, rfl, ?_⟩
      generalize (j * 48271 + 14107) % 2147483587 = g at m0 m1
      have hp2 : (upd H p (.lst ([V.int i, V.int j].set 1 (V.int g)))) p = some (.lst [.int i, .int g]) := upd_same
      refine ⟨_, V.int g, .inl (.inl (.inl hp2)), rfl, _, V.int g, .inl (.inl (.inl hp2)), rfl, .inl ⟨by omega, by omega⟩, by decide, ⟨by decide, by decide⟩, by omega, ?_⟩
      generalize g * g % 2147483549 / 17 = y
      have m2 := Int.emod_nonneg y (b := (n : Int)) (by omega)
      have m3 := Int.emod_lt_of_pos y (b := (n : Int)) (by omega)
      have e : y % (n : Int) = ((y % (n : Int)).toNat : Int) := by omega
      have r := q _ (y % (n : Int)).toNat (Ex.write rfl hp (fun _ z => nomatch z) (fun _ _ z => nomatch z)) ⟨i, g, hi, m0, by omega, hp2⟩ (by omega)
      rw [← e] at r
      exact r
theorem scPick : FnScope ["_law_pot_here", "_law_pack"] ["_law_pot_here", "_law_pack"] (defScope sPick) := ⟨rfl, rfl, rfl, by decide +kernel, rfl, by decide +kernel, by decide +kernel⟩
/-- one of a list -/
def spPick : Sp := fun vs H Q _ => ∃ (p a : Addr) (xs : List V), vs = [.ref p, .ref a] ∧ Pot H p ∧ a ≠ p ∧ H a = some (.lst xs) ∧ 0 < xs.length ∧ xs.length ≤ 1000 ∧ ∀ H' x, Ex TT (at1 p) H H' → Pot H' p → x ∈ xs → Q x H'
theorem ok_pick {f : Addr} {fd : FuncData} {k : Nat} (F : Fun K "_law_pick" "_law_pick" sPick f fd) (M : Mx mg) (HD : Has P w K mg base k "_law_draw" ["_law_pot_here", "_law_size"] (spDraw TT)) : FnG P w K mg base CX0 (k + 1) f fd ["_law_pot_here", "_law_pack"] (spPick TT) := by
  refine okG F scPick (fun vs H Q E h => ?_) (fun cdv A hA outer s H vs Q E hr h => ?_)
  · obtain ⟨p, a, xs, rfl, _⟩ := h; rfl
  · obtain ⟨p, a, xs, rfl, hp, ne, ha, h0, h1, q⟩ := h
    refine ⟨_, pss_one (ps_ret (pe_ixU (uv 1) (pe_callH HD hA hr (by rfl) (pa_cons (uv 0) (pa_cons (pe_callB c_len (by rfl) M.len b_len (pa_cons (uv 1) pa_nil)) pa_nil))))), ?_⟩
    refine .inl ⟨xs, .inl (.inl (.inl ha)), p, xs.length, rfl, h0, h1, hp, fun H' d e hp' hd => ?_⟩
    exact ⟨xs, xs[d], .inl (.inl (.inl (e.keep _ _ ne ha fun _ z => nomatch z))), atI_nat (List.getElem?_eq_getElem hd), q H' _ e hp' (List.getElem_mem hd)⟩
end
end LK

/-! least texts: lengths, look-ups -/
namespace LK
open PySem PySem.Spec PyProof.Rows L2 LamX
open scoped List
def txs (f : Ents) : List (Nat × V) := f.map fun e => (e.1, V.str (T e.2))
theorem txs_keys (f : Ents) : (txs f).map (·.1) = f.map (·.1) := by unfold txs; rw [List.map_map]; rfl
theorem txs_app (f : Ents) (e : Nat × List Nat) : txs (f ++ [e]) = txs f ++ [(e.1, V.str (T e.2))] := by unfold txs; rw [List.map_append]; rfl
theorem txs_look : ∀ {f : Ents} {p : Nat} {t : List Nat}, (f.map (·.1)).Nodup → (p, t) ∈ f → (txs f).lookup p = some (.str (T t))
  | [], _, _, _, h => nomatch h
  | (a, x) :: f, p, t, nd, h => by
    obtain ⟨n1, n2⟩ := List.nodup_cons.mp nd
    show List.lookup p ((a, V.str (T x)) :: txs f) = _
    rcases List.mem_cons.mp h with e | h
    · cases e; exact List.lookup_cons_self
    · have ne : p ≠ a := fun e => n1 (e ▸ List.mem_map.mpr ⟨(p, t), h, rfl⟩)
      rw [List.lookup_cons]
      have : (p == a) = false := by simpa using ne
      rw [this]
      exact txs_look n2 h
theorem add1T_pre {t : List Nat} {f : Ents} {cg : Nat × Nat} : f <+: add1T t f cg := by
  unfold add1T; split
  · exact List.prefix_refl _
  · exact List.prefix_append _ _
theorem addsT_pre {t : List Nat} : ∀ {cs : List (Nat × Nat)} {f : Ents}, f <+: addsT t f cs
  | [], _ => List.prefix_refl _
  | cg :: cs, f => add1T_pre.trans (addsT_pre (cs := cs) (f := add1T t f cg))
theorem addsT_app {t : List Nat} {f : Ents} {cs : List (Nat × Nat)} {cg : Nat × Nat} : addsT t f (cs ++ [cg]) = add1T t (addsT t f cs) cg := by unfold addsT; rw [List.foldl_append]; rfl
theorem addsT_nd {t : List Nat} {f : Ents} {cs : List (Nat × Nat)} (h : (f.map (·.1)).Nodup) : ((addsT t f cs).map (·.1)).Nodup := by rw [addsT_keys]; exact nd_adds h
theorem addsT_len {t : List Nat} {n : Nat} (ht : t.length < n) : ∀ {cs : List (Nat × Nat)} {f : Ents}, (∀ e ∈ f, e.2.length ≤ n) → ∀ e ∈ addsT t f cs, e.2.length ≤ n
  | [], f, h => h
  | cg :: cs, f, h => by
    refine addsT_len ht (cs := cs) (f := add1T t f cg) fun e he => ?_
    unfold add1T at he
    split at he
    · exact h e he
    · rcases List.mem_append.mp he with he | he
      · exact h e he
      · simp at he; rw [he]; simp; omega
section
variable {R : Rows} {s : Nat} {S : List Nat}
theorem fndT_len : ∀ i, ∀ e ∈ fndT S R s i, e.2.length ≤ i
  | 0, e, h => by simp [fndT] at h; rw [h]; simp
  | i + 1, e, h => by
    have ih := fndT_len i
    cases hp : (fndT S R s i)[i]? with
    | none =>
      have e1 : fndT S R s (i + 1) = fndT S R s i := by
        show (match (fndT S R s i)[i]? with | some e => addsT e.2 (fndT S R s i) (S.zip (gls R e.1)) | none => fndT S R s i) = _
        rw [hp]
      rw [e1] at h
      exact Nat.le_succ_of_le (ih e h)
    | some p =>
      rw [fndT_step hp] at h
      exact addsT_len (Nat.lt_succ_of_le (ih p (List.mem_of_getElem? hp))) (fun e he => Nat.le_succ_of_le (ih e he)) e h
theorem fndT_pre1 (i : Nat) : fndT S R s i <+: fndT S R s (i + 1) := by
  show _ <+: (match (fndT S R s i)[i]? with | some e => addsT e.2 (fndT S R s i) (S.zip (gls R e.1)) | none => fndT S R s i)
  split
  · exact addsT_pre
  · exact List.prefix_refl _
theorem fndT_pre {i j : Nat} (h : i ≤ j) : fndT S R s i <+: fndT S R s j := by
  induction j with
  | zero => obtain rfl : i = 0 := by omega
            exact List.prefix_refl _
  | succ j ih =>
    by_cases e : i = j + 1
    · rw [e]; exact List.prefix_refl _
    · exact (ih (by omega)).trans (fndT_pre1 j)
theorem fndT_nd (ok : RowsOk R S.length) (hs : s < R.length) (i : Nat) : ((fndT S R s i).map (·.1)).Nodup := by rw [fndT_keys ok hs]; exact fnd_nd i
theorem fndT_le (ok : RowsOk R S.length) (hs : s < R.length) (i : Nat) : (fndT S R s i).length ≤ R.length := by
  rw [← List.length_map (f := (·.1)), fndT_keys ok hs]; exact fnd_len ok hs i
end
end LK

/-! walks over a dict's keys in a comprehension; what comes of known values -/
namespace LK
open PySem PySem.Spec PyProof.Rows L2 LamX
open scoped List
theorem wk_keys {d : Addr} {o : Obj} {kvs : List (Key × V)} : Wk (Itk d o kvs) (kvs.map fun kv => kV kv.1) (fun H => H d = some (.frz o (.dK kvs))) := by
  refine ⟨fun i H h l => ⟨h, by rw [List.length_map] at l; exact l⟩, fun i H x H' h _ y => ?_, fun i H h l => ⟨h, by rw [List.length_map] at l; exact l⟩⟩
  obtain ⟨e, k, v, hk, rfl⟩ := y
  exact ⟨e, by rw [List.getElem?_map, hk]; rfl⟩
/-! the same rules, K said by itself: within a comprehension -/
section
variable {X : Cx} {K : PySem.W.Frag} {a b e tg : Expr} {ta tb te : TE} {pos : Pos}
theorem pe_ixK (hK : X.K = K) (ha : PE X a ta) (hb : PE X b tb) (hs : PlainIx b := by exact fun _ _ => rfl) : PE X (.Subscript a b pos) (tOp (ixU K) ta tb) := hK ▸ pe_ixU ha hb hs
theorem pi_sqK (hK : X.K = K) (he : PE X e te) : PI X tg e (iSq K te) := hK ▸ pi_sq he
theorem pi_listK (hK : X.K = K) (he : PE X e te) : PI X tg e (iList K te) := hK ▸ pi_list he
end
/-- a comprehension within a comprehension: its free names are cells or free names of the outer one -/
theorem relook {env : Env} {x : Str} : ∀ {names : List (Str × NameKind)}, (names.lookup x = some .cell ∨ names.lookup x = some .free) →
    ((names.map fun (n, k) => if (k == NameKind.free && env.scope.kind == .function && env.kindOf n == some .cell) then (n, NameKind.cell) else (n, k)).lookup x = some .cell ∨
      (names.map fun (n, k) => if (k == NameKind.free && env.scope.kind == .function && env.kindOf n == some .cell) then (n, NameKind.cell) else (n, k)).lookup x = some .free)
  | [], h => by rcases h with h | h <;> cases h
  | (n, k) :: r, h => by
    have ih := relook (env := env) (names := r) (x := x)
    simp only [List.map_cons]
    by_cases e : x = n
    · subst e
      rw [List.lookup_cons_self] at h
      by_cases c : (k == NameKind.free && env.scope.kind == .function && env.kindOf x == some .cell) = true
      · rw [if_pos c, List.lookup_cons_self]; exact .inl rfl
      · rw [if_neg c, List.lookup_cons_self]; exact h
    · have ne : (x == n) = false := by simpa using e
      rw [List.lookup_cons, ne] at h
      by_cases c : (k == NameKind.free && env.scope.kind == .function && env.kindOf n == some .cell) = true
      · rw [if_pos c, List.lookup_cons, ne]; exact ih h
      · rw [if_neg c, List.lookup_cons, ne]; exact ih h
theorem blkOk_in {env : Env} {N : List Str} {sc scope : Scope} {own : List (Str × Nat)} (h : blkC N sc scope own = true) : BlkOk N (relabel sc env) scope own :=
  let b := blkOk_by h
  ⟨b.kind, b.uniq, b.ix, fun y hy e => relook (b.free y hy e), b.own⟩
/-- the scope of a list comprehension -/
def lcScope : Expr → Scope
  | .ListComp _ _ sc _ => sc
  | _ => defScope (.Pass ⟨0, 0, 0, 0⟩)
/-- what the i-th statement of a def assigns or returns -/
def bodyVal (st : Stmt) (i : Nat) : Expr := match (defBody st).getD i (.Pass ⟨0, 0, 0, 0⟩) with
  | .Assign _ e _ => e
  | .Return (some e) _ => e
  | _ => .Name "" ⟨0, 0, 0, 0⟩
section
variable {K : PySem.W.Frag} {g : TG} {te : TE} {σ : L2.St} {H H1 : Hp} {vs : List Nat} {Q : VK} {t : TE}
/-- a comprehension over the keys of a locked dict: y i comes of the i-th key; all else stays -/
theorem lc_keys {d : Addr} {o : Obj} {kvs : List (Key × V)} (h : At t σ H (.ref d) H1) (hd : H1 d = some (.frz o (.dK kvs))) (R : Addr → List V → List V → Hp → Prop)
    (hP : ∀ D pre acc H, R D pre acc H → H d = some (.frz o (.dK kvs))) (h0 : ∀ D, H1 D = none → R D [] [] (upd H1 D (.lst [])))
    (hs : ∀ D, H1 D = none → ∀ pre acc x suf H, (kvs.map fun kv => kV kv.1) = pre ++ x :: suf → R D pre acc H → g x (wipe σ vs) H fun σ2 H2 => wipe σ2 vs = wipe σ vs ∧ te σ2 H2 fun y H4 =>
      ∃ acc, H4 D = some (.lst acc) ∧ acc.length < sizeLine ∧ ∃ a, R D (pre ++ [x]) a (upd H4 D (.lst (acc ++ [y]))))
    (he : ∀ D, H1 D = none → ∀ acc H, R D (kvs.map fun kv => kV kv.1) acc H → Q (.ref D) H) : tLc (iKeys t) g tYes te vs σ H Q :=
  h _ ⟨d, o, rfl, .inl ⟨kvs, hd, fun D nD => lc_wk wk_keys (fun pre acc H => R D pre acc H) (hP D) (h0 D nD) (hs D nD) (he D nD)⟩⟩
end
theorem keys_nums (f : List Nat) : ((kmp (nums f)).map fun kv => kV kv.1) = iv f := by
  unfold kmp
  rw [List.map_map]
  have : ((fun kv : Key × V => kV kv.1) ∘ fun p : Nat × V => (kI p.1, p.2)) = (fun g : Nat => V.int (g : Int)) ∘ Prod.fst := rfl
  rw [this, ← List.map_map, nums_keys]
theorem split_iv {f : List Nat} {pre suf : List V} {x : V} (h : iv f = pre ++ x :: suf) : ∃ p g q, f = p ++ g :: q ∧ pre = iv p ∧ x = .int (g : Nat) := by
  obtain ⟨p, q, e1, e2, e3⟩ := List.map_eq_append_iff.mp h
  obtain ⟨g, q', rfl, rfl, _⟩ := List.map_eq_cons_iff.mp e3
  exact ⟨p, g, q', e1, e2.symm, rfl⟩
end LK

/-! k74: _law_met -/
namespace LK
open PySem PySem.Spec PyProof.Rows L2 LamX
open scoped List
section
variable {X : Cx} {K : PySem.W.Frag} {o e : Expr} {es : List Expr} {to : TE} {t : TA} {name : Str} {apos cpos : Pos} {T id : String} {r : V → List V → Hp → VK → Prop}
theorem pe_bmK (hK : X.K = K) (pa : PlainAttrs T) (slot : Slot T name id) (hty : typeOf (.builtin id) = pure (.type "method_descriptor")) (hm : MtR X id r) (ho : PE X o to) (ha : PA X (e :: es) t)
    (hbase : attributeBase o name X.env (eval o X.env) = eval o X.env := by rfl)
    (hfew : ((backTo cpos (starEach (e :: es) X.env)).all (fun x => !x.1) && (backToKw cpos (keywordEach [] X.env)).all (fun x => x.1.isSome)
      && decide ((e :: es).length + ([] : List Keyword).length + (if ([] : List Keyword).isEmpty then 0 else 1) < 30)) = true := by rfl)
    (hline : (apos.endLine == cpos.line) = true := by rfl) (hs : starEach (e :: es) X.env = (false, eval e X.env) :: starEach es X.env := by rfl) (hplain : (backTo cpos (starEach es X.env)).any (·.1) = false := by rfl) :
    PE X (.Call (.Attribute o name apos) (e :: es) [] cpos) (tBM K T r to t) := hK ▸ pe_bm pa slot hty hm ho ha hbase hfew hline hs hplain
theorem mt_indexK (hK : X.K = K) : MtR X "list.index" (rIndex K) := hK ▸ mt_index
end
theorem iv_map (l : List Nat) (f : Nat → Nat) : iv (l.map f) = l.map fun x => V.int (f x : Nat) := List.map_map
theorem eq_iv (a b : Nat) : eqV (.int (a : Int)) (.int (b : Int)) = decide (a = b) := by
  show ((a : Int) == (b : Int)) = _
  rw [Bool.eq_iff_iff, beq_iff_eq, decide_eq_true_eq]
  omega
theorem idx_le : ∀ {f : List Nat} {m y : Nat}, f[m]? = some y → f.idxOf y ≤ m
  | [], m, y, h => by simp at h
  | a :: f, 0, y, h => by
    have : a = y := by simpa using h
    subst this; simp
  | a :: f, m + 1, y, h => by
    have h : f[m]? = some y := by simpa using h
    rw [List.idxOf_cons]
    cases e : a == y with
    | true => show 0 ≤ _; omega
    | false => have := idx_le h; show f.idxOf y + 1 ≤ _; omega
/-- the place of g in a list -/
theorem idx_ok {f : List Nat} {g : Nat} (h : g ∈ f) : (iv f)[f.idxOf g]? = some (.int (g : Nat)) ∧ ∀ (m : Nat) (z : V), m < f.idxOf g → (iv f)[m]? = some z → eqV z (.int (g : Nat)) = false := by
  refine ⟨by rw [List.getElem?_map, idx_get h]; rfl, fun m z hm hz => ?_⟩
  rw [List.getElem?_map] at hz
  obtain ⟨y, hy, rfl⟩ := Option.map_eq_some_iff.mp hz
  rw [eq_iv, decide_eq_false_iff_not]
  intro e
  subst e
  have := idx_le hy
  omega
section
variable {P : Program} {w : World} {K : PySem.W.Frag} {mg : Str → Option Value} {base : Heap}
abbrev nLMet : List Str := ["_law_rows_here", "_law_order", "_law_at", "_law_step", "_law_spot"]
theorem scLMet : FnScope nLMet ["_law_rows_here"] (defScope sLMet) := ⟨rfl, rfl, rfl, by decide +kernel, rfl, by decide +kernel, by decide +kernel⟩
abbrev scM1 : Scope := { kind := .function, names := [(".0", .local), ("_law_spot", .local), ("_law_order", .free), ("_law_rows_here", .free)], isGenerator := false, isCoroutine := false }
theorem uv_go {σ : L2.St} {i : Nat} {v : V} {H : Hp} {Q : VK} (h : σ[i]? = some (some v)) (q : Q v H) : uVar i σ H Q := by
  unfold uVar; rw [h]; exact q
/-- the rows with other numbers: new lists all through -/
def RowsN (H0 H : Hp) (r : Addr) (R : Rows) : Prop := H0 r = none ∧ ∃ rs : List Addr, H r = some (.lst (rs.map V.ref)) ∧ rs.length = R.length ∧ (∀ i p, rs[i]? = some p → H0 p = none ∧ p ≠ r ∧ H p = some (.lst (iv (gls R i)))) ∧ rs.Nodup
theorem RowsN.l {H0 H : Hp} {r : Addr} {R : Rows} (h : RowsN H0 H r R) : RowsL H r R := by
  obtain ⟨_, rs, h1, h2, h3, _⟩ := h
  exact ⟨rs, h1, h2, fun i p hp => (h3 i p hp).2.2⟩
theorem RowsN.of {H0 H1 H : Hp} {r : Addr} {R : Rows} (h : RowsN H1 H r R) (e : Same H0 H1) : RowsN H0 H r R := by
  obtain ⟨h0, rs, h1, h2, h3, h4⟩ := h
  exact ⟨same_none e h0, rs, h1, h2, fun i p hp => ⟨same_none e (h3 i p hp).1, (h3 i p hp).2⟩, h4⟩
/-- list.index of a place in a list of places -/
theorem index_go {K : PySem.W.Frag} {H : Hp} {a : Addr} {L : List Nat} {g : Nat} {Q : VK} (hL : H a = some (.lst (iv L))) (hg : g ∈ L) (q : Q (.int (L.idxOf g : Nat)) H) : rIndex K (.ref a) [.int (g : Nat)] H Q := by
  obtain ⟨i1, i2⟩ := idx_ok hg
  exact ⟨a, iv L, .int (g : Nat), L.idxOf g, .int (g : Nat), rfl, rfl, .inl (.inl hL), rfl, flat_iv _, i1, by rw [eq_iv]; simp, i2, q⟩
def spLMet : Sp := fun vs H Q _ => ∃ (r : Addr) (m : Nat) (R : Rows), vs = [.ref r] ∧ RowsL H r R ∧ RowsOk R m ∧ m ≤ 3 ∧ 0 < R.length ∧ R.length ≤ 1000 ∧ ∀ H' p, Same H H' → RowsN H H' p (rn R (met R 0)) → Q (.ref p) H'
theorem ok_lmet {f : Addr} {fd : FuncData} {k : Nat} (F : Fun K "_law_met" "_law_met" sLMet f fd) (M : Mx mg) : FnG P w K mg base CX0 (k + 1) f fd ["_law_rows_here"] spLMet := by
  refine okG F scLMet (fun vs H Q E h => ?_) (fun cdv A hA outer s H vs Q E hr h => ?_)
  · obtain ⟨r, m, R, rfl, _⟩ := h; rfl
  · obtain ⟨r, m, R, rfl, ⟨rs, hs', hl', hrow'⟩, ok, hm3, hs, hn, q⟩ := h
    have nd := scLMet.nd
    have sl := sizeLine_eq
    refine ⟨_, pss_cons (ps_asg (pe_tup (pa_cons (pe_lst (pa_cons pe_int pa_nil)) (pa_cons pe_int pa_nil))) (pg_tup rfl (pgs_cons (pg_name (i := 1) nd rfl (.inr rfl)) (pgs_cons (pg_name (i := 2) nd rfl (.inl rfl)) pgs_nil))) rfl)
      (pss_cons (ps_while PassesOwn.never (pt_cl (pt_cu o_lt (uv 2) (pe_callB c_len (by rfl) M.len b_len (pa_cons (uv 1) pa_nil))))
        (pss_cons (ps_for PassesOwn.never rfl (pi_list (pe_ixU (uv 0) (pe_ixU (uv 1) (uv 2)))) (pg_name (i := 3) nd rfl (.inl rfl))
          (pss_one (ps_ifU (pt_cu op_notIn_seq (uv 3) (uv 1) (by rfl))
            (pss_one (ps_expr (pe_bm PySem.F.plainAttrs_list PySem.F.slot_list_append PySem.F.type_list_append mt_append (uv 1) (pa_cons (uv 3) pa_nil)))) pss_nil)))
        (pss_one (ps_set (i := 2) nd rfl (.inl rfl) (pe_op o_add (uv 2) pe_int)))))
      (pss_one (ps_ret (pe_lc (own := [("_law_spot", 4)]) (g := gName 4) (tt := tYes) rfl nd (pi_list (uv 1)) (blkOk_by (N := nLMet) (sc := defScope sLMet) (by decide +kernel))
        (fun _ _ _ _ _ => pg_name (i := 4) nd rfl (Or.inl rfl)) (fun _ _ _ _ _ => pts_nil)
        (fun _ _ _ _ _ => pe_lc (own := [("_law_step", 3)]) (g := gName 3) (tt := tYes) rfl nd (pi_listK (K := K) rfl (pe_ixK (K := K) rfl (uv 0) (uv 4))) (blkOk_in (N := nLMet) (sc := scM1) (by decide +kernel))
          (fun _ _ _ _ _ => pg_name (i := 3) nd rfl (Or.inl rfl)) (fun _ _ _ _ _ => pts_nil)
          (fun _ _ _ _ _ => pe_bmK (K := K) rfl PySem.F.plainAttrs_list PySem.F.slot_list_index PySem.F.type_list_index (mt_indexK (K := K) rfl) (uv 1) (pa_cons (uv 3) pa_nil))))))), ?_⟩
    refine ⟨by show 1 ≤ sizeLine; omega, fun B nB => ?_⟩
    refine ⟨by show 2 ≤ sizeLine; omega, fun U nU => ?_⟩
    refine ⟨U, _, rfl, .inl (.inl upd_same), rfl, _, _, rfl, _, _, rfl, rfl, ?_⟩
    have nBU : B ≠ U := ne_of_none upd_same nU
    have eU : Same H (upd (upd H B (.lst [.int 0])) U (.tup [.ref B, .int 0])) := same_upd2 (same_upd nB) (Same.free (same_upd nB) nU)
    have hB0 : (upd (upd H B (.lst [.int 0])) U (.tup [.ref B, .int 0])) B = some (.lst (iv [0])) := by rw [upd_ne nBU]; exact upd_same
    generalize upd (upd H B (.lst [.int 0])) U (.tup [.ref B, .int 0]) = H0 at eU hB0
    show tWhile _ _ _ _ _
    refine wh (m0 := R.length) (fun mm σ H2 => ∃ i y4, mm = R.length - i ∧ i ≤ (fnd R 0 i).length ∧ Same H H2 ∧ H2 B = some (.lst (iv (fnd R 0 i))) ∧ σ = [some (.ref r), some (.ref B), some (.int (i : Nat)), y4, none])
      ⟨0, none, rfl, Nat.zero_le _, eU, hB0, rfl⟩ (fun mm σ H2 iv2 => ?_) (fun σ H Q Q' hm h => ?_)
    case refine_2 =>
      obtain ⟨Q0, h0, m0⟩ := h
      exact ⟨Q0, h0, fun v H' z => hm _ _ (m0 v H' z)⟩
    obtain ⟨i, y4, rfl, hi, e2, hB, rfl⟩ := iv2
    have hf := fnd_len ok hs i
    generalize hfe : fnd R 0 i = fi at hi hB hf
    have li : (iv fi).length = fi.length := List.length_map _
    refine ⟨fun b H' => b = decide ((i : Int) < ((iv fi).length : Int)) ∧ H' = H2, .inl ⟨iv fi, .inl (.inl (.inl hB)), rfl, rfl⟩, fun b H' z => ?_⟩
    obtain ⟨rfl, rfl⟩ := z
    by_cases hlt : i < fi.length
    · rw [if_pos (decide_eq_true (by rw [li]; omega))]
      obtain ⟨p, hp0⟩ : ∃ p, fi[i]? = some p := ⟨_, List.getElem?_eq_getElem hlt⟩
      have hp : (fnd R 0 i)[i]? = some p := by rw [hfe]; exact hp0
      have plt : p < R.length := fnd_lt ok hs i p (List.mem_of_getElem? hp)
      obtain ⟨qa, hqa⟩ : ∃ qa, rs[p]? = some qa := ⟨_, List.getElem?_eq_getElem (by omega)⟩
      have hq := hrow' p qa hqa
      dsimp only [tSeq]
      refine for_list (K := K) (t := tOp (ixU K) (uVar 0) (tOp (ixU K) (uVar 1) (uVar 2))) (a := qa) (xs := iv (gls R p)) (H1 := H')
        (fun R' hR' => ⟨iv fi, .int (p : Nat), .inl (.inl (.inl hB)), atI_nat (by rw [List.getElem?_map, hp0]; rfl), rs.map V.ref, .ref qa, .inl (.inl (.inl (e2 _ _ hs'))), atI_nat (by rw [List.getElem?_map, hqa]; rfl), hR'⟩) (.inl (.inl (e2 _ _ hq)))
        (fun pre σ H4 => ∃ gs rest y4, gls R p = gs ++ rest ∧ pre = iv gs ∧ Same H H4 ∧ H4 B = some (.lst (iv (adds fi gs))) ∧ σ = [some (.ref r), some (.ref B), some (.int (i : Nat)), y4, none])
        (fun pre σ H4 h => by obtain ⟨_, _, _, _, _, h, _⟩ := h; exact .inl (.inl (h _ _ hq))) ⟨[], gls R p, y4, rfl, rfl, e2, hB, rfl⟩ (fun pre x suf σ H4 ex h => ?_) (fun σ H4 h => ?_)
      · obtain ⟨gs, rest, y4, eg, rfl, e5, hB5, rfl⟩ := h
        have er : iv rest = x :: suf := by
          have e7 : iv gs ++ iv rest = iv gs ++ x :: suf := by rw [← ex, eg, iv_app]
          exact List.append_cancel_left e7
        obtain ⟨g, rest', rfl, rfl, rfl⟩ := List.map_eq_cons_iff.mp er
        have cl := adds_len (i := i) ok hs eg
        rw [hfe] at cl
        have eg2 : gls R p = (gs ++ [g]) ++ rest' := by rw [eg]; simp
        have ea := adds_app (f := fi) (gs := gs) (g := g)
        generalize adds fi gs = cur at hB5 cl ea
        refine ⟨B, iv cur, rfl, .inl (.inl (.inl hB5)), rfl, flat_iv _, ?_⟩
        show Br (!inV (.int g) (iv cur)) _ _
        rw [in_iv]
        refine .nd (fun hg => ?_) (fun hg => ?_)
        · have ec : add1 cur g = cur ++ [g] := if_neg hg
          refine ⟨.inl ⟨rfl, _, .inl (.inl hB5)⟩, B, _, _, rfl, rfl, hB5, by rw [List.length_map]; omega, ?_⟩
          exact ⟨gs ++ [g], rest', _, eg2, by rw [iv_app]; rfl, same_upd2 e5 nB, by rw [upd_same, ea, ec, iv_app]; rfl, rfl⟩
        · have ec : add1 cur g = cur := if_pos hg
          exact ⟨gs ++ [g], rest', _, eg2, by rw [iv_app]; rfl, e5, by rw [ea, ec]; exact hB5, rfl⟩
      · obtain ⟨gs, rest, y4, eg, e6, e5, hB5, rfl⟩ := h
        obtain rfl := iv_inj e6
        have es := fnd_step hp
        rw [hfe] at es
        rw [← es] at hB5
        have l2 := (fnd_pre (R := R) (s := 0) (i := i) (j := i + 1) (by omega)).length_le
        rw [hfe] at l2
        exact ⟨R.length - (i + 1), by omega, i + 1, _, rfl, by omega, e5, hB5, rfl⟩
    · rw [if_neg (by rw [decide_eq_false (by rw [li]; omega)]; decide)]
      have em : fi = met R 0 := by rw [← hfe]; exact fnd_met ok hs (by rw [hfe]; omega)
      subst em
      have hclo := fun (p g : Nat) => met_closed (p := p) (g := g) ok hs
      have hltL : ∀ x ∈ met R 0, x < R.length := fnd_lt ok hs _
      generalize met R 0 = L at hB hclo hltL hf q
      dsimp only [tSeq, tRet]
      refine lc_refS (K := K) (t := uVar 1) (a := B) (ls := L) (enc := fun g : Nat => V.int (g : Int)) (o := fun g => .lst (iv ((gls R g).map fun x => L.idxOf x))) (H := H') (H1 := H') (fun R h => h) hB (by omega) (fun H3 g hg e3 Qy hy => ?_) (fun D H3 qs nD e3 hD lq hq ndq => ?_)
      · obtain ⟨qa, hqa⟩ : ∃ qa, rs[g]? = some qa := ⟨_, List.getElem?_eq_getElem (by rw [hl']; exact hltL g hg)⟩
        have hrq := e3 _ _ (e2 _ _ (hrow' g qa hqa))
        have lg := gls_len ok (hltL g hg)
        refine ⟨rfl, ?_⟩
        refine lc_mapS (K := K) (t := tOp (ixU K) (uVar 0) (uVar 4)) (a := qa) (ls := gls R g) (enc := fun x : Nat => V.int (x : Int)) (out := fun x : Nat => V.int (L.idxOf x : Nat)) (H := H3) (H1 := H3)
          (fun R' hR' => ⟨rs.map V.ref, .ref qa, .inl (.inl (.inl (e3 _ _ (e2 _ _ hs')))), atI_nat (by rw [List.getElem?_map, hqa]; rfl), hR'⟩) hrq (by omega) (fun H4 x hx e4 Qz hz => ?_) (fun D2 H4 nD2 e4 hD2 => hy H4 D2 e4 nD2 (by rw [hD2, iv_map]))
        have hB4 := e4 _ _ (e3 _ _ hB)
        exact ⟨rfl, .inl ⟨rfl, _, .inl (.inl hB4)⟩, index_go hB4 (hclo g x hg hx) (hz H4 (Same.refl _))⟩
      · refine q H3 D (e2.trans e3) (RowsN.of ⟨nD, qs, hD, by rw [rn_len]; exact lq, fun i p hp => ?_, ndq⟩ e2)
        have li2 : i < L.length := by
          have := (List.getElem?_eq_some_iff.mp hp).1
          omega
        have hgi : L[i]? = some L[i] := List.getElem?_eq_getElem li2
        obtain ⟨a1, a2, a3⟩ := hq i p L[i] hp hgi
        rw [rn_gls hgi]
        exact ⟨a1, a2, a3⟩
end
end LK

/-! k74: _law_turned -/
namespace LK
open PySem PySem.Spec PyProof.Rows L2 LamX
open scoped List
/-- rows whose lists lie apart from p -/
def RowsP (p : Addr) (H : Hp) (r : Addr) (R : Rows) : Prop := ∃ rs : List Addr, r ≠ p ∧ H r = some (.lst (rs.map V.ref)) ∧ rs.length = R.length ∧ ∀ i q, rs[i]? = some q → q ≠ p ∧ H q = some (.lst (iv (gls R i)))
theorem RowsP.l {p : Addr} {H : Hp} {r : Addr} {R : Rows} (h : RowsP p H r R) : RowsL H r R := by
  obtain ⟨rs, _, h1, h2, h3⟩ := h
  exact ⟨rs, h1, h2, fun i q hq => (h3 i q hq).2⟩
theorem RowsP.ex {TT : List (Addr × Str)} {p : Addr} {H H' : Hp} {r : Addr} {R : Rows} (h : RowsP p H r R) (e : Ex TT (at1 p) H H') : RowsP p H' r R := by
  obtain ⟨rs, h0, h1, h2, h3⟩ := h
  exact ⟨rs, h0, e.keep _ _ h0 h1 (fun _ z => nomatch z), h2, fun i q hq => ⟨(h3 i q hq).1, e.keep _ _ (h3 i q hq).1 (h3 i q hq).2 (fun _ z => nomatch z)⟩⟩
theorem RowsN.p {p : Addr} {H0 H : Hp} {r : Addr} {R : Rows} (h : RowsN H0 H r R) (hp : Pot H0 p) : RowsP p H r R := by
  obtain ⟨h0, rs, h1, h2, h3, _⟩ := h
  exact ⟨rs, (hp.ne h0).symm, h1, h2, fun i q hq => ⟨(hp.ne (h3 i q hq).1).symm, (h3 i q hq).2.2⟩⟩
theorem erase_iv : ∀ (l : List Nat) (d : Nat), (iv l).eraseIdx d = iv (l.eraseIdx d)
  | [], _ => rfl
  | _ :: _, 0 => rfl
  | c :: l, d + 1 => by
    show V.int (c : Int) :: (iv l).eraseIdx d = V.int (c : Int) :: iv (l.eraseIdx d)
    rw [erase_iv l d]
theorem seqIx {d n : Nat} (h : d < n) : seqIndex? (d : Int) n = some d := by
  unfold seqIndex?
  simp only
  split <;> (try split) <;> first | omega | (simp; omega) | simp_all
theorem rg1 (n : Nat) : rgV 1 (n : Int) = iv ((List.range (n - 1)).map (· + 1)) := by
  unfold rgV
  rw [iv_map, show ((n : Int) - 1).toNat = n - 1 by omega]
  refine List.map_congr_left fun i _ => ?_
  show V.int (1 + (i : Int)) = V.int ((i + 1 : Nat) : Int)
  rw [show (1 + (i : Int)) = ((i + 1 : Nat) : Int) by omega]
theorem rg1_perm {n : Nat} (h : 0 < n) : 0 :: (List.range (n - 1)).map (· + 1) = List.range n := by
  obtain ⟨m, rfl⟩ : ∃ m, n = m + 1 := ⟨n - 1, by omega⟩
  rw [Nat.add_sub_cancel, List.range_succ_eq_map]
section
variable {P : Program} {w : World} {K : PySem.W.Frag} {mg : Str → Option Value} {base : Heap} (TT : List (Addr × Str))
abbrev nLT : List Str := ["_law_pot_here", "_law_rows_here", "_law_order", "_law_rest", "_law_turn", "_law_step", "_law_spot"]
theorem scLTurned : FnScope nLT ["_law_pot_here", "_law_rows_here"] (defScope sLTurned) := ⟨rfl, rfl, rfl, by decide +kernel, rfl, by decide +kernel, by decide +kernel⟩
/-- the places in some other sequence, the first one first -/
def spLTurned : Sp := fun vs H Q _ => ∃ (p r : Addr) (m : Nat) (R : Rows), vs = [.ref p, .ref r] ∧ Pot H p ∧ RowsP p H r R ∧ RowsOk R m ∧ m ≤ 3 ∧ 0 < R.length ∧ R.length ≤ 1000 ∧ Whole R ∧
  ∀ H' t R', Ex TT (at1 p) H H' → Pot H' p → RowsP p H' t R' → RowsOk R' m → Whole R' → R'.length = R.length → Q (.ref t) H'
theorem ok_lturned {f : Addr} {fd : FuncData} {k : Nat} (F : Fun K "_law_turned" "_law_turned" sLTurned f fd) (M : Mx mg) (HD : Has P w K mg base k "_law_draw" ["_law_pot_here", "_law_size"] (spDraw TT)) :
    FnG P w K mg base CX0 (k + 1) f fd ["_law_pot_here", "_law_rows_here"] (spLTurned TT) := by
  refine okG F scLTurned (fun vs H Q E h => ?_) (fun cdv A hA outer s H vs Q E hr h => ?_)
  · obtain ⟨p, r, m, R, rfl, _⟩ := h; rfl
  · obtain ⟨p, r, m, R, rfl, hp, hR, ok, hm, h0, hn, wh, q⟩ := h
    have nd := scLTurned.nd
    have sl := sizeLine_eq
    refine ⟨_, pss_cons (ps_asg (pe_tup (pa_cons (pe_lst (pa_cons pe_int pa_nil)) (pa_cons (pe_listRg rfl (by rfl) M.list (prg_2 (by rfl) M.range pe_int (pe_callB c_len (by rfl) M.len b_len (pa_cons (uv 1) pa_nil)))) pa_nil))) (pg_tup rfl (pgs_cons (pg_name (i := 2) nd rfl (.inr rfl)) (pgs_cons (pg_name (i := 3) nd rfl (.inl rfl)) pgs_nil))) rfl)
      (pss_cons (ps_for PassesOwn.never rfl (pi_range1 (by rfl) M.range (pa_cons (pe_op o_sub (pe_callB c_len (by rfl) M.len b_len (pa_cons (uv 1) pa_nil)) pe_int) pa_nil)) (pg_name (i := 4) nd rfl (.inl rfl))
        (pss_one (ps_expr (pe_bm PySem.F.plainAttrs_list PySem.F.slot_list_append PySem.F.type_list_append mt_append (uv 2)
          (pa_cons (pe_bm PySem.F.plainAttrs_list PySem.F.slot_list_pop PySem.F.type_list_pop mt_popAt (uv 3) (pa_cons (pe_callH HD hA hr (by rfl) (pa_cons (uv 0) (pa_cons (pe_callB c_len (by rfl) M.len b_len (pa_cons (uv 3) pa_nil)) pa_nil))) pa_nil)) pa_nil)))))
      (pss_one (ps_ret (pe_lc (own := [("_law_spot", 6)]) (g := gName 6) (tt := tYes) rfl nd (pi_list (uv 2)) (blkOk_by (N := nLT) (sc := defScope sLTurned) (by decide +kernel))
        (fun _ _ _ _ _ => pg_name (i := 6) nd rfl (Or.inl rfl)) (fun _ _ _ _ _ => pts_nil)
        (fun _ _ _ _ _ => pe_lc (own := [("_law_step", 5)]) (g := gName 5) (tt := tYes) rfl nd (pi_listK (K := K) rfl (pe_ixK (K := K) rfl (uv 1) (uv 6))) (blkOk_in (N := nLT) (sc := scM1) (by decide +kernel))
          (fun _ _ _ _ _ => pg_name (i := 5) nd rfl (Or.inl rfl)) (fun _ _ _ _ _ => pts_nil)
          (fun _ _ _ _ _ => pe_bmK (K := K) rfl PySem.F.plainAttrs_list PySem.F.slot_list_index PySem.F.type_list_index (mt_indexK (K := K) rfl) (uv 2) (pa_cons (uv 5) pa_nil))))))), ?_⟩
    obtain ⟨rs, nrp, hs', hl', hrow'⟩ := id hR
    have lrs : (rs.map V.ref).length = R.length := by rw [List.length_map, hl']
    refine ⟨by show 1 ≤ sizeLine; omega, fun B nB => ?_⟩
    have hr1 := (same_upd (o := .lst [V.int ((0 : Nat) : Int)]) nB) _ _ hs'
    refine .inl ⟨rs.map V.ref, .inl (.inl (.inl hr1)), 1, ((rs.map V.ref).length : Nat), rfl, rfl, RgOk.of_le (by omega) (by omega) (by omega) (by omega), fun C nC => ?_⟩
    rw [lrs, rg1]
    refine ⟨by show 2 ≤ sizeLine; omega, fun U nU => ?_⟩
    refine ⟨U, _, rfl, .inl (.inl upd_same), rfl, _, _, rfl, _, _, rfl, rfl, ?_⟩
    have nBC : B ≠ C := ne_of_none upd_same nC
    have nBU : B ≠ U := ne_of_none (by rw [upd_ne nBC]; exact upd_same) nU
    have nCU : C ≠ U := ne_of_none upd_same nU
    have e1 : Same H (upd H B (.lst [V.int ((0 : Nat) : Int)])) := same_upd nB
    have nCH : H C = none := Same.free e1 nC
    have e2 : Same H (upd (upd H B (.lst [V.int ((0 : Nat) : Int)])) C (.lst (iv ((List.range (R.length - 1)).map (· + 1))))) := same_upd2 e1 nCH
    have eU := same_upd2 (o := .tup [V.ref B, V.ref C]) e2 (Same.free e2 nU)
    have hB0 : (upd (upd (upd H B (.lst [V.int ((0 : Nat) : Int)])) C (.lst (iv ((List.range (R.length - 1)).map (· + 1))))) U (.tup [V.ref B, V.ref C])) B = some (.lst (iv [0])) := by rw [upd_ne nBU, upd_ne nBC]; exact upd_same
    have hC0 : (upd (upd (upd H B (.lst [V.int ((0 : Nat) : Int)])) C (.lst (iv ((List.range (R.length - 1)).map (· + 1))))) U (.tup [V.ref B, V.ref C])) C = some (.lst (iv ((List.range (R.length - 1)).map (· + 1)))) := by rw [upd_ne nCU]; exact upd_same
    have hp0 : Pot (upd (upd (upd H B (.lst [V.int ((0 : Nat) : Int)])) C (.lst (iv ((List.range (R.length - 1)).map (· + 1))))) U (.tup [V.ref B, V.ref C])) p := hp.ex (TT := TT) (.same eU)
    have npB : p ≠ B := hp.ne nB
    have npC : p ≠ C := hp.ne nCH
    have newB : New H B := fun b o hb _ e => by rw [e, nB] at hb; cases hb
    have newC : New H C := fun b o hb _ e => by rw [e, nCH] at hb; cases hb
    have hR0 : RowsP p (upd (upd (upd H B (.lst [V.int ((0 : Nat) : Int)])) C (.lst (iv ((List.range (R.length - 1)).map (· + 1))))) U (.tup [V.ref B, V.ref C])) r R := hR.ex (TT := TT) (.same eU)
    generalize upd (upd (upd H B (.lst [V.int ((0 : Nat) : Int)])) C (.lst (iv ((List.range (R.length - 1)).map (· + 1))))) U (.tup [V.ref B, V.ref C]) = H0 at eU hB0 hC0 hp0 hR0
    have hR0' := hR0
    obtain ⟨rs0, nrp0, hs0, hl0, hrow0⟩ := hR0
    dsimp only [tSeq]
    refine for_rng (n := R.length - 1) (H1 := H0) (fun R' h => .inl ⟨rs0.map V.ref, .inl (.inl (.inl hs0)), by
        show R' [V.int (((rs0.map V.ref).length : Int) - 1)] _
        rw [List.length_map, hl0, show ((R.length : Int) - 1) = ((R.length - 1 : Nat) : Int) by omega]; exact h⟩) (by omega)
      (fun i σ H2 => ∃ (lf fd : List Nat) (y4 : Option V), σ = [some (.ref p), some (.ref r), some (.ref B), some (.ref C), y4, none, none] ∧ Ex TT (at1 p) H H2 ∧ Pot H2 p ∧ H2 C = some (.lst (iv lf)) ∧ H2 B = some (.lst (iv (0 :: fd))) ∧ ((0 :: fd) ++ lf) ~ List.range R.length ∧ fd.length = i)
      ⟨(List.range (R.length - 1)).map (· + 1), [], none, rfl, .same eU, hp0, hC0, hB0, by rw [← rg1_perm h0]; exact .refl _, rfl⟩ (fun i σ H2 hi2 h => ?_) (fun σ H2 h => ?_)
    · obtain ⟨lf, fd, y4, rfl, e2, hp2, hL2, hB2, pm, rfl⟩ := h
      have lens := pm.length_eq
      rw [List.length_append, List.length_range, List.length_cons] at lens
      have ll : (iv lf).length = lf.length := List.length_map _
      refine ⟨.inl ⟨rfl, _, .inl (.inl hB2)⟩, .inl ⟨rfl, _, .inl (.inl hL2)⟩, .inl ⟨iv lf, .inl (.inl (.inl hL2)), p, (iv lf).length, rfl, by omega, by omega, hp2, fun H3 d e3 hp3 hd => ?_⟩⟩
      have hL3 : H3 C = some (.lst (iv lf)) := e3.keep _ _ npC.symm hL2 fun _ z => nomatch z
      have hB3 : H3 B = some (.lst (iv (0 :: fd))) := e3.keep _ _ npB.symm hB2 fun _ z => nomatch z
      obtain ⟨g, hg⟩ : ∃ g, lf[d]? = some g := ⟨_, List.getElem?_eq_getElem (by omega)⟩
      refine ⟨C, iv lf, d, d, .int (g : Nat), rfl, rfl, hL3, by omega, by omega, seqIx hd, by rw [List.getElem?_map, hg]; rfl, ?_⟩
      have hB4 : (upd H3 C (.lst ((iv lf).eraseIdx d))) B = some (.lst (iv (0 :: fd))) := by rw [upd_ne nBC]; exact hB3
      refine ⟨B, iv (0 :: fd), .int (g : Nat), rfl, rfl, hB4, by rw [List.length_map, List.length_cons]; omega, ?_⟩
      have e4 : Ex TT (at1 p) H (upd (upd H3 C (.lst ((iv lf).eraseIdx d))) B (.lst (iv (0 :: fd) ++ [.int (g : Nat)]))) :=
        ((e2.trans e3).putN newC hL3 (fun _ z => nomatch z) (fun _ _ z => nomatch z)).putN newB hB4 (fun _ z => nomatch z) (fun _ _ z => nomatch z)
      have er : (iv lf).eraseIdx d = iv (lf.eraseIdx d) := erase_iv lf d
      refine ⟨lf.eraseIdx d, fd ++ [g], _, rfl, e4, (hp3.put npC).put npB, ?_, ?_, ?_, by simp⟩
      · rw [upd_ne nBC.symm, upd_same, er]
      · rw [upd_same, ← List.cons_append, iv_app]; rfl
      · refine List.Perm.trans ?_ pm
        rw [← List.cons_append, List.append_assoc]
        exact List.Perm.append_left (0 :: fd) (erase_perm lf d g hg)
    · obtain ⟨lf, fd, y4, rfl, e2, hp2, hL2, hB2, pm, hl⟩ := h
      have lens := pm.length_eq
      rw [List.length_append, List.length_range, List.length_cons] at lens
      have : lf = [] := List.length_eq_zero_iff.mp (by omega)
      subst this
      rw [List.append_nil] at pm
      have hR2 := hR.ex e2
      obtain ⟨rs2, nrp2, hs2, hl2, hrow2⟩ := id hR2
      have memO : ∀ x, x ∈ (0 :: fd) ↔ x < R.length := fun x => by rw [pm.mem_iff, List.mem_range]
      have hmem : ∀ x, x ∈ (0 :: fd) ↔ x ∈ met R 0 := fun x => by
        rw [memO]
        exact ⟨wh x, fun h => fnd_lt ok h0 R.length x h⟩
      have ndO : (0 :: fd).Nodup := pm.nodup_iff.mpr List.nodup_range
      have rnok := rn_ok (L := 0 :: fd) ok h0 hmem
      have rnwh := rn_whole (L := 0 :: fd) ok h0 ndO hmem rfl
      have lenO : (0 :: fd).length = R.length := by rw [pm.length_eq, List.length_range]
      generalize (0 :: fd) = O at hB2 memO rnok rnwh lenO
      dsimp only [tSeq, tRet]
      refine lc_refS (K := K) (t := uVar 2) (a := B) (ls := O) (enc := fun g : Nat => V.int (g : Int)) (o := fun g => .lst (iv ((gls R g).map fun x => O.idxOf x))) (H := H2) (H1 := H2) (fun R h => h) hB2 (by omega) (fun H3 g hg e3 Qy hy => ?_) (fun D H3 qs nD e3 hD lq hq ndq => ?_)
      · obtain ⟨qa, hqa⟩ : ∃ qa, rs2[g]? = some qa := ⟨_, List.getElem?_eq_getElem (by rw [hl2]; exact (memO g).mp hg)⟩
        have hrq := e3 _ _ (hrow2 g qa hqa).2
        have lg := gls_len ok ((memO g).mp hg)
        refine ⟨rfl, ?_⟩
        refine lc_mapS (K := K) (t := tOp (ixU K) (uVar 1) (uVar 6)) (a := qa) (ls := gls R g) (enc := fun x : Nat => V.int (x : Int)) (out := fun x : Nat => V.int (O.idxOf x : Nat)) (H := H3) (H1 := H3)
          (fun R' hR' => ⟨rs2.map V.ref, .ref qa, .inl (.inl (.inl (e3 _ _ hs2))), atI_nat (by rw [List.getElem?_map, hqa]; rfl), hR'⟩) hrq (by omega) (fun H4 x hx e4 Qz hz => ?_) (fun D2 H4 nD2 e4 hD2 => hy H4 D2 e4 nD2 (by rw [hD2, iv_map]))
        have hB4 := e4 _ _ (e3 _ _ hB2)
        exact ⟨rfl, .inl ⟨rfl, _, .inl (.inl hB4)⟩, index_go hB4 ((memO x).mpr (gls_lt ok hx)) (hz H4 (Same.refl _))⟩
      · have hrn : RowsN H2 H3 D (rn R O) := ⟨nD, qs, hD, by rw [rn_len]; exact lq, fun i q' hq' => by
          have li2 : i < O.length := by
            have := (List.getElem?_eq_some_iff.mp hq').1
            omega
          have hgi : O[i]? = some O[i] := List.getElem?_eq_getElem li2
          obtain ⟨a1, a2, a3⟩ := hq i q' O[i] hq' hgi
          rw [rn_gls hgi]
          exact ⟨a1, a2, a3⟩, ndq⟩
        exact q H3 D (rn R O) (e2.trans (.same e3)) (hp2.ex (TT := TT) (.same e3)) (hrn.p hp2) rnok rnwh (by rw [rn_len]; exact lenO)
end
end LK

/-! k74: _law_rows -/
namespace LK
open PySem PySem.Spec PyProof.Rows L2 LamX
open scoped List
/-- a statement whose end is said -/
def clS (t : TS) : TS := fun D σ H => ∃ N0 : L2.St → Hp → Prop, t { D with nx := N0 } σ H ∧ ∀ σ' H', N0 σ' H' → D.nx σ' H'
theorem ps_cl {X : Cx} {st : Stmt} {t : TS} (h : PS X st t) : PS X st (clS t) := by
  refine ⟨fun pins s σ H D I z => ?_⟩
  obtain ⟨N0, h0, m⟩ := z
  refine wpAny_mono (h.run pins s σ H { D with nx := N0 } I h0) (fun fl s' q => ?_) (fun _ _ z => z)
  match fl, q with
  | .next, q => obtain ⟨σ', H', J, n⟩ := q; exact ⟨σ', H', J, m _ _ n⟩
  | .brk, q => exact q
  | .cont, q => exact q
  | .ret u, q => exact q
theorem gls_app_lt {R R' : Rows} {i : Nat} (h : i < R.length) : gls (R ++ R') i = gls R i := by
  unfold gls; rw [List.getD_eq_getElem?_getD, List.getD_eq_getElem?_getD, List.getElem?_append_left h]
theorem gls_app_at {R : Rows} {r : List Nat} : gls (R ++ [r]) R.length = r := by
  unfold gls; rw [List.getD_eq_getElem?_getD, List.getElem?_append_right (Nat.le_refl _), Nat.sub_self]; rfl
section
variable {P : Program} {w : World} {K : PySem.W.Frag} {mg : Str → Option Value} {base : Heap} (TT : List (Addr × Str))
abbrev nLR : List Str := ["_law_pot_here", "_law_signs_here", "_law_most", "_law_size", "_law_way", "_law_rows_here", "_law_spot", "_law_row", "_law_sign", "_law_step"]
theorem scLRows : FnScope nLR ["_law_pot_here", "_law_signs_here", "_law_most"] (defScope sLRows) := ⟨rfl, rfl, rfl, by decide +kernel, rfl, by decide +kernel, by decide +kernel⟩
def spLRows : Sp := fun vs H Q _ => ∃ (p : Addr) (S : List Nat) (most : Nat), vs = [.ref p, .str (T S), .int most] ∧ LetOk S ∧ Pot H p ∧ 1 ≤ most ∧ most ≤ 40 ∧
  ∀ H' t R, Ex TT (at1 p) H H' → Pot H' p → RowsP p H' t R → RowsOk R S.length → Whole R → 1 ≤ R.length → R.length ≤ most → Q (.ref t) H'
theorem ok_lrows {f : Addr} {fd : FuncData} {k : Nat} (F : Fun K "_law_rows" "_law_rows" sLRows f fd) (M : Mx mg) (HD : Has P w K mg base k "_law_draw" ["_law_pot_here", "_law_size"] (spDraw TT)) (HM : Has P w K mg base k "_law_met" ["_law_rows_here"] spLMet)
    (HT : Has P w K mg base k "_law_turned" ["_law_pot_here", "_law_rows_here"] (spLTurned TT)) : FnG P w K mg base CX0 (k + 1) f fd ["_law_pot_here", "_law_signs_here", "_law_most"] (spLRows TT) := by
  refine okG F scLRows (fun vs H Q E h => ?_) (fun cdv A hA outer s H vs Q E hr h => ?_)
  · obtain ⟨p, S, most, rfl, _⟩ := h; rfl
  · obtain ⟨p, S, most, rfl, lt, hp, hm1, hm40, q⟩ := h
    have nd := scLRows.nd
    have sl := sizeLine_eq
    have l3 := lt.hi
    refine ⟨_, pss_cons (ps_par3 (i := 3) (j := 4) (l := 5) rfl nd rfl rfl rfl (by decide) (by decide) (by decide) rfl rfl rfl (pa_cons (pe_op o_add pe_int (pe_callH HD hA hr (by rfl) (pa_cons (uv 0) (pa_cons (uv 2) pa_nil)))) (pa_cons (pe_callH HD hA hr (by rfl) (pa_cons (uv 0) (pa_cons pe_int pa_nil))) (pa_cons (pe_lst pa_nil) pa_nil))) (by rfl))
      (pss_cons (ps_for PassesOwn.never rfl (pi_range1 (by rfl) M.range (pa_cons (uv 3) pa_nil)) (pg_name (i := 6) nd rfl (.inl rfl))
        (pss_cons (ps_set (i := 7) nd rfl (.inl rfl) (pe_lst pa_nil))
        (pss_cons (ps_for PassesOwn.never rfl (pi_str (uv 1)) (pg_name (i := 8) nd rfl (.inl rfl))
          (pss_cons (ps_set (i := 9) nd rfl (.inl rfl) (pe_callH HD hA hr (by rfl) (pa_cons (uv 0) (pa_cons (uv 3) pa_nil))))
          (pss_cons (ps_cl (ps_ifU (pt_cu o_gt (uv 4) pe_int) (pss_one (ps_set (i := 9) nd rfl (.inl rfl) (pe_ifU (pt_cu (o_eq hr.units) (uv 4) pe_int)
              (pe_callB (c_min2 rfl) (by rfl) M.min b_min (pa_cons (pe_op o_add (uv 6) (pe_callH HD hA hr (by rfl) (pa_cons (uv 0) (pa_cons pe_int pa_nil)))) (pa_cons (pe_op o_sub (uv 3) pe_int) pa_nil)))
              (pe_op o_add (uv 6) (pe_callH HD hA hr (by rfl) (pa_cons (uv 0) (pa_cons (pe_op o_sub (uv 3) (uv 6)) pa_nil))))))) pss_nil))
          (pss_one (ps_expr (pe_bm PySem.F.plainAttrs_list PySem.F.slot_list_append PySem.F.type_list_append mt_append (uv 7) (pa_cons (uv 9) pa_nil)))))))
        (pss_one (ps_expr (pe_bm PySem.F.plainAttrs_list PySem.F.slot_list_append PySem.F.type_list_append mt_append (uv 5) (pa_cons (uv 7) pa_nil)))))))
      (pss_one (ps_ret (pe_callH HT hA hr (by rfl) (pa_cons (uv 0) (pa_cons (pe_callH HM hA hr (by rfl) (pa_cons (uv 5) pa_nil)) pa_nil)))))), ?_⟩
    refine ⟨p, most, rfl, by omega, by omega, hp, fun H1 d e1 hp1 hd => ?_⟩
    obtain ⟨n, hn, hn1, hnm⟩ : ∃ n : Nat, (1 + (d : Int)) = (n : Int) ∧ 1 ≤ n ∧ n ≤ most := ⟨d + 1, by omega, by omega, by omega⟩
    dsimp only [rAddU]
    rw [hn]
    refine ⟨p, 4, rfl, by omega, by omega, hp1, fun H2 way e2 hp2 hway => ?_⟩
    refine ⟨by show 0 ≤ sizeLine; omega, fun D nD => ?_⟩
    refine ⟨_, _, _, rfl, ?_⟩
    have e12 := e1.trans e2
    have hp3 : Pot (upd H2 D (.lst [])) p := hp2.put (hp2.ne nD)
    have nDp : D ≠ p := (hp2.ne nD).symm
    have hD0 : (upd H2 D (.lst [])) D = some (.lst []) := upd_same
    have newD : New H2 D := fun b o hb _ e => by rw [e, nD] at hb; cases hb
    dsimp only [tSeq]
    refine for_rng (n := n) (H1 := upd H2 D (.lst [])) (fun R' h => h) (by omega) (fun i σ H3 => ∃ (rws : List (List Nat)) (as : List Addr) (y6 y7 y8 y9 : Option V), σ = [some (.ref p), some (.str (T S)), some (.int most), some (.int n), some (.int way), some (.ref D), y6, y7, y8, y9] ∧ as.length = i ∧ rws.length = i ∧
        Ex TT (at1 p) H2 H3 ∧ Pot H3 p ∧ H3 D = some (.lst (as.map V.ref)) ∧ (∀ j q, as[j]? = some q → q ≠ p ∧ q ≠ D ∧ H3 q = some (.lst (iv (gls rws j)))) ∧ ∀ r' ∈ rws, r'.length = S.length ∧ ∀ g ∈ r', g < n)
      ⟨[], [], none, none, none, none, rfl, rfl, rfl, .new nD, hp3, hD0, (fun j q z => (nil_none z).elim), (fun r' z => by cases z)⟩ (fun i σ H3 hi r => ?_) (fun σ H3 r => ?_)
    · obtain ⟨rws, as, y6, y7, y8, y9, rfl, la, lr, e3, hp3, hD, has, hrw⟩ := r
      refine ⟨by show 0 ≤ sizeLine; omega, fun B nB => ?_⟩
      have nBp : B ≠ p := (hp3.ne nB).symm
      have nBD : B ≠ D := fun z => by rw [z, hD] at nB; cases nB
      have newB : New H3 B := fun b o hb _ e => by rw [e, nB] at hb; cases hb
      dsimp only [tSeq, tAsg, gName]
      refine for_str (t := uVar 1) (l := S) (H1 := upd H3 B (.lst [])) (by exact fun _ h => h) (fun pre σ H4 => ∃ (row : List Nat) (y8 y9 : Option V), σ = [some (.ref p), some (.str (T S)), some (.int most), some (.int n), some (.int way), some (.ref D), some (.int i), some (.ref B), y8, y9] ∧ row.length = pre.length ∧ (∀ g ∈ row, g < n) ∧
          Ex TT (at1 p) H3 H4 ∧ Pot H4 p ∧ H4 B = some (.lst (iv row)))
        ⟨[], y8, y9, rfl, rfl, (fun g z => by cases z), .new nB, hp3.put (hp3.ne nB), upd_same⟩ (fun pre c suf σ H4 e r => ?_) (fun σ H4 r => ?_)
      · obtain ⟨row, y8, y9, rfl, lrow, hg, e4, hp4, hB⟩ := r
        have l4 : pre.length < 3 := by
          have := congrArg List.length e
          rw [List.length_append, List.length_cons] at this
          omega
        refine ⟨p, n, rfl, by omega, by omega, hp4, fun H5 g e5 hp5 hgn => ?_⟩
        refine ⟨fun σ' H' => ∃ g' : Nat, g' < n ∧ σ' = [some (.ref p), some (.str (T S)), some (.int most), some (.int n), some (.int way), some (.ref D), some (.int i), some (.ref B), some (.str (T [c])), some (.int g')] ∧ Ex TT (at1 p) H5 H' ∧ Pot H' p, ?_, fun σ' H' z => ?_⟩
        · refine .d (p := (0 : Int) < (way : Int)) (fun _ => ?_) (fun _ => ⟨g, hgn, rfl, .refl, hp5⟩)
          refine .d (fun _ => ?_) (fun _ => ?_)
          · refine ⟨p, 2, rfl, by omega, by omega, hp5, fun H6 d2 e6 hp6 hd2 => ?_⟩
            refine ⟨(min ((i : Int) + (d2 : Int)) ((n : Int) - 1)).toNat, by omega, ?_, e6, hp6⟩
            rw [show (((min ((i : Int) + (d2 : Int)) ((n : Int) - 1)).toNat : Nat) : Int) = min ((i : Int) + (d2 : Int)) ((n : Int) - 1) by omega]
            rfl
          · refine ⟨p, n - i, by show [V.ref p, V.int ((n : Int) - (i : Int))] = _; rw [show ((n : Int) - (i : Int)) = ((n - i : Nat) : Int) by omega], by omega, by omega, hp5, fun H6 d2 e6 hp6 hd2 => ?_⟩
            refine ⟨i + d2, by omega, ?_, e6, hp6⟩
            rw [show (((i + d2 : Nat)) : Int) = (i : Int) + (d2 : Int) by omega]
            rfl
        · obtain ⟨g', hg', rfl, e6, hp6⟩ := z
          have hB6 : H' B = some (.lst (iv row)) := (e5.trans e6).keep _ _ nBp hB fun _ z => nomatch z
          refine ⟨.inl ⟨rfl, _, .inl (.inl hB6)⟩, B, _, _, rfl, rfl, hB6, by rw [List.length_map]; omega, ?_⟩
          refine ⟨row ++ [g'], _, _, rfl, by rw [List.length_append, List.length_append, lrow]; rfl, fun x hx => ?_, ((e4.trans e5).trans e6).putN newB hB6 (fun _ z => nomatch z) (fun _ _ z => nomatch z), hp6.put nBp.symm, by rw [upd_same, iv_app]; rfl⟩
          rcases List.mem_append.mp hx with h | h
          · exact hg x h
          · simp at h; omega
      · obtain ⟨row, y8, y9, rfl, lrow, hg, e4, hp4, hB⟩ := r
        have hD4 : H4 D = some (.lst (as.map V.ref)) := e4.keep _ _ nDp hD fun _ z => nomatch z
        refine ⟨.inl ⟨rfl, _, .inl (.inl hD4)⟩, D, _, _, rfl, rfl, hD4, by rw [List.length_map]; omega, ?_⟩
        refine ⟨rws ++ [row], as ++ [B], _, _, _, _, rfl, by rw [List.length_append, la]; rfl, by rw [List.length_append, lr]; rfl, (e3.trans e4).putN newD hD4 (fun _ z => nomatch z) (fun _ _ z => nomatch z), hp4.put nDp.symm, by rw [upd_same, List.map_append]; rfl, fun j q' hq' => ?_, fun r' hr' => ?_⟩
        · rcases Nat.lt_or_ge j as.length with hlt | hge
          · rw [List.getElem?_append_left hlt] at hq'
            obtain ⟨g1, g2, g3⟩ := has j q' hq'
            rw [gls_app_lt (by omega)]
            exact ⟨g1, g2, by rw [upd_ne g2]; exact e4.keep _ _ g1 g3 fun _ z => nomatch z⟩
          · rw [List.getElem?_append_right hge] at hq'
            have e6 : j - as.length = 0 := by
              have := (List.getElem?_eq_some_iff.mp hq').1
              simp at this; omega
            rw [e6] at hq'
            have : B = q' := by simpa using hq'
            subst this
            have : j = rws.length := by omega
            subst this
            rw [gls_app_at]
            exact ⟨nBp, nBD, by rw [upd_ne nBD]; exact hB⟩
        · rcases List.mem_append.mp hr' with h | h
          · exact hrw r' h
          · simp at h; subst h
            exact ⟨lrow, hg⟩
    · obtain ⟨rws, as, y6, y7, y8, y9, rfl, la, lr, e3, hp3, hD, has, hrw⟩ := r
      have ok : RowsOk rws S.length := ⟨fun r' h => (hrw r' h).1, fun r' h g hg => by rw [lr]; exact (hrw r' h).2 g hg⟩
      have rowsL : RowsL H3 D rws := ⟨as, hD, by omega, fun i q' hq' => (has i q' hq').2.2⟩
      refine ⟨D, S.length, rws, rfl, rowsL, ok, by omega, by omega, by omega, fun H4 t e4 rn4 => ?_⟩
      have hp4 : Pot H4 p := hp3.ex (TT := TT) (.same e4)
      have hmem : ∀ x, x ∈ met rws 0 ↔ x ∈ met rws 0 := fun x => Iff.rfl
      have rnok := rn_ok (L := met rws 0) ok (by omega) hmem
      have rnwh := rn_whole (L := met rws 0) ok (by omega) met_nd hmem met_zero
      have ll : (met rws 0).length ≤ rws.length := fnd_len ok (by omega) _
      have l1 : 1 ≤ (met rws 0).length := (List.getElem?_eq_some_iff.mp (met_zero (R := rws) (s := 0))).1
      refine ⟨p, t, S.length, rn rws (met rws 0), rfl, hp4, rn4.p hp3, rnok, by omega, by rw [rn_len]; omega, by rw [rn_len]; omega, rnwh, fun H5 t2 R5 e5 hp5 rp5 ok5 wh5 len5 => ?_⟩
      rw [rn_len] at len5
      exact q H5 t2 R5 ((e12.trans e3).trans ((Ex.same e4).trans e5)) hp5 rp5 ok5 wh5 (by omega) (by omega)
end
end LK

/-! k74: _law_model, _law_machine, _law_signs, _law_takes -/
namespace LK
open PySem PySem.Spec PyProof.Rows L2 LamX ClX
open scoped List
/-- a model: letters, rows, kinds -/
def ModAt (H : Hp) (t : Addr) (S : List Nat) (R : Rows) (Kd : List Bool) : Prop := ∃ r k : Addr, H t = some (.tup [.str (T S), .ref r, .ref k]) ∧ RowsL H r R ∧ H k = some (.lst (Kd.map V.bl))
theorem ModAt.ext {H H' : Hp} {t : Addr} {S : List Nat} {R : Rows} {Kd : List Bool} (h : ModAt H t S R Kd) (e : Same H H') : ModAt H' t S R Kd := by
  obtain ⟨r, k, h1, h2, h3⟩ := h
  exact ⟨r, k, e _ _ h1, h2.ext e, e _ _ h3⟩
/-- .. apart from p -/
def ModP (p : Addr) (H : Hp) (t : Addr) (S : List Nat) (R : Rows) (Kd : List Bool) : Prop := ∃ r k : Addr, t ≠ p ∧ k ≠ p ∧ H t = some (.tup [.str (T S), .ref r, .ref k]) ∧ RowsP p H r R ∧ H k = some (.lst (Kd.map V.bl))
theorem ModP.m {p : Addr} {H : Hp} {t : Addr} {S : List Nat} {R : Rows} {Kd : List Bool} (h : ModP p H t S R Kd) : ModAt H t S R Kd := by
  obtain ⟨r, k, _, _, h1, h2, h3⟩ := h
  exact ⟨r, k, h1, h2.l, h3⟩
theorem ModP.ex {TT : List (Addr × Str)} {p : Addr} {H H' : Hp} {t : Addr} {S : List Nat} {R : Rows} {Kd : List Bool} (h : ModP p H t S R Kd) (e : Ex TT (at1 p) H H') : ModP p H' t S R Kd := by
  obtain ⟨r, k, n1, n2, h1, h2, h3⟩ := h
  exact ⟨r, k, n1, n2, e.keep _ _ n1 h1 (fun _ z => nomatch z), h2.ex e, e.keep _ _ n2 h3 (fun _ z => nomatch z)⟩
section
variable {P : Program} {w : World} {K : PySem.W.Frag} {mg : Str → Option Value} {base : Heap} {C : Addr} (TT : List (Addr × Str))
abbrev nMo : List Str := ["_law_pot_here", "_law_signs_here", "_law_most", "_law_rows_here", "_law_row"]
theorem scModel : FnScope nMo ["_law_pot_here", "_law_signs_here", "_law_most"] (defScope sModel) := ⟨rfl, rfl, rfl, by decide +kernel, rfl, by decide +kernel, by decide +kernel⟩
def spModel : Sp := fun vs H Q _ => ∃ (p : Addr) (S : List Nat) (most : Nat), vs = [.ref p, .str (T S), .int most] ∧ LetOk S ∧ Pot H p ∧ 1 ≤ most ∧ most ≤ 40 ∧
  ∀ H' t R Kd, Ex TT (at1 p) H H' → Pot H' p → ModP p H' t S R Kd → ShOk S R Kd → Whole R → R.length ≤ most → Q (.ref t) H'
theorem ok_model {f : Addr} {fd : FuncData} {k : Nat} (F : Fun K "_law_model" "_law_model" sModel f fd) (M : Mx mg) (HD : Has P w K mg base k "_law_draw" ["_law_pot_here", "_law_size"] (spDraw TT)) (HR : Has P w K mg base k "_law_rows" ["_law_pot_here", "_law_signs_here", "_law_most"] (spLRows TT)) :
    FnG P w K mg base CX0 (k + 1) f fd ["_law_pot_here", "_law_signs_here", "_law_most"] (spModel TT) := by
  refine okG F scModel (fun vs H Q E h => ?_) (fun cdv A hA outer s H vs Q E hr h => ?_)
  · obtain ⟨p, S, most, rfl, _⟩ := h; rfl
  · obtain ⟨p, S, most, rfl, lt, hp, hm1, hm40, q⟩ := h
    have nd := scModel.nd
    have sl := sizeLine_eq
    refine ⟨_, pss_cons (ps_set (i := 3) nd rfl (.inl rfl) (pe_callH HR hA hr (by rfl) (pa_cons (uv 0) (pa_cons (uv 1) (pa_cons (uv 2) pa_nil)))))
      (pss_one (ps_ret (pe_tup (pa_cons (uv 1) (pa_cons (uv 3) (pa_cons (pe_lc (own := [("_law_row", 4)]) (g := gName 4) (tt := tYes) rfl nd (pi_list (uv 3)) (blkOk_by (N := nMo) (sc := defScope sModel) (by decide +kernel))
        (fun _ _ _ _ _ => pg_name (i := 4) nd rfl (Or.inl rfl)) (fun _ _ _ _ _ => pts_nil) (fun _ _ _ _ _ => pe_cu (r := eqU K false) (o_eq hr.units) (pe_callH HD hA hr (by rfl) (pa_cons (uv 0) (pa_cons pe_int pa_nil))) pe_int)) pa_nil)))))), ?_⟩
    refine ⟨p, S, most, rfl, lt, hp, hm1, hm40, fun H1 r R e1 hp1 hR ok wh lo hi => ?_⟩
    obtain ⟨rs, nrp, hr1, lr, hrs⟩ := id hR
    have lrs : (rs.map V.ref).length = R.length := by rw [List.length_map, lr]
    dsimp only [tSeq, tAsg, gName, tRet, tTup, tCons]
    refine uv_go (v := .str (T S)) rfl ?_
    refine uv_go (v := .ref r) rfl ?_
    refine lc_list (K := K) (t := uVar 3) (a := r) (xs := rs.map V.ref) (H1 := H1) (by exact fun _ h => h) (.inl (.inl hr1)) (fun B pre acc H8 => ∃ ks : List Bool, acc = ks.map V.bl ∧ ks.length = pre.length ∧ Ex TT (at1 p) H1 H8 ∧ Pot H8 p ∧ B ≠ p ∧ H8 B = some (.lst (ks.map V.bl)))
      (fun B pre acc H8 h => by obtain ⟨_, _, _, e, _⟩ := h; exact .inl (.inl (e.keep _ _ nrp hr1 fun _ z => nomatch z))) (fun B nB => ⟨[], rfl, rfl, .new nB, hp1.put (hp1.ne nB), (hp1.ne nB).symm, upd_same⟩)
      (fun B nB pre acc x suf H8 ex h => ?_) (fun KA nKA acc H8 h => ?_)
    · obtain ⟨ks, rfl, lk, e8, hp8, nBp, hB⟩ := h
      have newB : New H1 B := fun b o hb _ e => by rw [e, nB] at hb; cases hb
      have lp : pre.length < (rs.map V.ref).length := by rw [ex]; simp
      refine ⟨rfl, p, 2, rfl, by omega, by omega, hp8, fun H9 b e9 hp9 hb => ?_⟩
      have hB9 : H9 B = some (.lst (ks.map V.bl)) := e9.keep _ _ nBp hB fun _ z => nomatch z
      refine ⟨ks.map V.bl, hB9, by rw [List.length_map]; omega, _, ks ++ [decide ((b : Int) = 0)], by first | rw [List.map_append] | (rw [List.map_append]; rfl), by rw [List.length_append, List.length_append, lk]; rfl, (e8.trans e9).putN newB hB9 (fun _ z => nomatch z) (fun _ _ z => nomatch z), hp9.put nBp.symm, nBp, by rw [upd_same, List.map_append]; rfl⟩
    obtain ⟨ks, rfl, lk, e8, hp8, nKp, hK⟩ := h
    rw [lrs] at lk
    refine ⟨by show 3 ≤ sizeLine; omega, fun t nt => ?_⟩
    have et : Ex TT (at1 p) H8 (upd H8 t (.tup [.str (T S), .ref r, .ref KA])) := .new nt
    exact q _ t R ks ((e1.trans e8).trans et) (hp8.put (hp8.ne nt)) ⟨r, KA, (hp8.ne nt).symm, nKp, upd_same, (hR.ex e8).ex et, same_upd nt _ _ hK⟩ ⟨lt, ok, lo, by omega, lk⟩ wh hi
theorem scLMachine : FnScope ["_law_model_here"] ["_law_model_here"] (defScope sLMachine) := ⟨rfl, rfl, rfl, by decide +kernel, rfl, by decide +kernel, by decide +kernel⟩
def spLMachine (C : Addr) : Sp := fun vs H Q _ => ∃ (t : Addr) (S : List Nat) (R : Rows) (Kd : List Bool), vs = [.ref t] ∧ ModAt H t S R Kd ∧ ShOk S R Kd ∧ Whole R ∧ ∀ H' a, Same H H' → H a = none → MachN C H H' a S R Kd → Q (.ref a) H'
theorem ok_lmachine {f : Addr} {fd : FuncData} {k : Nat} (F : Fun K "_law_machine" "_law_machine" sLMachine f fd) (HI : HasI P w K mg base k "Machine" C ["letters", "rows", "kinds"] (spInit K C)) : FnG P w K mg base CX0 (k + 2) f fd ["_law_model_here"] (spLMachine C) := by
  refine okG F scLMachine (fun vs H Q E h => ?_) (fun cdv A hA outer s H vs Q E hr h => ?_)
  · obtain ⟨t, S, R, Kd, rfl, _⟩ := h; rfl
  · obtain ⟨t, S, R, Kd, rfl, ⟨r, kk, h1, h2, h3⟩, ok, wh, q⟩ := h
    refine ⟨_, pss_one (ps_ret (pe_mkI HI hA hr (by rfl) (pa_cons (pe_ixU (uv 0) pe_int) (pa_cons (pe_ixU (uv 0) pe_int) (pa_cons (pe_ixU (uv 0) pe_int) pa_nil))))), ?_⟩
    have ht : SqT K H t [.str (T S), .ref r, .ref kk] := .inl (.inl h1)
    refine ⟨_, _, .inr ht, rfl, _, _, .inr ht, rfl, _, _, .inr ht, rfl, rfl, ?_⟩
    exact mach_newN ok wh h2.at ⟨false, .inl (.inl h3)⟩ q
theorem scSigns : FnScope ["_law_pot_here"] ["_law_pot_here"] (defScope sSigns) := ⟨rfl, rfl, rfl, by decide +kernel, rfl, by decide +kernel, by decide +kernel⟩
def spSigns : Sp := fun vs H Q _ => ∃ (p : Addr), vs = [.ref p] ∧ Pot H p ∧ ∀ H' S, Ex TT (at1 p) H H' → Pot H' p → LetOk S → Q (.str (T S)) H'
abbrev sgns : List (List Nat) := [[97], [107], [97, 98], [97, 98], [98, 122], [99, 120], [97, 98, 99], [108, 109, 122]]
theorem sgns_ok : ∀ S ∈ sgns, LetOk S := by
  intro S hS
  have k1 : ∀ S ∈ sgns, (S.length = 1 ∨ S.length = 2 ∨ S.length = 3) ∧ (∀ c ∈ S, c ∈ smalls) ∧ S.Pairwise (· < ·) := by decide +kernel
  obtain ⟨a, b, c⟩ := k1 S hS
  exact ⟨c, b, by omega, by omega⟩
theorem ok_signs {f : Addr} {fd : FuncData} {k : Nat} (F : Fun K "_law_signs" "_law_signs" sSigns f fd) (HP : Has P w K mg base k "_law_pick" ["_law_pot_here", "_law_pack"] (spPick TT)) : FnG P w K mg base CX0 (k + 1) f fd ["_law_pot_here"] (spSigns TT) := by
  refine okG F scSigns (fun vs H Q E h => ?_) (fun cdv A hA outer s H vs Q E hr h => ?_)
  · obtain ⟨p, rfl, _⟩ := h; rfl
  · obtain ⟨p, rfl, hp, q⟩ := h
    have sl := sizeLine_eq
    refine ⟨_, pss_one (ps_ret (pe_callH HP hA hr (by rfl) (pa_cons (uv 0) (pa_cons (pe_lst (pa_cons (ustr [97]) (pa_cons (ustr [107]) (pa_cons (ustr [97, 98]) (pa_cons (ustr [97, 98]) (pa_cons (ustr [98, 122]) (pa_cons (ustr [99, 120]) (pa_cons (ustr [97, 98, 99]) (pa_cons (ustr [108, 109, 122]) pa_nil))))))))) pa_nil)))), ?_⟩
    refine ⟨by show 8 ≤ sizeLine; omega, fun a na => ?_⟩
    refine ⟨p, a, _, rfl, hp.put (hp.ne na), (hp.ne na).symm, upd_same, by show 0 < 8; omega, by show 8 ≤ 1000; omega, fun H' x e hp' hx => ?_⟩
    have hx2 : x ∈ sgns.map fun l => V.str (T l) := hx
    obtain ⟨S, hS, rfl⟩ := List.mem_map.mp hx2
    exact q H' S ((Ex.new na).trans e) hp' (sgns_ok S hS)
theorem scLTakes : FnScope ["_law_model_here", "_law_text", "_law_spot", "_law_sign"] ["_law_model_here", "_law_text"] (defScope sLTakes) := ⟨rfl, rfl, rfl, by decide +kernel, rfl, by decide +kernel, by decide +kernel⟩
def spLTakes : Sp := fun vs H Q _ => ∃ (t : Addr) (l S : List Nat) (R : Rows) (Kd : List Bool), vs = [.ref t, .str (T l)] ∧ ModAt H t S R Kd ∧ MOk S R Kd ∧ (∀ c ∈ l, c ∈ S) ∧ Q (.bl (Kd.getD (led S R 0 l) false)) H
theorem ok_ltakes {f : Addr} {fd : FuncData} {k : Nat} (F : Fun K "_law_takes" "_law_takes" sLTakes f fd) : FnG P w K mg base CX0 (k + 1) f fd ["_law_model_here", "_law_text"] spLTakes := by
  refine okG F scLTakes (fun vs H Q E h => ?_) (fun cdv A hA outer s H vs Q E hr h => ?_)
  · obtain ⟨t, l, S, R, Kd, rfl, _⟩ := h; rfl
  · obtain ⟨t, l, S, R, Kd, rfl, ⟨r, kk, ht, ⟨rs, h2, h3, h4⟩, hk⟩, ok, hl, q⟩ := h
    have nd := scLTakes.nd
    have lo := ok.lo
    refine ⟨_, pss_cons (ps_set (i := 2) nd rfl (.inl rfl) pe_int)
      (pss_cons (ps_for PassesOwn.never rfl (pi_str (uv 1)) (pg_name (i := 3) nd rfl (.inl rfl))
        (pss_one (ps_set (i := 2) nd rfl (.inl rfl) (pe_ixU (pe_ixU (pe_ixU (uv 0) pe_int) (uv 2)) (pe_bm PySem.F.plainAttrs_str PySem.F.slot_str_index PySem.F.type_str_index mt_sindex (pe_ixU (uv 0) pe_int) (pa_cons (uv 3) pa_nil))))))
      (pss_one (ps_ret (pe_ixU (pe_ixU (uv 0) pe_int) (uv 2))))), ?_⟩
    have hT : SqT K H t [.str (T S), .ref r, .ref kk] := .inl (.inl ht)
    dsimp only [tSeq, tAsg, gName]
    refine for_str (t := uVar 1) (l := l) (H1 := H) (by exact fun _ h => h) (fun pre σ H2 => H2 = H ∧ ∃ y3, σ = [some (.ref t), some (.str (T l)), some (.int (led S R 0 pre : Nat)), y3]) ⟨rfl, none, rfl⟩ (fun pre c suf σ H2 e iv => ?_) (fun σ H2 iv => ?_)
    · obtain ⟨rfl, y3, rfl⟩ := iv
      have hpre : ∀ d ∈ pre, d ∈ S := fun d hd => hl d (by rw [e]; simp [hd])
      have hc : c ∈ S := hl c (by rw [e]; simp)
      have lt := led_lt (p := 0) ok.rows (by omega) pre hpre
      obtain ⟨rest, ho⟩ := occ_idx ok.nd hc
      have lt2 : S.idxOf c < (gls R (led S R 0 pre)).length := by rw [gls_len ok.rows lt]; exact List.idxOf_lt_length_iff.mpr hc
      obtain ⟨qa, hq⟩ : ∃ qa, rs[led S R 0 pre]? = some qa := ⟨_, List.getElem?_eq_getElem (by omega)⟩
      have hrow := h4 _ _ hq
      refine ⟨_, _, .inr hT, rfl, rs.map V.ref, .ref qa, .inl (.inl (.inl h2)), atI_nat (by rw [List.getElem?_map, hq]; rfl), ?_⟩
      refine ⟨_, _, .inr hT, rfl, rfl, T S, T [c], S.idxOf c, rest, rfl, rfl, ho, ?_⟩
      refine ⟨iv (gls R (led S R 0 pre)), .int ((gls R (led S R 0 pre)).getD (S.idxOf c) 0 : Nat), .inl (.inl (.inl hrow)), atI_nat (by rw [List.getElem?_map, List.getElem?_eq_getElem lt2, List.getD_eq_getElem?_getD, List.getElem?_eq_getElem lt2]; rfl), ?_⟩
      exact ⟨rfl, _, by rw [led_snoc]; rfl⟩
    · obtain ⟨rfl, y3, rfl⟩ := iv
      have lt := led_lt (p := 0) ok.rows (by omega) l hl
      have hkd : Kd[led S R 0 l]? = some (Kd.getD (led S R 0 l) false) := by
        rw [List.getD_eq_getElem?_getD, List.getElem?_eq_getElem (by rw [ok.kinds]; exact lt)]; rfl
      exact ⟨_, _, .inr hT, rfl, Kd.map V.bl, .bl (Kd.getD (led S R 0 l) false), .inl (.inl (.inl hk)), atI_nat (by rw [List.getElem?_map, hkd]; rfl), q⟩
end
end LK

/-! k74: _law_words, _law_mixed, _law_turned_model -/
namespace LK
open PySem PySem.Spec PyProof.Rows L2 LamX ClX
open scoped List
theorem lets_inj {a b : List Nat} (h : lets a = lets b) : a = b := (List.map_inj_right fun x y z => by
  have z1 := T_inj (V.str.inj z)
  exact (List.cons.inj z1).1).mp h
section
variable {P : Program} {w : World} {K : PySem.W.Frag} {mg : Str → Option Value} {base : Heap} {C : Addr} (TT : List (Addr × Str))
theorem scMixed : FnScope ["_law_pot_here", "_law_some", "_law_left", "_law_found", "_law_turn"] ["_law_pot_here", "_law_some"] (defScope sMixed) := ⟨rfl, rfl, rfl, by decide +kernel, rfl, by decide +kernel, by decide +kernel⟩
/-- a new list of the same numbers, in some sequence -/
def spMixed : Sp := fun vs H Q _ => ∃ (p a : Addr) (xs : List Nat), vs = [.ref p, .ref a] ∧ Pot H p ∧ H a = some (.lst (iv xs)) ∧ xs.length ≤ 1000 ∧
  ∀ H' q ys, Ex TT (at1 p) H H' → Pot H' p → New H q → q ≠ p → H' q = some (.lst (iv ys)) → ys ~ xs → Q (.ref q) H'
theorem ok_mixed {f : Addr} {fd : FuncData} {k : Nat} (F : Fun K "_law_mixed" "_law_mixed" sMixed f fd) (M : Mx mg) (HD : Has P w K mg base k "_law_draw" ["_law_pot_here", "_law_size"] (spDraw TT)) :
    FnG P w K mg base CX0 (k + 1) f fd ["_law_pot_here", "_law_some"] (spMixed TT) := by
  refine okG F scMixed (fun vs H Q E h => ?_) (fun cdv A hA outer s H vs Q E hr h => ?_)
  · obtain ⟨p, a, xs, rfl, _⟩ := h; rfl
  · obtain ⟨p, a, xs, rfl, hp, ha, hn, q⟩ := h
    have nd := scMixed.nd
    have sl := sizeLine_eq
    refine ⟨_, pss_cons (ps_par (i := 2) (j := 3) (by rfl) nd rfl rfl (by decide) rfl rfl (pa_cons (pe_callTy (c_list rfl) (by rfl) M.list b_list (pa_cons (uv 1) pa_nil)) (pa_cons (pe_lst pa_nil) pa_nil)) (by rfl))
      (pss_cons (ps_for PassesOwn.never rfl (pi_range1 (by rfl) M.range (pa_cons (pe_callB c_len (by rfl) M.len b_len (pa_cons (uv 1) pa_nil)) pa_nil)) (pg_name (i := 4) nd rfl (.inl rfl))
        (pss_one (ps_expr (pe_bm PySem.F.plainAttrs_list PySem.F.slot_list_append PySem.F.type_list_append mt_append (uv 3)
          (pa_cons (pe_bm PySem.F.plainAttrs_list PySem.F.slot_list_pop PySem.F.type_list_pop mt_popAt (uv 2) (pa_cons (pe_callH HD hA hr (by rfl) (pa_cons (uv 0) (pa_cons (pe_callB c_len (by rfl) M.len b_len (pa_cons (uv 2) pa_nil)) pa_nil))) pa_nil)) pa_nil)))))
      (pss_one (ps_ret (uv 3)))), ?_⟩
    refine .inl ⟨iv xs, .inl (.inl (.inl ha)), fun L nL => ⟨by show 0 ≤ sizeLine; omega, fun B nB => ⟨_, _, rfl, ?_⟩⟩⟩
    have nLB : L ≠ B := ne_of_none upd_same nB
    have npL : p ≠ L := hp.ne nL
    have nBH : H B = none := Same.free (same_upd nL) nB
    have npB : p ≠ B := hp.ne nBH
    have newL : New H L := fun b o hb _ e => by rw [e, nL] at hb; cases hb
    have newB : New H B := fun b o hb _ e => by rw [e, nBH] at hb; cases hb
    have e0 : Same H (upd (upd H L (.lst (iv xs))) B (.lst [])) := same_upd2 (same_upd nL) nBH
    have hL0 : (upd (upd H L (.lst (iv xs))) B (.lst [])) L = some (.lst (iv xs)) := by rw [upd_ne nLB]; exact upd_same
    have hB0 : (upd (upd H L (.lst (iv xs))) B (.lst [])) B = some (.lst (iv [])) := upd_same
    have hp0 : Pot (upd (upd H L (.lst (iv xs))) B (.lst [])) p := (hp.put npL).put npB
    generalize upd (upd H L (.lst (iv xs))) B (.lst []) = H0 at e0 hL0 hB0 hp0
    dsimp only [tSeq]
    have ln : (iv xs).length = xs.length := List.length_map _
    refine for_rng (n := (iv xs).length) (H1 := H0) (fun R' h => .inl ⟨iv xs, .inl (.inl (.inl (e0 _ _ ha))), h⟩) (by omega) (fun i σ H2 => ∃ (lf fd : List Nat) (y4 : Option V), σ = [some (.ref p), some (.ref a), some (.ref L), some (.ref B), y4] ∧ Ex TT (at1 p) H H2 ∧ Pot H2 p ∧ H2 L = some (.lst (iv lf)) ∧ H2 B = some (.lst (iv fd)) ∧ (fd ++ lf) ~ xs ∧ fd.length = i)
      ⟨xs, [], none, rfl, .same e0, hp0, hL0, hB0, by simp, rfl⟩ (fun i σ H2 hi2 h => ?_) (fun σ H2 h => ?_)
    · obtain ⟨lf, fd, y4, rfl, e2, hp2, hL2, hB2, pm, rfl⟩ := h
      have lens := pm.length_eq
      rw [List.length_append] at lens
      have ll : (iv lf).length = lf.length := List.length_map _
      refine ⟨.inl ⟨rfl, _, .inl (.inl hB2)⟩, .inl ⟨rfl, _, .inl (.inl hL2)⟩, .inl ⟨iv lf, .inl (.inl (.inl hL2)), p, (iv lf).length, rfl, by omega, by omega, hp2, fun H3 d e3 hp3 hd => ?_⟩⟩
      have hL3 : H3 L = some (.lst (iv lf)) := e3.keep _ _ npL.symm hL2 fun _ z => nomatch z
      have hB3 : H3 B = some (.lst (iv fd)) := e3.keep _ _ npB.symm hB2 fun _ z => nomatch z
      obtain ⟨g, hg⟩ : ∃ g, lf[d]? = some g := ⟨_, List.getElem?_eq_getElem (by omega)⟩
      refine ⟨L, iv lf, d, d, .int (g : Nat), rfl, rfl, hL3, by omega, by omega, seqIx hd, by rw [List.getElem?_map, hg]; rfl, ?_⟩
      have hB4 : (upd H3 L (.lst ((iv lf).eraseIdx d))) B = some (.lst (iv fd)) := by rw [upd_ne nLB.symm]; exact hB3
      refine ⟨B, iv fd, .int (g : Nat), rfl, rfl, hB4, by rw [List.length_map]; omega, ?_⟩
      have e4 : Ex TT (at1 p) H (upd (upd H3 L (.lst ((iv lf).eraseIdx d))) B (.lst (iv fd ++ [.int (g : Nat)]))) :=
        ((e2.trans e3).putN newL hL3 (fun _ z => nomatch z) (fun _ _ z => nomatch z)).putN newB hB4 (fun _ z => nomatch z) (fun _ _ z => nomatch z)
      have er : (iv lf).eraseIdx d = iv (lf.eraseIdx d) := erase_iv lf d
      refine ⟨lf.eraseIdx d, fd ++ [g], _, rfl, e4, (hp3.put npL).put npB, ?_, ?_, ?_, by simp⟩
      · rw [upd_ne nLB, upd_same, er]
      · rw [upd_same, iv_app]; rfl
      · refine List.Perm.trans ?_ pm
        rw [List.append_assoc]
        refine List.Perm.append_left fd ?_
        have := erase_perm lf d g hg
        exact this
    · obtain ⟨lf, fd, y4, rfl, e2, hp2, hL2, hB2, pm, hl⟩ := h
      have lens := pm.length_eq
      rw [List.length_append] at lens
      have : lf = [] := List.length_eq_zero_iff.mp (by omega)
      subst this
      rw [List.append_nil] at pm
      exact q H2 B fd e2 hp2 newB npB.symm hB2 pm

abbrev ws (l : List (List Nat)) : List V := l.map fun x => V.str (T x)
theorem ws_app (a b : List (List Nat)) : ws (a ++ b) = ws a ++ ws b := List.map_append
abbrev nWo : List Str := ["_law_signs_here", "_law_most", "_law_found", "_law_last", "_law_turn", "_law_longer", "_law_word", "_law_sign"]
theorem scWords : FnScope nWo ["_law_signs_here", "_law_most"] (defScope sWords) := ⟨rfl, rfl, rfl, by decide +kernel, rfl, by decide +kernel, by decide +kernel⟩
/-- words over S of at most three letters -/
def WOk (S : List Nat) (n : Nat) (l : List (List Nat)) : Prop := ∀ x ∈ l, (∀ c ∈ x, c ∈ S) ∧ x.length ≤ n
def spWords : Sp := fun vs H Q _ => ∃ (S : List Nat), vs = [.str (T S), .int (3 : Nat)] ∧ LetOk S ∧ ∀ H' q l, Same H H' → H q = none → H' q = some (.lst (ws l)) → WOk S 3 l → l.length ≤ 1000 → Q (.ref q) H'
theorem ok_words {f : Addr} {fd : FuncData} {k : Nat} (F : Fun K "_law_words" "_law_words" sWords f fd) (M : Mx mg) : FnG P w K mg base CX0 (k + 1) f fd ["_law_signs_here", "_law_most"] spWords := by
  refine okG F scWords (fun vs H Q E h => ?_) (fun cdv A hA outer s H vs Q E hr h => ?_)
  · obtain ⟨S, rfl, _⟩ := h; rfl
  · obtain ⟨S, rfl, lt, q⟩ := h
    have nd := scWords.nd
    have sl := sizeLine_eq
    have l3 := lt.hi
    refine ⟨_, pss_cons (ps_par (i := 2) (j := 3) (by rfl) nd rfl rfl (by decide) rfl rfl (pa_cons (pe_lst (pa_cons (ustr []) pa_nil)) (pa_cons (pe_lst (pa_cons (ustr []) pa_nil)) pa_nil)) (by rfl))
      (pss_cons (ps_for PassesOwn.never rfl (pi_range1 (by rfl) M.range (pa_cons (uv 1) pa_nil)) (pg_name (i := 4) nd rfl (.inl rfl))
        (pss_cons (ps_set (i := 5) nd rfl (.inl rfl) (pe_lst pa_nil))
        (pss_cons (ps_for PassesOwn.never rfl (pi_list (uv 3)) (pg_name (i := 6) nd rfl (.inr rfl))
          (pss_one (ps_expr (pe_bm PySem.F.plainAttrs_list PySem.F.slot_list_extend PySem.F.type_list_extend mt_extend (uv 5)
            (pa_cons (pe_lc (own := [("_law_sign", 7)]) (g := gName 7) (tt := tYes) rfl nd (pi_str (uv 0)) (blkOk_by (N := nWo) (sc := defScope sWords) (by decide +kernel))
              (fun _ _ _ _ _ => pg_name (i := 7) nd rfl (Or.inl rfl)) (fun _ _ _ _ _ => pts_nil) (fun _ _ _ _ _ => pe_op o_add (uv 6) (uv 7))) pa_nil)))))
        (pss_cons (ps_set (i := 3) nd rfl (.inl rfl) (uv 5))
        (pss_one (ps_expr (pe_bm PySem.F.plainAttrs_list PySem.F.slot_list_extend PySem.F.type_list_extend mt_extend (uv 2) (pa_cons (uv 3) pa_nil))))))))
      (pss_one (ps_ret (uv 2)))), ?_⟩
    refine ⟨by show 1 ≤ sizeLine; omega, fun A1 n1 => ⟨by show 1 ≤ sizeLine; omega, fun B n2 => ⟨_, _, rfl, ?_⟩⟩⟩
    have nAB : A1 ≠ B := ne_of_none upd_same n2
    have nBH : H B = none := Same.free (same_upd n1) n2
    have e0 : Same H (upd (upd H A1 (.lst [.str (T [])])) B (.lst [.str (T [])])) := same_upd2 (same_upd n1) nBH
    have hA0 : (upd (upd H A1 (.lst [.str (T [])])) B (.lst [.str (T [])])) A1 = some (.lst (ws [[]])) := by rw [upd_ne nAB]; exact upd_same
    have hB0 : (upd (upd H A1 (.lst [.str (T [])])) B (.lst [.str (T [])])) B = some (.lst (ws [[]])) := upd_same
    generalize upd (upd H A1 (.lst [.str (T [])])) B (.lst [.str (T [])]) = H0 at e0 hA0 hB0
    dsimp only [tSeq]
    refine for_rng (n := 3) (H1 := H0) (by exact fun _ h => h) (by omega) (fun i σ H2 => ∃ (fo la : List (List Nat)) (L : Addr) (y4 y5 y6 : Option V), σ = [some (.str (T S)), some (.int ((3 : Nat) : Int)), some (.ref A1), some (.ref L), y4, y5, y6, none] ∧ Same H H2 ∧ L ≠ A1 ∧
        H2 A1 = some (.lst (ws fo)) ∧ H2 L = some (.lst (ws la)) ∧ WOk S i fo ∧ WOk S i la ∧ la.length ≤ 3 ^ i ∧ fo.length ≤ 4 ^ i)
      ⟨[[]], [[]], B, none, none, none, rfl, e0, nAB.symm, hA0, hB0, (fun x hx => by rw [List.mem_singleton.mp hx]; exact ⟨(fun c hc => by cases hc), Nat.zero_le _⟩), (fun x hx => by rw [List.mem_singleton.mp hx]; exact ⟨(fun c hc => by cases hc), Nat.zero_le _⟩), by decide, by decide⟩ (fun i σ H2 hi r => ?_) (fun σ H2 r => ?_)
    · obtain ⟨fo, la, L, y4, y5, y6, rfl, e2, nLA, hA2, hL2, wfo, wla, lla, lfo⟩ := r
      have p3 : la.length ≤ 27 := Nat.le_trans lla (Nat.pow_le_pow_right (by omega) (by omega : i ≤ 3))
      have p4 : fo.length ≤ 64 := Nat.le_trans lfo (Nat.pow_le_pow_right (by omega) (by omega : i ≤ 3))
      refine ⟨by show 0 ≤ sizeLine; omega, fun D nD => ?_⟩
      have nDA : D ≠ A1 := fun z => by rw [z, hA2] at nD; cases nD
      have nDH : H D = none := Same.free e2 nD
      dsimp only [tSeq, tAsg, gName]
      refine for_list (K := K) (t := uVar 3) (a := L) (xs := ws la) (H1 := upd H2 D (.lst [])) (by exact fun _ h => h) (.inl (.inl (same_upd nD _ _ hL2)))
        (fun pre σ H3 => ∃ (lp lo : List (List Nat)) (y6 : Option V), σ = [some (.str (T S)), some (.int ((3 : Nat) : Int)), some (.ref A1), some (.ref L), some (.int (i : Nat)), some (.ref D), y6, none] ∧ pre = ws lp ∧ Same H2 H3 ∧ H3 D = some (.lst (ws lo)) ∧ WOk S (i + 1) lo ∧ lo.length ≤ 3 * lp.length)
        (fun pre σ H3 r => by obtain ⟨_, _, _, _, _, e, _⟩ := r; exact .inl (.inl (e _ _ hL2))) ⟨[], [], y6, rfl, rfl, same_upd nD, upd_same, (fun x hx => by cases hx), Nat.zero_le _⟩ (fun pre x suf σ H3 ex r => ?_) (fun σ H3 r => ?_)
      · obtain ⟨lp, lo, y6, rfl, rfl, e3, hD3, wlo, llo⟩ := r
        obtain ⟨p1, g, q1, el, ep, rfl⟩ := split_map ex
        have gl : g ∈ la := by rw [el]; simp
        have lpl : lp.length = p1.length := by have := congrArg List.length ep; rw [List.length_map, List.length_map] at this; exact this
        have l7 : p1.length < la.length := by have := congrArg List.length el; rw [List.length_append, List.length_cons] at this; omega
        obtain ⟨w1, w2⟩ := wla g gl
        refine ⟨.inl ⟨rfl, _, .inl (.inl hD3)⟩, ?_⟩
        refine lc_str (t := uVar 0) (l := S) (H1 := H3) (by exact fun _ h => h) (fun E1 L1 acc H4 => ∃ pp : List Nat, L1 = lets pp ∧ acc = ws (pp.map fun c => g ++ [c]) ∧ H4 = upd H3 E1 (.lst acc)) (fun E1 nE => ⟨[], rfl, rfl, rfl⟩) (fun E1 nE pre2 acc c suf2 H4 e r => ?_) (fun E1 nE acc H4 r => ?_)
        · obtain ⟨pp, ep2, rfl, rfl⟩ := r
          obtain rfl := lets_inj ep2
          have l4 : pre2.length < 3 := by
            have := congrArg List.length e
            rw [List.length_append, List.length_cons] at this
            omega
          refine ⟨rfl, by show g.length + 1 ≤ sizeLine; omega, ?_⟩
          exact ⟨_, upd_same, by rw [List.length_map, List.length_map]; omega, _, pre2 ++ [c], rfl, rfl, by rw [upd_upd]; congr 2; rw [List.map_append]; exact (ws_app _ [g ++ [c]]).symm⟩
        · obtain ⟨pp, ep2, rfl, rfl⟩ := r
          obtain rfl := lets_inj ep2
          have nED : E1 ≠ D := fun z => by rw [z, hD3] at nE; cases nE
          refine ⟨D, E1, ws lo, ws (S.map fun c => g ++ [c]), rfl, rfl, by rw [upd_ne nED.symm]; exact hD3, upd_same, by rw [List.length_map, List.length_map, List.length_map]; omega, ?_⟩
          have nE2 : H2 E1 = none := Same.free e3 nE
          refine ⟨lp ++ [g], lo ++ S.map fun c => g ++ [c], _, rfl, by rw [ws_app]; rfl, same_upd2 (same_upd2 e3 nE2) nD, by rw [upd_same, ws_app], fun x hx => ?_, by rw [List.length_append, List.length_map, List.length_append, List.length_singleton]; omega⟩
          rcases List.mem_append.mp hx with h | h
          · exact wlo x h
          · obtain ⟨c, hc, rfl⟩ := List.mem_map.mp h
            exact ⟨fun d hd => by
              rcases List.mem_append.mp hd with h | h
              · exact w1 d h
              · rw [List.mem_singleton.mp h]; exact hc, by rw [List.length_append, List.length_singleton]; omega⟩
      · obtain ⟨lp, lo, y6, rfl, ep, e3, hD3, wlo, llo⟩ := r
        have lpl : lp.length = la.length := by have := congrArg List.length ep; rw [List.length_map, List.length_map] at this; exact this.symm
        have hA3 := e3 _ _ hA2
        refine ⟨.inl ⟨rfl, _, .inl (.inl hA3)⟩, A1, D, ws fo, ws lo, rfl, rfl, hA3, hD3, by rw [List.length_map, List.length_map]; omega, ?_⟩
        refine ⟨fo ++ lo, lo, D, _, _, _, rfl, same_upd2 (e2.trans e3) n1, nDA, by rw [upd_same, ws_app], by rw [upd_ne nDA]; exact hD3, fun x hx => ?_, wlo, ?_, ?_⟩
        · rcases List.mem_append.mp hx with h | h
          · exact ⟨(wfo x h).1, Nat.le_succ_of_le (wfo x h).2⟩
          · exact wlo x h
        · rw [Nat.pow_succ]; omega
        · have : 3 ^ i ≤ 4 ^ i := Nat.pow_le_pow_left (by omega) i
          rw [List.length_append, Nat.pow_succ]; omega
    · obtain ⟨fo, la, L, y4, y5, y6, rfl, e2, nLA, hA2, hL2, wfo, wla, lla, lfo⟩ := r
      exact q H2 A1 fo e2 n1 hA2 wfo (by have : (4 : Nat) ^ 3 = 64 := by decide
                                         omega)
abbrev nTM : List Str := ["_law_model_here", "_law_spots", "_law_spot", "_law_kind"]
theorem scTModel : FnScope nTM ["_law_model_here", "_law_spots"] (defScope sTModel) := ⟨rfl, rfl, rfl, by decide +kernel, rfl, by decide +kernel, by decide +kernel⟩
def spTModel : Sp := fun vs H Q _ => ∃ (t b : Addr) (S : List Nat) (R : Rows) (Kd : List Bool) (ls : List Nat), vs = [.ref t, .ref b] ∧ ModAt H t S R Kd ∧ H b = some (.lst (iv ls)) ∧ Kd.length ≤ 1000 ∧ ∀ H' t2, Same H H' → H t2 = none → ModAt H' t2 S R (turnK Kd ls) → Q (.ref t2) H'
theorem ok_tmodel {f : Addr} {fd : FuncData} {k : Nat} (F : Fun K "_law_turned_model" "_law_turned_model" sTModel f fd) (M : Mx mg) : FnG P w K mg base CX0 (k + 1) f fd ["_law_model_here", "_law_spots"] spTModel := by
  refine okG F scTModel (fun vs H Q E h => ?_) (fun cdv A hA outer s H vs Q E hr h => ?_)
  · obtain ⟨t, b, S, R, Kd, ls, rfl, _⟩ := h; rfl
  · obtain ⟨t, b, S, R, Kd, ls, rfl, ⟨r, kk, ht, hR, hk⟩, hb, lk, q⟩ := h
    have nd := scTModel.nd
    have sl := sizeLine_eq
    refine ⟨_, pss_one (ps_ret (pe_tup (pa_cons (pe_ixU (uv 0) pe_int) (pa_cons (pe_ixU (uv 0) pe_int) (pa_cons (pe_lc (own := [("_law_spot", 2), ("_law_kind", 3)]) (g := gTup K 2 (gCons (gName 2) (gCons (gName 3) gNil))) (tt := tYes) rfl nd (pi_enumB (by rfl) M.enumerate (pa_cons (pe_ixU (uv 0) pe_int) pa_nil)) (blkOk_by (N := nTM) (sc := defScope sTModel) (by decide +kernel))
        (fun _ _ _ _ _ => pg_tup rfl (pgs_cons (pg_name (i := 2) nd rfl (.inl rfl)) (pgs_cons (pg_name (i := 3) nd rfl (.inl rfl)) pgs_nil))) (fun _ _ _ _ _ => pts_nil)
        (fun _ _ _ _ _ => pe_cu (r := eqU K true) (o_ne hr.units) (uv 3) (pe_cu (r := rIn K false) op_in_seq (uv 2) (uv 1) (by rfl)))) pa_nil))))), ?_⟩
    have hT : SqT K H t [.str (T S), .ref r, .ref kk] := .inl (.inl ht)
    have lenK : (Kd.map V.bl).length = Kd.length := List.length_map _
    refine ⟨_, _, .inr hT, rfl, _, _, .inr hT, rfl, ?_⟩
    refine lc_enB (K := K) (tp := false) (ta := tCons (tOp (ixU K) (uVar 0) (tC (.int 2))) tNil) (a := kk) (xs := Kd.map V.bl) (H1 := H) (fun R' h => ⟨_, _, .inr hT, rfl, h⟩) (.inl (.inl hk))
      (fun D i acc H3 => ∃ ks : List Bool, acc = ks.map V.bl ∧ ks.length = i ∧ (∀ j, j < i → ks[j]? = some (!decide (Kd.getD j false = decide (j ∈ ls)))) ∧ Same H H3 ∧ H3 D = some (.lst acc))
      (fun D i acc H3 r => by obtain ⟨_, _, _, _, r, _⟩ := r; exact .inl (.inl (r _ _ hk))) (fun D nD => ⟨[], rfl, rfl, fun j z => absurd z (Nat.not_lt_zero _), same_upd nD, upd_same⟩) (fun D nD i acc x p3 H3 hx r np3 => ?_) (fun D nD acc H3 r => ?_)
    · obtain ⟨ks, rfl, hl3, hks, e3, hD⟩ := r
      have li : i < Kd.length := by have := (List.getElem?_eq_some_iff.mp hx).1; omega
      rw [List.getElem?_map] at hx
      obtain ⟨kd, hkd, rfl⟩ := Option.map_eq_some_iff.mp hx
      have e4 := e3.trans (same_upd (o := .tup [.int (i : Nat), .bl kd]) np3)
      have nDp : D ≠ p3 := ne_of_none hD np3
      refine ⟨p3, _, rfl, .inl (.inl upd_same), rfl, _, _, rfl, _, _, rfl, rfl, rfl, ?_⟩
      refine ⟨b, iv ls, rfl, .inl (.inl (.inl (e4 _ _ hb))), rfl, flat_iv _, ?_⟩
      refine ⟨ks.map V.bl, by rw [upd_ne nDp]; exact hD, by rw [List.length_map]; omega, _, ks ++ [!decide (kd = inV (.int (i : Nat)) (iv ls))], by rw [List.map_append]; rfl, by rw [List.length_append]; show ks.length + 1 = _; omega, fun j hj => ?_, same_upd2 e4 nD, upd_same⟩
      rcases Nat.lt_or_ge j ks.length with h1 | h1
      · rw [List.getElem?_append_left h1]; exact hks j (by omega)
      · have : j = ks.length := by omega
        subst this
        rw [List.getElem?_append_right (Nat.le_refl _), Nat.sub_self, in_iv, hl3, List.getD_eq_getElem?_getD, hkd]
        rfl
    obtain ⟨ks, rfl, hl3, hks, e3, hD⟩ := r
    have eK : ks = turnK Kd ls := by
      refine List.ext_getElem? fun j => ?_
      unfold turnK
      rw [List.getElem?_map]
      by_cases hj : j < Kd.length
      · rw [hks j (by omega), List.getElem?_range hj]; rfl
      · rw [List.getElem?_eq_none (by omega), List.getElem?_eq_none (by rw [List.length_range]; omega)]; rfl
    subst eK
    refine ⟨by show 3 ≤ sizeLine; omega, fun t2 nt2 => ?_⟩
    exact q _ t2 (e3.trans (same_upd nt2)) (Same.free e3 nt2) ⟨r, D, upd_same, hR.ext (e3.trans (same_upd nt2)), same_upd nt2 _ _ hD⟩
end
end LK

/-! k74: _law_led, _law_led_right -/
namespace LK
open PySem PySem.Spec PyProof.Rows L2 LamX ClX
open scoped List
theorem setR_back {R : Rows} {m p j g : Nat} (ok : RowsOk R m) (hp : p < R.length) (hj : j < m) : setR (setR R p j g) p j ((gls R p).getD j 0) = R := by
  have e1 : gls (setR R p j g) p = (gls R p).set j g := by unfold setR; rw [gls_set hp, if_pos rfl]
  have lj : j < (gls R p).length := by rw [gls_len ok hp]; exact hj
  unfold setR at *
  rw [e1, List.set_set, List.set_set]
  have e2 : (gls R p).set j ((gls R p).getD j 0) = gls R p := by
    rw [List.getD_eq_getElem?_getD, List.getElem?_eq_getElem lj]
    exact List.set_getElem_self lj
  rw [e2]
  have e3 : gls R p = R[p] := by unfold gls; rw [List.getD_eq_getElem?_getD, List.getElem?_eq_getElem hp]; rfl
  rw [e3]
  exact List.set_getElem_self hp
/-- the values by name, the names turned round -/
theorem pe_callHR {X : Cx} {k : Nat} {ps ks : List Str} {sp : Sp} {x : Str} {p pos : Pos} {kws : List Keyword} {tk : TA} (F : Has X.prog X.w X.K X.mg X.base k x ps sp) (hA : X.A.guards = some []) (hr : Room k X.A) (hg : Gl X x)
    (hkw : PK X kws tk) (hord : ks = ps.reverse) (hall : (backToKw pos (keywordEach kws X.env)).all (·.1.isSome) = true := by rfl) (hks : (backToKw pos (keywordEach kws X.env)).filterMap (·.1) = ks := by rfl)
    (hpl : ((backTo pos (starEach [] X.env)).any (·.1) || (backToKw pos (keywordEach kws X.env)).any (·.1.isNone)) = false := by rfl)
    (hdb : (x == ("__debug__" : Str)) = false := by decide) : PE X (.Call (.Name x p) [] kws pos) (uCallK sp List.reverse tk) := by
  refine pe_callHK (ks := ks) (g := List.reverse) (gV := List.reverse) F hA hr hg hkw hall hks hpl (fun f fd b s ws l l2 => ?_) (fun zs ws r l => ?_) hdb
  · have z := (b s ws.reverse l2).2
    subst hord
    have l3 : ws.reverse.length = ps.length := l2
    have ez : (ps.zip ws.reverse).reverse = ps.reverse.zip ws := by
      rw [List.zip_eq_zipWith, List.zip_eq_zipWith, List.reverse_zipWith l3.symm, List.reverse_reverse]
    rw [ez] at z
    exact z
  · refine ⟨r.reverse, ?_⟩
    rw [hord, List.length_reverse, ← l, List.length_reverse, r.length]
section
variable {P : Program} {w : World} {K : PySem.W.Frag} {mg : Str → Option Value} {base : Heap} {C cN : Addr}
theorem scLLed : FnScope ["_law_net", "_law_spot", "_law_sign", "_law_goal_now", "_law_told", "e"] ["_law_net", "_law_spot", "_law_sign", "_law_goal_now"] (defScope sLLed) := ⟨rfl, rfl, rfl, by decide +kernel, rfl, by decide +kernel, by decide +kernel⟩
def spLLed (C : Addr) : Sp := fun vs H Q _ => ∃ (a : Addr) (p c g : Nat) (S : List Nat) (R : Rows) (Kd : List Bool), vs = [.ref a, .int p, .str (T [c]), .int g] ∧ Mach C H a S R Kd ∧ ShOk S R Kd ∧ p < R.length ∧ c ∈ S ∧ g < R.length ∧
  (Whole (setR R p (S.idxOf c) g) → ∀ H' m, Same H H' → H m = none → MachN C H H' m S (setR R p (S.idxOf c) g) Kd → Q (.ref m) H') ∧ (¬ Whole (setR R p (S.idxOf c) g) → ∀ H', Same H H' → Q .non H')
theorem ok_lled {f : Addr} {fd : FuncData} {k : Nat} (F : Fun K "_law_led" "_law_led" sLLed f fd) (HX : HasX P w K mg base k "redirected" ["machine", "place", "letter", "goal"] (spRedirX C cN)) (gN : mg "NotComeTo" = some (.ref cN)) (x0 : PySem.W.exmOne K (.ref cN) (.ref cN) = some true) :
    FnG P w K mg base CX0 (k + 1) f fd ["_law_net", "_law_spot", "_law_sign", "_law_goal_now"] (spLLed C) := by
  refine okG F scLLed (fun vs H Q E h => ?_) (fun cdv A hA outer s H vs Q E hr h => ?_)
  · obtain ⟨a, p, c, g, S, R, Kd, rfl, _⟩ := h; rfl
  · obtain ⟨a, p, c, g, S, R, Kd, rfl, mm, ok, hp, hc, hg, q, qx⟩ := h
    have nd := scLLed.nd
    refine ⟨_, pss_cons (ps_set (i := 4) nd rfl (.inl rfl) pe_non)
      (pss_cons (ps_try_mix rfl rfl nd
          (fun W pn xe tk => pss_one (ps_set (i := 4) nd rfl (.inl rfl) (pe_callXH HX hA hr (by rfl) (fun σ => passAt tk σ) (pa_cons (uv 0) (pa_cons (uv 1) (pa_cons (uv 2) (pa_cons (uv 3) pa_nil)))))))
          (.as (i := 5) rfl rfl ⟨by rfl, by decide, .inl gN⟩ (fun a oe cls d pn hz hf => pss_one (ps_set (i := 4) nd rfl (.inl rfl) pe_non)) .nil))
      (pss_one (ps_ret (uv 4)))), ?_⟩
    refine ⟨a, p, c, g, S, R, Kd, rfl, mm, ok, hp, hc, hg, fun wh H' m e nm mach => ?_, fun wh d H' e => ?_⟩
    · exact q wh H' m e nm mach
    · exact ⟨true, x0, fun _ a ha => qx wh H' e, fun z => Bool.noConfusion z⟩
theorem scLedRight : FnScope ["_law_net", "_law_told", "_law_spot", "_law_sign", "_law_goals"] ["_law_net", "_law_told", "_law_spot", "_law_sign", "_law_goals"] (defScope sLedRight) := ⟨rfl, rfl, rfl, by decide +kernel, rfl, by decide +kernel, by decide +kernel⟩
def spLedRight (C : Addr) : Sp := fun vs H Q _ => ∃ (a b gs : Addr) (p c g : Nat) (S : List Nat) (R : Rows) (Kd : List Bool), vs = [.ref a, .ref b, .int p, .str (T [c]), .ref gs] ∧ Mach C H a S R Kd ∧ Mach C H b S (setR R p (S.idxOf c) g) Kd ∧ H gs = some (.lst [.int g, .int ((gls R p).getD (S.idxOf c) 0 : Nat)]) ∧
  ShOk S R Kd ∧ Whole R ∧ Whole (setR R p (S.idxOf c) g) ∧ p < R.length ∧ c ∈ S ∧ g < R.length ∧ ∀ H', Same H H' → Q (.bl true) H'
theorem notFirst_self {K : PySem.W.Frag} {C : Addr} : PySem.W.notFirst K C (.ref C) = true := by simp [PySem.W.notFirst]
/-- two machines with the same parts are equal -/
theorem mach_eq {K : PySem.W.Frag} {neg : Bool} {H : Hp} {a b : Addr} {S : List Nat} {R : Rows} {Kd : List Bool} {Q : VK} (iM : IsM K C) (m1 : Mach C H a S R Kd) (m2 : Mach C H b S R Kd) (hz : R.length ≤ 1000) (q : ∀ H', Same H H' → Q (.bl (!neg)) H') : eqI K C (spEq K C) neg (.ref a) (.ref b) H Q := by
  obtain ⟨dx, _, _, _, h1, _⟩ := id m1
  obtain ⟨dx2, _, _, _, h2, _⟩ := id m2
  refine ⟨dx, _, _, h1, iM.ty _ _ _ _ h2 (mf_none (by decide +kernel) (by decide +kernel) (by decide +kernel)), notFirst_self, a, .ref b, S, R, Kd, rfl, m1, hz, .inl ⟨b, S, R, Kd, rfl, m2, hz, fun H' e => ⟨_, rfl, ?_⟩⟩⟩
  have e2 : (if neg = true then !decide (S = S ∧ R = R ∧ Kd = Kd) else decide (S = S ∧ R = R ∧ Kd = Kd)) = !neg := by
    rw [decide_eq_true ⟨rfl, rfl, rfl⟩]; cases neg <;> rfl
  rw [e2]
  exact q H' e
theorem ok_ledRight {f : Addr} {fd : FuncData} {k : Nat} (F : Fun K "_law_led_right" "_law_led_right" sLedRight f fd) (M : Mx mg) (iM : IsM K C) (eC : EqC K C) (HQ : HasM P w K mg base k C "__eq__" ["other"] (spEq K C)) (HR : Has P w K mg base k "redirected" ["machine", "place", "letter", "goal"] (spRedir C)) :
    FnG P w K mg base CX0 (k + 2) f fd ["_law_net", "_law_told", "_law_spot", "_law_sign", "_law_goals"] (spLedRight C) := by
  refine okG F scLedRight (fun vs H Q E h => ?_) (fun cdv A hA outer s H vs Q E hr h => ?_)
  · obtain ⟨a, b, gs, p, c, g, S, R, Kd, rfl, _⟩ := h; rfl
  · obtain ⟨a, b, gs, p, c, g, S, R, Kd, rfl, ma, mb, hgs, ok, wh, wh2, hp, hc, hg, q⟩ := h
    have nd := scLedRight.nd
    have hhi := ok.hi
    have hr1 := hr.mono (Nat.le_succ k)
    refine ⟨_, pss_cons (ps_ifU (pt_cu (r := eqI K C (spEq K C) true) (o_neI HQ eC hA hr) (pe_callHR (ks := ["goal", "letter", "place", "machine"]) HR hA hr1 (by rfl) (pk_cons (pe_ixU (uv 4) pe_int) (pk_cons (uv 3) (pk_cons (uv 2) (pk_cons (uv 0) pk_nil)))) (by rfl)) (uv 1)) (pss_one (ps_ret pe_bl)) pss_nil)
      (pss_one (ps_ret (pe_cu (r := eqI K C (spEq K C) false) (o_eqI HQ hA hr1) (pe_callH HR hA hr1 (by rfl) (pa_cons (uv 1) (pa_cons (uv 2) (pa_cons (uv 3) (pa_cons (pe_ixU (uv 4) pe_int) pa_nil))))) (uv 0)))), ?_⟩
    have ji : S.idxOf c < S.length := List.idxOf_lt_length_iff.mpr hc
    refine ⟨_, _, .inl (.inl (.inl hgs)), rfl, ?_⟩
    refine ⟨a, p, c, g, S, R, Kd, rfl, ma, ok, hp, hc, hg, wh2, fun H1 m e1 nm mach => ?_⟩
    refine mach_eq iM mach.m (mb.ext e1) (by rw [setR_len]; omega) fun H2 e2 => .no ?_
    have e12 := e1.trans e2
    have ok2 : ShOk S (setR R p (S.idxOf c) g) Kd := ⟨ok.let_, setR_ok ok.rows hp hg, by rw [setR_len]; exact ok.lo, by rw [setR_len]; exact ok.hi, by rw [setR_len]; exact ok.kinds⟩
    have g0l : (gls R p).getD (S.idxOf c) 0 < R.length := by
      rw [List.getD_eq_getElem?_getD, List.getElem?_eq_getElem (by rw [gls_len ok.rows hp]; exact ji)]
      exact gls_lt ok.rows (List.getElem_mem _)
    have bk := setR_back (g := g) ok.rows hp ji
    refine ⟨_, _, .inl (.inl (.inl (e12 _ _ hgs))), rfl, ?_⟩
    refine ⟨b, p, c, (gls R p).getD (S.idxOf c) 0, S, _, Kd, rfl, mb.ext e12, ok2, by rw [setR_len]; exact hp, hc, by rw [setR_len]; exact g0l, by rw [bk]; exact wh, fun H3 m2 e3 nm2 mach2 => ?_⟩
    rw [bk] at mach2
    exact mach_eq iM mach2.m (ma.ext (e12.trans e3)) (by omega) fun H4 e4 => q H4 ((e12.trans e3).trans e4)
end
end LK

/-! k74: kinds turned, walks wherever the list lies, machines apart from what is written -/
namespace LK
open PySem PySem.Spec PyProof.Rows L2 LamX ClX
open scoped List
/-! ### kinds turned -/
theorem turnK_get {Kd : List Bool} {ls : List Nat} {i : Nat} : (turnK Kd ls)[i]? = if i < Kd.length then some (!decide (Kd.getD i false = decide (i ∈ ls))) else none := by
  unfold turnK
  rw [List.getElem?_map]
  by_cases h : i < Kd.length
  · rw [if_pos h, List.getElem?_range h]; rfl
  · rw [if_neg h, List.getElem?_eq_none (by rw [List.length_range]; omega)]; rfl
theorem turnK_getD {Kd : List Bool} {ls : List Nat} {i : Nat} (h : i < Kd.length) : (turnK Kd ls).getD i false = !decide (Kd.getD i false = decide (i ∈ ls)) := by
  rw [List.getD_eq_getElem?_getD, turnK_get, if_pos h]; rfl
theorem turnK_iff {Kd : List Bool} {a b : List Nat} (h : ∀ x, x ∈ a ↔ x ∈ b) : turnK Kd a = turnK Kd b := by
  refine List.ext_getElem? fun i => ?_
  rw [turnK_get, turnK_get, decide_eq_decide.mpr (h i)]
theorem turnK_nil {Kd : List Bool} : turnK Kd [] = Kd := by
  refine List.ext_getElem? fun i => ?_
  rw [turnK_get]
  by_cases h : i < Kd.length
  · rw [if_pos h, List.getD_eq_getElem?_getD, List.getElem?_eq_getElem h]
    cases Kd[i] <;> rfl
  · rw [if_neg h, List.getElem?_eq_none (by omega)]
theorem turnK_twice {Kd : List Bool} {ls : List Nat} : turnK (turnK Kd ls) ls = Kd := by
  refine List.ext_getElem? fun i => ?_
  rw [turnK_get, turnK_len]
  by_cases h : i < Kd.length
  · rw [if_pos h, turnK_getD h, List.getD_eq_getElem?_getD, List.getElem?_eq_getElem h]
    cases Kd[i] <;> cases decide (i ∈ ls) <;> rfl
  · rw [if_neg h, List.getElem?_eq_none (by omega)]
theorem turnK_snoc {Kd : List Bool} {ls : List Nat} {s : Nat} (hs : s ∉ ls) : turnK (turnK Kd ls) [s] = turnK Kd (ls ++ [s]) := by
  refine List.ext_getElem? fun i => ?_
  rw [turnK_get, turnK_len, turnK_get]
  by_cases h : i < Kd.length
  · rw [if_pos h, if_pos h, turnK_getD h]
    by_cases e : i = s
    · subst e
      rw [decide_eq_false hs, show decide (i ∈ [i]) = true by simp, show decide (i ∈ ls ++ [i]) = true by simp]
      cases Kd.getD i false <;> rfl
    · rw [show decide (i ∈ [s]) = false by simp [e], show decide (i ∈ ls ++ [s]) = decide (i ∈ ls) by simp [e]]
      cases Kd.getD i false <;> cases decide (i ∈ ls) <;> rfl
  · rw [if_neg h, if_neg h]
theorem turnK_all {Kd : List Bool} {n : Nat} (h : Kd.length = n) : turnK Kd (List.range n) = Kd.map not := by
  refine List.ext_getElem? fun i => ?_
  rw [turnK_get, List.getElem?_map]
  by_cases hi : i < Kd.length
  · rw [if_pos hi, List.getD_eq_getElem?_getD, List.getElem?_eq_getElem hi, show decide (i ∈ List.range n) = true by simp; omega]
    cases Kd[i] <;> rfl
  · rw [if_neg hi, List.getElem?_eq_none (by omega)]; rfl
/-! ### walks -/
section
variable {K : PySem.W.Frag} {g : TG} {tt : TT} {te : TE} {tb : TS} {σ : L2.St} {H : Hp} {vs : List Nat} {Q : VK} {t : TE} {D : Ends}
/-- a comprehension with if over a list, wherever it lies -/
theorem lc_listFM (h : t σ H fun v H1 => ∃ (a : Addr) (xs : List V), v = .ref a ∧ SqL K H1 a xs ∧ ∃ R : Addr → List V → List V → Hp → Prop, (∀ D pre acc H, R D pre acc H → SqL K H a xs) ∧ (∀ D, H1 D = none → R D [] [] (upd H1 D (.lst []))) ∧
    (∀ D, H1 D = none → ∀ pre acc x suf H, xs = pre ++ x :: suf → R D pre acc H → g x (wipe σ vs) H fun σ2 H2 => wipe σ2 vs = wipe σ vs ∧ tt σ2 H2 fun b H3 => if b = true then te σ2 H3 fun y H4 =>
      ∃ acc, H4 D = some (.lst acc) ∧ acc.length < sizeLine ∧ ∃ a, R D (pre ++ [x]) a (upd H4 D (.lst (acc ++ [y]))) else ∃ a, R D (pre ++ [x]) a H3) ∧
    (∀ D, H1 D = none → ∀ acc H, R D xs acc H → Q (.ref D) H)) : tLc (iList K (cl t)) g tt te vs σ H Q := by
  refine ⟨_, h, fun v H1 z => ?_⟩
  obtain ⟨a, xs, rfl, hx, R, hP, h0, hs, he⟩ := z
  exact ⟨a, rfl, ⟨_, hx⟩, fun D nD => lc_wkF wk_list (fun pre acc H => R D pre acc H) (hP D) (h0 D nD) (hs D nD) (he D nD)⟩
/-- for over a list, wherever it lies -/
theorem for_listM (h : t σ H fun v H1 => ∃ (a : Addr) (xs : List V), v = .ref a ∧ SqL K H1 a xs ∧ ∃ Iv : List V → L2.St → Hp → Prop, (∀ pre σ H, Iv pre σ H → SqL K H a xs) ∧ Iv [] σ H1 ∧
    (∀ pre x suf σ H, xs = pre ++ x :: suf → Iv pre σ H → g x σ H fun σ2 H2 => tb { D with nx := Iv (pre ++ [x]), ct := Iv (pre ++ [x]), bk := D.nx } σ2 H2) ∧ (∀ σ H, Iv xs σ H → D.nx σ H)) : tFor (iList K (cl t)) g tb D σ H := by
  refine ⟨_, h, fun v H1 z => ?_⟩
  obtain ⟨a, xs, rfl, hx, Iv, hP, h0, hs, he⟩ := z
  exact ⟨a, rfl, ⟨_, hx⟩, for_wk wk_list Iv hP h0 hs he⟩
end
/-! ### what stays -/
/-- a machine whose lists lie apart from S -/
def MachX (S : Addr → Prop) (C : Addr) (H : Hp) (a : Addr) (Sg : List Nat) (R : Rows) (Kd : List Bool) : Prop := ∃ (dx r k : Addr) (rs : List Addr), ¬ S a ∧ ¬ S r ∧ ¬ S k ∧ H a = some (.ins C dx (mf3 Sg r k)) ∧
  H r = some (.lst (rs.map V.ref)) ∧ rs.length = R.length ∧ (∀ i p, rs[i]? = some p → ¬ S p ∧ H p = some (.lst (iv (gls R i)))) ∧ H k = some (.lst (Kd.map V.bl))
section
variable {S S' : Addr → Prop} {C : Addr} {H0 H H' : Hp} {a : Addr} {Sg : List Nat} {R : Rows} {Kd : List Bool} {TT : List (Addr × Str)}
theorem MachX.m (h : MachX S C H a Sg R Kd) : Mach C H a Sg R Kd := by
  obtain ⟨dx, r, k, rs, _, _, _, h1, h2, h3, h4, h5⟩ := h
  exact ⟨dx, r, k, rs, h1, h2, h3, fun i p hp => (h4 i p hp).2, h5⟩
theorem MachX.ex (h : MachX S C H a Sg R Kd) (e : Ex TT S H H') : MachX S C H' a Sg R Kd := by
  obtain ⟨dx, r, k, rs, n1, n2, n3, h1, h2, h3, h4, h5⟩ := h
  exact ⟨dx, r, k, rs, n1, n2, n3, e.keep _ _ n1 h1 (fun _ z => nomatch z), e.lst n2 h2, h3, fun i p hp => ⟨(h4 i p hp).1, e.lst (h4 i p hp).1 (h4 i p hp).2⟩, e.lst n3 h5⟩
theorem MachX.same (h : MachX S C H a Sg R Kd) (e : Same H H') : MachX S C H' a Sg R Kd := h.ex (TT := []) (.same e)
theorem MachX.mono (h : MachX S C H a Sg R Kd) (hs : ∀ b o, H b = some o → S' b → S b) : MachX S' C H a Sg R Kd := by
  obtain ⟨dx, r, k, rs, n1, n2, n3, h1, h2, h3, h4, h5⟩ := h
  exact ⟨dx, r, k, rs, fun z => n1 (hs _ _ h1 z), fun z => n2 (hs _ _ h2 z), fun z => n3 (hs _ _ h5 z), h1, h2, h3, fun i p hp => ⟨fun z => (h4 i p hp).1 (hs _ _ (h4 i p hp).2 z), (h4 i p hp).2⟩, h5⟩
theorem MachN.x (h : MachN C H0 H a Sg R Kd) (na : H0 a = none) (hs : ∀ b, S b → H0 b ≠ none) : MachX S C H a Sg R Kd := by
  obtain ⟨dx, r, k, rs, h1, h2, h3, h4, h5, h6, h7⟩ := h
  exact ⟨dx, r, k, rs, fun z => hs _ z na, fun z => hs _ z h6, fun z => hs _ z h7, h1, h2, h3, fun i p hp => ⟨fun z => hs _ z (h4 i p hp).2, (h4 i p hp).1⟩, h5⟩
end
/-- the pot and one more -/
abbrev at2 (p h : Addr) : Addr → Prop := fun b => b = p ∨ b = h
theorem at2_1 {TT : List (Addr × Str)} {p h : Addr} {H H' : Hp} (e : Ex TT (at1 p) H H') : Ex TT (at2 p h) H H' := e.mono fun _ z => .inl z
theorem Pot.some {H : Hp} {p : Addr} (h : Pot H p) : H p ≠ none := fun z => by
  obtain ⟨i, j, _, _, _, e⟩ := h
  rw [e] at z; cases z
/-- two machines with the same parts are equal, now and later -/
theorem di_mach {K : PySem.W.Frag} {C : Addr} {H : Hp} {a b : Addr} {S : List Nat} {R : Rows} {Kd : List Bool} (m1 : Mach C H a S R Kd) (m2 : Mach C H b S R Kd) (hz : R.length ≤ 1000) : DI C (spEq K C) (.ref a) (.ref b) H := by
  obtain ⟨dx, _, _, _, h1, _⟩ := id m1
  obtain ⟨dy, _, _, _, h2, _⟩ := id m2
  refine ⟨a, b, dx, dy, _, _, rfl, rfl, fun H' e => ⟨e _ _ h1, e _ _ h2, a, .ref b, S, R, Kd, rfl, m1.ext e, hz, .inl ⟨b, S, R, Kd, rfl, m2.ext e, hz, fun H2 e2 => ⟨?_, e2⟩⟩⟩⟩
  rw [decide_eq_true ⟨rfl, rfl, rfl⟩]
theorem spk_len {S : List Nat} {R : Rows} {Kd : List Bool} (ok : ShOk S R Kd) : (spk S R Kd).length ≤ 20000 := by
  have r1 := rep_let ok.let_
  have r2 := (shn_rows ok).len
  have r3 := (shn_kinds ok).len
  have k1 : (Str.empty ++ Str.ofString "Machine(").length = 8 := by decide +kernel
  have k2 : (Str.ofString ", ").length = 2 := by decide +kernel
  have k3 : (Str.ofString ")").length = 1 := by decide +kernel
  have ad : ∀ x y : Str, (x ++ y).length = x.length + y.length := fun x y => PySem.strLen_append x y
  unfold spk
  rw [ad, ad, ad, ad, ad, ad, k1, k2, k3]
  omega
theorem three_len {t : Str} (h : t.length ≤ 20000) : (listText [t, t, t]).length ≤ sizeLine := by
  have sl := sizeLine_eq
  have ad : ∀ x y : Str, (x ++ y).length = x.length + y.length := fun x y => PySem.strLen_append x y
  have k0 : (Str.ofString "[").length = 1 := by decide +kernel
  have k1 : (Str.ofString "]").length = 1 := by decide +kernel
  have k2 : (Str.ofString ", ").length = 2 := by decide +kernel
  have k3 : (Str.ofString "").length = 0 := by decide +kernel
  show (textFrom 0 "[" [t, t, t] ++ "]").length ≤ _
  simp only [textFrom, ad, k0, k1, k2, k3]
  simp [k2, k3]
  omega
/-- two lists of places alike -/
theorem eq_ivs {K : PySem.W.Frag} {neg : Bool} {H : Hp} {a b : Addr} {l : List Nat} {Q : VK} (ha : H a = some (.lst (iv l))) (hb : H b = some (.lst (iv l))) (q : Q (.bl (!neg)) H) : eqU K neg (.ref a) (.ref b) H Q := by
  have fl : Flat 1 (encR l) := flat_list fun d hd => by
    obtain ⟨g, _, rfl⟩ := List.mem_map.mp hd
    exact flat_int _
  refine ⟨encR l, encR l, .lst (.inl (.inl ha)) (dpAll_rows.dpAll_ints l), .lst (.inl (.inl hb)) (dpAll_rows.dpAll_ints l), fl.shaped (by decide), fl.shaped (by decide), ?_⟩
  rw [eqv_row.mpr rfl]
  cases neg <;> exact q
end LK

/-! k74: _law_spots_right -/
namespace LK
open PySem PySem.Spec PyProof.Rows L2 LamX ClX
open scoped List
/-- a model apart from S -/
def ModX (S : Addr → Prop) (H : Hp) (t : Addr) (Sg : List Nat) (R : Rows) (Kd : List Bool) : Prop := ∃ (r k : Addr) (rs : List Addr), ¬ S t ∧ ¬ S r ∧ ¬ S k ∧ H t = some (.tup [.str (T Sg), .ref r, .ref k]) ∧
  H r = some (.lst (rs.map V.ref)) ∧ rs.length = R.length ∧ (∀ i p, rs[i]? = some p → ¬ S p ∧ H p = some (.lst (iv (gls R i)))) ∧ H k = some (.lst (Kd.map V.bl))
section
variable {S S' : Addr → Prop} {H H' : Hp} {t p : Addr} {Sg : List Nat} {R : Rows} {Kd : List Bool} {TT : List (Addr × Str)}
theorem ModX.m (h : ModX S H t Sg R Kd) : ModAt H t Sg R Kd := by
  obtain ⟨r, k, rs, _, _, _, h1, h2, h3, h4, h5⟩ := h
  exact ⟨r, k, h1, ⟨rs, h2, h3, fun i p hp => (h4 i p hp).2⟩, h5⟩
theorem ModX.ex (h : ModX S H t Sg R Kd) (e : Ex TT S H H') : ModX S H' t Sg R Kd := by
  obtain ⟨r, k, rs, n1, n2, n3, h1, h2, h3, h4, h5⟩ := h
  exact ⟨r, k, rs, n1, n2, n3, e.keep _ _ n1 h1 (fun _ z => nomatch z), e.lst n2 h2, h3, fun i p hp => ⟨(h4 i p hp).1, e.lst (h4 i p hp).1 (h4 i p hp).2⟩, e.lst n3 h5⟩
theorem ModX.mono (h : ModX S H t Sg R Kd) (hs : ∀ b o, H b = some o → S' b → S b) : ModX S' H t Sg R Kd := by
  obtain ⟨r, k, rs, n1, n2, n3, h1, h2, h3, h4, h5⟩ := h
  exact ⟨r, k, rs, fun z => n1 (hs _ _ h1 z), fun z => n2 (hs _ _ h2 z), fun z => n3 (hs _ _ h5 z), h1, h2, h3, fun i p hp => ⟨fun z => (h4 i p hp).1 (hs _ _ (h4 i p hp).2 z), (h4 i p hp).2⟩, h5⟩
theorem ModP.x (h : ModP p H t Sg R Kd) : ModX (at1 p) H t Sg R Kd := by
  obtain ⟨r, k, n1, n2, h1, ⟨rs, n3, h2, h3, h4⟩, h5⟩ := h
  exact ⟨r, k, rs, n1, n3, n2, h1, h2, h3, h4, h5⟩
end
theorem rg0 (n : Nat) : rgV 0 (n : Int) = iv (List.range n) := by
  unfold rgV
  rw [show ((n : Int) - 0).toNat = n by omega]
  refine List.map_congr_left fun i _ => ?_
  rw [Int.zero_add]
section
variable {P : Program} {w : World} {K : PySem.W.Frag} {mg : Str → Option Value} {base : Heap} {C : Addr} (TT : List (Addr × Str))
abbrev nSp : List Str := ["_law_pot_here", "_law_model_here", "_law_net", "_law_spots", "_law_handed", "_law_due", "_law_told", "_law_word", "_law_steps_now", "_law_spot"]
theorem scSpots : FnScope nSp ["_law_pot_here", "_law_model_here", "_law_net"] (defScope sSpots) := ⟨rfl, rfl, rfl, by decide +kernel, rfl, by decide +kernel, by decide +kernel⟩
def spSpots (C : Addr) : Sp := fun vs H Q _ => ∃ (p t a : Addr) (S : List Nat) (R : Rows) (Kd : List Bool), vs = [.ref p, .ref t, .ref a] ∧ Pot H p ∧ ModX (at1 p) H t S R Kd ∧ MachX (at1 p) C H a S R Kd ∧ ShOk S R Kd ∧ Whole R ∧
  ∀ H', Ex TT (at1 p) H H' → Pot H' p → Q (.bl true) H'
theorem ok_spots {f : Addr} {fd : FuncData} {k : Nat} (F : Fun K "_law_spots_right" "_law_spots_right" sSpots f fd) (M : Mx mg) (cM : ClsM K C) (iM : IsM K C) (eC : EqC K C)
    (HD : Has P w K mg base (k + 1) "_law_draw" ["_law_pot_here", "_law_size"] (spDraw TT)) (HX : Has P w K mg base (k + 1) "_law_mixed" ["_law_pot_here", "_law_some"] (spMixed TT))
    (HTM : Has P w K mg base (k + 1) "_law_turned_model" ["_law_model_here", "_law_spots"] spTModel) (HMa : Has P w K mg base (k + 1) "_law_machine" ["_law_model_here"] (spLMachine C))
    (HTu : Has P w K mg base (k + 1) "turned" ["machine", "places"] (spTurned K C)) (HQ : HasM P w K mg base k C "__eq__" ["other"] (spEq K C)) (HRr : HasR P w K mg base k C "__repr__" (spRepr C))
    (HW : Has P w K mg base (k + 1) "_law_words" ["_law_signs_here", "_law_most"] spWords) (HLT : Has P w K mg base (k + 1) "_law_takes" ["_law_model_here", "_law_text"] spLTakes)
    (HTk : HasM P w K mg base (k + 1) C "takes" ["text"] (spTakes C)) (HK : HasM P w K mg base (k + 1) C "kinds" [] (spKinds C)) (HRw : HasM P w K mg base (k + 1) C "rows" [] (spRows C)) (HIv : HasM P w K mg base (k + 1) C "__invert__" [] (spInv C)) :
    FnG P w K mg base CX0 (k + 3) f fd ["_law_pot_here", "_law_model_here", "_law_net"] (spSpots TT C) := by
  refine okG F scSpots (fun vs H Q E h => ?_) (fun cdv A hA outer s H vs Q E hr h => ?_)
  · obtain ⟨p, t, a, S, R, Kd, rfl, _⟩ := h; rfl
  · obtain ⟨p, t, a, S, R, Kd, rfl, hp, mo, ma, ok, wh, q⟩ := h
    have nd := scSpots.nd
    have sl := sizeLine_eq
    have hhi := ok.hi
    have hlo := ok.lo
    have hu := Room.u64 hr
    have hr1 : Room (k + 1) _ := hr.mono (Nat.le_succ _)
    have hr0 : Room k _ := hr1.mono (Nat.le_succ _)
    refine ⟨_, pss_cons (ps_setLc (i := 3) (own := [("_law_spot", 9)]) (g := gName 9) (by rfl) nd rfl rfl (sw_true rfl rfl rfl (by decide +kernel)) (pi_list (pe_cl (pe_callH HX hA hr1 (by rfl) (pa_cons (uv 0) (pa_cons (pe_listRg rfl (by rfl) M.list (prg_1 (by rfl) M.range (pe_callB c_len (by rfl) M.len b_len (pa_cons (pe_ixU (uv 1) pe_int) pa_nil)))) pa_nil)))))
        (blkOk_by (N := nSp) (sc := defScope sSpots) (by decide +kernel)) (fun _ _ _ _ _ => pg_name (i := 9) nd rfl (Or.inl rfl)) (fun _ _ _ _ _ => pts_one (pt_cu (r := eqU K false) (o_eq hu) (pe_callH HD hA hr1 (by rfl) (pa_cons (uv 0) (pa_cons pe_int pa_nil))) pe_int)) (fun _ _ _ _ _ => uv 9))
      (pss_cons (ps_par (i := 4) (j := 5) (by rfl) nd rfl rfl (by decide) rfl rfl (pa_cons (pe_callTy (c_list rfl) (by rfl) M.list b_list (pa_cons (uv 3) pa_nil)) (pa_cons (pe_callH HMa hA hr1 (by rfl) (pa_cons (pe_callH HTM hA hr1 (by rfl) (pa_cons (uv 1) (pa_cons (uv 3) pa_nil))) pa_nil)) pa_nil)) (by rfl))
      (pss_cons (ps_set (i := 6) nd rfl (.inl rfl) (pe_lst (pa_cons (pe_callH HTu hA hr1 (by rfl) (pa_cons (uv 2) (pa_cons (uv 4) pa_nil)))
          (pa_cons (pe_callHR (ks := ["places", "machine"]) HTu hA hr1 (by rfl) (pk_cons (pe_tupleOf (by rfl) M.tuple (uv 3)) (pk_cons (uv 2) pk_nil)) (by rfl))
          (pa_cons (pe_callH HTu hA hr1 (by rfl) (pa_cons (uv 2) (pa_cons (pe_revL (uv 3)) pa_nil))) pa_nil)))))
      (pss_cons (ps_ifU (pt_cl (PW.pt (pw_orU (pt_cu (r := eqU K true) (o_ne hu) (uv 4) (uv 3)) (pw_orU (pt_cu (r := eqLI C (spEq K C) true) (o_neLI HQ hA hr1) (uv 6) (pe_op o_mul (pe_lst (pa_cons (uv 5) pa_nil)) pe_int))
          (pw_or1 (pt_cu (r := eqU K true) (o_ne hu) (pe_callB (c_reprLI HRr hA hr) (by rfl) M.repr b_repr (pa_cons (uv 6) pa_nil)) (pe_callB (c_reprLI HRr hA hr) (by rfl) M.repr b_repr (pa_cons (pe_op o_mul (pe_lst (pa_cons (uv 5) pa_nil)) pe_int) pa_nil)))))))) (pss_one (ps_ret pe_bl)) pss_nil)
      (pss_cons (ps_expr (pe_bm PySem.F.plainAttrs_list PySem.F.slot_list_append PySem.F.type_list_append mt_append (uv 4) (pa_cons pe_non pa_nil)))
      (pss_cons (ps_for PassesOwn.never rfl (pi_list (pe_cl (pe_callH HW hA hr1 (by rfl) (pa_cons (pe_ixU (uv 1) pe_int) (pa_cons pe_int pa_nil))))) (pg_name (i := 7) nd rfl (.inl rfl))
        (pss_one (ps_ifU (pt_cl (pt_cu (r := eqU K true) (o_ne hu) (pe_callB (c_repr hA hu) (by rfl) M.repr b_repr (pa_cons (pe_mH HTk cM.cls hA hr1 (pe_ixU (uv 6) pe_int) (pa_cons (uv 7) pa_nil)) pa_nil))
          (pe_callB (c_repr hA hu) (by rfl) M.repr b_repr (pa_cons (pe_callH HLT hA hr1 (by rfl) (pa_cons (pe_callH HTM hA hr1 (by rfl) (pa_cons (uv 1) (pa_cons (uv 3) pa_nil))) (pa_cons (uv 7) pa_nil))) pa_nil)))) (pss_one (ps_ret pe_bl)) pss_nil)))
      (pss_cons (ps_set (i := 8) nd rfl (.inl rfl) (uv 2))
      (pss_cons (ps_for PassesOwn.never rfl (pi_list (pe_cl (pe_callH HX hA hr1 (by rfl) (pa_cons (uv 0) (pa_cons (uv 3) pa_nil))))) (pg_name (i := 9) nd rfl (.inl rfl))
        (pss_one (ps_set (i := 8) nd rfl (.inl rfl) (pe_callH HTu hA hr1 (by rfl) (pa_cons (uv 8) (pa_cons (pe_lst (pa_cons (uv 9) pa_nil)) pa_nil))))))
      (pss_cons (ps_ifU (pt_cl (PW.pt (pw_orU (pt_cu (r := eqI K C (spEq K C) true) (o_neI HQ eC hA hr1) (uv 8) (uv 5)) (pw_orU (pt_cu (r := eqI K C (spEq K C) true) (o_neI HQ eC hA hr1) (pe_callH HTu hA hr1 (by rfl) (pa_cons (uv 5) (pa_cons (uv 3) pa_nil))) (uv 2))
          (pw_or1 (pt_cu (r := eqI K C (spEq K C) true) (o_neI HQ eC hA hr1) (pe_callH HTu hA hr1 (by rfl) (pa_cons (uv 2) (pa_cons (pe_lst pa_nil) pa_nil))) (uv 2))))))) (pss_one (ps_ret pe_bl)) pss_nil)
      (pss_cons (ps_expr (pe_bm PySem.F.plainAttrs_list PySem.F.slot_list_append PySem.F.type_list_append mt_append (pe_mH0 HK cM.cls hA hr1 (pe_ixU (uv 6) pe_int)) (pa_cons pe_non pa_nil)))
      (pss_cons (ps_expr (pe_bm0 PySem.F.plainAttrs_list PySem.F.slot_list_clear PySem.F.type_list_clear mt_clear (pe_ixU (pe_mH0 HRw cM.cls hA hr1 (pe_ixU (uv 6) pe_int)) pe_int)))
      (pss_one (ps_ret (pe_andU (pe_cu (r := eqI K C (spEq K C) false) (o_eqI HQ hA hr0) (pe_ixU (uv 6) pe_int) (uv 5))
        (pe_one (pe_cu (r := eqI K C (spEq K C) false) (o_eqI HQ hA hr0) (pe_callH HTu hA hr1 (by rfl) (pa_cons (uv 2) (pa_cons (pe_listRg rfl (by rfl) M.list (prg_1 (by rfl) M.range (pe_callB c_len (by rfl) M.len b_len (pa_cons (pe_ixU (uv 1) pe_int) pa_nil)))) pa_nil))) (pe_un (un_invI HIv hA hr1) (uv 2))))))))))))))))), ?_⟩
    obtain ⟨r, kk, rs, nt, nr, nk, ht, hrr, lrs, hrs, hkk⟩ := id mo
    have hT : SqT K H t [.str (T S), .ref r, .ref kk] := .inl (.inl ht)
    have lenr : (rs.map V.ref).length = R.length := by rw [List.length_map, lrs]
    dsimp only [tSeq, tAsg, gName]
    refine lc_listFM (K := K) ⟨_, _, .inr hT, rfl, .inl ⟨rs.map V.ref, .inl (.inl (.inl hrr)), ((rs.map V.ref).length : Nat), rfl, RgOk.of_le (by omega) (by omega) (by omega) (by omega), fun q0 nq0 => ?_⟩⟩
    rw [lenr, rg0]
    have e0 : Same H (upd H q0 (.lst (iv (List.range R.length)))) := same_upd nq0
    refine ⟨p, q0, List.range R.length, rfl, hp.put (hp.ne nq0), upd_same, by rw [List.length_range]; omega, fun H1 x0 ys e1 hp1 newx nx0 hx0 pm => ?_⟩
    have e01 : Ex TT (at1 p) H H1 := (Ex.same e0).trans e1
    have lys : ys.length = R.length := by rw [pm.length_eq, List.length_range]
    have ndy : ys.Nodup := pm.nodup_iff.mpr List.nodup_range
    have hyl : ∀ x ∈ ys, x < R.length := fun x hx => List.mem_range.mp (pm.mem_iff.mp hx)
    refine ⟨x0, iv ys, rfl, .inl (.inl hx0), fun D pre acc H9 => ∃ (pn ks : List Nat), pre = iv pn ∧ acc = iv ks ∧ ks <+ pn ∧ Ex TT (at1 p) H1 H9 ∧ Pot H9 p ∧ D ≠ p ∧ H9 D = some (.lst (iv ks)),
      (fun D pre acc H9 h => by obtain ⟨_, _, _, _, _, e, _⟩ := h; exact .inl (.inl (e.lst nx0 hx0))), (fun D nD => ⟨[], [], rfl, rfl, .slnil, .new nD, hp1.put (hp1.ne nD), (hp1.ne nD).symm, upd_same⟩), (fun D nD pre acc x suf H9 ex r9 => ?_), (fun D nD acc H9 r9 => ?_)⟩
    · obtain ⟨pn, ks, rfl, rfl, sub, e9, hp9, nDp, hD⟩ := r9
      obtain ⟨p1, g, q1, el, ep, rfl⟩ := split_iv ex
      obtain rfl := iv_inj ep
      have newD : New H1 D := fun b o hb _ e => by rw [e, nD] at hb; cases hb
      have lk : ks.length ≤ pn.length := sub.length_le
      have lp : pn.length < ys.length := by have := congrArg List.length el; rw [List.length_append, List.length_cons] at this; omega
      refine ⟨rfl, p, 2, rfl, by omega, by omega, hp9, fun H10 d e10 hp10 hd => ?_⟩
      by_cases hd0 : (d : Int) = 0
      · show (if decide ((d : Int) = 0) = true then _ else _)
        rw [if_pos (decide_eq_true hd0)]
        have hD10 : H10 D = some (.lst (iv ks)) := e10.lst nDp hD
        refine ⟨iv ks, hD10, by rw [iv_len]; omega, iv (ks ++ [g]), pn ++ [g], ks ++ [g], by rw [iv_app]; rfl, rfl, sub.append (List.Sublist.refl _), (e9.trans e10).putN newD hD10 (fun _ z => nomatch z) (fun _ _ z => nomatch z), hp10.put nDp.symm, nDp, by rw [upd_same, iv_app]; rfl⟩
      · show (if decide ((d : Int) = 0) = true then _ else _)
        rw [if_neg (by rw [decide_eq_false hd0]; decide)]
        exact ⟨iv ks, pn ++ [g], ks, by rw [iv_app]; rfl, rfl, sub.trans (List.sublist_append_left _ _), e9.trans e10, hp10, nDp, e10.lst nDp hD⟩
    obtain ⟨pn, ls, ep, rfl, sub, e9, hp9, nsp, hsp⟩ := r9
    obtain rfl := iv_inj ep
    have ndl : ls.Nodup := sub.nodup ndy
    have ltl : ∀ x ∈ ls, x < R.length := fun x hx => hyl x (sub.subset hx)
    have lll : ls.length ≤ R.length := by have := sub.length_le; omega
    have e2 : Ex TT (at1 p) H H9 := e01.trans e9
    have mo2 := mo.ex e2
    have ma2 := ma.ex e2
    clear e9 e01 e1 e0 hx0 newx
    generalize hk2 : turnK Kd ls = Kt
    have okT : ShOk S R Kt := ⟨ok.let_, ok.rows, ok.lo, ok.hi, by rw [← hk2, turnK_len]; exact ok.kinds⟩
    -- handed, due
    refine .inl ⟨iv ls, .inl (.inl (.inl hsp)), fun h nh => ?_⟩
    have e3 : Same H9 (upd H9 h (.lst (iv ls))) := same_upd nh
    have hh3 : (upd H9 h (.lst (iv ls))) h = some (.lst (iv ls)) := upd_same
    have hp3 : Pot (upd H9 h (.lst (iv ls))) p := hp9.put (hp9.ne nh)
    have nhp : h ≠ p := (hp9.ne nh).symm
    have nhs : D ≠ h := ne_of_none hsp nh
    have two : ∀ b o, H9 b = some o → at2 p h b → at1 p b := fun b o hb z => z.elim (fun e => e) fun e => by subst e; rw [nh] at hb; cases hb
    have mo3 := (mo2.mono two).ex (TT := TT) (.same e3)
    have ma3 := (ma2.mono two).ex (TT := TT) (.same e3)
    have hs3 := e3 _ _ hsp
    have e23 : Ex TT (at1 p) H (upd H9 h (.lst (iv ls))) := e2.trans (.same e3)
    have newh : New H h := e2.newN hp9 nh
    generalize upd H9 h (.lst (iv ls)) = H3 at e3 hh3 hp3 mo3 ma3 hs3 e23
    refine ⟨t, D, S, R, Kd, ls, rfl, mo3.m, hs3, by rw [ok.kinds]; omega, fun H4 t2 e4 nt2 mt2 => ?_⟩
    rw [hk2] at mt2
    refine ⟨t2, S, R, Kt, rfl, mt2, okT, wh, fun H5 due e5 nd5 mach5 => ?_⟩
    refine ⟨_, _, rfl, ?_⟩
    have e35 := e4.trans e5
    have there5 : ∀ b, at2 p h b → H4 b ≠ none := fun b z => by
      rcases z with rfl | rfl
      · exact (hp3.ex (TT := TT) (.same e4)).some
      · rw [e4 _ _ hh3]; exact fun z => nomatch z
    have md5 : MachX (at2 p h) C H5 due S R Kt := mach5.x nd5 there5
    have mo5 := mo3.ex (TT := TT) (.same e35)
    have ma5 := ma3.ex (TT := TT) (.same e35)
    have hh5 := e35 _ _ hh3
    have hs5 := e35 _ _ hs3
    -- told
    have kl : ∀ b, (∀ x, x ∈ b ↔ x ∈ ls) → turnK Kd b = Kt := fun b hb => by rw [← hk2]; exact turnK_iff hb
    refine ⟨a, h, false, S, R, Kd, ls, rfl, ma5.m, ok, wh, .inl (.inl hh5), ndl, ltl, fun H6 m1 e6 n6 mach6 => ?_⟩
    rw [hk2] at mach6
    have e56 := e35.trans e6
    have there6 : ∀ b, at2 p h b → H5 b ≠ none := fun b z w => there5 b z (same_none e5 w)
    have mm1 : MachX (at2 p h) C H6 m1 S R Kt := mach6.x n6 there6
    refine .inl ⟨D, iv ls, rfl, .inl (.inl (e56 _ _ hs3)), fun q1 nq1 => ?_⟩
    have e67 := e6.trans (same_upd (o := .tup (iv ls)) nq1)
    refine ⟨a, q1, true, S, R, Kd, ls, rfl, (ma5.same e67).m, ok, wh, .inl (.inl upd_same), ndl, ltl, fun H7 m2 e7 n7 mach7 => ?_⟩
    rw [hk2] at mach7
    have e57 := e67.trans e7
    have e17 : Same H6 H7 := (same_upd (o := .tup (iv ls)) nq1).trans e7
    refine ⟨D, iv ls, rfl, .inl (.inl (e57 _ _ hs5)), fun q2 nq2 => ?_⟩
    have erv : (iv ls).reverse = iv ls.reverse := by show (ls.map fun c : Nat => V.int (c : Int)).reverse = ls.reverse.map _; rw [List.map_reverse]
    rw [erv]
    have e58 := e57.trans (same_upd (o := .lst (iv ls.reverse)) nq2)
    refine ⟨a, q2, false, S, R, Kd, ls.reverse, rfl, (ma5.same e58).m, ok, wh, .inl (.inl upd_same), (List.reverse_perm ls).nodup_iff.mpr ndl, fun x hx => ltl x (List.mem_reverse.mp hx), fun H8 m3 e8 n8 mach8 => ?_⟩
    rw [kl ls.reverse fun x => List.mem_reverse] at mach8
    have e59 := e58.trans e8
    have e78 : Same H7 H8 := (same_upd (o := .lst (iv ls.reverse)) nq2).trans e8
    refine ⟨by show 3 ≤ sizeLine; omega, fun L nL => ?_⟩
    have eL := e59.trans (same_upd (o := .lst [V.ref m1, .ref m2, .ref m3]) nL)
    have hL : (upd H8 L (.lst [V.ref m1, .ref m2, .ref m3])) L = some (.lst [V.ref m1, .ref m2, .ref m3]) := upd_same
    have e8L : Same H8 (upd H8 L (.lst [V.ref m1, .ref m2, .ref m3])) := same_upd nL
    have nLp : L ≠ p := fun z => there6 p (.inl rfl) (same_none e59 (z ▸ nL))
    have nLh : L ≠ h := fun z => there6 h (.inr rfl) (same_none e59 (z ▸ nL))
    have w1 := mm1.same ((e17.trans e78).trans e8L)
    have w2 := (mach7.m.ext e78).ext e8L
    have w3 := mach8.m.ext e8L
    have moL := mo5.ex (TT := TT) (.same eL)
    have maL := ma5.same eL
    have mdL := md5.same eL
    have hhL := eL _ _ hh5
    have hsL := eL _ _ hs5
    have hpL : Pot (upd H8 L (.lst [V.ref m1, .ref m2, .ref m3])) p := (hp3.ex (TT := TT) (.same e35)).ex (TT := TT) (.same eL)
    have eHL : Ex TT (at1 p) H (upd H8 L (.lst [V.ref m1, .ref m2, .ref m3])) := (e23.trans (.same e35)).trans (.same eL)
    clear mach5 mach6 mach7 mach8 mm1 e59 e78 e58 e57 e17 e67 e56 e35
    generalize upd H8 L (.lst [V.ref m1, .ref m2, .ref m3]) = HL at eL hL e8L w1 w2 w3 moL maL mdL hhL hsL hpL eHL
    have tlen := spk_len okT
    have hTx : ∀ {ms : List Addr} {H' : Hp}, (∀ m ∈ ms, Mach C H' m S R Kt) → ∀ (i : Nat) (m : Addr) (x : Str), ms[i]? = some m → (List.replicate ms.length (spk S R Kt))[i]? = some x → ∀ H2, Ext H' H2 → ∃ dx fs, H2 m = some (.ins C dx fs) ∧ spRepr C [.ref m] H2 (fun v H3 => v = .str x ∧ Ext H2 H3) E0 := fun {ms H'} hm i m x h1 h2 H2 e => by
      have mm := (hm m (List.mem_of_getElem? h1)).ext e
      obtain ⟨dx, _, _, _, g1, _⟩ := id mm
      have hx : x = spk S R Kt := by
        rw [List.getElem?_replicate] at h2
        split at h2
        · exact (Option.some.inj h2).symm
        · cases h2
      exact ⟨dx, _, g1, m, S, R, Kt, rfl, mm, okT, by rw [hx], Ext.rfl'⟩
    refine ⟨fun b H' => b = false ∧ Same HL H', ?_, fun b H' z => ?_⟩
    · refine eq_ivs hhL hsL (.no ?_)
      refine ⟨by show 1 ≤ sizeLine; omega, fun L2 nL2 => ⟨[.ref due], upd_same, by decide, by decide, by show 1 * 3 ≤ sizeLine; omega, fun L3 nL3 => ?_⟩⟩
      have eA : Same HL (upd (upd HL L2 (.lst [V.ref due])) L3 (.lst (List.replicate 3 [V.ref due]).flatten)) := (same_upd nL2).trans (same_upd nL3)
      refine ⟨L, L3, [V.ref m1, .ref m2, .ref m3], [V.ref due, .ref due, .ref due], rfl, rfl, eA _ _ hL, upd_same, .cons (di_mach (w1.same eA).m (mdL.same eA).m (by omega)) (.cons (di_mach (w2.ext eA) (mdL.same eA).m (by omega)) (.cons (di_mach (w3.ext eA) (mdL.same eA).m (by omega)) .nil)), fun HB eB => .no ?_⟩
      have eAB := eA.trans eB
      refine ⟨[m1, m2, m3], [spk S R Kt, spk S R Kt, spk S R Kt], eAB _ _ hL, by simp, rfl, hTx (ms := [m1, m2, m3]) (fun m hm => ?_), three_len tlen, fun HC eC => ?_⟩
      · simp only [List.mem_cons, List.not_mem_nil, or_false] at hm
        rcases hm with rfl | rfl | rfl
        · exact (w1.same eAB).m
        · exact w2.ext eAB
        · exact w3.ext eAB
      have eAC := eAB.trans eC
      refine ⟨by show 1 ≤ sizeLine; omega, fun L4 nL4 => ⟨[.ref due], upd_same, by decide, by decide, by show 1 * 3 ≤ sizeLine; omega, fun L5 nL5 => ?_⟩⟩
      have eAD := (eAC.trans (same_upd (o := .lst [V.ref due]) nL4)).trans (same_upd (o := .lst (List.replicate 3 [V.ref due]).flatten) nL5)
      refine ⟨[due, due, due], [spk S R Kt, spk S R Kt, spk S R Kt], upd_same, by simp, rfl, hTx (ms := [due, due, due]) (fun m hm => ?_), three_len tlen, fun HE eE => ?_⟩
      · simp only [List.mem_cons, List.not_mem_nil, or_false, or_self] at hm
        subst hm
        exact (mdL.same eAD).m
      show _ ∧ Same HL HE
      refine ⟨?_, eAD.trans eE⟩
      show (!decide _) = false
      rw [decide_eq_true rfl]; rfl
    obtain ⟨rfl, eM⟩ := z
    refine .no ?_
    have hhM := eM _ _ hhL
    have hpM : Pot H' p := hpL.ex (TT := TT) (.same eM)
    refine ⟨.inl ⟨rfl, _, .inl (.inl hhM)⟩, h, iv ls, .non, rfl, rfl, hhM, by rw [iv_len]; omega, ?_⟩
    have eN : Ex TT (at2 p h) H' (upd H' h (.lst (iv ls ++ [V.non]))) := .write (.inr rfl) hhM (fun _ z => nomatch z) (fun _ _ z => nomatch z)
    have eHN : Ex TT (at1 p) H (upd H' h (.lst (iv ls ++ [V.non]))) := (eHL.trans (.same eM)).putN newh hhM (fun _ z => nomatch z) (fun _ _ z => nomatch z)
    have nDp2 : ¬ at2 p h D := fun z => z.elim nsp nhs
    have nL2 : ¬ at2 p h L := fun z => z.elim nLp nLh
    have moN := (moL.ex (TT := TT) (.same eM)).ex eN
    have maN := (maL.same eM).ex eN
    have mdN := (mdL.same eM).ex eN
    have wN := (w1.same eM).ex eN
    have hsN := eN.lst nDp2 (eM _ _ hsL)
    have hLN := eN.lst nL2 (eM _ _ hL)
    have hpN : Pot (upd H' h (.lst (iv ls ++ [V.non]))) p := hpM.put nhp.symm
    generalize upd H' h (.lst (iv ls ++ [V.non])) = HN at eHN moN maN mdN wN hsN hLN hpN
    clear eN hhM hpM eM w2 w3 w1 hsL hhL hL mdL maL moL eHL hpL e8L eL hTx
    have dN := moN
    obtain ⟨r', kk', rs', _, _, _, htN, _⟩ := id moN
    have hTN : SqT K HN t [.str (T S), .ref r', .ref kk'] := .inl (.inl htN)
    refine for_listM (K := K) ⟨_, _, .inr hTN, rfl, S, rfl, ok.let_, fun H8 W l e8 nW hW wok ll => ⟨W, ws l, rfl, .inl (.inl hW), fun pre σ Hc => Same H8 Hc ∧ ∃ y7, σ = [some (.ref p), some (.ref t), some (.ref a), some (.ref D), some (.ref h), some (.ref due), some (.ref L), y7, none, none],
      (fun pre σ Hc z => .inl (.inl (z.1 _ _ hW))), ⟨Same.refl _, none, rfl⟩, (fun pre x suf σ Hc ex z => ?_), (fun σ Hc z => ?_)⟩⟩
    · obtain ⟨ec, y7, rfl⟩ := z
      obtain ⟨p1, wd, q1', el, ep, rfl⟩ := split_map ex
      obtain ⟨wl, w3⟩ := wok wd (by rw [el]; simp)
      have eNc := e8.trans ec
      refine ⟨fun b Hn => b = false ∧ Same Hc Hn, ?_, fun b Hn z => ?_⟩
      · have mw := (wN.same eNc).m
        obtain ⟨dx, _, _, _, g1, _⟩ := id mw
        refine ⟨[.ref m1, .ref m2, .ref m3], .ref m1, .inl (.inl (.inl (eNc _ _ hLN))), rfl, dx, _, g1, mf_none (by decide +kernel) (by decide +kernel) (by decide +kernel), m1, wd, S, R, Kt, rfl, mw, okT.mok, wl, by omega, fun Hd ed => ?_⟩
        have eNd := eNc.trans ed
        refine ⟨t, D, S, R, Kd, ls, rfl, (moN.ex (TT := TT) (.same eNd)).m, eNd _ _ hsN, by rw [ok.kinds]; omega, fun He t3 ee n3 mt3 => ?_⟩
        rw [hk2] at mt3
        refine ⟨t3, wd, S, R, Kt, rfl, mt3, okT.mok, wl, ?_⟩
        refine ⟨?_, ed.trans ee⟩
        show (!decide _) = false
        rw [decide_eq_true rfl]; rfl
      · obtain ⟨rfl, en⟩ := z
        exact .no ⟨ec.trans en, _, rfl⟩
    obtain ⟨ec, y7, rfl⟩ := z
    have eNc := e8.trans ec
    have hpc : Pot Hc p := hpN.ex (TT := TT) (.same eNc)
    dsimp only [tSeq, tAsg, gName]
    refine uv_go (v := .ref a) rfl ?_
    refine for_listM (K := K) ⟨p, D, ls, rfl, hpc, eNc _ _ hsN, by omega, fun Hm x1 zs em hpm newx1 nx1 hx1 pmz => ⟨x1, iv zs, rfl, .inl (.inl hx1), fun pre σ Hd => ∃ (pn : List Nat) (y9 : Option V) (b : Addr), pre = iv pn ∧ Same Hm Hd ∧ Mach C Hd b S R (turnK Kd pn) ∧
        σ = [some (.ref p), some (.ref t), some (.ref a), some (.ref D), some (.ref h), some (.ref due), some (.ref L), y7, some (.ref b), y9],
      (fun pre σ Hd z => by obtain ⟨_, _, _, _, e, _⟩ := z; exact .inl (.inl (e _ _ hx1))), ⟨[], none, a, rfl, Same.refl _, ?_, rfl⟩, (fun pre x suf σ Hd ex z => ?_), (fun σ Hd z => ?_)⟩⟩
    · rw [turnK_nil]
      exact ((maN.same eNc).ex (at2_1 em)).m
    · obtain ⟨pn, y9, b, rfl, ed, mb, rfl⟩ := z
      obtain ⟨p1, g, q1', el, ep, rfl⟩ := split_iv ex
      obtain rfl := iv_inj ep
      have ndz : zs.Nodup := pmz.nodup_iff.mpr ndl
      have gz : g ∈ zs := by rw [el]; simp
      have gl : g < R.length := ltl g (pmz.mem_iff.mp gz)
      have gn : g ∉ pn := fun m => by
        rw [el] at ndz
        exact (List.nodup_append.mp ndz).2.2 g m g (by simp) rfl
      refine ⟨by show 1 ≤ sizeLine; omega, fun x2 nx2 => ?_⟩
      have e2' := same_upd (o := .lst [V.int (g : Nat)]) nx2
      refine ⟨b, x2, false, S, R, turnK Kd pn, [g], rfl, mb.ext e2', ⟨ok.let_, ok.rows, ok.lo, ok.hi, by rw [turnK_len]; exact ok.kinds⟩, wh, .inl (.inl upd_same), by simp, (fun x hx => by rw [List.mem_singleton.mp hx]; exact gl), fun He m4 ee n4 mach4 => ?_⟩
      rw [turnK_snoc gn] at mach4
      exact ⟨pn ++ [g], _, m4, by rw [iv_app]; rfl, (ed.trans e2').trans ee, mach4.m, rfl⟩
    obtain ⟨pn, y9, b, ep, ed, mb, rfl⟩ := z
    obtain rfl := iv_inj ep
    rw [kl zs fun x => pmz.mem_iff] at mb
    have eNd : Ex TT (at2 p h) HN Hd := ((Ex.same eNc).trans (at2_1 em)).trans (.same ed)
    have eHd : Ex TT (at1 p) H Hd := ((eHN.trans (.same eNc)).trans em).trans (.same ed)
    have hpd : Pot Hd p := hpm.ex (TT := TT) (.same ed)
    have mod := moN.ex eNd
    have mad := maN.ex eNd
    have mdd := mdN.ex eNd
    have wd' := wN.ex eNd
    have hsd := eNd.lst nDp2 hsN
    have hLd := eNd.lst nL2 hLN
    refine ⟨fun b' Hn => b' = false ∧ Same Hd Hn, ?_, fun b' Hn z => ?_⟩
    · refine mach_eq iM mb mdd.m (by omega) fun Ha ea => .no ?_
      refine ⟨due, D, false, S, R, Kt, ls, rfl, (mdd.same ea).m, okT, wh, .inl (.inl (ea _ _ hsd)), ndl, ltl, fun Hb m5 eb n5 mach5 => ?_⟩
      have eab := ea.trans eb
      have hkk : turnK Kt ls = Kd := by rw [← hk2]; exact turnK_twice
      rw [hkk] at mach5
      refine mach_eq iM mach5.m (mad.same eab).m (by omega) fun Hc2 ec2 => .no ?_
      have eac := eab.trans ec2
      refine ⟨by show 0 ≤ sizeLine; omega, fun x3 nx3 => ?_⟩
      have ead := eac.trans (same_upd (o := .lst []) nx3)
      refine ⟨a, x3, false, S, R, Kd, [], rfl, (mad.same ead).m, ok, wh, .inl (.inl upd_same), List.Pairwise.nil, (fun x hx => by cases hx), fun He m6 ee n6 mach6 => ?_⟩
      rw [turnK_nil] at mach6
      refine mach_eq iM mach6.m (mad.same (ead.trans ee)).m (by omega) fun Hf ef => ?_
      exact ⟨rfl, (ead.trans ee).trans ef⟩
    obtain ⟨rfl, en⟩ := z
    refine .no ?_
    have mw := (wd'.same en).m
    obtain ⟨dx, _, _, _, g1, _⟩ := id mw
    refine ⟨[.ref m1, .ref m2, .ref m3], .ref m1, .inl (.inl (.inl (en _ _ hLd))), rfl, dx, _, g1, mf_none (by decide +kernel) (by decide +kernel) (by decide +kernel), m1, S, R, Kt, rfl, mw, fun pk npk => ?_⟩
    refine ⟨.inl ⟨rfl, _, .inl (.inl upd_same)⟩, pk, Kt.map V.bl, .non, rfl, rfl, upd_same, by rw [List.length_map, okT.kinds]; omega, ?_⟩
    have ep1 : Same Hn (upd (upd Hn pk (.lst (Kt.map V.bl))) pk (.lst (Kt.map V.bl ++ [V.non]))) := same_upd2 (same_upd npk) npk
    generalize upd (upd Hn pk (.lst (Kt.map V.bl))) pk (.lst (Kt.map V.bl ++ [V.non])) = Hp at ep1
    have enp := en.trans ep1
    have mw2 := (wd'.same enp).m
    obtain ⟨dx2, _, _, _, g2, _⟩ := id mw2
    refine ⟨[.ref m1, .ref m2, .ref m3], .ref m1, .inl (.inl (.inl (enp _ _ hLd))), rfl, dx2, _, g2, mf_none (by decide +kernel) (by decide +kernel) (by decide +kernel), m1, S, R, Kt, rfl, mw2, by omega, fun Hr pr rs2 er npr hpr lrs2 hrs2 ndr => ?_⟩
    obtain ⟨f0, hf0⟩ : ∃ f0, rs2[0]? = some f0 := ⟨_, List.getElem?_eq_getElem (by omega)⟩
    obtain ⟨nf0, nfp, hf0v⟩ := hrs2 0 f0 hf0
    refine ⟨rs2.map V.ref, .ref f0, .inl (.inl (.inl hpr)), atI_nat (j := 0) (by rw [List.getElem?_map, hf0]; rfl), .inl ⟨rfl, _, .inl (.inl hf0v)⟩, f0, _, rfl, rfl, hf0v, ?_⟩
    have erp : Same Hp (upd Hr f0 (.lst [])) := same_upd2 er nf0
    generalize upd Hr f0 (.lst []) = Hs at erp
    have ens := enp.trans erp
    refine ⟨[.ref m1, .ref m2, .ref m3], .ref m1, .inl (.inl (.inl (ens _ _ hLd))), rfl, ?_⟩
    refine mach_eq iM (wd'.same ens).m (mdd.same ens).m (by omega) fun Ht et => .yes ?_
    have ent := ens.trans et
    have mot := mod.ex (TT := TT) (.same ent)
    obtain ⟨r2, k2, rs3, _, _, _, htt, hrt, lrt, _, _⟩ := id mot
    have hTt : SqT K Ht t [.str (T S), .ref r2, .ref k2] := .inl (.inl htt)
    refine ⟨_, _, .inr hTt, rfl, .inl ⟨rs3.map V.ref, .inl (.inl (.inl hrt)), ((rs3.map V.ref).length : Nat), rfl, RgOk.of_le (by omega) (by rw [List.length_map]; omega) (by omega) (by omega), fun q3 nq3 => ?_⟩⟩
    rw [show (rs3.map V.ref).length = R.length by rw [List.length_map, lrt], rg0]
    have enu := ent.trans (same_upd (o := .lst (iv (List.range R.length))) nq3)
    refine ⟨a, q3, false, S, R, Kd, List.range R.length, rfl, (mad.same enu).m, ok, wh, .inl (.inl upd_same), List.nodup_range, (fun x hx => List.mem_range.mp hx), fun Hv m7 ev n7 mach7 => ?_⟩
    rw [turnK_all ok.kinds] at mach7
    have env := enu.trans ev
    have mav := (mad.same env).m
    obtain ⟨dx3, _, _, _, g3, _⟩ := id mav
    refine ⟨dx3, _, g3, a, S, R, Kd, rfl, mav, ok, wh, fun Hw m8 ew n8 mach8 => ?_⟩
    refine mach_eq iM (mach7.m.ext ew) mach8.m (by omega) fun Hx exx => ?_
    have efin := (env.trans ew).trans exx
    exact q Hx (eHd.trans (.same efin)) (hpd.ex (TT := TT) (.same efin))
end
end LK

/-! for i, c in enumerate(text) -/
namespace LK
open PySem PySem.Spec PyProof.Rows L2
open AutoSeq1 (wpAny_loadPart')
/-- a text's letters, each beside its number in a new pair -/
def ItES (x : Str) : It where
  go := fun i _ => i < x.cps.size
  yld := fun i H v H' => ∃ T c, v = .ref T ∧ H T = none ∧ H' = upd H T (.tup [.int (i : Nat), .str ⟨#[c]⟩]) ∧ x.cps[i]? = some c
  stop := fun i _ => i = x.cps.size
theorem turn_enumS {P : Program} {w : World} {K : PySem.W.Frag} {elts : List Expr} {kk : Nat} {tpos : Pos} {e it : Addr} {x : Str} {t : Tok} (ne : e ≠ it) :
    Turn P w K (.Tuple elts kk tpos) (ItES x) [e, it] e (fun i h => (∃ old, IsEnum h e it ((i : Nat) : Int) old) ∧ h.IsStrIter it (strIterType x) x t i) where
  mem := by simp
  obj := fun i h st c hc => by
    obtain ⟨⟨old, he⟩, o, ho, _, hd⟩ := st
    simp only [List.mem_cons, List.not_mem_nil, or_false] at hc
    rcases hc with rfl | rfl
    · exact ⟨_, he, fun v q => nomatch q⟩
    · exact ⟨o, ho, fun v q => by rw [hd] at q; cases q⟩
  keep := fun i h h' st k => by
    obtain ⟨⟨old, he⟩, o, ho, r⟩ := st
    exact ⟨⟨old, k e (by simp) _ he⟩, o, k it (by simp) o ho, r⟩
  item := by
    intro X hP hw hK hc i pins s σ H E I hf st hii
    subst hP hw hK
    obtain ⟨⟨old, he⟩, hit⟩ := st
    have hh : X.A.in1.handled = none := I.ok.hd hc
    have el := Heap.lt_size he
    have il : it < s.heap.objs.size := by obtain ⟨_, q, _⟩ := hit; exact Heap.lt_size q
    refine wpAny_pyNext_enum_itemD (Draws.text hh it x t) he hit hii ne (by simp [ne]) fun y h' tk hy ho hst hT hsz hk => ?_
    obtain ⟨c, u, hcx, rfl⟩ := hy
    refine ⟨_, rfl, wpAny_letOwnedTupleGo_enum (s := { s with heap := h', toks := tk + 1 }) ho fun h'' he' sb => ?_⟩
    have hT2 : h''.get? s.heap.objs.size = some { cls := .type "tuple", data := .seq #[.int i tk, .str ⟨#[c]⟩ u] } := (sb.2 _ (Nat.ne_of_gt el)).trans hT
    have new : ObjOk X.prog X.w (upd H s.heap.objs.size (.tup [.int (i : Nat), .str ⟨#[c]⟩])) h'' s.heap.objs.size (.tup [.int (i : Nat), .str ⟨#[c]⟩]) :=
      ⟨by show 2 ≤ sizeLine; decide, [.int i tk, .str ⟨#[c]⟩ u], .cons ⟨_, rfl⟩ (.cons ⟨_, rfl⟩ .nil), ⟨_, hT2, rfl, _, rfl⟩⟩
    have far : ∀ d o, d ∉ [e, it] → s.heap.get? d = some o → h''.get? d = some o := fun d o nd q => by
      simp only [List.mem_cons, List.not_mem_nil, or_false, not_or] at nd
      exact (sb.2 d nd.1).trans (hk d o nd.1 nd.2 q)
    refine ⟨.ref s.heap.objs.size, _, I.turnedNew (t' := tk + 1) (ch := [e, it]) far hf (Nat.le_refl _) new, rfl, ⟨_, c, rfl, I.hok.fresh (Nat.le_refl _), rfl, hcx⟩, ⟨⟨.str ⟨#[c]⟩ u, ?_⟩, ?_⟩, fun d hd => ?_⟩
    · rw [show ((i + 1 : Nat) : Int) = (i : Int) + 1 by omega]; exact he'
    · obtain ⟨o, q, r⟩ := hst
      exact ⟨o, (sb.2 it ne.symm).trans q, r⟩
    · have lt : d < s.heap.objs.size := by
        simp only [List.mem_cons, List.not_mem_nil, or_false] at hd
        rcases hd with rfl | rfl
        · exact el
        · exact il
      rw [upd_ne (Nat.ne_of_lt lt)]; exact (hf d hd).1
  done := by
    intro X hP hw hK hc i pins s σ H E I hf st hl
    subst hP hw hK
    obtain ⟨⟨old, he⟩, hit⟩ := st
    obtain ⟨f0, f1, f2, f3, f4, f5⟩ := hf it (by simp)
    have hh : X.A.in1.handled = none := I.ok.hd hc
    have hl : i = x.cps.size := hl
    subst hl
    exact wpAny_pyNext_enum_endD (Draws.text hh it x t) he hit fun h' eb => ⟨rfl, I.turned (t' := s.toks) (fun b o hb q => eb b o hb q) f0 f1 f3 f4 f5⟩
  self := fun A i s Q E st h => by obtain ⟨⟨_, he⟩, _⟩ := st; exact wpAny_pyIter_enum he h
theorem pyIter_text {prog : Program} {w : World} {A : Around} {E : Value → Shared → Prop} {s : Shared} {x : Str} {t : Tok} {Q : Value → Shared → Prop}
    (h : Q (.ref s.heap.objs.size) { s with heap := s.heap.push { cls := .type (strIterType x), data := .fields #[.str x t, .int 0 0] } }) : wpAny (model prog w) A (pyIter (.str x t)) Q E s :=
  (begins_text x t).iter prog w A E s Q trivial h
theorem new_enumS (x : Str) (t : Tok) :
    Meets (Builtin.«enumerate.__new__» ⟨[.type "enumerate", .str x t], []⟩) (fun _ R s => 
      R (.ok (.ret (.ref (s.heap.push { cls := .type (strIterType x), data := .fields #[.str x t, .int 0 0] }).objs.size)))
        { s with heap := (s.heap.push { cls := .type (strIterType x), data := .fields #[.str x t, .int 0 0] }).push { cls := .type "enumerate", data := .fields #[.none, .bool false, .ref s.heap.objs.size, rawInt 0, .none, .none] } }) :=
  .of_wp fun prog w A R s h => by
    obtain ⟨hp, g, d, tk, os⟩ := s
    have hsub := sub_enumerate
    wp_walk
    refine wpAny_stack_any fun st => wpAny_pure ?_
    split
    · rename_i c _ _ _ _ _
      cases (c == Value.type "enumerate") <;> (wp_walk using pyIter_text; exact ⟨_, rfl, h⟩)
    · wp_walk using pyIter_text
      exact ⟨_, rfl, h⟩
theorem call_enumS {A : Around} {E : Value → Shared → Prop} {prog : Program} {w : World} {s : Shared} {x : Str} {t : Tok} {Q : Value → Shared → Prop}
    (h : ∀ h', IsEnum h' (s.heap.objs.size + 1) s.heap.objs.size 0 .none → h'.IsStrIter s.heap.objs.size (strIterType x) x t 0 → (∀ b o, s.heap.get? b = some o → h'.get? b = some o) → Q (.ref (s.heap.objs.size + 1)) { s with heap := h' }) :
    wpAny (model prog w) A (call (.type "enumerate") [.str x t]) Q E s := by
  refine callType_new F.called_enumerate (by decide) (F.typeCall_enumerate_1 _) (F.newCall_enumerate_1 _) (fun obj => F.args_object_init_2 obj _) F.entry_enumerate_new (new_enumS x t) ?_
  have hz : (s.heap.push { cls := .type (strIterType x), data := .fields #[.str x t, .int 0 0] }).objs.size = s.heap.objs.size + 1 := Heap.size_push ..
  have he : IsEnum ((s.heap.push { cls := .type (strIterType x), data := .fields #[.str x t, .int 0 0] }).push { cls := .type "enumerate", data := .fields #[.none, .bool false, .ref s.heap.objs.size, rawInt 0, .none, .none] }) (s.heap.objs.size + 1) s.heap.objs.size 0 .none :=
    hz ▸ Heap.get?_push_size _ rfl
  show _ ∧ _
  rw [hz]
  exact ⟨⟨_, he, rfl⟩, h _ he ⟨_, Heap.get?_push_of_some _ (Heap.get?_push_size _ rfl), rfl, rfl⟩ fun b o x => Heap.get?_push_of_some _ (Heap.get?_push_of_some _ x)⟩
def iEnumS (ta : TA) : TI := fun σ H R => ta σ H fun vs H1 => match vs with
  | [.str x] => R (ItES x) H1
  | _ => False
theorem pi_enumS {X : Cx} {e : Expr} {ta : TA} {p pos tpos : Pos} {elts : List Expr} {kk : Nat} (hg : Gl X "enumerate") (hm : X.mg "enumerate" = none) (ha : PA X [e] ta) (hs : starEach [e] X.env = [(false, eval e X.env)] := by rfl) :
    PI X (.Tuple elts kk tpos) (.Call (.Name "enumerate" p) [e] [] pos) (iEnumS ta) := by
  refine ⟨fun pins s σ H R I h => Call_ (ld_blt I hg hm boot_enumerate (PyProof.Rows.callWith_type1 (thn (ha.run pos pins s σ H _ I h) fun us s1 z => ?_) hs rfl))⟩
  obtain ⟨vs, H1, I1, r1, q1⟩ := z
  have key : ∃ x, vs = [.str x] ∧ R (ItES x) H1 := by
    split at q1
    · exact ⟨_, rfl, q1⟩
    · exact q1.elim
  obtain ⟨x, rfl, q⟩ := key
  obtain ⟨u, rfl, ru⟩ := vals1 r1
  obtain ⟨t, rfl⟩ := ru
  have fp : ∀ b ∈ [s1.heap.objs.size + 1, s1.heap.objs.size], FpOk X pins H1 b := fun b hb => by
    have hle : s1.heap.objs.size ≤ b := by
      simp only [List.mem_cons, List.not_mem_nil, or_false] at hb
      rcases hb with z | z <;> rw [z]
      · exact Nat.le_add_right _ _
      · exact Nat.le_refl _
    exact I1.fpOk hle (I1.hok.fresh hle)
  refine call_enumS fun h' he hit hk => wpAny_pyIter_enum he ?_
  exact ⟨s1.heap.objs.size + 1, _, _, _, H1, rfl, I1.kept (t' := s1.toks) hk, turn_enumS (e := s1.heap.objs.size + 1) (it := s1.heap.objs.size) (Nat.succ_ne_self _), ⟨⟨.none, he⟩, hit⟩, fp, q⟩
section
variable {g : TG} {tb : TS} {σ : L2.St} {H H1 : Hp} {ta : TA} {D : Ends}
theorem for_enS {l : List Nat} (h : ∀ R : List V → Hp → Prop, R [.str (T l)] H1 → ta σ H R) (Iv : Nat → L2.St → Hp → Prop) (h0 : Iv 0 σ H1)
    (hs : ∀ (i : Nat) c p σ H, l[i]? = some c → Iv i σ H → H p = none → g (.ref p) σ (upd H p (.tup [.int (i : Nat), .str (T [c])])) fun σ2 H2 => tb { D with nx := Iv (i + 1), ct := Iv (i + 1), bk := D.nx } σ2 H2)
    (he : ∀ σ H, Iv l.length σ H → D.nx σ H) : tFor (iEnumS ta) g tb D σ H := by
  refine h _ ?_
  show (∃ W : Nat → Nat → L2.St → Hp → Prop, _)
  have sz : (T l).cps.size = l.length := by simp [T]
  refine ⟨fun i m σ H => m = l.length - i ∧ i ≤ l.length ∧ Iv i σ H, ⟨l.length, rfl, Nat.zero_le _, h0⟩, ?_⟩
  rintro i m σ H ⟨rfl, hi, iv⟩
  by_cases lt : i < l.length
  · refine .inr ⟨by show i < (T l).cps.size; omega, Iv (i + 1), fun σ' H' z => ⟨l.length - (i + 1), by omega, rfl, lt, z⟩, ?_⟩
    intro v H' y
    obtain ⟨T', c, rfl, hT, rfl, e⟩ := y
    have e' : l[i]? = some c := by
      rw [← e]
      show l[i]? = (l.toArray)[i]?
      exact List.getElem?_toArray.symm
    exact hs i c T' σ H e' iv hT
  · have e : i = l.length := by omega
    subst e
    exact .inl ⟨by show l.length = (T l).cps.size; omega, he σ H iv⟩
end
end LK

/-! k74: _law_steps_right -/
namespace LK
open PySem PySem.Spec PyProof.Rows L2 LamX ClX
open scoped List
theorem br_of {b c : Bool} {x y : Prop} (e : b = c) (h : Br c x y) : Br b x y := e ▸ h
theorem whole_iff {R : Rows} {m : Nat} (ok : RowsOk R m) (h0 : 0 < R.length) : (met R 0).length = R.length ↔ Whole R := by
  have le : (met R 0).length ≤ R.length := fnd_len ok h0 _
  have lt : ∀ x ∈ met R 0, x < R.length := fnd_lt ok h0 _
  constructor
  · intro e x hx
    refine Classical.byContradiction fun n => ?_
    have := len_le_of_lt (l := x :: met R 0) (n := R.length) (List.nodup_cons.mpr ⟨n, met_nd⟩) (fun y hy => by
      rcases List.mem_cons.mp hy with rfl | h
      · exact hx
      · exact lt y h)
    rw [List.length_cons] at this
    omega
  · intro wh
    have := List.Nodup.length_le_of_subset (l₁ := List.range R.length) (l₂ := met R 0) List.nodup_range fun x hx => wh x (List.mem_range.mp hx)
    rw [List.length_range] at this
    omega
theorem setR_same {R : Rows} {m p j : Nat} (ok : RowsOk R m) (hp : p < R.length) (hj : j < m) : setR R p j ((gls R p).getD j 0) = R := by
  have lj : j < (gls R p).length := by rw [gls_len ok hp]; exact hj
  unfold setR
  have e2 : (gls R p).set j ((gls R p).getD j 0) = gls R p := by
    rw [List.getD_eq_getElem?_getD, List.getElem?_eq_getElem lj]
    exact List.set_getElem_self lj
  rw [e2]
  have e3 : gls R p = R[p] := by unfold gls; rw [List.getD_eq_getElem?_getD, List.getElem?_eq_getElem hp]; rfl
  rw [e3]
  exact List.set_getElem_self hp
theorem range_refs {rs : List Addr} {n : Nat} (h : rs.length = n) : (List.range n).map (fun i => V.ref (rs.getD i 0)) = rs.map V.ref := by
  refine List.ext_getElem? fun i => ?_
  rw [List.getElem?_map, List.getElem?_map]
  by_cases hi : i < n
  · rw [List.getElem?_range hi, List.getElem?_eq_getElem (by omega : i < rs.length)]
    show some (V.ref (rs.getD i 0)) = some (V.ref rs[i])
    rw [List.getD_eq_getElem?_getD, List.getElem?_eq_getElem (by omega : i < rs.length)]; rfl
  · rw [List.getElem?_eq_none (by rw [List.length_range]; omega), List.getElem?_eq_none (by omega)]; rfl
section
variable {P : Program} {w : World} {K : PySem.W.Frag} {mg : Str → Option Value} {base : Heap} {C : Addr}
abbrev nSt : List Str := ["_law_model_here", "_law_net", "_law_many", "_law_spot", "_law_at", "_law_sign", "_law_goal_now", "_law_rows_here", "_law_told", "_law_is_whole", "_law_goals", "_law_row"]
theorem scSteps : FnScope nSt ["_law_model_here", "_law_net"] (defScope sSteps) := ⟨rfl, rfl, rfl, by decide +kernel, rfl, by decide +kernel, by decide +kernel⟩
def spSteps (C : Addr) : Sp := fun vs H Q _ => ∃ (t a : Addr) (S : List Nat) (R : Rows) (Kd : List Bool), vs = [.ref t, .ref a] ∧ ModAt H t S R Kd ∧ Mach C H a S R Kd ∧ ShOk S R Kd ∧ Whole R ∧ ∀ H', Same H H' → Q (.bl true) H'
theorem ok_steps {f : Addr} {fd : FuncData} {k : Nat} (F : Fun K "_law_steps_right" "_law_steps_right" sSteps f fd) (M : Mx mg) (iM : IsM K C) (eC : EqC K C) (HQ : HasM P w K mg base k C "__eq__" ["other"] (spEq K C)) (HI : HasI P w K mg base k "Machine" C ["letters", "rows", "kinds"] (spInit K C))
    (HL : Has P w K mg base (k + 1) "_law_led" ["_law_net", "_law_spot", "_law_sign", "_law_goal_now"] (spLLed C)) (HM : Has P w K mg base (k + 1) "_law_met" ["_law_rows_here"] spLMet)
    (HLR : Has P w K mg base (k + 1) "_law_led_right" ["_law_net", "_law_told", "_law_spot", "_law_sign", "_law_goals"] (spLedRight C)) (HRd : Has P w K mg base (k + 1) "redirected" ["machine", "place", "letter", "goal"] (spRedir C)) :
    FnG P w K mg base CX0 (k + 2) f fd ["_law_model_here", "_law_net"] (spSteps C) := by
  refine okG F scSteps (fun vs H Q E h => ?_) (fun cdv A hA outer s H vs Q E hr h => ?_)
  · obtain ⟨t, a, S, R, Kd, rfl, _⟩ := h; rfl
  · obtain ⟨t, a, S, R, Kd, rfl, mo, ma, ok, wh, q⟩ := h
    have nd := scSteps.nd
    have sl := sizeLine_eq
    have hhi := ok.hi
    have hlo := ok.lo
    have l3 := ok.let_.hi
    have hu := Room.u64 hr
    refine ⟨_, (pss_cons (ps_set (i := 2) nd rfl (.inl rfl) (pe_callB c_len (by rfl) M.len b_len (pa_cons (pe_ixU (uv 0) pe_int) pa_nil)))
      (pss_cons (ps_for PassesOwn.never rfl (pi_range1 (by rfl) M.range (pa_cons (uv 2) pa_nil)) (pg_name (i := 3) nd rfl (.inl rfl)) (pss_one (ps_for PassesOwn.never rfl (pi_enumS (by rfl) M.enumerate (pa_cons (pe_ixU (uv 0) pe_int) pa_nil)) (pg_tup rfl (pgs_cons (pg_name (i := 4) nd rfl (.inl rfl)) (pgs_cons (pg_name (i := 5) nd rfl (.inl rfl)) pgs_nil))) (pss_cons (ps_for PassesOwn.never rfl (pi_range1 (by rfl) M.range (pa_cons (uv 2) pa_nil)) (pg_name (i := 6) nd rfl (.inl rfl)) (pss_cons (ps_setLc (i := 7) (own := [("_law_row", 11)]) (g := gName 11) (by rfl) nd rfl rfl (sw_true rfl rfl rfl (by decide +kernel)) (pi_list (pe_ixU (uv 0) pe_int)) (blkOk_by (N := nSt) (sc := defScope sSteps) (by decide +kernel))
        (fun _ _ _ _ _ => pg_name (i := 11) nd rfl (Or.inl rfl)) (fun _ _ _ _ _ => pts_nil) (fun _ _ _ _ _ => pe_callTy (r := listU K) (c_list rfl) (by rfl) M.list b_list (pa_cons (uv 11) pa_nil)))
      (pss_cons (ps_asg (uv 6) (pg_sub (pe_ixU (uv 7) (uv 3)) (uv 4) set_list) rfl)
      (pss_cons (ps_cl (ps_set (i := 8) nd rfl (.inl rfl) (pe_callH HL hA hr (by rfl) (pa_cons (uv 1) (pa_cons (uv 3) (pa_cons (uv 5) (pa_cons (uv 6) pa_nil)))))))
      (pss_cons (ps_set (i := 9) nd rfl (.inl rfl) (pe_cu (r := eqU K false) (o_eq hu) (pe_callB c_len (by rfl) M.len b_len (pa_cons (pe_callH HM hA hr (by rfl) (pa_cons (uv 7) pa_nil)) pa_nil)) (uv 2)))
      (pss_cons (ps_ifU (pt_cu (r := eqU K true) (o_ne hu) (pe_cu (r := isU true) o_isnot (uv 8) pe_non) (uv 9)) (pss_one (ps_ret pe_bl)) pss_nil)
      (pss_cons (ps_ifU (pt_cl (PW.pt (pw_andU (pt_u (uv 9)) (pw_and1 (pt_cu (r := eqI K C (spEq K C) true) (o_neI HQ eC hA hr) (uv 8) (pe_mkI HI hA hr (by rfl) (pa_cons (pe_ixU (uv 0) pe_int) (pa_cons (uv 7) (pa_cons (pe_ixU (uv 0) pe_int) pa_nil))))))))) (pss_one (ps_ret pe_bl)) pss_nil)
      (pss_cons (ps_set (i := 10) nd rfl (.inl rfl) (pe_lst (pa_cons (uv 6) (pa_cons (pe_ixU (pe_ixU (pe_ixU (uv 0) pe_int) (uv 3)) (uv 4)) pa_nil))))
      (pss_one (ps_ifU (pt_cl (PW.pt (pw_andU (pt_u (uv 9)) (pw_and1 (pt_not (pt_u (pe_callH HLR hA hr (by rfl) (pa_cons (uv 1) (pa_cons (uv 8) (pa_cons (uv 3) (pa_cons (uv 5) (pa_cons (uv 10) pa_nil)))))))))))) (pss_one (ps_ret pe_bl)) pss_nil))))))))))
      (pss_one (ps_ifU (pt_cu (r := eqI K C (spEq K C) true) (o_neI HQ eC hA hr) (pe_callH HRd hA hr (by rfl) (pa_cons (uv 1) (pa_cons (uv 3) (pa_cons (uv 5) (pa_cons (pe_ixU (pe_ixU (pe_ixU (uv 0) pe_int) (uv 3)) (uv 4)) pa_nil))))) (uv 1)) (pss_one (ps_ret pe_bl)) pss_nil))))))
      (pss_one (ps_ret pe_bl)))), ?_⟩
    obtain ⟨r, kk, ht, ⟨rs, hrr, lrs, hrs⟩, hkk⟩ := id mo
    have hT : SqT K H t [.str (T S), .ref r, .ref kk] := .inl (.inl ht)
    have lenr : (rs.map V.ref).length = R.length := by rw [List.length_map, lrs]
    refine ⟨_, _, .inr hT, rfl, .inl ⟨rs.map V.ref, .inl (.inl (.inl hrr)), ?_⟩⟩
    rw [lenr]
    dsimp only [tSeq, tAsg, gName]
    refine for_rng (n := R.length) (H1 := H) (by exact fun _ h => h) (by omega) (fun i σ Hc => Same H Hc ∧ ∃ y3 y4 y5 y6 y7 y8 y9 y10, σ = [some (.ref t), some (.ref a), some (.int (R.length : Nat)), y3, y4, y5, y6, y7, y8, y9, y10, none]) ⟨Same.refl _, none, none, none, none, none, none, none, none, rfl⟩ (fun i σ Hc hi z => ?_) (fun σ Hc z => ?_)
    case refine_2 =>
      obtain ⟨e, _, _, _, _, _, _, _, _, rfl⟩ := z
      exact q Hc e
    obtain ⟨e1, y3, y4, y5, y6, y7, y8, y9, y10, rfl⟩ := z
    have hT1 : SqT K Hc t [.str (T S), .ref r, .ref kk] := .inl (.inl (e1 _ _ ht))
    refine for_enS (l := S) (H1 := Hc) (fun R' h => ⟨_, _, .inr hT1, rfl, h⟩) (fun j σ Hd => Same H Hd ∧ ∃ y4 y5 y6 y7 y8 y9 y10, σ = [some (.ref t), some (.ref a), some (.int (R.length : Nat)), some (.int i), y4, y5, y6, y7, y8, y9, y10, none]) ⟨e1, _, _, _, _, _, _, _, rfl⟩ (fun j c pz σ Hd hjc z npz => ?_) (fun σ Hd z => ?_)
    case refine_2 =>
      obtain ⟨e, _, _, _, _, _, _, _, rfl⟩ := z
      exact ⟨e, _, _, _, _, _, _, _, _, rfl⟩
    obtain ⟨e2, y4, y5, y6, y7, y8, y9, y10, rfl⟩ := z
    have hc : c ∈ S := List.mem_of_getElem? hjc
    have hjl : j < S.length := (List.getElem?_eq_some_iff.mp hjc).1
    have ndS := ok.let_.up.nodup
    have ej : S.idxOf c = j := by
      have := (List.getElem?_eq_some_iff.mp hjc).2
      rw [← this]; exact ndS.idxOf_getElem _ _
    have e3 : Same H (upd Hd pz (.tup [.int (j : Nat), .str (T [c])])) := e2.trans (same_upd npz)
    refine ⟨pz, _, rfl, .inl (.inl upd_same), rfl, _, _, rfl, _, _, rfl, rfl, ?_⟩
    generalize upd Hd pz (.tup [.int (j : Nat), .str (T [c])]) = H3 at e3
    refine for_rng (n := R.length) (H1 := H3) (by exact fun _ h => h) (by omega) (fun g σ He => Same H He ∧ ∃ y6 y7 y8 y9 y10, σ = [some (.ref t), some (.ref a), some (.int (R.length : Nat)), some (.int i), some (.int (j : Nat)), some (.str (T [c])), y6, y7, y8, y9, y10, none]) ⟨e3, _, _, _, _, _, rfl⟩ (fun g σ He hg z => ?_) (fun σ He z => ?_)
    case refine_2 =>
      obtain ⟨e4, y6, y7, y8, y9, y10, rfl⟩ := z
      obtain ⟨qa, hqa⟩ : ∃ qa, rs[i]? = some qa := ⟨_, List.getElem?_eq_getElem (by omega)⟩
      have hT4 : SqT K He t [.str (T S), .ref r, .ref kk] := .inl (.inl (e4 _ _ ht))
      have lg : j < (gls R i).length := by rw [gls_len ok.rows hi]; exact hjl
      refine ⟨_, _, .inr hT4, rfl, rs.map V.ref, .ref qa, .inl (.inl (.inl (e4 _ _ hrr))), atI_nat (by rw [List.getElem?_map, hqa]; rfl), iv (gls R i), .int ((gls R i).getD j 0 : Nat), .inl (.inl (.inl (e4 _ _ (hrs i qa hqa)))), atI_nat (by rw [List.getElem?_map, List.getElem?_eq_getElem lg, List.getD_eq_getElem?_getD, List.getElem?_eq_getElem lg]; rfl), ?_⟩
      have g0l : (gls R i).getD j 0 < R.length := by
        rw [List.getD_eq_getElem?_getD, List.getElem?_eq_getElem lg]
        exact gls_lt ok.rows (List.getElem_mem _)
      have same := setR_same ok.rows hi hjl
      refine ⟨a, i, c, (gls R i).getD j 0, S, R, Kd, rfl, ma.ext e4, ok, hi, hc, g0l, by rw [ej, same]; exact wh, fun H5 m e5 nm mach => ?_⟩
      rw [ej, same] at mach
      refine mach_eq iM mach.m (ma.ext (e4.trans e5)) (by omega) fun H6 e6 => .no ?_
      exact ⟨(e4.trans e5).trans e6, _, _, _, _, _, _, _, rfl⟩
    obtain ⟨e4, y6, y7, y8, y9, y10, rfl⟩ := z
    have hT4 : SqT K He t [.str (T S), .ref r, .ref kk] := .inl (.inl (e4 _ _ ht))
    have hrr4 := e4 _ _ hrr
    dsimp only [tSeq, tAsg, gName]
    refine lc_refS (K := K) (t := tOp (ixU K) (uVar 0) (tC (.int 1))) (a := r) (ls := List.range R.length) (enc := fun x => V.ref (rs.getD x 0)) (o := fun x => .lst (iv (gls R x))) (H := He) (H1 := He)
      (fun R' h => ⟨_, _, .inr hT4, rfl, h⟩) (by rw [range_refs lrs]; exact hrr4) (by rw [List.length_range]; omega) (fun H' x hx e5 Qy hy => ?_) (fun D H5 qs nD e5 hD lq hq ndq => ?_)
    · have hx : x < R.length := List.mem_range.mp hx
      have hqx : rs[x]? = some (rs.getD x 0) := by
        rw [List.getD_eq_getElem?_getD, List.getElem?_eq_getElem (by omega : x < rs.length)]; rfl
      exact ⟨rfl, .inl ⟨iv (gls R x), .inl (.inl (.inl (e5 _ _ (e4 _ _ (hrs x _ hqx))))), fun l nl => hy _ l (same_upd nl) nl upd_same⟩⟩
    rw [List.length_range] at lq
    have hqs : ∀ x q', qs[x]? = some q' → He q' = none ∧ q' ≠ D ∧ H5 q' = some (.lst (iv (gls R x))) := fun x q' h => by
      have hx : x < R.length := by
        have := (List.getElem?_eq_some_iff.mp h).1
        omega
      exact hq x q' x h (List.getElem?_range hx)
    obtain ⟨q1, hq1⟩ : ∃ q1, qs[i]? = some q1 := ⟨_, List.getElem?_eq_getElem (by omega)⟩
    obtain ⟨nq1, nqD, hq1v⟩ := hqs i q1 hq1
    have lg : j < (gls R i).length := by rw [gls_len ok.rows hi]; exact hjl
    refine ⟨_, _, .inl (.inl (.inl hD)), atI_nat (by rw [List.getElem?_map, hq1]; rfl), ?_⟩
    refine ⟨q1, iv (gls R i), (j : Nat), j, rfl, rfl, hq1v, by rw [iv_len]; exact ixN_nat lg, ?_⟩
    rw [iv_set]
    have rl := rows_put (j := j) (g := g) hi hD lq hqs ndq hq1
    have e45 : Same He (upd H5 q1 (.lst (iv ((gls R i).set j g)))) := same_upd2 e5 nq1
    have e6 := e4.trans e45
    generalize upd H5 q1 (.lst (iv ((gls R i).set j g))) = H6 at rl e6
    have ok2 : RowsOk (setR R i j g) S.length := setR_ok ok.rows hi hg
    have okS2 : ShOk S (setR R i j g) Kd := ⟨ok.let_, ok2, by rw [setR_len]; exact ok.lo, by rw [setR_len]; exact ok.hi, by rw [setR_len]; exact ok.kinds⟩
    have wi := whole_iff ok2 (by rw [setR_len]; omega)
    rw [setR_len] at wi
    refine ⟨fun σ' H' => ∃ told : V, σ' = [some (.ref t), some (.ref a), some (.int (R.length : Nat)), some (.int i), some (.int (j : Nat)), some (.str (T [c])), some (.int g), some (.ref D), some told, y9, y10, none] ∧ Same H6 H' ∧
      ((Whole (setR R i j g) ∧ ∃ m, told = .ref m ∧ Mach C H' m S (setR R i j g) Kd) ∨ (¬ Whole (setR R i j g) ∧ told = .non)), ?_, fun σ' H' z => ?_⟩
    · refine ⟨a, i, c, g, S, R, Kd, rfl, ma.ext e6, ok, hi, hc, hg, ?_, ?_⟩
      · rw [ej]
        exact fun w2 H' m e nm mach => ⟨_, rfl, e, .inl ⟨w2, m, rfl, mach.m⟩⟩
      · rw [ej]
        exact fun w2 H' e => ⟨_, rfl, e, .inr ⟨w2, rfl⟩⟩
    obtain ⟨told, rfl, e7, alt⟩ := z
    have e67 := e6.trans e7
    refine ⟨D, S.length, setR R i j g, rfl, rl.ext e7, ok2, by omega, by rw [setR_len]; omega, by rw [setR_len]; omega, fun H8 pm e8 rn8 => ?_⟩
    have e68 := e67.trans e8
    obtain ⟨_, rs8, h81, l8, _, _⟩ := id rn8
    have len8 : (rs8.map V.ref).length = (met (setR R i j g) 0).length := by rw [List.length_map, l8, rn_len]
    refine .inl ⟨rs8.map V.ref, .inl (.inl (.inl h81)), ?_⟩
    rw [len8]
    obtain ⟨qa, hqa⟩ : ∃ qa, rs[i]? = some qa := ⟨_, List.getElem?_eq_getElem (by omega)⟩
    have hT8 : SqT K H8 t [.str (T S), .ref r, .ref kk] := .inl (.inl (e68 _ _ ht))
    have gls8 : ∀ {H' : Hp} {Q : VK}, Same H8 H' → Q (.int ((gls R i).getD j 0 : Nat)) H' → tOp (ixU K) (tOp (ixU K) (tOp (ixU K) (uVar 0) (tC (.int 1))) (uVar 3)) (uVar 4) [some (.ref t), some (.ref a), some (.int (R.length : Nat)), some (.int i), some (.int (j : Nat)), some (.str (T [c])), some (.int g), some (.ref D), some told, some (.bl (decide (((met (setR R i j g) 0).length : Int) = ((R.length : Nat) : Int)))), y10, none] H' Q := fun {H' Q} e9 hq9 => by
      have e10 := e68.trans e9
      exact ⟨_, _, .inr (.inl (.inl (e10 _ _ ht))), rfl, rs.map V.ref, .ref qa, .inl (.inl (.inl (e10 _ _ hrr))), atI_nat (by rw [List.getElem?_map, hqa]; rfl), iv (gls R i), .int ((gls R i).getD j 0 : Nat), .inl (.inl (.inl (e10 _ _ (hrs i qa hqa)))), atI_nat (by rw [List.getElem?_map, List.getElem?_eq_getElem lg, List.getD_eq_getElem?_getD, List.getElem?_eq_getElem lg]; rfl), hq9⟩
    rcases alt with ⟨w2, m, rfl, mm⟩ | ⟨w2, rfl⟩
    · have eb : decide (((met (setR R i j g) 0).length : Int) = ((R.length : Nat) : Int)) = true := decide_eq_true (by rw [wi.mpr w2])
      refine br_of (c := false) (by
        show (!decide ((!decide (V.ref m = V.non)) = decide (((met (setR R i j g) 0).length : Int) = ((R.length : Nat) : Int)))) = false
        rw [eb, show decide (V.ref m = V.non) = false from decide_eq_false (fun z => nomatch z)]; rfl) (.no ?_)
      refine ⟨fun b H' => b = false ∧ Same H8 H', br_of eb (.yes ?_), fun b H' z => ?_⟩
      · refine ⟨_, _, .inr hT8, rfl, _, _, .inr hT8, rfl, rfl, ?_⟩
        refine mach_newN okS2 w2 ((rl.ext e7).ext e8).at ⟨false, .inl (.inl (e68 _ _ hkk))⟩ fun H9 m2 e9 nm2 mach2 => mach_eq iM ((mm.ext e8).ext e9) mach2.m (by rw [setR_len]; omega) fun H10 e10 => ⟨rfl, e9.trans e10⟩
      obtain ⟨rfl, e9⟩ := z
      refine .no ?_
      refine gls8 e9 ⟨by show 2 ≤ sizeLine; omega, fun G nG => ?_⟩
      have eG := e9.trans (same_upd (o := .lst [V.int (g : Nat), .int ((gls R i).getD j 0 : Nat)]) nG)
      refine ⟨fun b Hz => b = false ∧ Same (upd H' G (.lst [V.int (g : Nat), .int ((gls R i).getD j 0 : Nat)])) Hz, br_of eb (.yes ?_), fun b Hz z => ?_⟩
      · refine ⟨a, m, G, i, c, g, S, R, Kd, rfl, ma.ext (e68.trans eG), by rw [ej]; exact (mm.ext e8).ext eG, by rw [ej]; exact upd_same, ok, wh, by rw [ej]; exact w2, hi, hc, hg, fun H9 e10 => ⟨rfl, e10⟩⟩
      obtain ⟨rfl, e10⟩ := z
      exact .no ⟨(e68.trans eG).trans e10, _, _, _, _, _, rfl⟩
    · have eb : decide (((met (setR R i j g) 0).length : Int) = ((R.length : Nat) : Int)) = false := decide_eq_false fun z => w2 (wi.mp (by omega))
      refine br_of (c := false) (by
        show (!decide ((!decide (V.non = V.non)) = decide (((met (setR R i j g) 0).length : Int) = ((R.length : Nat) : Int)))) = false
        rw [eb]; rfl) (.no ?_)
      refine ⟨fun b H' => b = false ∧ H' = H8, br_of eb (.no ⟨rfl, rfl⟩), fun b H' z => ?_⟩
      obtain ⟨rfl, rfl⟩ := z
      refine .no ?_
      refine gls8 (Same.refl _) ⟨by show 2 ≤ sizeLine; omega, fun G nG => ?_⟩
      refine ⟨fun b H' => b = false ∧ Same _ H', br_of eb (.no ⟨rfl, Same.refl _⟩), fun b H' z => ?_⟩
      obtain ⟨rfl, e9⟩ := z
      exact .no ⟨(e68.trans (same_upd nG)).trans e9, _, _, _, _, _, rfl⟩
end
end LK

/-! k74: _law_great_right -/
namespace LK
open PySem PySem.Spec PyProof.Rows L2 LamX ClX
open scoped List
/-- each place leads to the next one: all are come to -/
theorem whole_ring {R : Rows} {m : Nat} (ok : RowsOk R m) (h0 : 0 < R.length) (h : ∀ i, i < R.length → (i + 1) % R.length ∈ gls R i) : Whole R := by
  intro x
  induction x with
  | zero => intro _; exact List.mem_of_getElem? met_zero
  | succ x ih =>
    intro hx
    have := h x (by omega)
    rw [Nat.mod_eq_of_lt hx] at this
    exact met_closed ok h0 (ih (by omega)) this
theorem drop1 {S : List Nat} (h : 1 ≤ S.length) : ∃ S', ((S.drop (HT.sIx S.length 0 (some 1))).take (HT.sIx S.length S.length none - HT.sIx S.length 0 (some 1))) = S' ∧ S'.length + 1 = S.length := by
  refine ⟨_, rfl, ?_⟩
  have e1 : HT.sIx S.length 0 (some 1) = 1 := by
    show HT.sIx S.length 0 (some ((1 : Nat) : Int)) = 1
    rw [HT.sIx_nat]; omega
  rw [e1, HT.sIx_none, List.length_take, List.length_drop]; omega
section
variable {P : Program} {w : World} {K : PySem.W.Frag} {mg : Str → Option Value} {base : Heap} {C : Addr} (TT : List (Addr × Str))
abbrev nGr : List Str := ["_law_pot_here", "_law_signs_here", "_law_many", "_law_rows_here", "_law_model_here", "_law_net", "_law_turn", "_law_spot", "_law_at", "_law_goal_now", "_law_later", "_law_told", "_law_sign", "_law_row"]
theorem scGreat : FnScope nGr ["_law_pot_here"] (defScope sGreat) := ⟨rfl, rfl, rfl, by decide +kernel, rfl, by decide +kernel, by decide +kernel⟩
abbrev scG1 : Scope := { kind := .function, names := [(".0", .local), ("_law_spot", .local), ("int", .globalImplicit), ("_law_many", .free), ("_law_pot_here", .free), ("_law_signs_here", .free)], isGenerator := false, isCoroutine := false }
def spGreat : Sp := fun vs H Q _ => ∃ (p : Addr), vs = [.ref p] ∧ Pot H p ∧ ∀ H', Ex TT (at1 p) H H' → Pot H' p → Q (.bl true) H'
theorem ok_great {f : Addr} {fd : FuncData} {k : Nat} (F : Fun K "_law_great_right" "_law_great_right" sGreat f fd) (M : Mx mg) (iM : IsM K C) (eC : EqC K C) (HQ : HasM P w K mg base k C "__eq__" ["other"] (spEq K C)) (HI : HasI P w K mg base k "Machine" C ["letters", "rows", "kinds"] (spInit K C))
    (HD : Has P w K mg base (k + 1) "_law_draw" ["_law_pot_here", "_law_size"] (spDraw TT)) (HSg : Has P w K mg base (k + 1) "_law_signs" ["_law_pot_here"] (spSigns TT)) (HMa : Has P w K mg base (k + 1) "_law_machine" ["_law_model_here"] (spLMachine C))
    (HL : Has P w K mg base (k + 1) "_law_led" ["_law_net", "_law_spot", "_law_sign", "_law_goal_now"] (spLLed C)) (HM : Has P w K mg base (k + 1) "_law_met" ["_law_rows_here"] spLMet)
    (HS : Has P w K mg base (k + 3) "_law_spots_right" ["_law_pot_here", "_law_model_here", "_law_net"] (spSpots TT C)) :
    FnG P w K mg base CX0 (k + 4) f fd ["_law_pot_here"] (spGreat TT) := by
  refine okG F scGreat (fun vs H Q E h => ?_) (fun cdv A hA outer s H vs Q E hr h => ?_)
  · obtain ⟨p, rfl, _⟩ := h; rfl
  · obtain ⟨p, rfl, hp, q⟩ := h
    have nd := scGreat.nd
    have sl := sizeLine_eq
    have hu := Room.u64 hr
    have hr1 : Room (k + 1) _ := hr.mono (by omega)
    refine ⟨_, (pss_cons (ps_asg (pe_tup (pa_cons (pe_callH HSg hA hr1 (by rfl) (pa_cons (uv 0) pa_nil)) (pa_cons (pe_op o_add pe_int (pe_callH HD hA hr1 (by rfl) (pa_cons (uv 0) (pa_cons pe_int pa_nil)))) pa_nil))) (pg_tup rfl (pgs_cons (pg_name (i := 1) nd rfl (.inr rfl)) (pgs_cons (pg_name (i := 2) nd rfl (.inr rfl)) pgs_nil))) rfl)
      (pss_cons (ps_setLc (i := 3) (own := [("_law_spot", 7)]) (g := gName 7) (by rfl) nd rfl rfl (sw_true rfl rfl rfl (by decide +kernel)) (pi_range1 (by rfl) M.range (pa_cons (uv 2) pa_nil)) (blkOk_by (N := nGr) (sc := defScope sGreat) (by decide +kernel))
        (fun _ _ _ _ _ => pg_name (i := 7) nd rfl (Or.inl rfl)) (fun _ _ _ _ _ => pts_nil) (fun _ _ _ _ _ => pe_op o_add (pe_lst (pa_cons (pe_op o_mod (pe_callTy c_int (by rfl) M.int b_int (pa_cons (pe_op o_add (uv 7) pe_int) pa_nil)) (uv 2)) pa_nil))
          (pe_lc (own := [("_law_sign", 12)]) (g := gName 12) (tt := tYes) rfl nd (pi_str (pe_slice (r := slU K) sl_u (uv 1) (po_u pe_int) po_none)) (blkOk_in (N := nGr) (sc := scG1) (by decide +kernel))
        (fun _ _ _ _ _ => pg_name (i := 12) nd rfl (Or.inl rfl)) (fun _ _ _ _ _ => pts_nil) (fun _ _ _ _ _ => (pe_callH HD hA hr1 (by rfl) (pa_cons (uv 0) (pa_cons (uv 2) pa_nil)))))))
      (pss_cons (ps_set (i := 4) nd rfl (.inr rfl) (pe_tup (pa_cons (uv 1) (pa_cons (uv 3) (pa_cons (pe_lc (own := [("_law_row", 13)]) (g := gName 13) (tt := tYes) rfl nd (pi_list (uv 3)) (blkOk_by (N := nGr) (sc := defScope sGreat) (by decide +kernel))
        (fun _ _ _ _ _ => pg_name (i := 13) nd rfl (Or.inl rfl)) (fun _ _ _ _ _ => pts_nil) (fun _ _ _ _ _ => (pe_cu (r := eqU K false) (o_eq hu) (pe_callH HD hA hr1 (by rfl) (pa_cons (uv 0) (pa_cons pe_int pa_nil))) pe_int))) pa_nil)))))
      (pss_cons (ps_set (i := 5) nd rfl (.inr rfl) (pe_callH HMa hA hr1 (by rfl) (pa_cons (uv 4) pa_nil)))
      (pss_cons (ps_for PassesOwn.never rfl (pi_range1 (by rfl) M.range (pa_cons pe_int pa_nil)) (pg_name (i := 6) nd rfl (.inl rfl)) (pss_cons (ps_par3 (i := 7) (j := 8) (l := 9) rfl nd rfl rfl rfl (by decide) (by decide) (by decide) rfl rfl rfl (pa_cons (pe_callH HD hA hr1 (by rfl) (pa_cons (uv 0) (pa_cons (uv 2) pa_nil))) (pa_cons (pe_callH HD hA hr1 (by rfl) (pa_cons (uv 0) (pa_cons (pe_callB c_len (by rfl) M.len b_len (pa_cons (uv 1) pa_nil)) pa_nil))) (pa_cons (pe_callH HD hA hr1 (by rfl) (pa_cons (uv 0) (pa_cons (uv 2) pa_nil))) pa_nil))) (by rfl))
      (pss_cons (ps_setLc (i := 10) (own := [("_law_row", 13)]) (g := gName 13) (by rfl) nd rfl rfl (sw_true rfl rfl rfl (by decide +kernel)) (pi_list (uv 3)) (blkOk_by (N := nGr) (sc := defScope sGreat) (by decide +kernel))
        (fun _ _ _ _ _ => pg_name (i := 13) nd rfl (Or.inl rfl)) (fun _ _ _ _ _ => pts_nil) (fun _ _ _ _ _ => pe_callTy (r := listU K) (c_list rfl) (by rfl) M.list b_list (pa_cons (uv 13) pa_nil)))
      (pss_cons (ps_asg (uv 9) (pg_sub (pe_ixU (uv 10) (uv 7)) (uv 8) set_list) rfl)
      (pss_cons (ps_cl (ps_set (i := 11) nd rfl (.inl rfl) (pe_callH HL hA hr1 (by rfl) (pa_cons (uv 5) (pa_cons (uv 7) (pa_cons (pe_ixU (uv 1) (uv 8)) (pa_cons (uv 9) pa_nil)))))))
      (pss_cons (ps_ifU (pt_cu (r := eqU K true) (o_ne hu) (pe_cu (r := isU true) o_isnot (uv 11) pe_non) (pe_cu (r := eqU K false) (o_eq hu) (pe_callB c_len (by rfl) M.len b_len (pa_cons (pe_callH HM hA hr1 (by rfl) (pa_cons (uv 10) pa_nil)) pa_nil)) (uv 2))) (pss_one (ps_ret pe_bl)) pss_nil)
      (pss_one (ps_ifU (pt_cl (PW.pt (pw_andU (pt_cu (r := isU true) o_isnot (uv 11) pe_non) (pw_and1 (pt_cu (r := eqI K C (spEq K C) true) (o_neI HQ eC hA hr1) (uv 11) (pe_mkI HI hA hr1 (by rfl) (pa_cons (uv 1) (pa_cons (uv 10) (pa_cons (pe_ixU (uv 4) pe_int) pa_nil))))))))) (pss_one (ps_ret pe_bl)) pss_nil))))))))
      (pss_one (ps_ret (pe_callB (c_all rfl) (by rfl) M.all b_all (pa_cons (pe_lc (own := [("_law_turn", 6)]) (g := gName 6) (tt := tYes) rfl nd (pi_range1 (by rfl) M.range (pa_cons pe_int pa_nil)) (blkOk_by (N := nGr) (sc := defScope sGreat) (by decide +kernel))
        (fun _ _ _ _ _ => pg_name (i := 6) nd rfl (Or.inl rfl)) (fun _ _ _ _ _ => pts_nil) (fun _ _ _ _ _ => (pe_callH HS hA hr (by rfl) (pa_cons (uv 0) (pa_cons (uv 4) (pa_cons (uv 5) pa_nil)))))) pa_nil))))))))), ?_⟩
    refine ⟨p, rfl, hp, fun H1 S e1 hp1 lt => ?_⟩
    refine ⟨p, 32, rfl, by omega, by omega, hp1, fun H2 d e2 hp2 hd => ?_⟩
    obtain ⟨n, hn, hn9, hn40⟩ : ∃ n : Nat, (9 + (d : Int)) = (n : Int) ∧ 9 ≤ n ∧ n ≤ 40 := ⟨d + 9, by omega, by omega, by omega⟩
    have l3 := lt.hi
    have l1 := lt.lo
    have ndS := lt.up.nodup
    dsimp only [rAddU]
    rw [hn]
    refine ⟨by show 2 ≤ sizeLine; omega, fun U nU => ?_⟩
    refine ⟨U, _, rfl, .inl (.inl upd_same), rfl, _, _, rfl, _, _, rfl, rfl, ?_⟩
    have e3 : Ex TT (at1 p) H (upd H2 U (.tup [.str (T S), .int (n : Nat)])) := (e1.trans e2).trans (.new nU)
    have hp3 : Pot (upd H2 U (.tup [.str (T S), .int (n : Nat)])) p := hp2.put (hp2.ne nU)
    generalize upd H2 U (.tup [.str (T S), .int (n : Nat)]) = H3 at e3 hp3
    obtain ⟨S', eS', lS'⟩ := drop1 l1
    dsimp only [tSeq, tAsg, gName]
    refine lc_rng (n := n) (H1 := H3) (fun R' h => h) (by omega) (fun D i acc H9 => ∃ (rws : List (List Nat)) (as : List Addr), acc = as.map V.ref ∧ as.length = i ∧ rws.length = i ∧ Ex TT (at1 p) H3 H9 ∧ Pot H9 p ∧ D ≠ p ∧ H9 D = some (.lst (as.map V.ref)) ∧
        (∀ j q, as[j]? = some q → q ≠ p ∧ q ≠ D ∧ H9 q = some (.lst (iv (gls rws j)))) ∧ (∀ r' ∈ rws, r'.length = S.length ∧ ∀ g ∈ r', g < n) ∧ ∀ j, j < rws.length → (j + 1) % n ∈ gls rws j)
      (fun D nD => ⟨[], [], rfl, rfl, rfl, .new nD, hp3.put (hp3.ne nD), (hp3.ne nD).symm, upd_same, (fun j q z => (nil_none z).elim), (fun r' z => by cases z), fun j z => absurd z (Nat.not_lt_zero _)⟩)
      (fun D nD i acc H9 hi r => ?_) (fun D nD acc H9 r => ?_)
    · obtain ⟨rws, as, rfl, la, lr, e9, hp9, nDp, hD, has, hrw, hring⟩ := r
      have newD : New H3 D := fun b o hb _ e => by rw [e, nD] at hb; cases hb
      have em : ((i : Int) + 1) % (n : Int) = (((i + 1) % n : Nat) : Int) := by
        rw [show ((i : Int) + 1) = ((i + 1 : Nat) : Int) by omega]; rfl
      have ml : (i + 1) % n < n := Nat.mod_lt _ (by omega)
      refine ⟨rfl, ?_⟩
      refine ⟨show (0 : Int) < (n : Int) by omega, by show 1 ≤ sizeLine; omega, fun A1 nA1 => ?_⟩
      dsimp only [rAddU]
      rw [em]
      have nA1D : D ≠ A1 := ne_of_none hD nA1
      have e10 : Ex TT (at1 p) H9 (upd H9 A1 (.lst [V.int (((i + 1) % n : Nat) : Int)])) := .new nA1
      have hA1 : (upd H9 A1 (.lst [V.int (((i + 1) % n : Nat) : Int)])) A1 = some (.lst [V.int (((i + 1) % n : Nat) : Int)]) := upd_same
      have nA1p : A1 ≠ p := (hp9.ne nA1).symm
      have hp10 : Pot (upd H9 A1 (.lst [V.int (((i + 1) % n : Nat) : Int)])) p := hp9.put nA1p.symm
      generalize upd H9 A1 (.lst [V.int (((i + 1) % n : Nat) : Int)]) = HA at e10 hA1 hp10
      refine lc_str (t := tSl (slU K) (uVar 1) (uPart (tC (.int 1))) tNoPart) (l := S') (H1 := HA) (fun R' h => ⟨by show S.length ≤ sizeLine; omega, by rw [show (cs (T S)) = S from rfl, eS']; exact h⟩) (fun B L acc H10 => ∃ (pp row : List Nat), L = lets pp ∧ row.length = pp.length ∧ acc = iv row ∧ (∀ g ∈ row, g < n) ∧ Ex TT (at1 p) HA H10 ∧ Pot H10 p ∧ B ≠ p ∧ H10 B = some (.lst (iv row)))
        (fun B nB => ⟨[], [], rfl, rfl, rfl, (fun g z => by cases z), .new nB, hp10.put (hp10.ne nB), (hp10.ne nB).symm, upd_same⟩) (fun B nB pre acc3 c suf H10 e r => ?_) (fun B nB acc3 H10 r => ?_)
      · obtain ⟨pp, row, ep, lrow, rfl, hg, e11, hp11, nBp, hB⟩ := r
        have newB : New HA B := fun b o hb _ e => by rw [e, nB] at hb; cases hb
        obtain rfl := lets_inj ep
        have l4 : pre.length < 3 := by
          have := congrArg List.length e
          rw [List.length_append, List.length_cons] at this
          omega
        refine ⟨rfl, p, n, rfl, by omega, by omega, hp11, fun H11 g e12 hp12 hgn => ?_⟩
        have hB12 : H11 B = some (.lst (iv row)) := e12.lst nBp hB
        refine ⟨iv row, hB12, by rw [iv_len]; omega, _, pre ++ [c], row ++ [g], rfl, by rw [List.length_append, List.length_append, lrow]; rfl, by rw [iv_app], fun g' hg' => ?_, (e11.trans e12).putN newB hB12 (fun _ z => nomatch z) (fun _ _ z => nomatch z), hp12.put nBp.symm, nBp, by rw [upd_same, iv_app]; rfl⟩
        rcases List.mem_append.mp hg' with h | h
        · exact hg g' h
        · simp at h; omega
      · obtain ⟨pp, row, ep, lrow, rfl, hg, e11, hp11, nBp, hB⟩ := r
        obtain rfl := lets_inj ep
        have e9b := e10.trans e11
        have hD10 : H10 D = some (.lst (as.map V.ref)) := e9b.lst nDp hD
        have hA10 : H10 A1 = some (.lst [V.int (((i + 1) % n : Nat) : Int)]) := e11.lst nA1p hA1
        refine ⟨[.int (((i + 1) % n : Nat) : Int)], iv row, hA10, hB, by rw [iv_len]; show 1 + row.length ≤ sizeLine; omega, fun C1 nC1 => ?_⟩
        have eC : ([V.int (((i + 1) % n : Nat) : Int)] ++ iv row) = iv ((i + 1) % n :: row) := rfl
        rw [eC]
        have nC1p : C1 ≠ p := (hp11.ne nC1).symm
        have nC1D : C1 ≠ D := fun z => by rw [z, hD10] at nC1; cases nC1
        have e13 : Ex TT (at1 p) H10 (upd H10 C1 (.lst (iv ((i + 1) % n :: row)))) := .new nC1
        have hD13 := e13.lst nDp hD10
        refine ⟨as.map V.ref, hD13, by rw [List.length_map]; omega, _, rws ++ [(i + 1) % n :: row], as ++ [C1], by first | rw [List.map_append] | (rw [List.map_append]; rfl), by rw [List.length_append, la]; rfl, by rw [List.length_append, lr]; rfl, ((e9.trans e9b).trans e13).putN newD hD13 (fun _ z => nomatch z) (fun _ _ z => nomatch z), (hp11.put nC1p.symm).put nDp.symm, nDp, by rw [upd_same, List.map_append]; rfl, fun j q' hq' => ?_, fun r' hr' => ?_, fun j hj => ?_⟩
        · rcases Nat.lt_or_ge j as.length with hlt | hge
          · rw [List.getElem?_append_left hlt] at hq'
            obtain ⟨g1, g2, g3⟩ := has j q' hq'
            rw [gls_app_lt (by omega)]
            exact ⟨g1, g2, by rw [upd_ne g2]; exact (e9b.trans e13).lst g1 g3⟩
          · rw [List.getElem?_append_right hge] at hq'
            have e6 : j - as.length = 0 := by
              have := (List.getElem?_eq_some_iff.mp hq').1
              simp at this; omega
            rw [e6] at hq'
            have : C1 = q' := by simpa using hq'
            subst this
            have : j = rws.length := by omega
            subst this
            rw [gls_app_at]
            exact ⟨nC1p, nC1D, by rw [upd_ne nC1D]; exact upd_same⟩
        · rcases List.mem_append.mp hr' with h | h
          · exact hrw r' h
          · simp at h; subst h
            refine ⟨by rw [List.length_cons, lrow]; omega, fun x hx => ?_⟩
            rcases List.mem_cons.mp hx with rfl | hx
            · exact ml
            · exact hg x hx
        · rcases Nat.lt_or_ge j rws.length with hlt | hge
          · rw [gls_app_lt hlt]; exact hring j hlt
          · rw [List.length_append, List.length_singleton] at hj
            have : j = rws.length := by omega
            subst this
            rw [gls_app_at, lr]
            exact List.mem_cons_self
    obtain ⟨R, as, rfl, la, lr, e9, hp9, nDp, hD, has, hrw, hring⟩ := r
    have okR : RowsOk R S.length := ⟨fun r' h => (hrw r' h).1, fun r' h g hg => by rw [lr]; exact (hrw r' h).2 g hg⟩
    have wh : Whole R := whole_ring okR (by omega) fun i hi => by
      rw [lr] at hi ⊢
      exact hring i (by omega)
    have lasR : as.length = R.length := by omega
    subst lr
    have e39 := e3.trans e9
    clear e9 e1 e2 hp1 hp2 hp3 hring
    dsimp only [tSeq, tAsg, gName, tTup, tCons]
    refine uv_go (v := .str (T S)) rfl ?_
    refine uv_go (v := .ref D) rfl ?_
    refine lc_list (K := K) (t := uVar 3) (a := D) (xs := as.map V.ref) (H1 := H9) (by exact fun _ h => h) (.inl (.inl hD)) (fun B pre acc H8 => ∃ ks : List Bool, acc = ks.map V.bl ∧ ks.length = pre.length ∧ Ex TT (at1 p) H9 H8 ∧ Pot H8 p ∧ B ≠ p ∧ H8 B = some (.lst (ks.map V.bl)))
      (fun B pre acc H8 h => by obtain ⟨_, _, _, e, _⟩ := h; exact .inl (.inl (e.lst nDp hD))) (fun B nB => ⟨[], rfl, rfl, .new nB, hp9.put (hp9.ne nB), (hp9.ne nB).symm, upd_same⟩)
      (fun B nB pre acc x suf H8 ex h => ?_) (fun KA nKA acc H8 h => ?_)
    · obtain ⟨ks, rfl, lk, e8, hp8, nBp, hB⟩ := h
      have newB : New H9 B := fun b o hb _ e => by rw [e, nB] at hb; cases hb
      have lp : pre.length < (as.map V.ref).length := by rw [ex]; simp
      rw [List.length_map] at lp
      refine ⟨rfl, p, 2, rfl, by omega, by omega, hp8, fun H10 b e10 hp10 hb => ?_⟩
      have hB9 : H10 B = some (.lst (ks.map V.bl)) := e10.lst nBp hB
      refine ⟨ks.map V.bl, hB9, by rw [List.length_map]; omega, _, ks ++ [decide ((b : Int) = 0)], by first | rw [List.map_append] | (rw [List.map_append]; rfl), by rw [List.length_append, List.length_append, lk]; rfl, (e8.trans e10).putN newB hB9 (fun _ z => nomatch z) (fun _ _ z => nomatch z), hp10.put nBp.symm, nBp, by rw [upd_same, List.map_append]; rfl⟩
    obtain ⟨Kd, rfl, lk, e8, hp8, nKp, hK⟩ := h
    rw [List.length_map] at lk
    refine ⟨by show 3 ≤ sizeLine; omega, fun t nt => ?_⟩
    have et : Ex TT (at1 p) H8 (upd H8 t (.tup [.str (T S), .ref D, .ref KA])) := .new nt
    have ntp : t ≠ p := (hp8.ne nt).symm
    have mo : ModX (at1 p) (upd H8 t (.tup [.str (T S), .ref D, .ref KA])) t S R Kd := ⟨D, KA, as, ntp, nDp, nKp, upd_same, (e8.trans et).lst nDp hD, lasR, fun i q' hq' => ⟨(has i q' hq').1, (e8.trans et).lst (has i q' hq').1 (has i q' hq').2.2⟩, et.lst nKp hK⟩
    have hpt : Pot (upd H8 t (.tup [.str (T S), .ref D, .ref KA])) p := hp8.put ntp.symm
    have eHt := (e39.trans e8).trans et
    have htup : (upd H8 t (.tup [.str (T S), .ref D, .ref KA])) t = some (.tup [.str (T S), .ref D, .ref KA]) := upd_same
    generalize upd H8 t (.tup [.str (T S), .ref D, .ref KA]) = Ht at mo hpt eHt htup
    have ok : ShOk S R Kd := ⟨lt, okR, by omega, by omega, by omega⟩
    refine ⟨t, S, R, Kd, rfl, mo.m, ok, wh, fun Hn a en na mach => ?_⟩
    have ma : MachX (at1 p) C Hn a S R Kd := mach.x na fun b z => by rw [show b = p from z]; exact hpt.some
    have mon := mo.ex (TT := TT) (.same en)
    have htn := en _ _ htup
    have hpn : Pot Hn p := hpt.ex (TT := TT) (.same en)
    have eHn : Ex TT (at1 p) H Hn := eHt.trans (.same en)
    clear mach e8 et hD has hK hrw e39 mo hpt
    have hid : ∃ (y6 y7 y8 y9 y10 y11 : Option V), ([some (.ref p), some (.str (T S)), some (.int (R.length : Nat)), some (.ref D), some (.ref t), some (.ref a), none, none, none, none, none, none, none, none] : L2.St) = [some (.ref p), some (.str (T S)), some (.int (R.length : Nat)), some (.ref D), some (.ref t), some (.ref a), y6, y7, y8, y9, y10, y11, none, none] := ⟨_, _, _, _, _, _, rfl⟩
    refine for_rng (n := 8) (H1 := Hn) (by exact fun _ h => h) (by omega) (fun u σ Hc => Ex TT (at1 p) Hn Hc ∧ Pot Hc p ∧ ∃ y6 y7 y8 y9 y10 y11, σ = [some (.ref p), some (.str (T S)), some (.int (R.length : Nat)), some (.ref D), some (.ref t), some (.ref a), y6, y7, y8, y9, y10, y11, none, none])
      ⟨.refl, hpn, hid⟩ (fun u σ Hc hu2 z => ?_) (fun σ Hc z => ?_)
    · obtain ⟨ec, hpc, y6, y7, y8, y9, y10, y11, rfl⟩ := z
      refine ⟨p, R.length, rfl, by omega, by omega, hpc, fun Ha i ea hpa hi => ?_⟩
      refine ⟨by show S.length ≤ sizeLine; omega, p, S.length, rfl, by omega, by omega, hpa, fun Hb j eb hpb hj => ?_⟩
      refine ⟨p, R.length, rfl, by omega, by omega, hpb, fun He g ed hpe hg => ?_⟩
      refine ⟨_, _, _, rfl, ?_⟩
      have e4 : Ex TT (at1 p) Hn He := ((ec.trans ea).trans eb).trans ed
      have mo4 := mon.ex e4
      have ma4 := (ma.ex e4).m
      obtain ⟨D', kk, rs, _, nD2, _, ht, hrr, lrs, hrs, hkk⟩ := id mo4
      have hT4 : SqT K He t [.str (T S), .ref D', .ref kk] := .inl (.inl ht)
      have hDD : D' = D := by
        have z := e4.keep t _ ntp htn (fun _ z => nomatch z)
        rw [ht] at z
        injection z with z
        injection z with z
        injection z with _ z
        injection z with z _
        exact V.ref.inj z
      subst hDD
      dsimp only [tSeq, tAsg, gName]
      refine lc_refS (K := K) (t := uVar 3) (a := D') (ls := List.range R.length) (enc := fun x => V.ref (rs.getD x 0)) (o := fun x => .lst (iv (gls R x))) (H := He) (H1 := He)
        (fun R' h => h) (by rw [range_refs lrs]; exact hrr) (by rw [List.length_range]; omega) (fun H' x hx e5 Qy hy => ?_) (fun D5 H5 qs nD5 e5 hD5 lq hq ndq => ?_)
      · have hx : x < R.length := List.mem_range.mp hx
        have hqx : rs[x]? = some (rs.getD x 0) := by
          rw [List.getD_eq_getElem?_getD, List.getElem?_eq_getElem (by omega : x < rs.length)]; rfl
        exact ⟨rfl, .inl ⟨iv (gls R x), .inl (.inl (.inl (e5 _ _ (hrs x _ hqx).2))), fun l nl => hy _ l (same_upd nl) nl upd_same⟩⟩
      rw [List.length_range] at lq
      have hqs : ∀ x q', qs[x]? = some q' → He q' = none ∧ q' ≠ D5 ∧ H5 q' = some (.lst (iv (gls R x))) := fun x q' h => by
        have hx : x < R.length := by
          have := (List.getElem?_eq_some_iff.mp h).1
          omega
        exact hq x q' x h (List.getElem?_range hx)
      obtain ⟨q1, hq1⟩ : ∃ q1, qs[i]? = some q1 := ⟨_, List.getElem?_eq_getElem (by omega)⟩
      obtain ⟨nq1, nqD, hq1v⟩ := hqs i q1 hq1
      have lg : j < (gls R i).length := by rw [gls_len okR hi]; exact hj
      refine ⟨_, _, .inl (.inl (.inl hD5)), atI_nat (by rw [List.getElem?_map, hq1]; rfl), ?_⟩
      refine ⟨q1, iv (gls R i), (j : Nat), j, rfl, rfl, hq1v, by rw [iv_len]; exact ixN_nat lg, ?_⟩
      rw [iv_set]
      have rl := rows_put (j := j) (g := g) hi hD5 lq hqs ndq hq1
      have e45 : Same He (upd H5 q1 (.lst (iv ((gls R i).set j g)))) := same_upd2 e5 nq1
      generalize upd H5 q1 (.lst (iv ((gls R i).set j g))) = H6 at rl e45
      have ok2 : RowsOk (setR R i j g) S.length := setR_ok okR hi hg
      have okS2 : ShOk S (setR R i j g) Kd := ⟨ok.let_, ok2, by rw [setR_len]; exact ok.lo, by rw [setR_len]; exact ok.hi, by rw [setR_len]; exact ok.kinds⟩
      have wi := whole_iff ok2 (by rw [setR_len]; omega)
      rw [setR_len] at wi
      have hjc : S[j]? = some S[j] := List.getElem?_eq_getElem hj
      have hc : S[j] ∈ S := List.getElem_mem hj
      have ej : S.idxOf S[j] = j := ndS.idxOf_getElem _ _
      generalize S[j] = c at hjc hc ej
      refine ⟨fun σ' H' => ∃ told : V, σ' = [some (.ref p), some (.str (T S)), some (.int (R.length : Nat)), some (.ref D'), some (.ref t), some (.ref a), some (.int (u : Nat)), some (.int (i : Nat)), some (.int (j : Nat)), some (.int (g : Nat)), some (.ref D5), some told, none, none] ∧ Same H6 H' ∧
        ((Whole (setR R i j g) ∧ ∃ m, told = .ref m ∧ Mach C H' m S (setR R i j g) Kd) ∨ (¬ Whole (setR R i j g) ∧ told = .non)), ?_, fun σ' H' z => ?_⟩
      · refine ⟨by show S.length ≤ sizeLine; omega, c, atI_nat hjc, ?_⟩
        refine ⟨a, i, c, g, S, R, Kd, rfl, ma4.ext e45, ok, hi, hc, hg, ?_, ?_⟩
        · rw [ej]
          exact fun w2 H' m e nm mach => ⟨_, rfl, e, .inl ⟨w2, m, rfl, mach.m⟩⟩
        · rw [ej]
          exact fun w2 H' e => ⟨_, rfl, e, .inr ⟨w2, rfl⟩⟩
      obtain ⟨told, rfl, e7, alt⟩ := z
      have e67 := e45.trans e7
      rcases alt with ⟨w2, m, rfl, mm⟩ | ⟨w2, rfl⟩
      · refine ⟨D5, S.length, setR R i j g, rfl, rl.ext e7, ok2, by omega, by rw [setR_len]; omega, by rw [setR_len]; omega, fun H8 pm e8 rn8 => ?_⟩
        have e68 := e67.trans e8
        obtain ⟨_, rs8, h81, l8, _, _⟩ := id rn8
        have len8 : (rs8.map V.ref).length = (met (setR R i j g) 0).length := by rw [List.length_map, l8, rn_len]
        refine .inl ⟨rs8.map V.ref, .inl (.inl (.inl h81)), ?_⟩
        rw [len8]
        have eb : decide (((met (setR R i j g) 0).length : Int) = ((R.length : Nat) : Int)) = true := decide_eq_true (by rw [wi.mpr w2])
        refine br_of (c := false) (by
          show (!decide ((!decide (V.ref m = V.non)) = decide (((met (setR R i j g) 0).length : Int) = ((R.length : Nat) : Int)))) = false
          rw [eb, show decide (V.ref m = V.non) = false from decide_eq_false (fun z => nomatch z)]; rfl) (.no ?_)
        refine ⟨fun b H' => b = false ∧ Same H8 H', br_of (c := true) (by
          show (!decide (V.ref m = V.non)) = true
          rw [show decide (V.ref m = V.non) = false from decide_eq_false (fun z => nomatch z)]; rfl) (.yes ?_), fun b H' z => ?_⟩
        · have hT8 : SqT K H8 t [.str (T S), .ref D', .ref kk] := .inl (.inl (e68 _ _ ht))
          refine ⟨_, _, .inr hT8, rfl, rfl, ?_⟩
          refine mach_newN okS2 w2 ((rl.ext e7).ext e8).at ⟨false, .inl (.inl (e68 _ _ hkk))⟩ fun H9 m2 e9 nm2 mach2 => mach_eq iM ((mm.ext e8).ext e9) mach2.m (by rw [setR_len]; omega) fun H10 e10 => ⟨rfl, e9.trans e10⟩
        obtain ⟨rfl, e9⟩ := z
        have ef := e68.trans e9
        exact .no ⟨e4.trans (.same ef), hpe.ex (TT := TT) (.same ef), _, _, _, _, _, _, rfl⟩
      · refine ⟨D5, S.length, setR R i j g, rfl, rl.ext e7, ok2, by omega, by rw [setR_len]; omega, by rw [setR_len]; omega, fun H8 pm e8 rn8 => ?_⟩
        have e68 := e67.trans e8
        obtain ⟨_, rs8, h81, l8, _, _⟩ := id rn8
        have len8 : (rs8.map V.ref).length = (met (setR R i j g) 0).length := by rw [List.length_map, l8, rn_len]
        refine .inl ⟨rs8.map V.ref, .inl (.inl (.inl h81)), ?_⟩
        rw [len8]
        have eb : decide (((met (setR R i j g) 0).length : Int) = ((R.length : Nat) : Int)) = false := decide_eq_false fun z => w2 (wi.mp (by omega))
        refine br_of (c := false) (by
          show (!decide ((!decide (V.non = V.non)) = decide (((met (setR R i j g) 0).length : Int) = ((R.length : Nat) : Int)))) = false
          rw [eb]; rfl) (.no ?_)
        refine ⟨fun b H' => b = false ∧ H' = H8, br_of (c := false) rfl (.no ⟨rfl, rfl⟩), fun b H' z => ?_⟩
        obtain ⟨rfl, rfl⟩ := z
        exact .no ⟨e4.trans (.same e68), hpe.ex (TT := TT) (.same e68), _, _, _, _, _, _, rfl⟩
    · obtain ⟨ec, hpc, y6, y7, y8, y9, y10, y11, rfl⟩ := z
      have moc := mon.ex ec
      have mac := ma.ex ec
      have eHc := eHn.trans ec
      dsimp only [tRet, tCB, tCons]
      refine lc_rng (n := 2) (H1 := Hc) (by exact fun _ h => h) (by omega) (fun B i acc H1 => acc = (List.replicate i true).map V.bl ∧ Ex TT (at1 p) Hc H1 ∧ Pot H1 p ∧ B ≠ p ∧ H1 B = some (.lst acc))
        (fun B nB => ⟨rfl, .new nB, hpc.put (hpc.ne nB), (hpc.ne nB).symm, upd_same⟩) (fun B nB i acc H1 hi r => ?_) (fun B nB acc H1 r => ?_)
      · obtain ⟨rfl, e1, hp1, nBp, hB⟩ := r
        have newB : New Hc B := fun b o hb _ e => by rw [e, nB] at hb; cases hb
        refine ⟨rfl, p, t, a, S, R, Kd, rfl, hp1, moc.ex e1, mac.ex e1, ok, wh, fun H2 e2 hp2 => ?_⟩
        have hB2 := e2.lst nBp hB
        refine ⟨_, hB2, by rw [List.length_map, List.length_replicate]; omega, _, ?_, (e1.trans e2).putN newB hB2 (fun _ z => nomatch z) (fun _ _ z => nomatch z), hp2.put nBp.symm, nBp, upd_same⟩
        rw [List.replicate_succ', List.map_append]; rfl
      · obtain ⟨rfl, e1, hp1, nBp, hB⟩ := r
        refine ⟨_, .inl (.inl hB), ?_⟩
        exact q _ (eHc.trans e1) hp1
end
end LK

/-! k74: _law_right, law -/
namespace LK
open PySem PySem.Spec PyProof.Rows L2 LamX ClX
open scoped List
theorem shn_str {l : List Nat} {m : Nat} (h : ∀ c ∈ l, c < 128) (hl : l.length ≤ m) : Shn 0 m (.str (T l)) := by
  refine ⟨rfl, rfl, Nat.le_refl _, ?_, hl⟩
  show (l.all fun c => decide (c < 16 ^ 8)) = true
  rw [List.all_eq_true]
  intro c hc
  have := h c hc
  have : (128 : Nat) < 16 ^ 8 := by decide
  exact decide_eq_true (by omega)

abbrev encM (S : List Nat) (R : Rows) (Kd : List Bool) : PyData := .tuple [.str (T S), encRs R, encB Kd]
theorem shw_mod {S : List Nat} {R : Rows} {Kd : List Bool} (ok : ShOk S R Kd) : Shw (encM S R Kd) := by
  have h1 : Shn 0 3 (.str (T S)) := shn_str (fun c hc => ok.let_.sm.asc c hc) ok.let_.hi
  have h2 := shn_rows ok
  have h3 := shn_kinds ok
  have d1 := h1.dp
  have d2 := h2.dp
  have d3 := h3.dp
  have w1 := h1.wt
  have w2 := h2.wt
  have w3 := h3.wt
  refine ⟨?_, fun z => ?_, ?_, ?_, ?_⟩
  · rw [PyData.showable, PyData.showableAll, PyData.showableAll, PyData.showableAll, PyData.showableAll, h1.sh, h2.sh, h3.sh]; rfl
  · rw [PyData.hasDict, PyData.hasDictAll, PyData.hasDictAll, PyData.hasDictAll, PyData.hasDictAll, h1.nd, h2.nd, h3.nd] at z; cases z
  · rw [PyData.depth, PyData.depthAll, PyData.depthAll, PyData.depthAll, PyData.depthAll]; omega
  · rw [PyData.leavesShort, PyData.leavesShortAll, PyData.leavesShortAll, PyData.leavesShortAll, PyData.leavesShortAll, h1.lf, h2.lf, h3.lf]; rfl
  · rw [PyData.weight, PyData.weightAll, PyData.weightAll, PyData.weightAll, PyData.weightAll]
    have : (2 : Nat) ^ 20 = 1048576 := by decide
    omega
theorem dp_mod {K : PySem.W.Frag} {H : Hp} {t : Addr} {S : List Nat} {R : Rows} {Kd : List Bool} (h : ModAt H t S R Kd) : Dp K H (.ref t) (encM S R Kd) := by
  obtain ⟨r, k, h1, h2, h3⟩ := h
  exact .tup (.inl (.inl h1)) (.cons (.str _) (.cons (dp_rows h2) (.cons (dp_kinds h3) .nil)))
section
variable {P : Program} {w : World} {K : PySem.W.Frag} {mg : Str → Option Value} {base : Heap} {C : Addr} (TT : List (Addr × Str))
abbrev nRi : List Str := ["_law_pot_here", "_law_turn", "_law_model_here", "_law_net", "_law_shown", "_law_again"]
theorem scRight : FnScope nRi ["_law_pot_here"] (defScope sRight) := ⟨rfl, rfl, rfl, by decide +kernel, rfl, by decide +kernel, by decide +kernel⟩
def spRight : Sp := fun vs H Q _ => ∃ (p : Addr), vs = [.ref p] ∧ Pot H p ∧ ∀ H', Ex TT (at1 p) H H' → Q (.bl true) H'
theorem ok_right {f : Addr} {fd : FuncData} {k : Nat} (F : Fun K "_law_right" "_law_right" sRight f fd) (M : Mx mg) (iM : IsM K C) (eC : EqC K C) (HQ : HasM P w K mg base k C "__eq__" ["other"] (spEq K C))
    (HSg : Has P w K mg base (k + 1) "_law_signs" ["_law_pot_here"] (spSigns TT)) (HMo : Has P w K mg base (k + 1) "_law_model" ["_law_pot_here", "_law_signs_here", "_law_most"] (spModel TT)) (HMa : Has P w K mg base (k + 1) "_law_machine" ["_law_model_here"] (spLMachine C))
    (HSt : Has P w K mg base (k + 2) "_law_steps_right" ["_law_model_here", "_law_net"] (spSteps C)) (HS : Has P w K mg base (k + 3) "_law_spots_right" ["_law_pot_here", "_law_model_here", "_law_net"] (spSpots TT C))
    (HG : Has P w K mg base (k + 4) "_law_great_right" ["_law_pot_here"] (spGreat TT)) : FnG P w K mg base CX0 (k + 5) f fd ["_law_pot_here"] (spRight TT) := by
  refine okG F scRight (fun vs H Q E h => ?_) (fun cdv A hA outer s H vs Q E hr h => ?_)
  · obtain ⟨p, rfl, _⟩ := h; rfl
  · obtain ⟨p, rfl, hp, q⟩ := h
    have nd := scRight.nd
    have sl := sizeLine_eq
    have hu := Room.u64 hr
    have hr1 : Room (k + 1) _ := hr.mono (by omega)
    have hr2 : Room (k + 2) _ := hr.mono (by omega)
    have hr3 : Room (k + 3) _ := hr.mono (by omega)
    refine ⟨_, (pss_cons (ps_ifU (pt_not (pt_u (pe_callH HG hA hr (by rfl) (pa_cons (uv 0) pa_nil)))) (pss_one (ps_ret pe_bl)) pss_nil)
      (pss_cons (ps_for PassesOwn.never rfl (pi_range1 (by rfl) M.range (pa_cons pe_int pa_nil)) (pg_name (i := 1) nd rfl (.inl rfl)) (pss_cons (ps_set (i := 2) nd rfl (.inr rfl) (pe_callH HMo hA hr1 (by rfl) (pa_cons (uv 0) (pa_cons (pe_callH HSg hA hr1 (by rfl) (pa_cons (uv 0) pa_nil)) (pa_cons pe_int pa_nil)))))
      (pss_cons (ps_asg (pe_tup (pa_cons (pe_callH HMa hA hr1 (by rfl) (pa_cons (uv 2) pa_nil)) (pa_cons (pe_callB (c_repr hA hu) (by rfl) M.repr b_repr (pa_cons (uv 2) pa_nil)) pa_nil))) (pg_tup rfl (pgs_cons (pg_name (i := 3) nd rfl (.inr rfl)) (pgs_cons (pg_name (i := 4) nd rfl (.inl rfl)) pgs_nil))) rfl)
      (pss_cons (ps_ifU (pt_cl (PW.pt (pw_orU (pt_not (pt_u (pe_callH HSt hA hr2 (by rfl) (pa_cons (uv 2) (pa_cons (uv 3) pa_nil))))) (pw_or1 (pt_not (pt_u (pe_callB (c_all rfl) (by rfl) M.all b_all (pa_cons (pe_lc (own := [("_law_again", 5)]) (g := gName 5) (tt := tYes) rfl nd (pi_range1 (by rfl) M.range (pa_cons pe_int pa_nil)) (blkOk_by (N := nRi) (sc := defScope sRight) (by decide +kernel))
        (fun _ _ _ _ _ => pg_name (i := 5) nd rfl (Or.inl rfl)) (fun _ _ _ _ _ => pts_nil) (fun _ _ _ _ _ => (pe_callH HS hA hr3 (by rfl) (pa_cons (uv 0) (pa_cons (uv 2) (pa_cons (uv 3) pa_nil)))))) pa_nil)))))))) (pss_one (ps_ret pe_bl)) pss_nil)
      (pss_one (ps_ifU (pt_cl (PW.pt (pw_orU (pt_cu (r := eqI K C (spEq K C) true) (o_neI HQ eC hA hr1) (uv 3) (pe_callH HMa hA hr1 (by rfl) (pa_cons (uv 2) pa_nil))) (pw_or1 (pt_cu (r := eqU K true) (o_ne hu) (pe_callB (c_repr hA hu) (by rfl) M.repr b_repr (pa_cons (uv 2) pa_nil)) (uv 4)))))) (pss_one (ps_ret pe_bl)) pss_nil))))))
      (pss_one (ps_ret pe_bl)))), ?_⟩
    refine ⟨p, rfl, hp, fun H1 e1 hp1 => .no ?_⟩
    dsimp only [tNext, tSeq]
    refine for_rng (n := 2) (H1 := H1) (by exact fun _ h => h) (by omega) (fun i σ Hc => Ex TT (at1 p) H Hc ∧ Pot Hc p ∧ ∃ y1 y2 y3 y4, σ = [some (.ref p), y1, y2, y3, y4, none]) ⟨e1, hp1, none, none, none, none, rfl⟩ (fun i σ Hc hi z => ?_) (fun σ Hc z => ?_)
    case refine_2 =>
      obtain ⟨ec, hpc, _, _, _, _, rfl⟩ := z
      exact q Hc ec
    obtain ⟨ec, hpc, y1, y2, y3, y4, rfl⟩ := z
    refine ⟨p, rfl, hpc, fun H2 S e2 hp2 lt => ?_⟩
    refine ⟨p, S, 6, rfl, lt, hp2, by omega, by omega, fun H3 t R Kd e3 hp3 mp ok wh l6 => ?_⟩
    have mo := mp.x
    refine ⟨t, S, R, Kd, rfl, mo.m, ok, wh, fun H4 a e4 na mach => ?_⟩
    have mo4 := mo.ex (TT := TT) (.same e4)
    have ma4 : MachX (at1 p) C H4 a S R Kd := mach.x na fun b z => by rw [show b = p from z]; exact hp3.some
    refine ⟨encM S R Kd, dp_mod mo4.m, shw_mod ok, ?_⟩
    refine ⟨by show 2 ≤ sizeLine; omega, fun U nU => ?_⟩
    refine ⟨U, _, rfl, .inl (.inl upd_same), rfl, _, _, rfl, _, _, rfl, rfl, ?_⟩
    have eU := (Ex.new (TT := TT) (S := at1 p) (o := .tup [V.ref a, .str (encM S R Kd).shown]) nU)
    have mo5 := mo4.ex eU
    have ma5 := ma4.ex eU
    have hp5 : Pot (upd H4 U (.tup [V.ref a, .str (encM S R Kd).shown])) p := (hp3.ex (TT := TT) (.same e4)).put ((hp3.ex (TT := TT) (.same e4)).ne nU)
    have e5 : Ex TT (at1 p) H (upd H4 U (.tup [V.ref a, .str (encM S R Kd).shown])) := (((ec.trans e2).trans e3).trans (.same e4)).trans eU
    generalize upd H4 U (.tup [V.ref a, .str (encM S R Kd).shown]) = H5 at mo5 ma5 hp5 e5
    refine ⟨fun b H' => b = false ∧ Ex TT (at1 p) H5 H' ∧ Pot H' p, ?_, fun b H' z => ?_⟩
    · refine ⟨t, a, S, R, Kd, rfl, mo5.m, ma5.m, ok, wh, fun H6 e6 => .no ?_⟩
      have x6 : Ex TT (at1 p) H5 H6 := .same e6
      have mo6 := mo5.ex x6
      have ma6 := ma5.ex x6
      have hp6 := hp5.ex (TT := TT) (.same e6)
      dsimp only [uOr, uT, tNot, tCB, tCons]
      refine lc_rng (n := 3) (H1 := H6) (by exact fun _ h => h) (by omega) (fun B i acc H1 => acc = (List.replicate i true).map V.bl ∧ Ex TT (at1 p) H6 H1 ∧ Pot H1 p ∧ B ≠ p ∧ H1 B = some (.lst acc))
        (fun B nB => ⟨rfl, .new nB, hp6.put (hp6.ne nB), (hp6.ne nB).symm, upd_same⟩) (fun B nB i acc H1 hi r => ?_) (fun B nB acc H1 r => ?_)
      · obtain ⟨rfl, e1, hp1, nBp, hB⟩ := r
        have newB : New H6 B := fun b o hb _ e => by rw [e, nB] at hb; cases hb
        refine ⟨rfl, p, t, a, S, R, Kd, rfl, hp1, mo6.ex e1, ma6.ex e1, ok, wh, fun H2 e2 hp2 => ?_⟩
        have hB2 := e2.lst nBp hB
        refine ⟨_, hB2, by rw [List.length_map, List.length_replicate]; omega, _, ?_, (e1.trans e2).putN newB hB2 (fun _ z => nomatch z) (fun _ _ z => nomatch z), hp2.put nBp.symm, nBp, upd_same⟩
        rw [List.replicate_succ', List.map_append]; rfl
      · obtain ⟨rfl, e1, hp1, nBp, hB⟩ := r
        refine ⟨_, .inl (.inl hB), ?_⟩
        exact ⟨rfl, x6.trans e1, hp1⟩
    obtain ⟨rfl, e6, hp6⟩ := z
    refine .no ?_
    have mo6 := mo5.ex e6
    have ma6 := ma5.ex e6
    refine ⟨fun b Hn => b = false ∧ Same H' Hn, ?_, fun b Hn z => ?_⟩
    · refine ⟨t, S, R, Kd, rfl, mo6.m, ok, wh, fun H7 a2 e7 na2 mach2 => ?_⟩
      refine mach_eq iM (ma6.same e7).m mach2.m (by have := ok.hi; omega) fun H8 e8 => .no ?_
      refine ⟨encM S R Kd, dp_mod (mo6.ex (TT := TT) (.same (e7.trans e8))).m, shw_mod ok, ?_⟩
      refine ⟨?_, e7.trans e8⟩
      show (!decide _) = false
      rw [decide_eq_true rfl]; rfl
    obtain ⟨rfl, en⟩ := z
    exact .no ⟨(e5.trans e6).trans (.same en), hp6.ex (TT := TT) (.same en), _, _, _, _, rfl⟩
end
theorem sq_new {K : PySem.W.Frag} {TT : List (Addr × Str)} {H H1 H2 : Hp} {a p : Addr} {xs : List V} (h : SqL K H a xs) (n : H p = none) (s : Same H H1) (e : Ex TT (at1 p) H1 H2) : SqL K H2 a xs := by
  rcases h with (h | ⟨o, h⟩) | h
  · exact .inl (.inl (e.keep a _ (ne_of_none h n) (s _ _ h) fun ps z => nomatch z))
  · exact .inl (.inr ⟨o, e.keep a _ (ne_of_none h n) (s _ _ h) fun ps z => nomatch z⟩)
  · exact .inr h

section
variable {P : Program} {w : World} {K : PySem.W.Frag} {mg : Str → Option Value} {base : Heap}
theorem scLaw : FnScope ["_law_script", "_law_k"] ["_law_script"] (defScope sLaw) := ⟨rfl, rfl, rfl, by decide +kernel, rfl, by decide +kernel, by decide +kernel⟩
def spLaw (K : PySem.W.Frag) : Sp := fun vs H Q _ => ∃ (a : Addr) (ns : List Int), vs = [.ref a] ∧ SqL K H a (ns.map V.int) ∧ ns.length ≤ 63 ∧ ∀ H', Q (.bl true) H'
theorem ok_law {f : Addr} {fd : FuncData} {k : Nat} (F : Fun K "law" "law" sLaw f fd) (M : Mx mg)
    (HR : Has P w K mg base k "_law_right" ["_law_pot_here"] (spRight [])) (HPo : Has P w K mg base k "_law_pot" ["_law_script", "_law_k"] (spPot K)) :
    FnG P w K mg base CX0 (k + 1) f fd ["_law_script"] (spLaw K) := by
  refine okG F scLaw (fun vs H Q E h => ?_) (fun cdv A hA outer s H vs Q E hr h => ?_)
  · obtain ⟨a, ns, rfl, _⟩ := h; rfl
  · obtain ⟨a, ns, rfl, hs, hn, q⟩ := h
    have nd := scLaw.nd
    refine ⟨_, pss_one (ps_ret (pe_callB (c_all rfl) (by rfl) M.all b_all (pa_cons (pe_lc (own := [("_law_k", 1)]) (g := gName 1) (tt := tYes) rfl nd
      (pi_range1 (by rfl) M.range (pa_cons (pe_callB (c_max2 rfl) (by rfl) M.max b_max (pa_cons pe_int (pa_cons (pe_callB (c_min2 rfl) (by rfl) M.min b_min (pa_cons (pe_callB c_len (by rfl) M.len b_len (pa_cons (uv 0) pa_nil)) (pa_cons pe_int pa_nil))) pa_nil))) pa_nil))
      (blkOk_by (N := ["_law_script", "_law_k"]) (sc := defScope sLaw) (by decide +kernel)) (fun _ _ _ _ _ => pg_name (i := 1) nd rfl (Or.inl rfl)) (fun _ _ _ _ _ => pts_nil)
      (fun _ _ _ _ _ => pe_callH HR hA hr (by rfl) (pa_cons (pe_callH HPo hA hr (by rfl) (pa_cons (uv 0) (pa_cons (uv 1) pa_nil))) pa_nil))) pa_nil))), ?_⟩
    have hz := sizeLine_eq
    have ec : max (1 : Int) (min (((ns.map V.int).length : Nat) : Int) 3) = ((max 1 (min ns.length 3) : Nat) : Int) := by rw [List.length_map]; omega
    dsimp only [tRet, tCB, tCons]
    refine lc_rng (n := max 1 (min ns.length 3)) (H1 := H) (by
        intro R h
        refine .inl ⟨_, .inl hs, ?_⟩
        show R [V.int (max (1 : Int) (min (((ns.map V.int).length : Nat) : Int) 3))] H
        rw [ec]; exact h) (by omega) (fun D i acc H1 => H1 D = some (.lst acc) ∧ acc = (List.replicate i true).map V.bl ∧ SqL K H1 a (ns.map V.int))
      (fun D nD => ⟨upd_same, rfl, (Ex.new (TT := []) (S := no) nD).sq (fun z => z) hs⟩) (fun D nD i acc H1 hi r => ?_) (fun D nD acc H1 r => ?_)
    · obtain ⟨r1, rfl, r3⟩ := r
      refine ⟨rfl, a, ns, i, rfl, r3, by omega, fun H2 p e2 np pot2 => ?_⟩
      refine ⟨p, rfl, pot2, fun H3 e3 => ?_⟩
      have hD3 : H3 D = some _ := e3.keep D _ (ne_of_none r1 np) (e2 _ _ r1) (fun _ z => nomatch z)
      have hs3 : SqL K H3 a (ns.map V.int) := sq_new r3 np e2 e3
      refine ⟨_, hD3, by rw [List.length_map, List.length_replicate]; omega, _, upd_same, ?_, ?_⟩
      · rw [List.replicate_succ', List.map_append]; rfl
      · by_cases ha : a = D
        · subst ha
          rcases hs with (h | ⟨o, h⟩) | h
          · rw [nD] at h; cases h
          · rw [nD] at h; cases h
          · exact .inr h
        · rcases hs3 with (h | ⟨o, h⟩) | h
          · exact .inl (.inl (by rw [upd_ne ha]; exact h))
          · exact .inl (.inr ⟨o, by rw [upd_ne ha]; exact h⟩)
          · exact .inr h
    · obtain ⟨r1, rfl, r3⟩ := r
      refine ⟨_, .inl (.inl r1), ?_⟩
      have : (List.replicate (max 1 (min ns.length 3)) true).all id = true := by simp
      show Q (.bl ((List.replicate (max 1 (min ns.length 3)) true).all id)) _
      rw [this]
      exact q _
end
end LK

/-! the facts of an error's class, by looks that the kernel runs -/
namespace LK
open PySem PySem.Spec PyProof.Rows L2 LamX
open PySem.W (Frag excInitIn excOver findIn subIn hasDictIn specialIn takesIn mroIn keepIn typeIn takerIn kitOne exmOne excIn)
def excCB (K : Frag) (D : Addr) : Bool :=
  decide (findIn K (.ref D) "__getattribute__" = some (some (.builtin "BaseException.__getattribute__"))) && (decide (findIn K (.ref D) "__getattr__" = some none) && (decide (subIn K (.ref D) (.type "BaseException") = some true) && (hasDictIn K D &&
    (decide (findIn K (.ref D) "__class__" = some (some (.builtin "object.__class__"))) && (decide (specialIn K (.builtin "object.__class__") "__get__" = some (some (.builtin "getset_descriptor.__get__"))) &&
      (decide (takesIn K (.builtin "object.__class__") = some true) && decide (mroIn K D (.type "object") = some true)))))))
theorem excCB_ok {K : Frag} {D : Addr} (h : excCB K D = true) : ExcC K D := by
  obtain ⟨h1, h⟩ := Bool.and_eq_true_iff.mp h
  obtain ⟨h2, h⟩ := Bool.and_eq_true_iff.mp h
  obtain ⟨h3, h⟩ := Bool.and_eq_true_iff.mp h
  obtain ⟨h4, h⟩ := Bool.and_eq_true_iff.mp h
  obtain ⟨h5, h⟩ := Bool.and_eq_true_iff.mp h
  obtain ⟨h6, h⟩ := Bool.and_eq_true_iff.mp h
  obtain ⟨h7, h8⟩ := Bool.and_eq_true_iff.mp h
  exact ⟨of_decide_eq_true h1, of_decide_eq_true h2, of_decide_eq_true h3, h4, of_decide_eq_true h5, of_decide_eq_true h6, of_decide_eq_true h7, of_decide_eq_true h8⟩
def clsB (K : Frag) (C : Addr) (bmB : List Value) (newId : String) : Bool :=
  excInitIn K C bmB newId && (excOver K C bmB && (decide (findIn K (.ref C) "__setattr__" = some (some (.builtin "object.__setattr__"))) && (excCB K C && (keepIn K (.ref C) && decide (typeIn K (.ref C) = some (.type "type"))))))
theorem clsB_ok {K : Frag} {C : Addr} {bmB : List Value} {newId : String} (h : clsB K C bmB newId = true) : ExcK K C bmB newId ∧ typeIn K (.ref C) = some (.type "type") := by
  obtain ⟨h1, h⟩ := Bool.and_eq_true_iff.mp h
  obtain ⟨h2, h⟩ := Bool.and_eq_true_iff.mp h
  obtain ⟨h3, h⟩ := Bool.and_eq_true_iff.mp h
  obtain ⟨h4, h⟩ := Bool.and_eq_true_iff.mp h
  obtain ⟨h5, h6⟩ := Bool.and_eq_true_iff.mp h
  exact ⟨⟨h1, h2, of_decide_eq_true h3, excCB_ok h4, h5⟩, of_decide_eq_true h6⟩
def fldB (K : Frag) (C : Addr) (f : Str) : Bool := decide (takerIn K C f = some none) && decide (findIn K (.ref C) f = some none)
theorem fldB_ok {K : Frag} {C : Addr} {f : Str} (h : fldB K C f = true) : takerIn K C f = some none ∧ findIn K (.ref C) f = some none := by
  obtain ⟨h1, h2⟩ := Bool.and_eq_true_iff.mp h
  exact ⟨of_decide_eq_true h1, of_decide_eq_true h2⟩
section
variable {P : Program} {w : World} {K : Frag} {mg : Str → Option Value} {base : Heap} {B newId initId : String} {bmB : List Value} {q x : Str} {st : Stmt} {C fI : Addr} {fd : FuncData} {k : Nat}
theorem hasC1 {fn : Str} {p1 p2 p3 p4 : Pos} (FB : ExcBaseFacts B newId initId bmB) (SF : StoreFacts B bmB "object.__setattr__" "object") (c : clsB K C bmB newId = true) (f1 : fldB K C fn = true) (g : mg x = some (.ref C))
    (iC : findIn K (.ref C) "__init__" = some (some (.ref fI))) (tI : typeIn K (.ref fI) = some (.type "function")) (F : Fun K "__init__" q st fI fd) (S : FnScope ["self", fn] ["self", fn] (defScope st))
    (body : defBody st = [.Assign [.Attribute (.Name "self" p1) fn p2] (.Name fn p3) p4]) (v0 : Vis (defScope st) "self") (v1 : Vis (defScope st) fn) (d1 : (fn == ("__debug__" : Str)) = false) (c1 : (fn == ("__classdict__" : Str)) = false)
    (sw : ∀ env : Env, env.scope = defScope st → swapsWith (.Name fn p3) (some (.Attribute (.Name "self" p1) fn p2)) p4.line env = pure false) (hb : Binds K fd ["self", fn] [])
    (hk : ∀ (s : Shared) (z : Value) (ws : List Value), ws.length = [fn].length → BindsTo s fd ⟨[z], [fn].zip ws⟩ ((("self" : Str) :: [fn]).zip (z :: ws)) ∧ BindsTo s fd ⟨[z], ([fn].zip ws).reverse⟩ ((("self" : Str) :: [fn]).zip (z :: ws))) :
    HasC P w K mg base (k + 1) x C [fn] := by
  obtain ⟨T, ty⟩ := clsB_ok c
  exact ⟨⟨B, newId, initId, bmB, fI, fd, FB, T, ty, iC, tI, ok_init1 SF F S body v0 v1 d1 c1 sw T (fldB_ok f1).1, hb, hk⟩, g⟩
end
abbrev bmR : List Value := [.type "RuntimeError", .type "Exception", .type "BaseException", .type "object"]
end LK

namespace LK
open PySem PySem.Spec PyProof.Rows L2 LamX ClX
theorem scLetters : FnScope ["self"] ["self"] (defScope sLetters) := ⟨rfl, rfl, rfl, by decide +kernel, rfl, by decide +kernel, by decide +kernel⟩
abbrev stNC : Stmt := inCls (topM 21) 0
theorem scNC : FnScope ["self", "place"] ["self", "place"] (defScope stNC) := ⟨rfl, rfl, rfl, by decide +kernel, rfl, by decide +kernel, by decide +kernel⟩
/-! ### what the top has written -/
theorem all_mk {l : PySem.W.OpenLaw} {w : World} {K : PySem.W.Frag} {h : Heap} {mg : Str → Option Value} {fa : Addr} (X : K.In h) (G : h.Ns mainGlobals mg) (hfa : mg "law" = some (.ref fa))
    {fIsInt : Addr} {ocIsInt kVIsInt dcIsInt pmIsInt cdIsInt ctIsInt : Value} {odIsInt anIsInt : Option Addr} {slIsInt : Array (Option Value)}
    {fIsText : Addr} {ocIsText kVIsText dcIsText pmIsText cdIsText ctIsText : Value} {odIsText anIsText : Option Addr} {slIsText : Array (Option Value)}
    {fIsOver : Addr} {ocIsOver kVIsOver dcIsOver pmIsOver cdIsOver ctIsOver : Value} {odIsOver anIsOver : Option Addr} {slIsOver : Array (Option Value)}
    {fAreLet : Addr} {ocAreLet kVAreLet dcAreLet pmAreLet cdAreLet ctAreLet : Value} {odAreLet anAreLet : Option Addr} {slAreLet : Array (Option Value)}
    {fNeedText : Addr} {ocNeedText kVNeedText dcNeedText pmNeedText cdNeedText ctNeedText : Value} {odNeedText anNeedText : Option Addr} {slNeedText : Array (Option Value)}
    {fNeedParts : Addr} {ocNeedParts kVNeedParts dcNeedParts pmNeedParts cdNeedParts ctNeedParts : Value} {odNeedParts anNeedParts : Option Addr} {slNeedParts : Array (Option Value)}
    {fIsRow : Addr} {ocIsRow kVIsRow dcIsRow pmIsRow cdIsRow ctIsRow : Value} {odIsRow anIsRow : Option Addr} {slIsRow : Array (Option Value)}
    {fIsPlace : Addr} {ocIsPlace kVIsPlace dcIsPlace pmIsPlace cdIsPlace ctIsPlace : Value} {odIsPlace anIsPlace : Option Addr} {slIsPlace : Array (Option Value)}
    {fMetFrom : Addr} {ocMetFrom kVMetFrom dcMetFrom pmMetFrom cdMetFrom ctMetFrom : Value} {odMetFrom anMetFrom : Option Addr} {slMetFrom : Array (Option Value)}
    {fUnlike : Addr} {ocUnlike kVUnlike dcUnlike pmUnlike cdUnlike ctUnlike : Value} {odUnlike anUnlike : Option Addr} {slUnlike : Array (Option Value)}
    {fTurned : Addr} {ocTurned kVTurned dcTurned pmTurned cdTurned ctTurned : Value} {odTurned anTurned : Option Addr} {slTurned : Array (Option Value)}
    {fRedir : Addr} {ocRedir kVRedir dcRedir pmRedir cdRedir ctRedir : Value} {odRedir anRedir : Option Addr} {slRedir : Array (Option Value)}
    {fPot : Addr} {ocPot kVPot dcPot pmPot cdPot ctPot : Value} {odPot anPot : Option Addr} {slPot : Array (Option Value)}
    {fDraw : Addr} {ocDraw kVDraw dcDraw pmDraw cdDraw ctDraw : Value} {odDraw anDraw : Option Addr} {slDraw : Array (Option Value)}
    {fPick : Addr} {ocPick kVPick dcPick pmPick cdPick ctPick : Value} {odPick anPick : Option Addr} {slPick : Array (Option Value)}
    {fLMet : Addr} {ocLMet kVLMet dcLMet pmLMet cdLMet ctLMet : Value} {odLMet anLMet : Option Addr} {slLMet : Array (Option Value)}
    {fLTurned : Addr} {ocLTurned kVLTurned dcLTurned pmLTurned cdLTurned ctLTurned : Value} {odLTurned anLTurned : Option Addr} {slLTurned : Array (Option Value)}
    {fLRows : Addr} {ocLRows kVLRows dcLRows pmLRows cdLRows ctLRows : Value} {odLRows anLRows : Option Addr} {slLRows : Array (Option Value)}
    {fModel : Addr} {ocModel kVModel dcModel pmModel cdModel ctModel : Value} {odModel anModel : Option Addr} {slModel : Array (Option Value)}
    {fLMachine : Addr} {ocLMachine kVLMachine dcLMachine pmLMachine cdLMachine ctLMachine : Value} {odLMachine anLMachine : Option Addr} {slLMachine : Array (Option Value)}
    {fSigns : Addr} {ocSigns kVSigns dcSigns pmSigns cdSigns ctSigns : Value} {odSigns anSigns : Option Addr} {slSigns : Array (Option Value)}
    {fLTakes : Addr} {ocLTakes kVLTakes dcLTakes pmLTakes cdLTakes ctLTakes : Value} {odLTakes anLTakes : Option Addr} {slLTakes : Array (Option Value)}
    {fWords : Addr} {ocWords kVWords dcWords pmWords cdWords ctWords : Value} {odWords anWords : Option Addr} {slWords : Array (Option Value)}
    {fMixed : Addr} {ocMixed kVMixed dcMixed pmMixed cdMixed ctMixed : Value} {odMixed anMixed : Option Addr} {slMixed : Array (Option Value)}
    {fTModel : Addr} {ocTModel kVTModel dcTModel pmTModel cdTModel ctTModel : Value} {odTModel anTModel : Option Addr} {slTModel : Array (Option Value)}
    {fSpots : Addr} {ocSpots kVSpots dcSpots pmSpots cdSpots ctSpots : Value} {odSpots anSpots : Option Addr} {slSpots : Array (Option Value)}
    {fLLed : Addr} {ocLLed kVLLed dcLLed pmLLed cdLLed ctLLed : Value} {odLLed anLLed : Option Addr} {slLLed : Array (Option Value)}
    {fLedRight : Addr} {ocLedRight kVLedRight dcLedRight pmLedRight cdLedRight ctLedRight : Value} {odLedRight anLedRight : Option Addr} {slLedRight : Array (Option Value)}
    {fSteps : Addr} {ocSteps kVSteps dcSteps pmSteps cdSteps ctSteps : Value} {odSteps anSteps : Option Addr} {slSteps : Array (Option Value)}
    {fGreat : Addr} {ocGreat kVGreat dcGreat pmGreat cdGreat ctGreat : Value} {odGreat anGreat : Option Addr} {slGreat : Array (Option Value)}
    {fRight : Addr} {ocRight kVRight dcRight pmRight cdRight ctRight : Value} {odRight anRight : Option Addr} {slRight : Array (Option Value)}
    {fLaw : Addr} {ocLaw kVLaw dcLaw pmLaw cdLaw ctLaw : Value} {odLaw anLaw : Option Addr} {slLaw : Array (Option Value)}
    {mNeedPlace : Addr} {ocmNeedPlace kVmNeedPlace dcmNeedPlace pmmNeedPlace cdmNeedPlace ctmNeedPlace : Value} {odmNeedPlace anmNeedPlace : Option Addr} {slmNeedPlace : Array (Option Value)}
    {mRows : Addr} {ocmRows kVmRows dcmRows pmmRows cdmRows ctmRows : Value} {odmRows anmRows : Option Addr} {slmRows : Array (Option Value)}
    {mKinds : Addr} {ocmKinds kVmKinds dcmKinds pmmKinds cdmKinds ctmKinds : Value} {odmKinds anmKinds : Option Addr} {slmKinds : Array (Option Value)}
    {mGoal : Addr} {ocmGoal kVmGoal dcmGoal pmmGoal cdmGoal ctmGoal : Value} {odmGoal anmGoal : Option Addr} {slmGoal : Array (Option Value)}
    {mTakes : Addr} {ocmTakes kVmTakes dcmTakes pmmTakes cdmTakes ctmTakes : Value} {odmTakes anmTakes : Option Addr} {slmTakes : Array (Option Value)}
    {mLen : Addr} {ocmLen kVmLen dcmLen pmmLen cdmLen ctmLen : Value} {odmLen anmLen : Option Addr} {slmLen : Array (Option Value)}
    {mEq : Addr} {ocmEq kVmEq dcmEq pmmEq cdmEq ctmEq : Value} {odmEq anmEq : Option Addr} {slmEq : Array (Option Value)}
    {mRepr : Addr} {ocmRepr kVmRepr dcmRepr pmmRepr cdmRepr ctmRepr : Value} {odmRepr anmRepr : Option Addr} {slmRepr : Array (Option Value)}
    {mInvert : Addr} {ocmInvert kVmInvert dcmInvert pmmInvert cdmInvert ctmInvert : Value} {odmInvert anmInvert : Option Addr} {slmInvert : Array (Option Value)}
    {mLed : Addr} {ocmLed kVmLed dcmLed pmmLed cdmLed ctmLed : Value} {odmLed anmLed : Option Addr} {slmLed : Array (Option Value)}
    {mInit : Addr} {ocmInit kVmInit dcmInit pmmInit cdmInit ctmInit : Value} {odmInit anmInit : Option Addr} {slmInit : Array (Option Value)}
    {mLetters : Addr} {ocmLetters kVmLetters dcmLetters pmmLetters cdmLetters ctmLetters : Value} {odmLetters anmLetters : Option Addr} {slmLetters : Array (Option Value)}
    {mNC : Addr} {ocmNC kVmNC dcmNC pmmNC cdmNC ctmNC : Value} {odmNC anmNC : Option Addr} {slmNC : Array (Option Value)}
    {C pL cN : Addr} {restL : List Value} {tS tM tC2 : Tok}
    (aIsInt : PySem.W.nsIn K mainGlobals "is_integer" = some (some (.ref fIsInt)))
    (lIsInt : K.lookup fIsInt = some ⟨ocIsInt, odIsInt, .func (PySem.W.fnOf "is_integer" "is_integer" (defArgs sIsInt) (defBody sIsInt) (defScope sIsInt) .none kVIsInt dcIsInt pmIsInt anIsInt cdIsInt ctIsInt), slIsInt⟩)
    (cIsInt : PySem.W.codeIn K cdIsInt "is_integer" = true)
    (kIsInt : PySem.W.keepIn K (.ref fIsInt) = true)
    (aIsText : PySem.W.nsIn K mainGlobals "is_text" = some (some (.ref fIsText)))
    (lIsText : K.lookup fIsText = some ⟨ocIsText, odIsText, .func (PySem.W.fnOf "is_text" "is_text" (defArgs sIsText) (defBody sIsText) (defScope sIsText) .none kVIsText dcIsText pmIsText anIsText cdIsText ctIsText), slIsText⟩)
    (cIsText : PySem.W.codeIn K cdIsText "is_text" = true)
    (kIsText : PySem.W.keepIn K (.ref fIsText) = true)
    (aIsOver : PySem.W.nsIn K mainGlobals "is_over" = some (some (.ref fIsOver)))
    (lIsOver : K.lookup fIsOver = some ⟨ocIsOver, odIsOver, .func (PySem.W.fnOf "is_over" "is_over" (defArgs sIsOver) (defBody sIsOver) (defScope sIsOver) .none kVIsOver dcIsOver pmIsOver anIsOver cdIsOver ctIsOver), slIsOver⟩)
    (cIsOver : PySem.W.codeIn K cdIsOver "is_over" = true)
    (kIsOver : PySem.W.keepIn K (.ref fIsOver) = true)
    (aAreLet : PySem.W.nsIn K mainGlobals "are_letters" = some (some (.ref fAreLet)))
    (lAreLet : K.lookup fAreLet = some ⟨ocAreLet, odAreLet, .func (PySem.W.fnOf "are_letters" "are_letters" (defArgs sAreLet) (defBody sAreLet) (defScope sAreLet) .none kVAreLet dcAreLet pmAreLet anAreLet cdAreLet ctAreLet), slAreLet⟩)
    (cAreLet : PySem.W.codeIn K cdAreLet "are_letters" = true)
    (kAreLet : PySem.W.keepIn K (.ref fAreLet) = true)
    (aNeedText : PySem.W.nsIn K mainGlobals "need_text" = some (some (.ref fNeedText)))
    (lNeedText : K.lookup fNeedText = some ⟨ocNeedText, odNeedText, .func (PySem.W.fnOf "need_text" "need_text" (defArgs sNeedText) (defBody sNeedText) (defScope sNeedText) .none kVNeedText dcNeedText pmNeedText anNeedText cdNeedText ctNeedText), slNeedText⟩)
    (cNeedText : PySem.W.codeIn K cdNeedText "need_text" = true)
    (kNeedText : PySem.W.keepIn K (.ref fNeedText) = true)
    (aNeedParts : PySem.W.nsIn K mainGlobals "_need_parts" = some (some (.ref fNeedParts)))
    (lNeedParts : K.lookup fNeedParts = some ⟨ocNeedParts, odNeedParts, .func (PySem.W.fnOf "_need_parts" "_need_parts" (defArgs sNeedParts) (defBody sNeedParts) (defScope sNeedParts) .none kVNeedParts dcNeedParts pmNeedParts anNeedParts cdNeedParts ctNeedParts), slNeedParts⟩)
    (cNeedParts : PySem.W.codeIn K cdNeedParts "_need_parts" = true)
    (kNeedParts : PySem.W.keepIn K (.ref fNeedParts) = true)
    (aIsRow : PySem.W.nsIn K mainGlobals "_is_row" = some (some (.ref fIsRow)))
    (lIsRow : K.lookup fIsRow = some ⟨ocIsRow, odIsRow, .func (PySem.W.fnOf "_is_row" "_is_row" (defArgs sIsRow) (defBody sIsRow) (defScope sIsRow) .none kVIsRow dcIsRow pmIsRow anIsRow cdIsRow ctIsRow), slIsRow⟩)
    (cIsRow : PySem.W.codeIn K cdIsRow "_is_row" = true)
    (kIsRow : PySem.W.keepIn K (.ref fIsRow) = true)
    (aIsPlace : PySem.W.nsIn K mainGlobals "is_place" = some (some (.ref fIsPlace)))
    (lIsPlace : K.lookup fIsPlace = some ⟨ocIsPlace, odIsPlace, .func (PySem.W.fnOf "is_place" "is_place" (defArgs sIsPlace) (defBody sIsPlace) (defScope sIsPlace) .none kVIsPlace dcIsPlace pmIsPlace anIsPlace cdIsPlace ctIsPlace), slIsPlace⟩)
    (cIsPlace : PySem.W.codeIn K cdIsPlace "is_place" = true)
    (kIsPlace : PySem.W.keepIn K (.ref fIsPlace) = true)
    (aMetFrom : PySem.W.nsIn K mainGlobals "_met_from" = some (some (.ref fMetFrom)))
    (lMetFrom : K.lookup fMetFrom = some ⟨ocMetFrom, odMetFrom, .func (PySem.W.fnOf "_met_from" "_met_from" (defArgs sMetFrom) (defBody sMetFrom) (defScope sMetFrom) .none kVMetFrom dcMetFrom pmMetFrom anMetFrom cdMetFrom ctMetFrom), slMetFrom⟩)
    (cMetFrom : PySem.W.codeIn K cdMetFrom "_met_from" = true)
    (kMetFrom : PySem.W.keepIn K (.ref fMetFrom) = true)
    (aUnlike : PySem.W.nsIn K mainGlobals "need_unlike_places" = some (some (.ref fUnlike)))
    (lUnlike : K.lookup fUnlike = some ⟨ocUnlike, odUnlike, .func (PySem.W.fnOf "need_unlike_places" "need_unlike_places" (defArgs sUnlike) (defBody sUnlike) (defScope sUnlike) .none kVUnlike dcUnlike pmUnlike anUnlike cdUnlike ctUnlike), slUnlike⟩)
    (cUnlike : PySem.W.codeIn K cdUnlike "need_unlike_places" = true)
    (kUnlike : PySem.W.keepIn K (.ref fUnlike) = true)
    (aTurned : PySem.W.nsIn K mainGlobals "turned" = some (some (.ref fTurned)))
    (lTurned : K.lookup fTurned = some ⟨ocTurned, odTurned, .func (PySem.W.fnOf "turned" "turned" (defArgs sTurned) (defBody sTurned) (defScope sTurned) .none kVTurned dcTurned pmTurned anTurned cdTurned ctTurned), slTurned⟩)
    (cTurned : PySem.W.codeIn K cdTurned "turned" = true)
    (kTurned : PySem.W.keepIn K (.ref fTurned) = true)
    (aRedir : PySem.W.nsIn K mainGlobals "redirected" = some (some (.ref fRedir)))
    (lRedir : K.lookup fRedir = some ⟨ocRedir, odRedir, .func (PySem.W.fnOf "redirected" "redirected" (defArgs sRedir) (defBody sRedir) (defScope sRedir) .none kVRedir dcRedir pmRedir anRedir cdRedir ctRedir), slRedir⟩)
    (cRedir : PySem.W.codeIn K cdRedir "redirected" = true)
    (kRedir : PySem.W.keepIn K (.ref fRedir) = true)
    (aPot : PySem.W.nsIn K mainGlobals "_law_pot" = some (some (.ref fPot)))
    (lPot : K.lookup fPot = some ⟨ocPot, odPot, .func (PySem.W.fnOf "_law_pot" "_law_pot" (defArgs sPot) (defBody sPot) (defScope sPot) .none kVPot dcPot pmPot anPot cdPot ctPot), slPot⟩)
    (cPot : PySem.W.codeIn K cdPot "_law_pot" = true)
    (kPot : PySem.W.keepIn K (.ref fPot) = true)
    (aDraw : PySem.W.nsIn K mainGlobals "_law_draw" = some (some (.ref fDraw)))
    (lDraw : K.lookup fDraw = some ⟨ocDraw, odDraw, .func (PySem.W.fnOf "_law_draw" "_law_draw" (defArgs sDraw) (defBody sDraw) (defScope sDraw) .none kVDraw dcDraw pmDraw anDraw cdDraw ctDraw), slDraw⟩)
    (cDraw : PySem.W.codeIn K cdDraw "_law_draw" = true)
    (kDraw : PySem.W.keepIn K (.ref fDraw) = true)
    (aPick : PySem.W.nsIn K mainGlobals "_law_pick" = some (some (.ref fPick)))
    (lPick : K.lookup fPick = some ⟨ocPick, odPick, .func (PySem.W.fnOf "_law_pick" "_law_pick" (defArgs sPick) (defBody sPick) (defScope sPick) .none kVPick dcPick pmPick anPick cdPick ctPick), slPick⟩)
    (cPick : PySem.W.codeIn K cdPick "_law_pick" = true)
    (kPick : PySem.W.keepIn K (.ref fPick) = true)
    (aLMet : PySem.W.nsIn K mainGlobals "_law_met" = some (some (.ref fLMet)))
    (lLMet : K.lookup fLMet = some ⟨ocLMet, odLMet, .func (PySem.W.fnOf "_law_met" "_law_met" (defArgs sLMet) (defBody sLMet) (defScope sLMet) .none kVLMet dcLMet pmLMet anLMet cdLMet ctLMet), slLMet⟩)
    (cLMet : PySem.W.codeIn K cdLMet "_law_met" = true)
    (kLMet : PySem.W.keepIn K (.ref fLMet) = true)
    (aLTurned : PySem.W.nsIn K mainGlobals "_law_turned" = some (some (.ref fLTurned)))
    (lLTurned : K.lookup fLTurned = some ⟨ocLTurned, odLTurned, .func (PySem.W.fnOf "_law_turned" "_law_turned" (defArgs sLTurned) (defBody sLTurned) (defScope sLTurned) .none kVLTurned dcLTurned pmLTurned anLTurned cdLTurned ctLTurned), slLTurned⟩)
    (cLTurned : PySem.W.codeIn K cdLTurned "_law_turned" = true)
    (kLTurned : PySem.W.keepIn K (.ref fLTurned) = true)
    (aLRows : PySem.W.nsIn K mainGlobals "_law_rows" = some (some (.ref fLRows)))
    (lLRows : K.lookup fLRows = some ⟨ocLRows, odLRows, .func (PySem.W.fnOf "_law_rows" "_law_rows" (defArgs sLRows) (defBody sLRows) (defScope sLRows) .none kVLRows dcLRows pmLRows anLRows cdLRows ctLRows), slLRows⟩)
    (cLRows : PySem.W.codeIn K cdLRows "_law_rows" = true)
    (kLRows : PySem.W.keepIn K (.ref fLRows) = true)
    (aModel : PySem.W.nsIn K mainGlobals "_law_model" = some (some (.ref fModel)))
    (lModel : K.lookup fModel = some ⟨ocModel, odModel, .func (PySem.W.fnOf "_law_model" "_law_model" (defArgs sModel) (defBody sModel) (defScope sModel) .none kVModel dcModel pmModel anModel cdModel ctModel), slModel⟩)
    (cModel : PySem.W.codeIn K cdModel "_law_model" = true)
    (kModel : PySem.W.keepIn K (.ref fModel) = true)
    (aLMachine : PySem.W.nsIn K mainGlobals "_law_machine" = some (some (.ref fLMachine)))
    (lLMachine : K.lookup fLMachine = some ⟨ocLMachine, odLMachine, .func (PySem.W.fnOf "_law_machine" "_law_machine" (defArgs sLMachine) (defBody sLMachine) (defScope sLMachine) .none kVLMachine dcLMachine pmLMachine anLMachine cdLMachine ctLMachine), slLMachine⟩)
    (cLMachine : PySem.W.codeIn K cdLMachine "_law_machine" = true)
    (kLMachine : PySem.W.keepIn K (.ref fLMachine) = true)
    (aSigns : PySem.W.nsIn K mainGlobals "_law_signs" = some (some (.ref fSigns)))
    (lSigns : K.lookup fSigns = some ⟨ocSigns, odSigns, .func (PySem.W.fnOf "_law_signs" "_law_signs" (defArgs sSigns) (defBody sSigns) (defScope sSigns) .none kVSigns dcSigns pmSigns anSigns cdSigns ctSigns), slSigns⟩)
    (cSigns : PySem.W.codeIn K cdSigns "_law_signs" = true)
    (kSigns : PySem.W.keepIn K (.ref fSigns) = true)
    (aLTakes : PySem.W.nsIn K mainGlobals "_law_takes" = some (some (.ref fLTakes)))
    (lLTakes : K.lookup fLTakes = some ⟨ocLTakes, odLTakes, .func (PySem.W.fnOf "_law_takes" "_law_takes" (defArgs sLTakes) (defBody sLTakes) (defScope sLTakes) .none kVLTakes dcLTakes pmLTakes anLTakes cdLTakes ctLTakes), slLTakes⟩)
    (cLTakes : PySem.W.codeIn K cdLTakes "_law_takes" = true)
    (kLTakes : PySem.W.keepIn K (.ref fLTakes) = true)
    (aWords : PySem.W.nsIn K mainGlobals "_law_words" = some (some (.ref fWords)))
    (lWords : K.lookup fWords = some ⟨ocWords, odWords, .func (PySem.W.fnOf "_law_words" "_law_words" (defArgs sWords) (defBody sWords) (defScope sWords) .none kVWords dcWords pmWords anWords cdWords ctWords), slWords⟩)
    (cWords : PySem.W.codeIn K cdWords "_law_words" = true)
    (kWords : PySem.W.keepIn K (.ref fWords) = true)
    (aMixed : PySem.W.nsIn K mainGlobals "_law_mixed" = some (some (.ref fMixed)))
    (lMixed : K.lookup fMixed = some ⟨ocMixed, odMixed, .func (PySem.W.fnOf "_law_mixed" "_law_mixed" (defArgs sMixed) (defBody sMixed) (defScope sMixed) .none kVMixed dcMixed pmMixed anMixed cdMixed ctMixed), slMixed⟩)
    (cMixed : PySem.W.codeIn K cdMixed "_law_mixed" = true)
    (kMixed : PySem.W.keepIn K (.ref fMixed) = true)
    (aTModel : PySem.W.nsIn K mainGlobals "_law_turned_model" = some (some (.ref fTModel)))
    (lTModel : K.lookup fTModel = some ⟨ocTModel, odTModel, .func (PySem.W.fnOf "_law_turned_model" "_law_turned_model" (defArgs sTModel) (defBody sTModel) (defScope sTModel) .none kVTModel dcTModel pmTModel anTModel cdTModel ctTModel), slTModel⟩)
    (cTModel : PySem.W.codeIn K cdTModel "_law_turned_model" = true)
    (kTModel : PySem.W.keepIn K (.ref fTModel) = true)
    (aSpots : PySem.W.nsIn K mainGlobals "_law_spots_right" = some (some (.ref fSpots)))
    (lSpots : K.lookup fSpots = some ⟨ocSpots, odSpots, .func (PySem.W.fnOf "_law_spots_right" "_law_spots_right" (defArgs sSpots) (defBody sSpots) (defScope sSpots) .none kVSpots dcSpots pmSpots anSpots cdSpots ctSpots), slSpots⟩)
    (cSpots : PySem.W.codeIn K cdSpots "_law_spots_right" = true)
    (kSpots : PySem.W.keepIn K (.ref fSpots) = true)
    (aLLed : PySem.W.nsIn K mainGlobals "_law_led" = some (some (.ref fLLed)))
    (lLLed : K.lookup fLLed = some ⟨ocLLed, odLLed, .func (PySem.W.fnOf "_law_led" "_law_led" (defArgs sLLed) (defBody sLLed) (defScope sLLed) .none kVLLed dcLLed pmLLed anLLed cdLLed ctLLed), slLLed⟩)
    (cLLed : PySem.W.codeIn K cdLLed "_law_led" = true)
    (kLLed : PySem.W.keepIn K (.ref fLLed) = true)
    (aLedRight : PySem.W.nsIn K mainGlobals "_law_led_right" = some (some (.ref fLedRight)))
    (lLedRight : K.lookup fLedRight = some ⟨ocLedRight, odLedRight, .func (PySem.W.fnOf "_law_led_right" "_law_led_right" (defArgs sLedRight) (defBody sLedRight) (defScope sLedRight) .none kVLedRight dcLedRight pmLedRight anLedRight cdLedRight ctLedRight), slLedRight⟩)
    (cLedRight : PySem.W.codeIn K cdLedRight "_law_led_right" = true)
    (kLedRight : PySem.W.keepIn K (.ref fLedRight) = true)
    (aSteps : PySem.W.nsIn K mainGlobals "_law_steps_right" = some (some (.ref fSteps)))
    (lSteps : K.lookup fSteps = some ⟨ocSteps, odSteps, .func (PySem.W.fnOf "_law_steps_right" "_law_steps_right" (defArgs sSteps) (defBody sSteps) (defScope sSteps) .none kVSteps dcSteps pmSteps anSteps cdSteps ctSteps), slSteps⟩)
    (cSteps : PySem.W.codeIn K cdSteps "_law_steps_right" = true)
    (kSteps : PySem.W.keepIn K (.ref fSteps) = true)
    (aGreat : PySem.W.nsIn K mainGlobals "_law_great_right" = some (some (.ref fGreat)))
    (lGreat : K.lookup fGreat = some ⟨ocGreat, odGreat, .func (PySem.W.fnOf "_law_great_right" "_law_great_right" (defArgs sGreat) (defBody sGreat) (defScope sGreat) .none kVGreat dcGreat pmGreat anGreat cdGreat ctGreat), slGreat⟩)
    (cGreat : PySem.W.codeIn K cdGreat "_law_great_right" = true)
    (kGreat : PySem.W.keepIn K (.ref fGreat) = true)
    (aRight : PySem.W.nsIn K mainGlobals "_law_right" = some (some (.ref fRight)))
    (lRight : K.lookup fRight = some ⟨ocRight, odRight, .func (PySem.W.fnOf "_law_right" "_law_right" (defArgs sRight) (defBody sRight) (defScope sRight) .none kVRight dcRight pmRight anRight cdRight ctRight), slRight⟩)
    (cRight : PySem.W.codeIn K cdRight "_law_right" = true)
    (kRight : PySem.W.keepIn K (.ref fRight) = true)
    (aLaw : PySem.W.nsIn K mainGlobals "law" = some (some (.ref fLaw)))
    (lLaw : K.lookup fLaw = some ⟨ocLaw, odLaw, .func (PySem.W.fnOf "law" "law" (defArgs sLaw) (defBody sLaw) (defScope sLaw) .none kVLaw dcLaw pmLaw anLaw cdLaw ctLaw), slLaw⟩)
    (cLaw : PySem.W.codeIn K cdLaw "law" = true)
    (kLaw : PySem.W.keepIn K (.ref fLaw) = true)
    (nM : PySem.W.nsIn K mainGlobals "Machine" = some (some (.ref C)))
    (amNeedPlace : PySem.W.findIn K (.ref C) "_need_place" = some (some (.ref mNeedPlace)))
    (tmNeedPlace : PySem.W.typeIn K (.ref mNeedPlace) = some (.type "function"))
    (lmNeedPlace : K.lookup mNeedPlace = some ⟨ocmNeedPlace, odmNeedPlace, .func (PySem.W.fnOf "_need_place" "Machine._need_place" (defArgs sNeedPlace) (defBody sNeedPlace) (defScope sNeedPlace) .none kVmNeedPlace dcmNeedPlace pmmNeedPlace anmNeedPlace cdmNeedPlace ctmNeedPlace), slmNeedPlace⟩)
    (cmNeedPlace : PySem.W.codeIn K cdmNeedPlace "Machine._need_place" = true)
    (kmNeedPlace : PySem.W.keepIn K (.ref mNeedPlace) = true)
    (amRows : PySem.W.findIn K (.ref C) "rows" = some (some (.ref mRows)))
    (tmRows : PySem.W.typeIn K (.ref mRows) = some (.type "function"))
    (lmRows : K.lookup mRows = some ⟨ocmRows, odmRows, .func (PySem.W.fnOf "rows" "Machine.rows" (defArgs sRows) (defBody sRows) (defScope sRows) .none kVmRows dcmRows pmmRows anmRows cdmRows ctmRows), slmRows⟩)
    (cmRows : PySem.W.codeIn K cdmRows "Machine.rows" = true)
    (kmRows : PySem.W.keepIn K (.ref mRows) = true)
    (amKinds : PySem.W.findIn K (.ref C) "kinds" = some (some (.ref mKinds)))
    (tmKinds : PySem.W.typeIn K (.ref mKinds) = some (.type "function"))
    (lmKinds : K.lookup mKinds = some ⟨ocmKinds, odmKinds, .func (PySem.W.fnOf "kinds" "Machine.kinds" (defArgs sKinds) (defBody sKinds) (defScope sKinds) .none kVmKinds dcmKinds pmmKinds anmKinds cdmKinds ctmKinds), slmKinds⟩)
    (cmKinds : PySem.W.codeIn K cdmKinds "Machine.kinds" = true)
    (kmKinds : PySem.W.keepIn K (.ref mKinds) = true)
    (amGoal : PySem.W.findIn K (.ref C) "goal" = some (some (.ref mGoal)))
    (tmGoal : PySem.W.typeIn K (.ref mGoal) = some (.type "function"))
    (lmGoal : K.lookup mGoal = some ⟨ocmGoal, odmGoal, .func (PySem.W.fnOf "goal" "Machine.goal" (defArgs sGoal) (defBody sGoal) (defScope sGoal) .none kVmGoal dcmGoal pmmGoal anmGoal cdmGoal ctmGoal), slmGoal⟩)
    (cmGoal : PySem.W.codeIn K cdmGoal "Machine.goal" = true)
    (kmGoal : PySem.W.keepIn K (.ref mGoal) = true)
    (amTakes : PySem.W.findIn K (.ref C) "takes" = some (some (.ref mTakes)))
    (tmTakes : PySem.W.typeIn K (.ref mTakes) = some (.type "function"))
    (lmTakes : K.lookup mTakes = some ⟨ocmTakes, odmTakes, .func (PySem.W.fnOf "takes" "Machine.takes" (defArgs sTakes) (defBody sTakes) (defScope sTakes) .none kVmTakes dcmTakes pmmTakes anmTakes cdmTakes ctmTakes), slmTakes⟩)
    (cmTakes : PySem.W.codeIn K cdmTakes "Machine.takes" = true)
    (kmTakes : PySem.W.keepIn K (.ref mTakes) = true)
    (amLen : PySem.W.findIn K (.ref C) "__len__" = some (some (.ref mLen)))
    (tmLen : PySem.W.typeIn K (.ref mLen) = some (.type "function"))
    (lmLen : K.lookup mLen = some ⟨ocmLen, odmLen, .func (PySem.W.fnOf "__len__" "Machine.__len__" (defArgs sLen) (defBody sLen) (defScope sLen) .none kVmLen dcmLen pmmLen anmLen cdmLen ctmLen), slmLen⟩)
    (cmLen : PySem.W.codeIn K cdmLen "Machine.__len__" = true)
    (kmLen : PySem.W.keepIn K (.ref mLen) = true)
    (amEq : PySem.W.findIn K (.ref C) "__eq__" = some (some (.ref mEq)))
    (tmEq : PySem.W.typeIn K (.ref mEq) = some (.type "function"))
    (lmEq : K.lookup mEq = some ⟨ocmEq, odmEq, .func (PySem.W.fnOf "__eq__" "Machine.__eq__" (defArgs sEq) (defBody sEq) (defScope sEq) .none kVmEq dcmEq pmmEq anmEq cdmEq ctmEq), slmEq⟩)
    (cmEq : PySem.W.codeIn K cdmEq "Machine.__eq__" = true)
    (kmEq : PySem.W.keepIn K (.ref mEq) = true)
    (amRepr : PySem.W.findIn K (.ref C) "__repr__" = some (some (.ref mRepr)))
    (tmRepr : PySem.W.typeIn K (.ref mRepr) = some (.type "function"))
    (lmRepr : K.lookup mRepr = some ⟨ocmRepr, odmRepr, .func (PySem.W.fnOf "__repr__" "Machine.__repr__" (defArgs sRepr) (defBody sRepr) (defScope sRepr) .none kVmRepr dcmRepr pmmRepr anmRepr cdmRepr ctmRepr), slmRepr⟩)
    (cmRepr : PySem.W.codeIn K cdmRepr "Machine.__repr__" = true)
    (kmRepr : PySem.W.keepIn K (.ref mRepr) = true)
    (amInvert : PySem.W.findIn K (.ref C) "__invert__" = some (some (.ref mInvert)))
    (tmInvert : PySem.W.typeIn K (.ref mInvert) = some (.type "function"))
    (lmInvert : K.lookup mInvert = some ⟨ocmInvert, odmInvert, .func (PySem.W.fnOf "__invert__" "Machine.__invert__" (defArgs sInv) (defBody sInv) (defScope sInv) .none kVmInvert dcmInvert pmmInvert anmInvert cdmInvert ctmInvert), slmInvert⟩)
    (cmInvert : PySem.W.codeIn K cdmInvert "Machine.__invert__" = true)
    (kmInvert : PySem.W.keepIn K (.ref mInvert) = true)
    (amLed : PySem.W.findIn K (.ref C) "_led" = some (some (.ref mLed)))
    (tmLed : PySem.W.typeIn K (.ref mLed) = some (.type "function"))
    (lmLed : K.lookup mLed = some ⟨ocmLed, odmLed, .func (PySem.W.fnOf "_led" "Machine._led" (defArgs sLed) (defBody sLed) (defScope sLed) .none kVmLed dcmLed pmmLed anmLed cdmLed ctmLed), slmLed⟩)
    (cmLed : PySem.W.codeIn K cdmLed "Machine._led" = true)
    (kmLed : PySem.W.keepIn K (.ref mLed) = true)
    (amInit : PySem.W.findIn K (.ref C) "__init__" = some (some (.ref mInit)))
    (tmInit : PySem.W.typeIn K (.ref mInit) = some (.type "function"))
    (lmInit : K.lookup mInit = some ⟨ocmInit, odmInit, .func (PySem.W.fnOf "__init__" "Machine.__init__" (defArgs sInit) (defBody sInit) (defScope sInit) .none kVmInit dcmInit pmmInit anmInit cdmInit ctmInit), slmInit⟩)
    (cmInit : PySem.W.codeIn K cdmInit "Machine.__init__" = true)
    (kmInit : PySem.W.keepIn K (.ref mInit) = true)
    (amLetters : PySem.W.findIn K (.ref C) "letters" = some (some (.ref pL)))
    (pget : PySem.W.specialIn K (.ref pL) "__get__" = some (some (.builtin "property.__get__")))
    (ptak : PySem.W.takesIn K (.ref pL) = some true)
    (prec : PySem.W.recIn K pL "property" = some (.ref mLetters :: restL))
    (lmLetters : K.lookup mLetters = some ⟨ocmLetters, odmLetters, .func (PySem.W.fnOf "letters" "Machine.letters" (defArgs sLetters) (defBody sLetters) (defScope sLetters) .none kVmLetters dcmLetters pmmLetters anmLetters cdmLetters ctmLetters), slmLetters⟩)
    (cmLetters : PySem.W.codeIn K cdmLetters "Machine.letters" = true)
    (kmLetters : PySem.W.keepIn K (.ref mLetters) = true)
    (nN : PySem.W.nsIn K mainGlobals "NotComeTo" = some (some (.ref cN)))
    (amNC : PySem.W.findIn K (.ref cN) "__init__" = some (some (.ref mNC)))
    (tmNC : PySem.W.typeIn K (.ref mNC) = some (.type "function"))
    (lmNC : K.lookup mNC = some ⟨ocmNC, odmNC, .func (PySem.W.fnOf "__init__" "NotComeTo.__init__" (defArgs stNC) (defBody stNC) (defScope stNC) .none kVmNC dcmNC pmmNC anmNC cdmNC ctmNC), slmNC⟩)
    (cmNC : PySem.W.codeIn K cdmNC "NotComeTo.__init__" = true)
    (kmNC : PySem.W.keepIn K (.ref mNC) = true)
    (bNC : clsB K cN bmR "RuntimeError.__new__" = true)
    (dNC : fldB K cN "place" = true)
    (xNC : PySem.W.exmOne K (.ref cN) (.ref cN) = some true)
    (cpg : PySem.W.plainGet K C Str.empty = true)
    (chd : PySem.W.hasDictIn K C = true)
    (cpo : PySem.W.plainOver K C = true)
    (csa : PySem.W.findIn K (.ref C) "__setattr__" = some (some (.builtin "object.__setattr__")))
    (n_letters : PySem.W.findIn K (.ref C) "_letters" = some none)
    (n_rows : PySem.W.findIn K (.ref C) "_rows" = some none)
    (n_kinds : PySem.W.findIn K (.ref C) "_kinds" = some none)
    (mmk : PySem.W.makesIn K C = true)
    (mkp : PySem.W.keepIn K (.ref C) = true)
    (ene : PySem.W.findIn K (.ref C) "__ne__" = some (some (.builtin "object.__ne__")))
    (eob : PySem.W.mroIn K C (.type "object") = some true)
    (ica : PySem.W.findIn K (.ref C) "__class__" = some (some (.builtin "object.__class__")))
    (icn : PySem.W.specialIn K (.builtin "object.__class__") "__get__" = some (some (.builtin "getset_descriptor.__get__")))
    (ict : PySem.W.takesIn K (.builtin "object.__class__") = some true)
    (rrd : PySem.W.readsIn K C (.type "type") = true)
    (rga : PySem.W.specialIn K (.ref C) "__getattribute__" = some (some (.builtin "type.__getattribute__")))
    (vat : PySem.W.findCls K (.ref C) (.type "type") "MOST_PLACES" = some (.val (.int 40 tC2)))
    (gS : PySem.W.nsIn K mainGlobals "SMALL_LETTERS" = some (some (.str "abcdefghijklmnopqrstuvwxyz" tS)))
    (gM : PySem.W.nsIn K mainGlobals "MOST_LETTERS" = some (some (.int 3 tM)))
    (z_tuple : PySem.W.nsIn K mainGlobals "tuple" = some none)
    (z_zip : PySem.W.nsIn K mainGlobals "zip" = some none)
    (z_set : PySem.W.nsIn K mainGlobals "set" = some none)
    (z_bool : PySem.W.nsIn K mainGlobals "bool" = some none)
    (z_any : PySem.W.nsIn K mainGlobals "any" = some none)
    (z_enumerate : PySem.W.nsIn K mainGlobals "enumerate" = some none)
    (z_ve : PySem.W.nsIn K mainGlobals "ValueError" = some none)
    (z_re : PySem.W.nsIn K mainGlobals "RuntimeError" = some none)
    (z_ae : PySem.W.nsIn K mainGlobals "ArithmeticError" = some none)
    (z_len : PySem.W.nsIn K mainGlobals "len" = some none)
    (z_isi : PySem.W.nsIn K mainGlobals "isinstance" = some none)
    (z_all : PySem.W.nsIn K mainGlobals "all" = some none)
    (z_str : PySem.W.nsIn K mainGlobals "str" = some none)
    (z_list : PySem.W.nsIn K mainGlobals "list" = some none)
    (z_sorted : PySem.W.nsIn K mainGlobals "sorted" = some none)
    (z_range : PySem.W.nsIn K mainGlobals "range" = some none)
    (z_sum : PySem.W.nsIn K mainGlobals "sum" = some none)
    (z_repr : PySem.W.nsIn K mainGlobals "repr" = some none)
    (z_int : PySem.W.nsIn K mainGlobals "int" = some none)
    (z_abs : PySem.W.nsIn K mainGlobals "abs" = some none)
    (z_max : PySem.W.nsIn K mainGlobals "max" = some none)
    (z_min : PySem.W.nsIn K mainGlobals "min" = some none)
    (z_divmod : PySem.W.nsIn K mainGlobals "divmod" = some none)
    : ∃ fd : FuncData, (∀ (s : Shared) (u : Value), BindsTo s fd ⟨[u], []⟩ [("_law_script", u)]) ∧
        ∀ base : Heap, K.In base → base.Ns mainGlobals mg → FnG l.prog w K mg base CX0 14 fa fd ["_law_script"] (spLaw K) := by
  have e := hfa.symm.trans (PySem.W.mg_of X G aLaw)
  cases e
  have M : Mx mg := ⟨PySem.W.mg_none_of X G z_tuple, PySem.W.mg_none_of X G z_zip, PySem.W.mg_none_of X G z_set, PySem.W.mg_none_of X G z_bool, PySem.W.mg_none_of X G z_any, PySem.W.mg_none_of X G z_enumerate, PySem.W.mg_none_of X G z_ve, PySem.W.mg_none_of X G z_re, PySem.W.mg_none_of X G z_ae, PySem.W.mg_none_of X G z_len, PySem.W.mg_none_of X G z_isi, PySem.W.mg_none_of X G z_all, PySem.W.mg_none_of X G z_str, PySem.W.mg_none_of X G z_list, PySem.W.mg_none_of X G z_sorted, PySem.W.mg_none_of X G z_range, PySem.W.mg_none_of X G z_sum, PySem.W.mg_none_of X G z_repr, PySem.W.mg_none_of X G z_int, PySem.W.mg_none_of X G z_abs, PySem.W.mg_none_of X G z_max, PySem.W.mg_none_of X G z_min, PySem.W.mg_none_of X G z_divmod⟩
  have FIsInt := fun_mk (st := sIsInt) lIsInt cIsInt kIsInt
  have bIsInt : Binds K _ ["value"] [] := FIsInt.binds (ps := ["value"]) fun _ _ _ _ _ _ us hl => match us, hl with | [_], _ => rfl
  have gIsInt := PySem.W.mg_of X G aIsInt
  have FIsText := fun_mk (st := sIsText) lIsText cIsText kIsText
  have bIsText : Binds K _ ["value"] [] := FIsText.binds (ps := ["value"]) fun _ _ _ _ _ _ us hl => match us, hl with | [_], _ => rfl
  have gIsText := PySem.W.mg_of X G aIsText
  have FIsOver := fun_mk (st := sIsOver) lIsOver cIsOver kIsOver
  have bIsOver : Binds K _ ["value", "letters"] [] := FIsOver.binds (ps := ["value", "letters"]) fun _ _ _ _ _ _ us hl => match us, hl with | [_, _], _ => rfl
  have gIsOver := PySem.W.mg_of X G aIsOver
  have FAreLet := fun_mk (st := sAreLet) lAreLet cAreLet kAreLet
  have bAreLet : Binds K _ ["value"] [] := FAreLet.binds (ps := ["value"]) fun _ _ _ _ _ _ us hl => match us, hl with | [_], _ => rfl
  have gAreLet := PySem.W.mg_of X G aAreLet
  have FNeedText := fun_mk (st := sNeedText) lNeedText cNeedText kNeedText
  have bNeedText : Binds K _ ["value", "letters"] [] := FNeedText.binds (ps := ["value", "letters"]) fun _ _ _ _ _ _ us hl => match us, hl with | [_, _], _ => rfl
  have gNeedText := PySem.W.mg_of X G aNeedText
  have FNeedParts := fun_mk (st := sNeedParts) lNeedParts cNeedParts kNeedParts
  have bNeedParts : Binds K _ ["letters", "rows", "kinds"] [] := FNeedParts.binds (ps := ["letters", "rows", "kinds"]) fun _ _ _ _ _ _ us hl => match us, hl with | [_, _, _], _ => rfl
  have gNeedParts := PySem.W.mg_of X G aNeedParts
  have FIsRow := fun_mk (st := sIsRow) lIsRow cIsRow kIsRow
  have bIsRow : Binds K _ ["value", "many_letters", "many_places"] [] := FIsRow.binds (ps := ["value", "many_letters", "many_places"]) fun _ _ _ _ _ _ us hl => match us, hl with | [_, _, _], _ => rfl
  have gIsRow := PySem.W.mg_of X G aIsRow
  have FIsPlace := fun_mk (st := sIsPlace) lIsPlace cIsPlace kIsPlace
  have bIsPlace : Binds K _ ["value", "many"] [] := FIsPlace.binds (ps := ["value", "many"]) fun _ _ _ _ _ _ us hl => match us, hl with | [_, _], _ => rfl
  have gIsPlace := PySem.W.mg_of X G aIsPlace
  have FMetFrom := fun_mk (st := sMetFrom) lMetFrom cMetFrom kMetFrom
  have bMetFrom : Binds K _ ["rows", "start"] [] := FMetFrom.binds (ps := ["rows", "start"]) fun _ _ _ _ _ _ us hl => match us, hl with | [_, _], _ => rfl
  have gMetFrom := PySem.W.mg_of X G aMetFrom
  have FUnlike := fun_mk (st := sUnlike) lUnlike cUnlike kUnlike
  have bUnlike : Binds K _ ["machine", "value"] [] := FUnlike.binds (ps := ["machine", "value"]) fun _ _ _ _ _ _ us hl => match us, hl with | [_, _], _ => rfl
  have gUnlike := PySem.W.mg_of X G aUnlike
  have FTurned := fun_mk (st := sTurned) lTurned cTurned kTurned
  have bTurned : Binds K _ ["machine", "places"] [] := FTurned.binds (ps := ["machine", "places"]) fun _ _ _ _ _ _ us hl => match us, hl with | [_, _], _ => rfl
  have gTurned := PySem.W.mg_of X G aTurned
  have FRedir := fun_mk (st := sRedir) lRedir cRedir kRedir
  have bRedir : Binds K _ ["machine", "place", "letter", "goal"] [] := FRedir.binds (ps := ["machine", "place", "letter", "goal"]) fun _ _ _ _ _ _ us hl => match us, hl with | [_, _, _, _], _ => rfl
  have gRedir := PySem.W.mg_of X G aRedir
  have FPot := fun_mk (st := sPot) lPot cPot kPot
  have bPot : Binds K _ ["_law_script", "_law_k"] [] := FPot.binds (ps := ["_law_script", "_law_k"]) fun _ _ _ _ _ _ us hl => match us, hl with | [_, _], _ => rfl
  have gPot := PySem.W.mg_of X G aPot
  have FDraw := fun_mk (st := sDraw) lDraw cDraw kDraw
  have bDraw : Binds K _ ["_law_pot_here", "_law_size"] [] := FDraw.binds (ps := ["_law_pot_here", "_law_size"]) fun _ _ _ _ _ _ us hl => match us, hl with | [_, _], _ => rfl
  have gDraw := PySem.W.mg_of X G aDraw
  have FPick := fun_mk (st := sPick) lPick cPick kPick
  have bPick : Binds K _ ["_law_pot_here", "_law_pack"] [] := FPick.binds (ps := ["_law_pot_here", "_law_pack"]) fun _ _ _ _ _ _ us hl => match us, hl with | [_, _], _ => rfl
  have gPick := PySem.W.mg_of X G aPick
  have FLMet := fun_mk (st := sLMet) lLMet cLMet kLMet
  have bLMet : Binds K _ ["_law_rows_here"] [] := FLMet.binds (ps := ["_law_rows_here"]) fun _ _ _ _ _ _ us hl => match us, hl with | [_], _ => rfl
  have gLMet := PySem.W.mg_of X G aLMet
  have FLTurned := fun_mk (st := sLTurned) lLTurned cLTurned kLTurned
  have bLTurned : Binds K _ ["_law_pot_here", "_law_rows_here"] [] := FLTurned.binds (ps := ["_law_pot_here", "_law_rows_here"]) fun _ _ _ _ _ _ us hl => match us, hl with | [_, _], _ => rfl
  have gLTurned := PySem.W.mg_of X G aLTurned
  have FLRows := fun_mk (st := sLRows) lLRows cLRows kLRows
  have bLRows : Binds K _ ["_law_pot_here", "_law_signs_here", "_law_most"] [] := FLRows.binds (ps := ["_law_pot_here", "_law_signs_here", "_law_most"]) fun _ _ _ _ _ _ us hl => match us, hl with | [_, _, _], _ => rfl
  have gLRows := PySem.W.mg_of X G aLRows
  have FModel := fun_mk (st := sModel) lModel cModel kModel
  have bModel : Binds K _ ["_law_pot_here", "_law_signs_here", "_law_most"] [] := FModel.binds (ps := ["_law_pot_here", "_law_signs_here", "_law_most"]) fun _ _ _ _ _ _ us hl => match us, hl with | [_, _, _], _ => rfl
  have gModel := PySem.W.mg_of X G aModel
  have FLMachine := fun_mk (st := sLMachine) lLMachine cLMachine kLMachine
  have bLMachine : Binds K _ ["_law_model_here"] [] := FLMachine.binds (ps := ["_law_model_here"]) fun _ _ _ _ _ _ us hl => match us, hl with | [_], _ => rfl
  have gLMachine := PySem.W.mg_of X G aLMachine
  have FSigns := fun_mk (st := sSigns) lSigns cSigns kSigns
  have bSigns : Binds K _ ["_law_pot_here"] [] := FSigns.binds (ps := ["_law_pot_here"]) fun _ _ _ _ _ _ us hl => match us, hl with | [_], _ => rfl
  have gSigns := PySem.W.mg_of X G aSigns
  have FLTakes := fun_mk (st := sLTakes) lLTakes cLTakes kLTakes
  have bLTakes : Binds K _ ["_law_model_here", "_law_text"] [] := FLTakes.binds (ps := ["_law_model_here", "_law_text"]) fun _ _ _ _ _ _ us hl => match us, hl with | [_, _], _ => rfl
  have gLTakes := PySem.W.mg_of X G aLTakes
  have FWords := fun_mk (st := sWords) lWords cWords kWords
  have bWords : Binds K _ ["_law_signs_here", "_law_most"] [] := FWords.binds (ps := ["_law_signs_here", "_law_most"]) fun _ _ _ _ _ _ us hl => match us, hl with | [_, _], _ => rfl
  have gWords := PySem.W.mg_of X G aWords
  have FMixed := fun_mk (st := sMixed) lMixed cMixed kMixed
  have bMixed : Binds K _ ["_law_pot_here", "_law_some"] [] := FMixed.binds (ps := ["_law_pot_here", "_law_some"]) fun _ _ _ _ _ _ us hl => match us, hl with | [_, _], _ => rfl
  have gMixed := PySem.W.mg_of X G aMixed
  have FTModel := fun_mk (st := sTModel) lTModel cTModel kTModel
  have bTModel : Binds K _ ["_law_model_here", "_law_spots"] [] := FTModel.binds (ps := ["_law_model_here", "_law_spots"]) fun _ _ _ _ _ _ us hl => match us, hl with | [_, _], _ => rfl
  have gTModel := PySem.W.mg_of X G aTModel
  have FSpots := fun_mk (st := sSpots) lSpots cSpots kSpots
  have bSpots : Binds K _ ["_law_pot_here", "_law_model_here", "_law_net"] [] := FSpots.binds (ps := ["_law_pot_here", "_law_model_here", "_law_net"]) fun _ _ _ _ _ _ us hl => match us, hl with | [_, _, _], _ => rfl
  have gSpots := PySem.W.mg_of X G aSpots
  have FLLed := fun_mk (st := sLLed) lLLed cLLed kLLed
  have bLLed : Binds K _ ["_law_net", "_law_spot", "_law_sign", "_law_goal_now"] [] := FLLed.binds (ps := ["_law_net", "_law_spot", "_law_sign", "_law_goal_now"]) fun _ _ _ _ _ _ us hl => match us, hl with | [_, _, _, _], _ => rfl
  have gLLed := PySem.W.mg_of X G aLLed
  have FLedRight := fun_mk (st := sLedRight) lLedRight cLedRight kLedRight
  have bLedRight : Binds K _ ["_law_net", "_law_told", "_law_spot", "_law_sign", "_law_goals"] [] := FLedRight.binds (ps := ["_law_net", "_law_told", "_law_spot", "_law_sign", "_law_goals"]) fun _ _ _ _ _ _ us hl => match us, hl with | [_, _, _, _, _], _ => rfl
  have gLedRight := PySem.W.mg_of X G aLedRight
  have FSteps := fun_mk (st := sSteps) lSteps cSteps kSteps
  have bSteps : Binds K _ ["_law_model_here", "_law_net"] [] := FSteps.binds (ps := ["_law_model_here", "_law_net"]) fun _ _ _ _ _ _ us hl => match us, hl with | [_, _], _ => rfl
  have gSteps := PySem.W.mg_of X G aSteps
  have FGreat := fun_mk (st := sGreat) lGreat cGreat kGreat
  have bGreat : Binds K _ ["_law_pot_here"] [] := FGreat.binds (ps := ["_law_pot_here"]) fun _ _ _ _ _ _ us hl => match us, hl with | [_], _ => rfl
  have gGreat := PySem.W.mg_of X G aGreat
  have FRight := fun_mk (st := sRight) lRight cRight kRight
  have bRight : Binds K _ ["_law_pot_here"] [] := FRight.binds (ps := ["_law_pot_here"]) fun _ _ _ _ _ _ us hl => match us, hl with | [_], _ => rfl
  have gRight := PySem.W.mg_of X G aRight
  have FLaw := fun_mk (st := sLaw) lLaw cLaw kLaw
  have bLaw : Binds K _ ["_law_script"] [] := FLaw.binds (ps := ["_law_script"]) fun _ _ _ _ _ _ us hl => match us, hl with | [_], _ => rfl
  have gLaw := PySem.W.mg_of X G aLaw
  have FmNeedPlace := fun_mk (st := sNeedPlace) lmNeedPlace cmNeedPlace kmNeedPlace
  have bmNeedPlace : Binds K _ ["self", "value"] [] := FmNeedPlace.binds (ps := ["self", "value"]) fun _ _ _ _ _ _ us hl => match us, hl with | [_, _], _ => rfl
  have MNeedPlace : Meth K C "_need_place" mNeedPlace := ⟨amNeedPlace, by unfold PySem.W.isFn; rw [tmNeedPlace]; rfl, kmNeedPlace⟩
  have FmRows := fun_mk (st := sRows) lmRows cmRows kmRows
  have bmRows : Binds K _ ["self"] [] := FmRows.binds (ps := ["self"]) fun _ _ _ _ _ _ us hl => match us, hl with | [_], _ => rfl
  have MRows : Meth K C "rows" mRows := ⟨amRows, by unfold PySem.W.isFn; rw [tmRows]; rfl, kmRows⟩
  have FmKinds := fun_mk (st := sKinds) lmKinds cmKinds kmKinds
  have bmKinds : Binds K _ ["self"] [] := FmKinds.binds (ps := ["self"]) fun _ _ _ _ _ _ us hl => match us, hl with | [_], _ => rfl
  have MKinds : Meth K C "kinds" mKinds := ⟨amKinds, by unfold PySem.W.isFn; rw [tmKinds]; rfl, kmKinds⟩
  have FmGoal := fun_mk (st := sGoal) lmGoal cmGoal kmGoal
  have bmGoal : Binds K _ ["self", "place", "letter"] [] := FmGoal.binds (ps := ["self", "place", "letter"]) fun _ _ _ _ _ _ us hl => match us, hl with | [_, _, _], _ => rfl
  have MGoal : Meth K C "goal" mGoal := ⟨amGoal, by unfold PySem.W.isFn; rw [tmGoal]; rfl, kmGoal⟩
  have FmTakes := fun_mk (st := sTakes) lmTakes cmTakes kmTakes
  have bmTakes : Binds K _ ["self", "text"] [] := FmTakes.binds (ps := ["self", "text"]) fun _ _ _ _ _ _ us hl => match us, hl with | [_, _], _ => rfl
  have MTakes : Meth K C "takes" mTakes := ⟨amTakes, by unfold PySem.W.isFn; rw [tmTakes]; rfl, kmTakes⟩
  have FmLen := fun_mk (st := sLen) lmLen cmLen kmLen
  have bmLen : Binds K _ ["self"] [] := FmLen.binds (ps := ["self"]) fun _ _ _ _ _ _ us hl => match us, hl with | [_], _ => rfl
  have MLen : Meth K C "__len__" mLen := ⟨amLen, by unfold PySem.W.isFn; rw [tmLen]; rfl, kmLen⟩
  have FmEq := fun_mk (st := sEq) lmEq cmEq kmEq
  have bmEq : Binds K _ ["self", "other"] [] := FmEq.binds (ps := ["self", "other"]) fun _ _ _ _ _ _ us hl => match us, hl with | [_, _], _ => rfl
  have MEq : Meth K C "__eq__" mEq := ⟨amEq, by unfold PySem.W.isFn; rw [tmEq]; rfl, kmEq⟩
  have FmRepr := fun_mk (st := sRepr) lmRepr cmRepr kmRepr
  have bmRepr : Binds K _ ["self"] [] := FmRepr.binds (ps := ["self"]) fun _ _ _ _ _ _ us hl => match us, hl with | [_], _ => rfl
  have MRepr : Meth K C "__repr__" mRepr := ⟨amRepr, by unfold PySem.W.isFn; rw [tmRepr]; rfl, kmRepr⟩
  have FmInvert := fun_mk (st := sInv) lmInvert cmInvert kmInvert
  have bmInvert : Binds K _ ["self"] [] := FmInvert.binds (ps := ["self"]) fun _ _ _ _ _ _ us hl => match us, hl with | [_], _ => rfl
  have MInvert : Meth K C "__invert__" mInvert := ⟨amInvert, by unfold PySem.W.isFn; rw [tmInvert]; rfl, kmInvert⟩
  have FmLed := fun_mk (st := sLed) lmLed cmLed kmLed
  have bmLed : Binds K _ ["self", "place", "text"] [] := FmLed.binds (ps := ["self", "place", "text"]) fun _ _ _ _ _ _ us hl => match us, hl with | [_, _, _], _ => rfl
  have MLed : Meth K C "_led" mLed := ⟨amLed, by unfold PySem.W.isFn; rw [tmLed]; rfl, kmLed⟩
  have FmInit := fun_mk (st := sInit) lmInit cmInit kmInit
  have bmInit : Binds K _ ["self", "letters", "rows", "kinds"] [] := FmInit.binds (ps := ["self", "letters", "rows", "kinds"]) fun _ _ _ _ _ _ us hl => match us, hl with | [_, _, _, _], _ => rfl
  have gMa := PySem.W.mg_of X G nM
  have gN := PySem.W.mg_of X G nN
  have FNC := fun_mk (st := stNC) lmNC cmNC kmNC
  have bmNC : Binds K _ ["self", "place"] [] := FNC.binds (ps := ["self", "place"]) fun _ _ _ _ _ _ us hl => match us, hl with | [_, _], _ => rfl
  have cM : ClsM K C := ⟨⟨cpg, chd, cpo, csa⟩, n_letters, n_rows, n_kinds⟩
  have cE : EqC K C := ⟨ene, eob⟩
  have iM : IsM K C := ⟨fun H a dx fs ea _ => .base (.ins ea cM.cls ica icn ict eob), by unfold PySem.W.kitOne; simp⟩
  have mK : Mk K C mInit := ⟨mmk, amInit, by unfold PySem.W.isFn; rw [tmInit]; rfl, mkp⟩
  have rC : CRead K C (.type "type") := ⟨rrd, rga⟩
  have vC : CVal K C (.type "type") "MOST_PLACES" (.int 40) (.int 40 tC2) := ⟨vat, ⟨_, rfl⟩⟩
  have bmLetters : Binds K _ ["self"] [] := (fun_mk (st := sLetters) lmLetters cmLetters kmLetters).binds (ps := ["self"]) fun _ _ _ _ _ _ us hl => match us, hl with | [_], _ => rfl
  refine ⟨PySem.W.fnOf "law" "law" (defArgs sLaw) (defBody sLaw) (defScope sLaw) .none kVLaw dcLaw pmLaw anLaw cdLaw ctLaw, fun s v => .of_eq rfl, fun base _ _ => ?_⟩
  have hNC : HasC l.prog w K mg base 1 "NotComeTo" cN ["place"] := hasC1 (k := 0) PySem.F.excBase_RuntimeError PySem.F.store_RuntimeError bNC dNC gN amNC tmNC FNC scNC rfl (.inl rfl) (.inl rfl) (by decide) (by decide) (fun _ _ => rfl) bmNC (fun s z ws hl => match ws, hl with | [_], _ => ⟨.of_eq rfl, .of_eq rfl⟩)
  have hIsInt : Has l.prog w K mg base 1 "is_integer" ["value"] spIsInt := has_of (ok_isInt (k := 0) FIsInt M) gIsInt kIsInt bIsInt (fun s us hl => match us, hl with | [_], _ => ⟨.of_eq rfl, .of_eq rfl⟩)
  have hIsText : Has l.prog w K mg base 1 "is_text" ["value"] spIsText := has_of (ok_isText (k := 0) FIsText M (PySem.W.mg_of X G gS)) gIsText kIsText bIsText (fun s us hl => match us, hl with | [_], _ => ⟨.of_eq rfl, .of_eq rfl⟩)
  have hIsOver : Has l.prog w K mg base 1 "is_over" ["value", "letters"] (spIsOver K) := has_of (ok_isOver (k := 0) FIsOver M) gIsOver kIsOver bIsOver (fun s us hl => match us, hl with | [_, _], _ => ⟨.of_eq rfl, .of_eq rfl⟩)
  have hAreLet : Has l.prog w K mg base 2 "are_letters" ["value"] spAreLet := has_of (ok_areLet (k := 1) FAreLet M (PySem.W.mg_of X G gM) hIsText) gAreLet kAreLet bAreLet (fun s us hl => match us, hl with | [_], _ => ⟨.of_eq rfl, .of_eq rfl⟩)
  have hNeedText : Has l.prog w K mg base 2 "need_text" ["value", "letters"] spNeedText := has_of (ok_needText (k := 1) FNeedText hIsOver) gNeedText kNeedText bNeedText (fun s us hl => match us, hl with | [_, _], _ => ⟨.of_eq rfl, .of_eq rfl⟩)
  have hIsPlace : Has l.prog w K mg base 2 "is_place" ["value", "many"] spIsPlace := has_of (ok_isPlace (k := 1) FIsPlace hIsInt) gIsPlace kIsPlace bIsPlace (fun s us hl => match us, hl with | [_, _], _ => ⟨.of_eq rfl, .of_eq rfl⟩)
  have hIsRow : Has l.prog w K mg base 3 "_is_row" ["value", "many_letters", "many_places"] (spIsRow K) := has_of (ok_isRow (k := 2) FIsRow M hIsPlace) gIsRow kIsRow bIsRow (fun s us hl => match us, hl with | [_, _, _], _ => ⟨.of_eq rfl, .of_eq rfl⟩)
  have hNeedParts : Has l.prog w K mg base 4 "_need_parts" ["letters", "rows", "kinds"] (spNeedParts K) := has_of (ok_needParts (k := 3) FNeedParts M (hAreLet.up (by omega)) hIsRow gMa rC vC) gNeedParts kNeedParts bNeedParts (fun s us hl => match us, hl with | [_, _, _], _ => ⟨.of_eq rfl, .of_eq rfl⟩)
  have hMetFrom : Has l.prog w K mg base 1 "_met_from" ["rows", "start"] (spMetFrom K) := has_of (ok_metFrom (k := 0) FMetFrom M) gMetFrom kMetFrom bMetFrom (fun s us hl => match us, hl with | [_, _], _ => ⟨.of_eq rfl, .of_eq rfl⟩)
  have hInitX : HasIX l.prog w K mg base 5 "Machine" C ["letters", "rows", "kinds"] (spInitX K C cN) := ⟨_, _, ok_initX (k := 3) FmInit M cM hNeedParts (hMetFrom.up (by omega)) (hNC.up (by omega)), mK, bmInit, gMa, fun s z us hl => match us, hl with | [_, _, _], _ => .of_eq rfl⟩
  have hInit : HasI l.prog w K mg base 5 "Machine" C ["letters", "rows", "kinds"] (spInit K C) := hInitX.calm spInit_X
  have HNeedPlace : HasM l.prog w K mg base 3 C "_need_place" ["value"] (spNeedPlace C) := ⟨_, _, ok_needPlace (k := 2) FmNeedPlace M cM hIsPlace, MNeedPlace, bmNeedPlace, fun s z us hl => match us, hl with | [_], _ => ⟨.of_eq rfl, .of_eq rfl⟩⟩
  have HKinds : HasM l.prog w K mg base 1 C "kinds" [] (spKinds C) := ⟨_, _, ok_kinds (k := 0) FmKinds M cM, MKinds, bmKinds, fun s z us hl => match us, hl with | [], _ => ⟨.of_eq rfl, .of_eq rfl⟩⟩
  have HLen : HasM l.prog w K mg base 1 C "__len__" [] (spLen C) := ⟨_, _, ok_len (k := 0) FmLen M cM, MLen, bmLen, fun s z us hl => match us, hl with | [], _ => ⟨.of_eq rfl, .of_eq rfl⟩⟩
  have HLed : HasM l.prog w K mg base 1 C "_led" ["place", "text"] (spLed C) := ⟨_, _, ok_led (k := 0) FmLed M cM, MLed, bmLed, fun s z us hl => match us, hl with | [_, _], _ => ⟨.of_eq rfl, .of_eq rfl⟩⟩
  have HRows : HasM l.prog w K mg base 1 C "rows" [] (spRows C) := ⟨_, _, ok_rows (k := 0) FmRows M cM, MRows, bmRows, fun s z us hl => match us, hl with | [], _ => ⟨.of_eq rfl, .of_eq rfl⟩⟩
  have HGoal : HasM l.prog w K mg base 4 C "goal" ["place", "letter"] (spGoal C) := ⟨_, _, ok_goal (k := 3) FmGoal M cM HNeedPlace, MGoal, bmGoal, fun s z us hl => match us, hl with | [_, _], _ => ⟨.of_eq rfl, .of_eq rfl⟩⟩
  have HTakes : HasM l.prog w K mg base 3 C "takes" ["text"] (spTakes C) := ⟨_, _, ok_takes (k := 2) FmTakes M cM (HLed.up (by omega)) hNeedText, MTakes, bmTakes, fun s z us hl => match us, hl with | [_], _ => ⟨.of_eq rfl, .of_eq rfl⟩⟩
  have HLetters : HasP l.prog w K mg base 1 C "letters" (getSp C "_letters") := ⟨_, _, _, ⟨amLetters, pget, ptak, ⟨_, prec⟩⟩, fn_getter (k := 0) lmLetters cmLetters scLetters rfl rfl cM.cls n_letters, bmLetters⟩
  have HEq : HasM l.prog w K mg base 3 C "__eq__" ["other"] (spEq K C) := ⟨_, _, ok_eq (k := 1) FmEq M cM iM gMa HLetters (HRows.up (by omega)) (HKinds.up (by omega)), MEq, bmEq, fun s z us hl => match us, hl with | [_], _ => ⟨.of_eq rfl, .of_eq rfl⟩⟩
  have HRepr : HasR l.prog w K mg base 1 C "__repr__" (spRepr C) := ⟨_, _, ok_repr (k := 0) FmRepr cM, MRepr, bmRepr⟩
  have HInvert : HasM l.prog w K mg base 7 C "__invert__" [] (spInv C) := ⟨_, _, ok_invert (k := 5) FmInvert cM hInit, MInvert, bmInvert, fun s z us hl => match us, hl with | [], _ => ⟨.of_eq rfl, .of_eq rfl⟩⟩
  have hUnlike : Has l.prog w K mg base 3 "need_unlike_places" ["machine", "value"] (spUnlike K C) := has_of (ok_unlike (k := 1) FUnlike M hIsPlace HLen) gUnlike kUnlike bUnlike (fun s us hl => match us, hl with | [_, _], _ => ⟨.of_eq rfl, .of_eq rfl⟩)
  have hTurned : Has l.prog w K mg base 7 "turned" ["machine", "places"] (spTurned K C) := has_of (ok_turned (k := 5) FTurned M cM (hUnlike.up (by omega)) (HKinds.up (by omega)) (HRows.up (by omega)) (HLetters.up (by omega)) hInit) gTurned kTurned bTurned (fun s us hl => match us, hl with | [_, _], _ => ⟨.of_eq rfl, .of_eq rfl⟩)
  have hRedirX : HasX l.prog w K mg base 7 "redirected" ["machine", "place", "letter", "goal"] (spRedirX C cN) := ⟨_, _, ok_redir (k := 5) FRedir M cM (hIsPlace.up (by omega)) (HLen.up (by omega)) (HGoal.up (by omega)) (HKinds.up (by omega)) (HRows.up (by omega)) (HLetters.up (by omega)) hInitX, gRedir, kRedir, bRedir, fun s us hl => match us, hl with | [_, _, _, _], _ => ⟨.of_eq rfl, .of_eq rfl⟩⟩
  have hRedir : Has l.prog w K mg base 7 "redirected" ["machine", "place", "letter", "goal"] (spRedir C) := hRedirX.calm spRedir_X
  have hPot : Has l.prog w K mg base 1 "_law_pot" ["_law_script", "_law_k"] (spPot K) := has_of (ok_pot (k := 0) FPot M) gPot kPot bPot (fun s us hl => match us, hl with | [_, _], _ => ⟨.of_eq rfl, .of_eq rfl⟩)
  have hDraw : Has l.prog w K mg base 1 "_law_draw" ["_law_pot_here", "_law_size"] (spDraw []) := has_of (ok_draw [] (k := 0) FDraw M) gDraw kDraw bDraw (fun s us hl => match us, hl with | [_, _], _ => ⟨.of_eq rfl, .of_eq rfl⟩)
  have hPick : Has l.prog w K mg base 2 "_law_pick" ["_law_pot_here", "_law_pack"] (spPick []) := has_of (ok_pick [] (k := 1) FPick M hDraw) gPick kPick bPick (fun s us hl => match us, hl with | [_, _], _ => ⟨.of_eq rfl, .of_eq rfl⟩)
  have hLMet : Has l.prog w K mg base 1 "_law_met" ["_law_rows_here"] spLMet := has_of (ok_lmet (k := 0) FLMet M) gLMet kLMet bLMet (fun s us hl => match us, hl with | [_], _ => ⟨.of_eq rfl, .of_eq rfl⟩)
  have hLTurned : Has l.prog w K mg base 2 "_law_turned" ["_law_pot_here", "_law_rows_here"] (spLTurned []) := has_of (ok_lturned [] (k := 1) FLTurned M hDraw) gLTurned kLTurned bLTurned (fun s us hl => match us, hl with | [_, _], _ => ⟨.of_eq rfl, .of_eq rfl⟩)
  have hLRows : Has l.prog w K mg base 3 "_law_rows" ["_law_pot_here", "_law_signs_here", "_law_most"] (spLRows []) := has_of (ok_lrows [] (k := 2) FLRows M (hDraw.up (by omega)) (hLMet.up (by omega)) hLTurned) gLRows kLRows bLRows (fun s us hl => match us, hl with | [_, _, _], _ => ⟨.of_eq rfl, .of_eq rfl⟩)
  have hModel : Has l.prog w K mg base 4 "_law_model" ["_law_pot_here", "_law_signs_here", "_law_most"] (spModel []) := has_of (ok_model [] (k := 3) FModel M (hDraw.up (by omega)) hLRows) gModel kModel bModel (fun s us hl => match us, hl with | [_, _, _], _ => ⟨.of_eq rfl, .of_eq rfl⟩)
  have hLMachine : Has l.prog w K mg base 7 "_law_machine" ["_law_model_here"] (spLMachine C) := has_of (ok_lmachine (k := 5) FLMachine hInit) gLMachine kLMachine bLMachine (fun s us hl => match us, hl with | [_], _ => ⟨.of_eq rfl, .of_eq rfl⟩)
  have hSigns : Has l.prog w K mg base 3 "_law_signs" ["_law_pot_here"] (spSigns []) := has_of (ok_signs [] (k := 2) FSigns hPick) gSigns kSigns bSigns (fun s us hl => match us, hl with | [_], _ => ⟨.of_eq rfl, .of_eq rfl⟩)
  have hLTakes : Has l.prog w K mg base 1 "_law_takes" ["_law_model_here", "_law_text"] spLTakes := has_of (ok_ltakes (k := 0) FLTakes) gLTakes kLTakes bLTakes (fun s us hl => match us, hl with | [_, _], _ => ⟨.of_eq rfl, .of_eq rfl⟩)
  have hWords : Has l.prog w K mg base 1 "_law_words" ["_law_signs_here", "_law_most"] spWords := has_of (ok_words (k := 0) FWords M) gWords kWords bWords (fun s us hl => match us, hl with | [_, _], _ => ⟨.of_eq rfl, .of_eq rfl⟩)
  have hMixed : Has l.prog w K mg base 2 "_law_mixed" ["_law_pot_here", "_law_some"] (spMixed []) := has_of (ok_mixed [] (k := 1) FMixed M hDraw) gMixed kMixed bMixed (fun s us hl => match us, hl with | [_, _], _ => ⟨.of_eq rfl, .of_eq rfl⟩)
  have hTModel : Has l.prog w K mg base 1 "_law_turned_model" ["_law_model_here", "_law_spots"] spTModel := has_of (ok_tmodel (k := 0) FTModel M) gTModel kTModel bTModel (fun s us hl => match us, hl with | [_, _], _ => ⟨.of_eq rfl, .of_eq rfl⟩)
  have hSpots : Has l.prog w K mg base 9 "_law_spots_right" ["_law_pot_here", "_law_model_here", "_law_net"] (spSpots [] C) := has_of (ok_spots [] (k := 6) FSpots M cM iM cE (hDraw.up (by omega)) (hMixed.up (by omega)) (hTModel.up (by omega)) hLMachine hTurned (HEq.up (by omega)) (HRepr.up (by omega)) (hWords.up (by omega)) (hLTakes.up (by omega)) (HTakes.up (by omega)) (HKinds.up (by omega)) (HRows.up (by omega)) HInvert) gSpots kSpots bSpots (fun s us hl => match us, hl with | [_, _, _], _ => ⟨.of_eq rfl, .of_eq rfl⟩)
  have hLLed : Has l.prog w K mg base 8 "_law_led" ["_law_net", "_law_spot", "_law_sign", "_law_goal_now"] (spLLed C) := has_of (ok_lled (k := 7) FLLed hRedirX gN xNC) gLLed kLLed bLLed (fun s us hl => match us, hl with | [_, _, _, _], _ => ⟨.of_eq rfl, .of_eq rfl⟩)
  have hLedRight : Has l.prog w K mg base 9 "_law_led_right" ["_law_net", "_law_told", "_law_spot", "_law_sign", "_law_goals"] (spLedRight C) := has_of (ok_ledRight (k := 7) FLedRight M iM cE (HEq.up (by omega)) hRedir) gLedRight kLedRight bLedRight (fun s us hl => match us, hl with | [_, _, _, _, _], _ => ⟨.of_eq rfl, .of_eq rfl⟩)
  have hSteps : Has l.prog w K mg base 10 "_law_steps_right" ["_law_model_here", "_law_net"] (spSteps C) := has_of (ok_steps (k := 8) FSteps M iM cE (HEq.up (by omega)) (hInit.up (by omega)) (hLLed.up (by omega)) (hLMet.up (by omega)) hLedRight (hRedir.up (by omega))) gSteps kSteps bSteps (fun s us hl => match us, hl with | [_, _], _ => ⟨.of_eq rfl, .of_eq rfl⟩)
  have hGreat : Has l.prog w K mg base 11 "_law_great_right" ["_law_pot_here"] (spGreat []) := has_of (ok_great [] (k := 7) FGreat M iM cE (HEq.up (by omega)) (hInit.up (by omega)) (hDraw.up (by omega)) (hSigns.up (by omega)) (hLMachine.up (by omega)) hLLed (hLMet.up (by omega)) (hSpots.up (by omega))) gGreat kGreat bGreat (fun s us hl => match us, hl with | [_], _ => ⟨.of_eq rfl, .of_eq rfl⟩)
  have hRight : Has l.prog w K mg base 13 "_law_right" ["_law_pot_here"] (spRight []) := has_of (ok_right [] (k := 8) FRight M iM cE (HEq.up (by omega)) (hSigns.up (by omega)) (hModel.up (by omega)) (hLMachine.up (by omega)) hSteps (hSpots.up (by omega)) (hGreat.up (by omega))) gRight kRight bRight (fun s us hl => match us, hl with | [_], _ => ⟨.of_eq rfl, .of_eq rfl⟩)
  exact ok_law (k := 13) FLaw M hRight (hPot.up (by omega))
end LK

open PySem PySem.W PyProof.Rows
set_option maxHeartbeats 0 in
theorem PySem.Challenge.cw_missedparts_k74_whole_kinds_and_goals_tu_holds : PySem.Challenge.rw_missedparts_k74_whole_kinds_and_goals_tu.Holds := by
  w_on; o_law; k_head; (case hw => w_witness2)
  k_fill
  refine LK.walkG (l := PySem.Challenge.rw_missedparts_k74_whole_kinds_and_goals_tu) (n := 63) (k := 14) (sp := LK.spLaw) (x := "_law_script") rfl (by decide) rfl ⟨rfl, by decide, by decide⟩ (fun w h Y => PySem.W.kIn_of Y) ?F ?S
  case F =>
    intro w mg fa h KX G hmg
    refine' LK.all_mk KX G hmg ?aIsInt ?lIsInt ?cIsInt ?kIsInt ?aIsText ?lIsText ?cIsText ?kIsText ?aIsOver ?lIsOver ?cIsOver ?kIsOver ?aAreLet ?lAreLet ?cAreLet ?kAreLet ?aNeedText ?lNeedText ?cNeedText ?kNeedText ?aNeedParts ?lNeedParts ?cNeedParts ?kNeedParts ?aIsRow ?lIsRow ?cIsRow ?kIsRow ?aIsPlace ?lIsPlace ?cIsPlace ?kIsPlace ?aMetFrom ?lMetFrom ?cMetFrom ?kMetFrom ?aUnlike ?lUnlike ?cUnlike ?kUnlike ?aTurned ?lTurned ?cTurned ?kTurned ?aRedir ?lRedir ?cRedir ?kRedir ?aPot ?lPot ?cPot ?kPot ?aDraw ?lDraw ?cDraw ?kDraw ?aPick ?lPick ?cPick ?kPick ?aLMet ?lLMet ?cLMet ?kLMet ?aLTurned ?lLTurned ?cLTurned ?kLTurned ?aLRows ?lLRows ?cLRows ?kLRows ?aModel ?lModel ?cModel ?kModel ?aLMachine ?lLMachine ?cLMachine ?kLMachine ?aSigns ?lSigns ?cSigns ?kSigns ?aLTakes ?lLTakes ?cLTakes ?kLTakes ?aWords ?lWords ?cWords ?kWords ?aMixed ?lMixed ?cMixed ?kMixed ?aTModel ?lTModel ?cTModel ?kTModel ?aSpots ?lSpots ?cSpots ?kSpots ?aLLed ?lLLed ?cLLed ?kLLed ?aLedRight ?lLedRight ?cLedRight ?kLedRight ?aSteps ?lSteps ?cSteps ?kSteps ?aGreat ?lGreat ?cGreat ?kGreat ?aRight ?lRight ?cRight ?kRight ?aLaw ?lLaw ?cLaw ?kLaw ?nM ?amNeedPlace ?tmNeedPlace ?lmNeedPlace ?cmNeedPlace ?kmNeedPlace ?amRows ?tmRows ?lmRows ?cmRows ?kmRows ?amKinds ?tmKinds ?lmKinds ?cmKinds ?kmKinds ?amGoal ?tmGoal ?lmGoal ?cmGoal ?kmGoal ?amTakes ?tmTakes ?lmTakes ?cmTakes ?kmTakes ?amLen ?tmLen ?lmLen ?cmLen ?kmLen ?amEq ?tmEq ?lmEq ?cmEq ?kmEq ?amRepr ?tmRepr ?lmRepr ?cmRepr ?kmRepr ?amInvert ?tmInvert ?lmInvert ?cmInvert ?kmInvert ?amLed ?tmLed ?lmLed ?cmLed ?kmLed ?amInit ?tmInit ?lmInit ?cmInit ?kmInit ?amLetters ?pget ?ptak ?prec ?lmLetters ?cmLetters ?kmLetters ?nN ?amNC ?tmNC ?lmNC ?cmNC ?kmNC ?bNC ?dNC ?xNC ?cpg ?chd ?cpo ?csa ?n_letters ?n_rows ?n_kinds ?mmk ?mkp ?ene ?eob ?ica ?icn ?ict ?rrd ?rga ?vat ?gS ?gM ?z_tuple ?z_zip ?z_set ?z_bool ?z_any ?z_enumerate ?z_ve ?z_re ?z_ae ?z_len ?z_isi ?z_all ?z_str ?z_list ?z_sorted ?z_range ?z_sum ?z_repr ?z_int ?z_abs ?z_max ?z_min ?z_divmod
    (case aIsInt => k_is)
    (case lIsInt => k_is)
    (case cIsInt => k_is)
    (case kIsInt => k_is)
    (case aIsText => k_is)
    (case lIsText => k_is)
    (case cIsText => k_is)
    (case kIsText => k_is)
    (case aIsOver => k_is)
    (case lIsOver => k_is)
    (case cIsOver => k_is)
    (case kIsOver => k_is)
    (case aAreLet => k_is)
    (case lAreLet => k_is)
    (case cAreLet => k_is)
    (case kAreLet => k_is)
    (case aNeedText => k_is)
    (case lNeedText => k_is)
    (case cNeedText => k_is)
    (case kNeedText => k_is)
    (case aNeedParts => k_is)
    (case lNeedParts => k_is)
    (case cNeedParts => k_is)
    (case kNeedParts => k_is)
    (case aIsRow => k_is)
    (case lIsRow => k_is)
    (case cIsRow => k_is)
    (case kIsRow => k_is)
    (case aIsPlace => k_is)
    (case lIsPlace => k_is)
    (case cIsPlace => k_is)
    (case kIsPlace => k_is)
    (case aMetFrom => k_is)
    (case lMetFrom => k_is)
    (case cMetFrom => k_is)
    (case kMetFrom => k_is)
    (case aUnlike => k_is)
    (case lUnlike => k_is)
    (case cUnlike => k_is)
    (case kUnlike => k_is)
    (case aTurned => k_is)
    (case lTurned => k_is)
    (case cTurned => k_is)
    (case kTurned => k_is)
    (case aRedir => k_is)
    (case lRedir => k_is)
    (case cRedir => k_is)
    (case kRedir => k_is)
    (case aPot => k_is)
    (case lPot => k_is)
    (case cPot => k_is)
    (case kPot => k_is)
    (case aDraw => k_is)
    (case lDraw => k_is)
    (case cDraw => k_is)
    (case kDraw => k_is)
    (case aPick => k_is)
    (case lPick => k_is)
    (case cPick => k_is)
    (case kPick => k_is)
    (case aLMet => k_is)
    (case lLMet => k_is)
    (case cLMet => k_is)
    (case kLMet => k_is)
    (case aLTurned => k_is)
    (case lLTurned => k_is)
    (case cLTurned => k_is)
    (case kLTurned => k_is)
    (case aLRows => k_is)
    (case lLRows => k_is)
    (case cLRows => k_is)
    (case kLRows => k_is)
    (case aModel => k_is)
    (case lModel => k_is)
    (case cModel => k_is)
    (case kModel => k_is)
    (case aLMachine => k_is)
    (case lLMachine => k_is)
    (case cLMachine => k_is)
    (case kLMachine => k_is)
    (case aSigns => k_is)
    (case lSigns => k_is)
    (case cSigns => k_is)
    (case kSigns => k_is)
    (case aLTakes => k_is)
    (case lLTakes => k_is)
    (case cLTakes => k_is)
    (case kLTakes => k_is)
    (case aWords => k_is)
    (case lWords => k_is)
    (case cWords => k_is)
    (case kWords => k_is)
    (case aMixed => k_is)
    (case lMixed => k_is)
    (case cMixed => k_is)
    (case kMixed => k_is)
    (case aTModel => k_is)
    (case lTModel => k_is)
    (case cTModel => k_is)
    (case kTModel => k_is)
    (case aSpots => k_is)
    (case lSpots => k_is)
    (case cSpots => k_is)
    (case kSpots => k_is)
    (case aLLed => k_is)
    (case lLLed => k_is)
    (case cLLed => k_is)
    (case kLLed => k_is)
    (case aLedRight => k_is)
    (case lLedRight => k_is)
    (case cLedRight => k_is)
    (case kLedRight => k_is)
    (case aSteps => k_is)
    (case lSteps => k_is)
    (case cSteps => k_is)
    (case kSteps => k_is)
    (case aGreat => k_is)
    (case lGreat => k_is)
    (case cGreat => k_is)
    (case kGreat => k_is)
    (case aRight => k_is)
    (case lRight => k_is)
    (case cRight => k_is)
    (case kRight => k_is)
    (case aLaw => k_is)
    (case lLaw => k_is)
    (case cLaw => k_is)
    (case kLaw => k_is)
    (case nM => k_is)
    (case amNeedPlace => k_is)
    (case tmNeedPlace => k_is)
    (case lmNeedPlace => k_is)
    (case cmNeedPlace => k_is)
    (case kmNeedPlace => k_is)
    (case amRows => k_is)
    (case tmRows => k_is)
    (case lmRows => k_is)
    (case cmRows => k_is)
    (case kmRows => k_is)
    (case amKinds => k_is)
    (case tmKinds => k_is)
    (case lmKinds => k_is)
    (case cmKinds => k_is)
    (case kmKinds => k_is)
    (case amGoal => k_is)
    (case tmGoal => k_is)
    (case lmGoal => k_is)
    (case cmGoal => k_is)
    (case kmGoal => k_is)
    (case amTakes => k_is)
    (case tmTakes => k_is)
    (case lmTakes => k_is)
    (case cmTakes => k_is)
    (case kmTakes => k_is)
    (case amLen => k_is)
    (case tmLen => k_is)
    (case lmLen => k_is)
    (case cmLen => k_is)
    (case kmLen => k_is)
    (case amEq => k_is)
    (case tmEq => k_is)
    (case lmEq => k_is)
    (case cmEq => k_is)
    (case kmEq => k_is)
    (case amRepr => k_is)
    (case tmRepr => k_is)
    (case lmRepr => k_is)
    (case cmRepr => k_is)
    (case kmRepr => k_is)
    (case amInvert => k_is)
    (case tmInvert => k_is)
    (case lmInvert => k_is)
    (case cmInvert => k_is)
    (case kmInvert => k_is)
    (case amLed => k_is)
    (case tmLed => k_is)
    (case lmLed => k_is)
    (case cmLed => k_is)
    (case kmLed => k_is)
    (case amInit => k_is)
    (case tmInit => k_is)
    (case lmInit => k_is)
    (case cmInit => k_is)
    (case kmInit => k_is)
    (case amLetters => k_is)
    (case pget => k_is)
    (case ptak => k_is)
    (case prec => k_is)
    (case lmLetters => k_is)
    (case cmLetters => k_is)
    (case kmLetters => k_is)
    (case nN => k_is)
    (case amNC => k_is)
    (case tmNC => k_is)
    (case lmNC => k_is)
    (case cmNC => k_is)
    (case kmNC => k_is)
    (case bNC => first | rfl | kernel_rfl | k_is)
    (case dNC => first | rfl | kernel_rfl | k_is)
    (case xNC => first | rfl | kernel_rfl | k_is)
    (case cpg => first | rfl | kernel_rfl | k_is)
    (case chd => first | rfl | kernel_rfl | k_is)
    (case cpo => first | rfl | kernel_rfl | k_is)
    (case csa => first | rfl | kernel_rfl | k_is)
    (case n_letters => first | rfl | kernel_rfl | k_is)
    (case n_rows => first | rfl | kernel_rfl | k_is)
    (case n_kinds => first | rfl | kernel_rfl | k_is)
    (case mmk => first | rfl | kernel_rfl | k_is)
    (case mkp => first | rfl | kernel_rfl | k_is)
    (case ene => first | rfl | kernel_rfl | k_is)
    (case eob => first | rfl | kernel_rfl | k_is)
    (case ica => first | rfl | kernel_rfl | k_is)
    (case icn => first | rfl | kernel_rfl | k_is)
    (case ict => first | rfl | kernel_rfl | k_is)
    (case rrd => first | rfl | kernel_rfl | k_is)
    (case rga => first | rfl | kernel_rfl | k_is)
    (case vat => k_is)
    (case gS => k_is)
    (case gM => k_is)
    (case z_tuple => k_is)
    (case z_zip => k_is)
    (case z_set => k_is)
    (case z_bool => k_is)
    (case z_any => k_is)
    (case z_enumerate => k_is)
    (case z_ve => k_is)
    (case z_re => k_is)
    (case z_ae => k_is)
    (case z_len => k_is)
    (case z_isi => k_is)
    (case z_all => k_is)
    (case z_str => k_is)
    (case z_list => k_is)
    (case z_sorted => k_is)
    (case z_range => k_is)
    (case z_sum => k_is)
    (case z_repr => k_is)
    (case z_int => k_is)
    (case z_abs => k_is)
    (case z_max => k_is)
    (case z_min => k_is)
    (case z_divmod => k_is)
  case S =>
    intro K H a ns hl _ hs
    exact ⟨a, ns, rfl, hs, hl, fun _ => rfl⟩
