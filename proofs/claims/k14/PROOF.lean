import PyProof.Rows.All
import Wide.All
import OpenK.AllK
import Wide.FinOn
import HandS.ForMost
import HandS.Defaults
import HandS.StrMore
import HandS.SortKw
import HandS.Conv
import HandS.Style
import HandS.Small
import HandS.TupLe
import HandS.IsInst
import HandS.More
import HandS.Lambda
import KE.SortKeyHeap
import KE.KLam
import HandS.Iter
import HandS.Comp
import HandS.Words
import KE.KDictList
import HandS.ListItems
import OpenK.KMore
import HandS.ExcInit
import HandS.ExcIs
import HandS.ExcField
import KE.KExcInit
import KE.KExcIs
import HandS.ExcOwn
import HandS.ExcValue
import HandS.Dict
import PyProof.RowDictHeap
import HandS.Text
import HandS.SlotsOwn
import HandS.Property
import HandS.ClsMeth
import HandS.FStr
import HandS.SetTxt0
import HandS.Set
import PyProof.Rows.SetFrom
import PyProof.StrLawsFrom
import PyProof.ListStr
import KE.GoesZip
import HandS.Zip
import KE.GoesMore
import HandS.Replace
import PyProof.Rows.StrLawsPart
import HandS.EndTab
import KE.KNestM
import HandS.Call
import PySem.Challenge.RW_missedparts_k14_whole_machines_told
set_option Elab.async false
set_option linter.all false
set_option maxRecDepth 100000
set_option maxHeartbeats 4000000
/-! A promise of a def that is asked only where no repr of a container is under way (guards = []): the same as FnOk, one premise more. -/
namespace LK
open PySem PySem.Spec PyProof.Rows L2

structure FnG (P : Program) (w : World) (K : PySem.W.Frag) (mg : Str → Option Value) (base : Heap) (CX : CXT)
    (k : Nat) (f : Addr) (fd : FuncData) (ps : List Str) (sp : Sp) : Prop where
  len : ∀ vs H Q E, sp vs H Q E → vs.length = ps.length
  run : ∀ (A : Around), A.guards = some [] → ∀ (outer : List Env) (s : Shared) (H : Hp) (args : Args)
    (us : List Value) (vs : List V) (Q : VK) (E : XK), Room k A → Env0 P w K mg base A outer s H →
    BindsTo s fd args (ps.zip us) → Vals vs us → sp vs H Q E →
    codeAny (model P w) A (.call (.ref f) args) (CR CX outer P w H s Q E) s

section
variable {P : Program} {w : World} {K : PySem.W.Frag} {mg : Str → Option Value} {base : Heap} {CX : CXT}

theorem FnG.of {k : Nat} {f : Addr} {fd : FuncData} {ps : List Str} {sp : Sp}
    (F : FnOk P w K mg base CX k f fd ps sp) : FnG P w K mg base CX k f fd ps sp :=
  ⟨F.len, fun A _ outer s H args us vs Q E => F.run A outer s H args us vs Q E⟩

theorem FnG.up {j k : Nat} {f : Addr} {fd : FuncData} {ps : List Str} {sp : Sp}
    (F : FnG P w K mg base CX j f fd ps sp) (h : j ≤ k) : FnG P w K mg base CX k f fd ps sp :=
  ⟨F.len, fun A g outer s H args us vs Q E r => F.run A g outer s H args us vs Q E (r.mono h)⟩

/-- THE RULE of a def's body where no repr runs around it -/
theorem fnG_of {k : Nat} {f : Addr} {nm q : Str} {pa : Arguments} {bd : List Stmt} {sc : Scope} {dV kV dc pm cd ct oc : Value}
    {an od : Option Addr} {sl : Array (Option Value)} {N ps : List Str} {sp : Sp}
    (lk : K.lookup f = some ⟨oc, od, .func (PySem.W.fnOf nm q pa bd sc dV kV dc pm an cd ct), sl⟩)
    (hc : PySem.W.codeIn K cd q = true) (S : FnScope N ps sc) (len : ∀ vs H Q E, sp vs H Q E → vs.length = ps.length)
    (hb : ∀ (A : Around), A.guards = some [] → ∀ (outer : List Env) (s : Shared) (H : Hp) (vs : List V) (Q : VK) (E : XK),
      Room k (A.deeper (envOfC q sc s.heap.objs.size f cd)) → sp vs H Q E →
      ∃ t, PSs (cxOf CX P w K mg base N q sc f cd A outer s H E) bd t ∧
        t { nx := fun _ H' => Q .non H', rt := Q } (start N vs) H) :
    FnG P w K mg base CX (k + 1) f (PySem.W.fnOf nm q pa bd sc dV kV dc pm an cd ct) ps sp where
  len := len
  run := by
    intro A hA outer s H args us vs Q E hr e0 bnd rel hs
    have inB : ∀ b o, base.get? b = some o → s.heap.get? b = some o := fun b o e => (e0.bs b o e).1
    have kin : K.In s.heap := e0.mod.kin.keeps inB
    have kd : ∀ y ∈ ps.zip us, sc.names.lookup y.1 = some .local ∨ (sc.names.lookup y.1 = some .cell ∧
        ((cellsFrom (s.heap.objs.size + 1) sc.names []).lookup y.1).isSome = true) := by
      intro y hy
      rcases S.par y.1 (List.of_mem_zip (a := y.1) (b := y.2) hy).1 with z | z
      · exact .inl z
      · exact .inr ⟨z, PySem.W.cellsFrom_some _ _ _ (.inl z)⟩
    refine codeAny_call_function hr.depth (kin _ _ lk) rfl S.co S.gen rfl (PySem.W.codeRec_of kin hc) (bnd _ _ _ _ ?_)
    refine wpAny_newFunctionEnv_cells S.kind kd ?_
    intro env he s1 inC
    subst he
    refine ⟨(e0.mod.nolimit.keeps inB).keeps inC.toInCall.keep, codeAny_func ?_⟩
    obtain ⟨t, ht, hq⟩ := hb A hA outer s H vs Q E (hr.deeper _) hs
    have I0 := inv_start (CX := CX) (mg := mg) (E := E) S hr.hd e0 (len _ _ _ _ hs) rel inC
    refine wpAny_mono (ht.run [] s1 (start N vs) H _ I0 hq) ?_ (fun _ _ z => z)
    intro fl s' z
    have fin : ∀ (σ' : L2.St) (H' : Hp) (v : V) (u : Value),
        Inv (cxOf CX P w K mg base N q sc f cd A outer s H E) [] σ' H' s' → L2.RelV v u → Q v H' → CE outer P w H s Q u s' :=
      fun _ H' v _ J rv y => ⟨v, H', J.os, J.bare, J.base, J.hok, rv, y⟩
    match fl, z with
    | .ret u, z => obtain ⟨v, σ', H', J, rv, y⟩ := z; exact fin σ' H' v u J rv y
    | .next, z => obtain ⟨σ', H', J, y⟩ := z; exact fin σ' H' V.non Value.none J rfl y
    | .brk, z => obtain ⟨_, _, _, y⟩ := z; exact y.elim
    | .cont, z => obtain ⟨_, _, _, y⟩ := z; exact y.elim
end

theorem guards_of_cx {CX : CXT} {P : Program} {w : World} {K : PySem.W.Frag} {mg : Str → Option Value} {base : Heap} {N : List Str} {q : Str} {sc : Scope} {f : Addr} {cd : Value} {A : Around} {outer : List Env} {s : Shared} {H : Hp} {E : XK}
    (h : A.guards = some []) : (cxOf CX P w K mg base N q sc f cd A outer s H E).A.guards = some [] := h

section
variable {P : Program} {w : World} {K : PySem.W.Frag} {mg : Str → Option Value} {base : Heap}
/-- .. for a def as the top has written it; no exception leaves it -/
theorem okG {x q : Str} {st : Stmt} {f : Addr} {fd : FuncData} {N ps : List Str} {k : Nat} {sp : Sp} (F : Fun K x q st f fd)
    (S : FnScope N ps (defScope st)) (len : ∀ vs H Q E, sp vs H Q E → vs.length = ps.length)
    (hb : ∀ (cd : Value) (A : Around), A.guards = some [] → ∀ (outer : List Env) (s : Shared) (H : Hp) (vs : List V) (Q : VK) (E : XK),
      Room k (A.deeper (envOfC q (defScope st) s.heap.objs.size f cd)) → sp vs H Q E →
      ∃ t, PSs (cxOf CX0 P w K mg base N q (defScope st) f cd A outer s H E).nox (defBody st) t ∧
        t { nx := fun _ H' => Q .non H', rt := Q } (start N vs) H) : FnG P w K mg base CX0 (k + 1) f fd ps sp := by
  obtain ⟨oc, od, kV, dc, pm, an, cd, ct, sl, rfl, lk, hc⟩ := F.ex
  refine fnG_of lk hc S len ?_
  intro A hA outer s H vs Q E hr hs
  obtain ⟨t, h, z⟩ := hb cd A hA outer s H vs Q E hr hs
  exact ⟨t, h.nox, z⟩
end

section
variable {X : Cx} {CX : CXT} {k : Nat} {f : Addr} {fd : FuncData} {ps ks : List Str} {sp : Sp} {E : XK} {x : Str} {p pos : Pos}
  {e : Expr} {es : List Expr} {kws : List Keyword} {t tk : TA}

theorem runG {pins : List (Addr × Obj)} {σ : L2.St} {H : Hp} {s : Shared} {Q : VK} {us ws : List Value} {kw : List (Str × Value)} {vs : List V}
    (F : FnG X.prog X.w X.K X.mg X.base CX k f fd ps sp) (hA : X.A.guards = some []) (hr : Room k X.A) (hx : Passes CX X E)
    (I : Inv X pins σ H s) (b : ws.length = ps.length → BindsTo s fd ⟨us, kw⟩ (ps.zip ws)) (r : L2.Vals vs ws) (h : sp vs H Q E) :
    wpAny (model X.prog X.w) X.A (call (.ref f) us kw) (EP X pins σ Q) X.xe s := by
  have hl : ws.length = ps.length := by rw [← r.length]; exact F.len _ _ _ _ h
  refine wpAny_call (codeAny_mono (F.run X.A hA X.stack s H ⟨us, kw⟩ ws vs Q E hr I.env0 (b hl) r h) ?_)
  intro r s' z
  match r, z with
  | .error e, z => exact hx pins σ H s e s' I z
  | .ok (.ret u), z => exact I.after z
  | .ok .next, z => exact z
  | .ok .brk, z => exact z
  | .ok .cont, z => exact z

/-- f(e, ..) -/
theorem pe_callG (F : FnG X.prog X.w X.K X.mg X.base CX k f fd ps sp) (hA : X.A.guards = some []) (hr : Room k X.A) (hg : Gl X x)
    (hm : X.mg x = some (.ref f)) (hk : PySem.W.keepIn X.K (.ref f) = true) (hb : Binds X.K fd ps []) (hx : Passes CX X E) (ha : PA X (e :: es) t)
    (hdb : (x == ("__debug__" : Str)) = false := by decide) (he : starEach (e :: es) X.env = (false, eval e X.env) :: starEach es X.env := by rfl)
    (hpl : (backTo pos (starEach es X.env)).any (·.1) = false := by rfl) :
    PE X (.Call (.Name x p) (e :: es) [] pos) (tCall sp [] E t) := by
  constructor
  intro pins s σ H Q I h
  refine wpAny_Call_Name_kw (ld_glob I hg hm ?_ hdb)
  refine PySem.W.callWith_K (h₀ := X.base) I.ok.mod.kin hk (thn (ha.run pos pins s σ H _ I h) ?_) he hpl
  intro us s1 z
  obtain ⟨vs, H1, I1, r1, q1⟩ := z
  have q : sp (vs ++ []) H1 Q E := q1
  rw [List.append_nil] at q
  refine ⟨I1.kIn, runG (ws := us) F hA hr hx I1 (fun hl => ?_) r1 q⟩
  have b := hb s1 us I1.kIn (by rw [List.append_nil]; exact hl)
  rw [List.append_nil] at b
  exact b
end

/-! ### the law's own call -/
theorem lawG {P : Program} {w : World} {K : PySem.W.Frag} {mg mb : Str → Option Value} {k : Nat} {fa a : Addr} {fd : FuncData} {x : Str} {sp : Sp} {s1 : Shared} {vs : List Value} {ns : List Int}
    (KX : K.In s1.heap) (g1 : s1.heap.Ns mainGlobals mg) (g2 : s1.heap.Ns builtinsNs mb) (g3 : ∀ x : Str, x ≠ "__name__" → mb x = bootBuiltins x)
    (lim : s1.heap.NoLimit) (gens : s1.gens = #[]) (ha : s1.heap.get? a = some { cls := .type "list", data := .seq vs.toArray })
    (hi : IntsAre vs ns) (hl : ns.length ≤ sizeLine) (hr : Room k callerA)
    (F : ∀ base : Heap, K.In base → base.Ns mainGlobals mg → FnG P w K mg base CX0 k fa fd [x] sp)
    (bnd : ∀ (s : Shared) (u : Value), BindsTo s fd ⟨[u], []⟩ [(x, u)])
    (hsp : ∀ H : Hp, Only H → SqL K H a (ns.map V.int) → sp [.ref a] H (fun v _ => v = .bl true) E0) :
    codeAny (model P w) callerA (.call (.ref fa) ⟨[.ref a], []⟩)
      (fun r s' => r = .ok (.ret (.bool true)) ∧ PySem.OldK s1.heap s'.heap ∧ s'.os = s1.os ∧ AllBare s'.gens) s1 := by
  have rv : L2.Vals (ns.map V.int) vs := vals_ints hi
  let scr : HO := .frz { cls := .type "list", data := .seq vs.toArray } (.lst (ns.map V.int))
  -- what is tracked: the script, unless it is an object of the module
  let H : Hp := fun b => if b = a ∧ K.lookup a = none then some scr else none
  have hH : ∀ b u, H b = some u → b = a ∧ K.lookup a = none ∧ u = scr := by
    intro b u e
    by_cases c : b = a ∧ K.lookup a = none
    · have e2 : some scr = some u := (if_pos c).symm.trans e
      exact ⟨c.1, c.2, (Option.some.inj e2).symm⟩
    · have e2 : (none : Option HO) = some u := (if_neg c).symm.trans e
      cases e2
  have sizes : (ns.map V.int).length ≤ sizeLine := by rw [List.length_map]; exact hl
  have only : Only H := fun b => by
    by_cases c : b = a ∧ K.lookup a = none
    · exact .inr ⟨_, _, if_pos c⟩
    · exact .inl (if_neg c)
  have okH : HOk P w H s1.heap := by
    intro b u e
    obtain ⟨rfl, _, rfl⟩ := hH b u e
    exact ⟨ha, sizes, vs, _, rv, ha⟩
  have sq : SqL K H a (ns.map V.int) := by
    cases e : K.lookup a with
    | none => exact .inl (.inr ⟨_, if_pos ⟨rfl, e⟩⟩)
    | some o =>
      have z := KX a o e
      rw [ha] at z; cases z
      exact .inr ⟨_, vs.toArray, _, e, rfl, rfl, rfl, by rw [List.size_toArray, ← rv.length]; exact sizes, by simpa using rv⟩
  have free : ∀ (b : Addr) (o : Obj), s1.heap.get? b = some o → (∀ es ep, o.data = .dict es ep → H b = none) := by
    intro b o e es ep d
    cases q : H b with
    | none => rfl
    | some u =>
      obtain ⟨rfl, _, _⟩ := hH b u q
      rw [ha] at e; cases e; cases d
  have ns_ : ∀ {b : Addr} {m : Str → Option Value}, s1.heap.Ns b m → (hidT s1.heap H).Ns b m := by
    intro b m z
    obtain ⟨o, es, ep, e, d, r⟩ := z
    exact ⟨o, es, ep, hidT_get e (free b o e es ep d), d, r⟩
  have kin : K.In (hidT s1.heap H) := by
    intro b o e
    refine hidT_get (KX b o e) ?_
    cases q : H b with
    | none => rfl
    | some u =>
      obtain ⟨rfl, n, _⟩ := hH b u q
      rw [n] at e; cases e
  have e0 : Env0 P w K mg (hidT s1.heap H) callerA [] s1 H :=
    ⟨rfl, ⟨kin, ns_ g1, ⟨mb, ns_ g2, g3⟩, (by obtain ⟨mc, p, q⟩ := lim; exact ⟨mc, ns_ p, q⟩)⟩, fun b o e => of_hidT e,
      Nat.le_of_eq (hidT_size _ _), trivial, (fun b hb => absurd (show b ∈ ([] : List Addr) from hb) (fun y => nomatch y)), okH, .of_eq gens⟩
  refine codeAny_mono ((F _ kin (ns_ g1)).run callerA rfl [] s1 H ⟨[.ref a], []⟩ [.ref a] [.ref a] _ _ hr e0 (bnd s1 (.ref a)) (.cons rfl .nil) (hsp H only sq)) ?_
  intro r s' z
  match r, z with
  | .error _, z => exact z.elim
  | .ok .next, z => exact z.elim
  | .ok .brk, z => exact z.elim
  | .ok .cont, z => exact z.elim
  | .ok (.ret u), z =>
    obtain ⟨v, H', os, bare, un, ok', rv', q⟩ := z
    obtain rfl : v = .bl true := q
    obtain rfl : u = Value.bool true := rv'
    refine ⟨rfl, PySem.OldK.of_keep fun b o e => ?_, os, bare⟩
    cases q : H b with
    | none => exact un.keep b o e q (fun y => absurd (show b ∈ ([] : List Addr) from y) (fun y => nomatch y)) (fun y => nomatch y)
    | some y =>
      have q2 := q
      obtain ⟨rfl, _, rfl⟩ := hH b y q
      have z2 := un.frzs _ _ _ q2
      rw [ha] at e; cases e
      exact (ok' _ _ z2).1

theorem walkG {l : PySem.W.OpenLaw} {n k : Nat} {q : Program} {loose : List Str} {XP : (Str → Option Value) → Heap → Prop} {YP : World → Heap → Prop} {d : DefRec} {K : Params → PySem.W.Frag} {sp : PySem.W.Frag → Sp} {x : Str}
    (hn : l.most = some n) (hn2 : n ≤ sizeLine) (hdf : d.params.defaults = []) (hr : Room k callerA) (hY : ∀ (w : World) (h : Heap), YP w h → (K w.params).In h)
    (F : ∀ (w : World) (mg : Str → Option Value) (fa : Addr) (h : Heap), (K w.params).In h → h.Ns mainGlobals mg → mg d.name = some (.ref fa) →
      ∃ fd : FuncData, (∀ (s : Shared) (u : Value), BindsTo s fd ⟨[u], []⟩ [(x, u)]) ∧
        ∀ base : Heap, (K w.params).In base → base.Ns mainGlobals mg → FnG l.prog w (K w.params) mg base CX0 k fa fd [x] (sp (K w.params)))
    (hsp : ∀ (K : PySem.W.Frag) (H : Hp) (a : Addr) (ns : List Int), ns.length ≤ n → Only H → SqL K H a (ns.map V.int) → sp K [.ref a] H (fun v _ => v = .bl true) E0) :
    PySem.W.WalkO q loose XP YP l.row.toRowW d [] (fun f vs => PySem.call f vs) := by
  refine Att.attach_call hn hdf ?_
  intro w s0 s1 mg mb fa o pm cd doc a vs ns G Y ho hd hcd hmg hobj hints hlen hg
  have kin := hY w _ Y
  obtain ⟨fd, hb, hF⟩ := F w mg fa _ kin G.T.g hmg
  exact lawG kin G.T.g G.T.b G.T.builtins G.T.nolimit hg hobj hints (Nat.le_trans hlen hn2) hr hF hb (fun H hO hS => hsp _ H a ns hlen hO hS)
end LK

/-! Readings that compute: by the shape of the values, texts by their codes. -/
namespace LK
open PySem PySem.Spec PyProof.Rows L2

/-- a text by its codes -/
def T (l : List Nat) : Str := ⟨l.toArray⟩
theorem T_cps (l : List Nat) : (T l).cps.toList = l := rfl
theorem T_size (l : List Nat) : (T l).cps.size = l.length := rfl
theorem T_len (l : List Nat) : (T l).length = l.length := rfl
theorem T_of (x : Str) : T x.cps.toList = x := rfl
theorem T_inj {a b : List Nat} (h : T a = T b) : a = b := by
  have := congrArg (fun x => x.cps.toList) h
  exact this
theorem T_iff {a b : List Nat} : T a = T b ↔ a = b := ⟨T_inj, fun h => h ▸ rfl⟩
theorem T_add (a b : List Nat) : T a ++ T b = T (a ++ b) := by
  show (⟨a.toArray ++ b.toArray⟩ : Str) = ⟨(a ++ b).toArray⟩
  simp
/-- the codes of a text -/
def cs (x : Str) : List Nat := x.cps.toList
@[simp] theorem cs_T (l : List Nat) : cs (T l) = l := rfl
theorem T_cs (x : Str) : T (cs x) = x := rfl
theorem cs_len (x : Str) : x.length = (cs x).length := rfl

section
variable {X : Cx} {e a b : Expr} {t t' ta tb tc : TE} {pos : Pos}

theorem PE.imp (h : PE X e t) (w : ∀ σ H Q, t' σ H Q → t σ H Q) : PE X e t' :=
  ⟨fun pins s σ H Q I q => h.run pins s σ H Q I (w σ H Q q)⟩
theorem PT.imp {t t' : TT} (h : PT X e t) (w : ∀ σ H Q, t' σ H Q → t σ H Q) : PT X e t' :=
  ⟨fun pins s σ H Q I q => h.run pins s σ H Q I (w σ H Q q)⟩
theorem PW.imp {t t' : TT} (h : PW X e t) (w : ∀ σ H Q, t' σ H Q → t σ H Q) : PW X e t' :=
  ⟨fun wh pins s σ H Q I q => h.run wh pins s σ H Q I (w σ H Q q)⟩
theorem PS.imp {st : Stmt} {t t' : TS} (h : PS X st t) (w : ∀ D σ H, t' D σ H → t D σ H) : PS X st t' :=
  ⟨fun pins s σ H D I q => h.run pins s σ H D I (w D σ H q)⟩
theorem PI.imp {tg : Expr} {t t' : TI} (h : PI X tg e t) (w : ∀ σ H Q, t' σ H Q → t σ H Q) : PI X tg e t' := by
  obtain ⟨r⟩ := h
  exact ⟨fun pins s σ H R I q => r pins s σ H R I (w σ H R q)⟩
theorem OpR.imp {f : Value → Value → Sem Value} {r r' : R2} (h : OpR X f r) (w : ∀ x y H Q, r' x y H Q → r x y H Q) : OpR X f r' :=
  fun pins s σ H x y v u Q I rx ry q => h pins s σ H x y v u Q I rx ry (w x y H Q q)
theorem CallR.imp {f : Value} {r r' : List V → Hp → VK → Prop} (h : CallR X f r) (w : ∀ vs H Q, r' vs H Q → r vs H Q) : CallR X f r' :=
  fun pins s σ H vs us Q I rv q => h pins s σ H vs us Q I rv (w vs H Q q)
theorem IxR.imp {r r' : R2} (h : IxR X r) (w : ∀ x y H Q, r' x y H Q → r x y H Q) : IxR X r' := by
  intro value slice pins s σ H x y v u Q I rx ry q hs
  exact h value slice pins s σ H x y v u Q I rx ry (w x y H Q q) hs

/-! names, constants -/
def uVar (i : Nat) : TE := fun σ H Q => match σ[i]? with | some (some v) => Q v H | _ => False
theorem uv (i : Nat) {x : Str} (hN : X.N[i]? = some x := by rfl)
    (hv : Vis X.env.scope x := by first | exact Or.inl rfl | exact Or.inr (Or.inl rfl) | exact Or.inr (Or.inr rfl))
    (hd : (x == ("__debug__" : Str)) = false := by decide) (hcd : (x == ("__classdict__" : Str)) = false := by decide) :
    PE X (.Name x pos) (uVar i) := by
  refine PE.imp (pe_var hN hv hd hcd) fun σ H Q h => ?_
  unfold uVar at h
  split at h
  · rename_i v e; exact ⟨v, e, h⟩
  · exact h.elim
theorem ustr (l : List Nat) {x : Str} {j : Nat} {pos : Pos} (h : x = T l := by decide +kernel) : PE X (.Constant (.str x) j pos) (tC (.str (T l))) := by
  subst h; exact pe_str

/-! operators -/
def rAddU : R2 := fun x y H Q => match x, y with
  | .int i, .int j => Q (.int (i + j)) H
  | .str a, .str b => (cs a).length + (cs b).length ≤ sizeLine ∧ Q (.str (T (cs a ++ cs b))) H
  | .ref l, .ref b => ∃ xs ys, H l = some (.lst xs) ∧ H b = some (.lst ys) ∧ xs.length + ys.length ≤ sizeLine ∧
      ∀ p, H p = none → Q (.ref p) (upd H p (.lst (xs ++ ys)))
  | _, _ => False
theorem o_add : OpR X (binaryOp .Add) rAddU := by
  refine OpR.imp (op_add.or (op_add_str.or op_cat)) fun x y H Q h => ?_
  unfold rAddU at h
  split at h
  · exact .inl ⟨_, _, rfl, rfl, h⟩
  · rename_i a b
    refine .inr (.inl ⟨a, b, rfl, rfl, h.1, ?_⟩)
    have e : a ++ b = T (cs a ++ cs b) := T_add (cs a) (cs b)
    rw [e]; exact h.2
  · rename_i l b
    obtain ⟨xs, ys, h1, h2, h3, h4⟩ := h
    exact .inr (.inr ⟨l, b, xs, ys, rfl, rfl, h1, h2, h3, h4⟩)
  · exact h.elim
def rSubU : R2 := fun x y H Q => match x, y with
  | .int i, .int j => Q (.int (i - j)) H
  | _, _ => False
theorem o_sub : OpR X (binaryOp .Sub) rSubU := by
  refine OpR.imp op_sub fun x y H Q h => ?_
  unfold rSubU at h
  split at h
  · exact ⟨_, _, rfl, rfl, h⟩
  · exact h.elim
theorem mul_codes (z : Str) (n : Int) : Txt.mul z n = T (List.replicate n.toNat (cs z)).flatten := by
  have fold : ∀ (k : Nat) (acc : Array Nat), (List.replicate k z.cps).foldl (· ++ ·) acc = acc ++ (List.replicate k (cs z)).flatten.toArray := by
    intro k
    induction k with
    | zero => intro acc; simp
    | succ k ih =>
      intro acc
      rw [List.replicate_succ, List.foldl_cons, ih, List.replicate_succ, List.flatten_cons]
      apply Array.ext'
      simp [cs]
  unfold Txt.mul
  split
  · rename_i h
    have : n.toNat = 0 := by omega
    rw [this]; rfl
  · split
    · rename_i h1 h2
      rw [Bool.or_eq_true, beq_iff_eq, beq_iff_eq] at h2
      rcases h2 with h2 | h2
      · subst h2
        show z = T ((List.replicate 1 (cs z)).flatten)
        simp [T_cs]
      · have e : cs z = [] := List.eq_nil_of_length_eq_zero h2
        have e2 : z = T [] := by rw [← T_cs z, e]
        rw [e, e2]
        congr 1
        induction n.toNat with
        | zero => rfl
        | succ k ih => rw [List.replicate_succ, List.flatten_cons, ← ih]; rfl
    · show (⟨(List.replicate n.toNat z.cps).foldl (· ++ ·) #[]⟩ : Str) = _
      rw [fold]
      simp [T]
theorem tooLong_small {k : Nat} (h : k ≤ 1000000) : PySem.Builtin.Str.tooLong k = false := by
  unfold PySem.Builtin.Str.tooLong
  simp
  have := sizeLine_eq
  omega
theorem mulOk_small {z : Str} {n : Int} (h1 : n < 2 ^ 62) (h0 : -(2 ^ 62) < n) (h : (cs z).length * n.toNat ≤ 1000000) : MulOk z n := by
  have hz : z.length = (cs z).length := rfl
  refine ⟨by simp; omega, fun hn hb => ?_, fun hn hb => ?_⟩
  · intro c
    have k0 : (0 : Int) < n := by omega
    have hc : (z.length : Int) * n ≤ 1000000 := by
      have e : ((z.length * n.toNat : Nat) : Int) = (z.length : Int) * n := by
        rw [Int.natCast_mul]; congr 1; omega
      rw [← e]; rw [hz]; omega
    have : (z.length : Int) ≤ (2 ^ 63 - 1) / n := by
      rw [Int.le_ediv_iff_mul_le k0]; omega
    omega
  · have : z.length * n.toNat ≤ 1000000 := h
    exact tooLong_small (by omega)
def rMulU : R2 := fun x y H Q => match x, y with
  | .int i, .int j => CMul i j ∧ Q (.int (i * j)) H
  | .str z, .int n => (n < 2 ^ 62 ∧ -(2 ^ 62) < n ∧ (cs z).length * n.toNat ≤ 1000000) ∧ Q (.str (T (List.replicate n.toNat (cs z)).flatten)) H
  | .ref l, .int k => ∃ xs, H l = some (.lst xs) ∧ -(2 ^ 63) ≤ k ∧ k < 2 ^ 63 ∧ xs.length * k.toNat ≤ sizeLine ∧
      ∀ p, H p = none → Q (.ref p) (upd H p (.lst (List.replicate k.toNat xs).flatten))
  | _, _ => False
theorem op_mul_str : OpR X (binaryOp .Mult) (fun x y H Q => ∃ z n, x = .str z ∧ y = .int n ∧ MulOk z n ∧ Q (.str (Txt.mul z n)) H) := by
  intro pins s σ H x y v u Q I rx ry h
  obtain ⟨z, n, rfl, rfl, ok, q⟩ := h
  obtain ⟨t, rfl⟩ := rx
  obtain ⟨t', rfl⟩ := ry
  exact SB.mul ok fun t' k => ⟨.str _, H, I.tok _, ⟨_, rfl⟩, q⟩
theorem o_mul : OpR X (binaryOp .Mult) rMulU := by
  refine OpR.imp (op_mul.or (op_mul_str.or op_rep)) fun x y H Q h => ?_
  unfold rMulU at h
  split at h
  · exact .inl ⟨_, _, rfl, rfl, h.1, h.2⟩
  · rename_i z n
    refine .inr (.inl ⟨z, n, rfl, rfl, mulOk_small h.1.1 h.1.2.1 h.1.2.2, ?_⟩)
    rw [mul_codes]; exact h.2
  · rename_i l k
    obtain ⟨xs, h1, h2, h3, h4, h5⟩ := h
    exact .inr (.inr ⟨l, k, xs, rfl, rfl, h1, h2, h3, h4, h5⟩)
  · exact h.elim
def rModU : R2 := fun x y H Q => match x, y with
  | .int i, .int j => 0 < j ∧ Q (.int (i % j)) H
  | _, _ => False
theorem o_mod : OpR X (binaryOp .Mod) rModU := by
  refine OpR.imp op_mod fun x y H Q h => ?_
  unfold rModU at h
  split at h
  · exact ⟨_, _, rfl, rfl, h.1, h.2⟩
  · exact h.elim
def rFdivU : R2 := fun x y H Q => match x, y with
  | .int i, .int j => CDiv i j ∧ Q (.int (i / j)) H
  | _, _ => False
theorem o_fdiv : OpR X (binaryOp .FloorDiv) rFdivU := by
  refine OpR.imp op_fdiv fun x y H Q h => ?_
  unfold rFdivU at h
  split at h
  · exact ⟨_, _, rfl, rfl, h.1, h.2⟩
  · exact h.elim
def rPowU : R2 := fun x y H Q => match x, y with
  | .int i, .int j => CPow i j ∧ Q (.int (i ^ j.toNat)) H
  | _, _ => False
theorem o_pow : OpR X (binaryOp .Pow) rPowU := by
  refine OpR.imp op_pow fun x y H Q h => ?_
  unfold rPowU at h
  split at h
  · exact ⟨_, _, rfl, rfl, h.1, h.2⟩
  · exact h.elim
def rNegU : V → Hp → VK → Prop := fun x H Q => match x with
  | .int i => Q (.int (-i)) H
  | _ => False
theorem o_neg : UnR X (unaryOp .USub) rNegU := by
  intro pins s σ H x v Q I rx h
  unfold rNegU at h
  split at h
  · exact un_neg pins s σ H _ v Q I rx ⟨_, rfl, h⟩
  · exact h.elim

/-! comparisons -/
def cmpU (fi : Int → Int → Bool) (fs : List Nat → List Nat → Bool) : R2 := fun x y H Q => match x, y with
  | .int i, .int j => Q (.bl (fi i j)) H
  | .str a, .str b => Q (.bl (fs (cs a) (cs b))) H
  | _, _ => False
theorem cmpU_of {f : Value → Value → Sem Value} {fi : Int → Int → Bool} {fs : List Nat → List Nat → Bool} {r1 r2 : R2} (h1 : OpR X f r1) (h2 : OpR X f r2)
    (w1 : ∀ i j H Q, Q (.bl (fi i j)) H → r1 (.int i) (.int j) H Q) (w2 : ∀ (a b : Str) H Q, Q (.bl (fs (cs a) (cs b))) H → r2 (.str a) (.str b) H Q) : OpR X f (cmpU fi fs) := by
  refine OpR.imp (h1.or h2) fun x y H Q h => ?_
  unfold cmpU at h
  split at h
  · exact .inl (w1 _ _ _ _ h)
  · exact .inr (w2 _ _ _ _ h)
  · exact h.elim
theorem o_lt : OpR X (compareOp .Lt) (cmpU (fun i j => decide (i < j)) fun a b => decide (a < b)) :=
  cmpU_of op_lt op_lt_str (fun i j H Q q => ⟨i, j, rfl, rfl, q⟩) fun a b H Q q => ⟨a, b, rfl, rfl, q⟩
theorem o_le : OpR X (compareOp .LtE) (cmpU (fun i j => decide (i ≤ j)) fun a b => !decide (b < a)) :=
  cmpU_of op_le op_le_str (fun i j H Q q => ⟨i, j, rfl, rfl, q⟩) fun a b H Q q => ⟨a, b, rfl, rfl, q⟩
theorem o_gt : OpR X (compareOp .Gt) (cmpU (fun i j => decide (j < i)) fun a b => decide (b < a)) :=
  cmpU_of op_gt op_gt_str (fun i j H Q q => ⟨i, j, rfl, rfl, q⟩) fun a b H Q q => ⟨a, b, rfl, rfl, q⟩
theorem o_ge : OpR X (compareOp .GtE) (cmpU (fun i j => decide (j ≤ i)) fun a b => !decide (a < b)) :=
  cmpU_of op_ge op_ge_str (fun i j H Q q => ⟨i, j, rfl, rfl, q⟩) fun a b H Q q => ⟨a, b, rfl, rfl, q⟩

/-- == : scalars; lists and tuples of data by the data they hold -/
def eqU (K : PySem.W.Frag) (neg : Bool) : R2 := fun x y H Q => match x, y with
  | .int i, .int j => Q (.bl (if neg then !decide (i = j) else decide (i = j))) H
  | .str a, .str b => Q (.bl (if neg then !decide (cs a = cs b) else decide (cs a = cs b))) H
  | .bl i, .bl j => Q (.bl (if neg then !decide (i = j) else decide (i = j))) H
  | .non, .non => Q (.bl (!neg)) H
  | .non, .int _ => Q (.bl neg) H
  | .int _, .non => Q (.bl neg) H
  | .non, .str _ => Q (.bl neg) H
  | .str _, .non => Q (.bl neg) H
  | .ref a, .ref b => ∃ d e, Dp K H (.ref a) d ∧ Dp K H (.ref b) e ∧ SeqAt.shaped d = true ∧ SeqAt.shaped e = true ∧
      Q (.bl (if neg then !PyData.eqv d e else PyData.eqv d e)) H
  | _, _ => False
theorem dec_cs (a b : Str) : decide (V.str a = V.str b) = decide (cs a = cs b) := by
  congr 1
  apply propext
  constructor
  · intro h; injection h with h; rw [h]
  · intro h
    have : a = b := by rw [← T_cs a, ← T_cs b, h]
    rw [this]
theorem o_eq (hu : X.A.units + 64 < cLine) : OpR X (compareOp .Eq) (eqU X.K false) := by
  refine OpR.imp (op_eq.or (op_eqD hu)) fun x y H Q h => ?_
  unfold eqU at h
  split at h
  all_goals first
    | exact h.elim
    | (obtain ⟨d, e, h1, h2, h3, h4, h5⟩ := h; exact .inr ⟨d, e, h1, h2, h3, h4, h5⟩)
    | (refine .inl ⟨rfl, ?_⟩; first | (rw [dec_cs]; exact h) | (simpa using h))
theorem o_ne (hu : X.A.units + 64 < cLine) : OpR X (compareOp .NotEq) (eqU X.K true) := by
  refine OpR.imp (op_ne.or (op_neD hu)) fun x y H Q h => ?_
  unfold eqU at h
  split at h
  all_goals first
    | exact h.elim
    | (obtain ⟨d, e, h1, h2, h3, h4, h5⟩ := h; exact .inr ⟨d, e, h1, h2, h3, h4, h5⟩)
    | (refine .inl ⟨rfl, ?_⟩; first | (rw [dec_cs]; exact h) | (simpa using h))
/-- is None, is True -/
def isU (neg : Bool) : R2 := fun x y H Q => match x, y with
  | .bl i, .bl j => Q (.bl (if neg then !decide (i = j) else decide (i = j))) H
  | x, .non => Q (.bl (if neg then !decide (x = .non) else decide (x = .non))) H
  | _, _ => False
theorem o_is : OpR X (compareOp .Is) (isU false) := by
  refine OpR.imp (op_isBl.or op_isN) fun x y H Q h => ?_
  unfold isU at h
  split at h
  · exact .inl ⟨_, _, rfl, rfl, h⟩
  · exact .inr ⟨rfl, h⟩
  · exact h.elim
theorem o_isnot : OpR X (compareOp .IsNot) (isU true) := by
  refine OpR.imp (op_isnot_bl.or op_notN) fun x y H Q h => ?_
  unfold isU at h
  split at h
  · exact .inl ⟨_, _, rfl, rfl, h⟩
  · exact .inr ⟨rfl, h⟩
  · exact h.elim
end
end LK
namespace LK
open PySem PySem.Spec PyProof.Rows L2
/-! tests -/
section
variable {X : Cx} {e a b c : Expr} {t ta tb tc : TE} {pos : Pos} {u v : TT} {rest : List Expr}
def asB (Q : Bool → Hp → Prop) : VK := fun x H' => match x with | .bl k => Q k H' | _ => False
def uT (t : TE) : TT := fun σ H Q => t σ H (asB Q)
theorem asB_eq (Q : Bool → Hp → Prop) : asB Q = fun x H' => ∃ k, x = .bl k ∧ Q k H' := by
  funext x H'
  apply propext
  unfold asB
  constructor
  · intro h
    split at h
    · exact ⟨_, rfl, h⟩
    · exact h.elim
  · rintro ⟨k, rfl, h⟩
    exact h
theorem uT_eq (t : TE) : uT t = tB t := by
  funext σ H Q
  show t σ H (asB Q) = t σ H _
  rw [asB_eq]
theorem pt_u (h : PE X e t) (he : ∀ whole, isTrue e X.env whole = (do let v ← whole; standAt e.pos; holding [v] (truthy v)) := by intro _; rfl) : PT X e (uT t) := by
  rw [uT_eq]; exact pt_val h he
theorem pt_cu {op : CmpOp} {r : R2} (ho : OpR X (compareOp op) r) (ha : PE X a ta) (hb : PE X b tb) (hm : behindInMarks op b = false := by first | exact nomark _ | rfl) :
    PT X (.Compare a [op] [b] pos) (uT (tOp r ta tb)) := by
  rw [uT_eq]; exact pt_cmpR ho ha hb hm
theorem pe_cu {op : CmpOp} {r : R2} (ho : OpR X (compareOp op) r) (ha : PE X a ta) (hb : PE X b tb) (hm : behindInMarks op b = false := by first | exact nomark _ | rfl) :
    PE X (.Compare a [op] [b] pos) (tOp r ta tb) := pe_cmpR ho ha hb hm
/-- a comparison chain -/
def uChain (r r' : R2) (ta tb tc : TE) : TE := fun σ H Q => ta σ H fun x H1 => tb σ H1 fun y H2 => r x y H2 (asB fun k H3 =>
  (k = true → tc σ H3 fun w H4 => r' y w H4 Q) ∧ (k = false → Q (.bl false) H3))
theorem uChain_eq (r r' : R2) (ta tb tc : TE) : uChain r r' ta tb tc = tChain r r' ta tb tc := by
  funext σ H Q
  unfold uChain tChain
  congr 1; funext x H1; congr 1; funext y H2
  rw [asB_eq]
  congr 1; funext z H3
  apply propext
  constructor
  · rintro ⟨k, rfl, h1, h2⟩
    refine ⟨k, rfl, ?_⟩
    cases k with
    | true => exact h1 rfl
    | false => exact h2 rfl
  · rintro ⟨k, rfl, h⟩
    refine ⟨k, rfl, fun e => ?_, fun e => ?_⟩ <;> subst e <;> exact h
theorem pe_chainU {op op' : CmpOp} {r r' : R2} (ho : OpR X (compareOp op) r) (ho' : OpR X (compareOp op') r') (ha : PE X a ta) (hb : PE X b tb) (hc : PE X c tc)
    (h : PE X (.Compare a [op, op'] [b, c] pos) (tChain r r' ta tb tc)) : PE X (.Compare a [op, op'] [b, c] pos) (uChain r r' ta tb tc) := by
  rw [uChain_eq]; exact h
theorem pt_chainU {r r' : R2} {t2 : TE} (h : PT X e (tTest (tChain r r' ta tb tc))) : PT X e (uT (uChain r r' ta tb tc)) := by
  rw [uChain_eq, uT_eq]; exact h
/-- and, or, not, if -/
def Br (b : Bool) (A B : Prop) : Prop := (b = true → A) ∧ (b = false → B)
theorem br_eq (b : Bool) (A B : Prop) : Br b A B = (if b = true then A else B) := by
  apply propext
  cases b
  · exact ⟨fun h => h.2 rfl, fun h => ⟨fun e => Bool.noConfusion e, fun _ => h⟩⟩
  · exact ⟨fun h => h.1 rfl, fun h => ⟨fun _ => h, fun e => Bool.noConfusion e⟩⟩
theorem Br.yes {A B : Prop} (h : A) : Br true A B := ⟨fun _ => h, fun e => Bool.noConfusion e⟩
theorem Br.no {A B : Prop} (h : B) : Br false A B := ⟨fun e => Bool.noConfusion e, fun _ => h⟩
theorem Br.d {p A B : Prop} [Decidable p] (h1 : p → A) (h2 : ¬ p → B) : Br (decide p) A B :=
  ⟨fun e => h1 (of_decide_eq_true e), fun e => h2 (of_decide_eq_false e)⟩
theorem Br.nd {p A B : Prop} [Decidable p] (h1 : ¬ p → A) (h2 : p → B) : Br (!decide p) A B :=
  ⟨fun e => h1 (by simpa using e), fun e => h2 (by simpa using e)⟩
def uAnd (t u : TT) : TT := fun σ H Q => t σ H fun k H1 => Br k (u σ H1 Q) (Q false H1)
def uOr (t u : TT) : TT := fun σ H Q => t σ H fun k H1 => Br k (Q true H1) (u σ H1 Q)
theorem pw_andU (ha : PT X a u) (hb : PW X (.BoolOp .And (b :: rest) pos) v) : PW X (.BoolOp .And (a :: b :: rest) pos) (uAnd u v) := by
  have e : uAnd u v = tAnd u v := by
    funext σ H Q; unfold uAnd tAnd; congr 1; funext k H1; exact br_eq _ _ _
  rw [e]; exact pw_and ha hb
theorem pw_orU (ha : PT X a u) (hb : PW X (.BoolOp .Or (b :: rest) pos) v) : PW X (.BoolOp .Or (a :: b :: rest) pos) (uOr u v) := by
  have e : uOr u v = tOr u v := by
    funext σ H Q; unfold uOr tOr; congr 1; funext k H1; exact br_eq _ _ _
  rw [e]; exact pw_or ha hb
def uAndV (ta tb : TE) : TE := fun σ H Q => ta σ H (asB fun k H1 => Br k (tb σ H1 Q) (Q (.bl false) H1))
def uOrV (ta tb : TE) : TE := fun σ H Q => ta σ H (asB fun k H1 => Br k (Q (.bl true) H1) (tb σ H1 Q))
def uNotV (ta : TE) : TE := fun σ H Q => ta σ H (asB fun k H1 => Q (.bl (!k)) H1)
theorem pe_andU (ha : PE X a ta) (hb : PE X (.BoolOp .And (b :: rest) pos) tb) : PE X (.BoolOp .And (a :: b :: rest) pos) (uAndV ta tb) := by
  have e : uAndV ta tb = tAndV ta tb := by
    funext σ H Q; unfold uAndV tAndV; rw [asB_eq]; congr 1; funext x H1
    apply propext
    constructor <;> rintro ⟨k, h1, h2⟩ <;> refine ⟨k, h1, ?_⟩
    · rw [br_eq] at h2; exact h2
    · rw [br_eq]; exact h2
  rw [e]; exact pe_and ha hb
theorem pe_orU (ha : PE X a ta) (hb : PE X (.BoolOp .Or (b :: rest) pos) tb) : PE X (.BoolOp .Or (a :: b :: rest) pos) (uOrV ta tb) := by
  have e : uOrV ta tb = tOrV ta tb := by
    funext σ H Q; unfold uOrV tOrV; rw [asB_eq]; congr 1; funext x H1
    apply propext
    constructor <;> rintro ⟨k, h1, h2⟩ <;> refine ⟨k, h1, ?_⟩
    · rw [br_eq] at h2; exact h2
    · rw [br_eq]; exact h2
  rw [e]; exact pe_or ha hb
theorem pe_notU (ha : PE X a ta) : PE X (.UnaryOp .Not a pos) (uNotV ta) := by
  have e : uNotV ta = tNotV ta := by
    funext σ H Q; unfold uNotV tNotV; rw [asB_eq]
  rw [e]; exact pe_not ha
def uIfE (t : TT) (ta tb : TE) : TE := fun σ H Q => t σ H fun k H1 => Br k (ta σ H1 Q) (tb σ H1 Q)
theorem pe_ifU {c : Expr} (hc : PT X c u) (ha : PE X a ta) (hb : PE X b tb) : PE X (.IfExp c a b pos) (uIfE u ta tb) := by
  have e : uIfE u ta tb = tIf u ta tb := by
    funext σ H Q; unfold uIfE tIf; congr 1; funext k H1; exact br_eq _ _ _
  rw [e]; exact pe_ifExp hc ha hb
def uIf (c : TT) (t u : TS) : TS := fun D σ H => c σ H fun k H1 => Br k (t D σ H1) (u D σ H1)
theorem ps_ifU {c : Expr} {a b : List Stmt} {tc : TT} {t u : TS} (hc : PT X c tc) (ha : PSs X a t) (hb : PSs X b u) : PS X (.If c a b pos) (uIf tc t u) := by
  have e : uIf tc t u = tIfS tc t u := by
    funext D σ H; unfold uIf tIfS; congr 1; funext k H1; exact br_eq _ _ _
  rw [e]; exact ps_if hc ha hb
end

/-! subscripts -/
section
variable {X : Cx} {e a b : Expr} {t ta tb : TE} {pos : Pos}
def ixU (K : PySem.W.Frag) : R2 := fun x y H Q => match x, y with
  | .ref p, .int i => ∃ xs v, (SqL K H p xs ∨ SqT K H p xs) ∧ atI xs i = some v ∧ Q v H
  | .str z, .int i => (cs z).length ≤ sizeLine ∧ ∃ c, atI (cs z) i = some c ∧ Q (.str (T [c])) H
  | _, _ => False
theorem ix_u : IxR X (ixU X.K) := by
  refine IxR.imp ix_seq fun x y H Q h => ?_
  unfold ixU at h
  split at h
  · obtain ⟨xs, v, h1 | h1, h2, h3⟩ := h
    · exact .inl ⟨_, xs, _, v, rfl, rfl, h1, h2, h3⟩
    · exact .inr (.inl ⟨_, xs, _, v, rfl, rfl, h1, h2, h3⟩)
  · obtain ⟨hz, c, h1, h2⟩ := h
    exact .inr (.inr ⟨_, _, c, rfl, rfl, hz, h1, h2⟩)
  · exact h.elim
theorem pe_ixU (ha : PE X a ta) (hb : PE X b tb) (hs : PlainIx b := by exact fun _ _ => rfl) : PE X (.Subscript a b pos) (tOp (ixU X.K) ta tb) := pe_ix ix_u ha hb hs
/-- x[i:j] of a text; of a list -/
def slU (K : PySem.W.Frag) : V → Option Int → Option Int → Hp → VK → Prop := fun x lo hi H Q => match x with
  | .str z => (cs z).length ≤ sizeLine ∧ Q (.str (T (((cs z).drop (HT.sIx (cs z).length 0 lo)).take (HT.sIx (cs z).length (cs z).length hi - HT.sIx (cs z).length 0 lo)))) H
  | .ref a => ∃ xs, SqL K H a xs ∧ ∀ p, H p = none → Q (.ref p) (upd H p (.lst (cutV xs lo hi)))
  | _ => False
theorem sl_u : SlR X (slU X.K) := by
  intro pins s σ H x v vl vu lo hi sl Q I rx hs pl pu h
  refine (sl_str.or sl_list) pins s σ H x v vl vu lo hi sl Q I rx hs pl pu ?_
  unfold slU at h
  split at h
  · exact .inl ⟨_, rfl, h.1, h.2⟩
  · obtain ⟨xs, h1, h2⟩ := h
    exact .inr ⟨_, xs, rfl, h1, h2⟩
  · exact h.elim
def uPart (t : TE) : TO := fun σ H Q => t σ H fun x H1 => match x with | .int i => Q (some i) H1 | _ => False
theorem po_u (h : PE X e t) : PO X (some e) (uPart t) := by
  have w : uPart t = tPart t := by
    funext σ H Q; unfold uPart tPart; congr 1; funext x H1
    apply propext
    constructor
    · intro h; split at h
      · exact ⟨_, rfl, h⟩
      · exact h.elim
    · rintro ⟨i, rfl, h⟩; exact h
  rw [w]; exact po_some h
end

/-! calls of built-ins -/
section
variable {X : Cx}
def lenU (K : PySem.W.Frag) : List V → Hp → VK → Prop := fun vs H Q => match vs with
  | [.str z] => (cs z).length ≤ sizeLine ∧ Q (.int (cs z).length) H
  | [.ref p] => (∃ xs, (SqL K H p xs ∨ SqT K H p xs) ∧ Q (.int xs.length) H) ∨ ∃ kvs, H p = some (.dK kvs) ∧ Q (.int kvs.length) H
  | _ => False
theorem c_len : CallR X (.builtin "len") (lenU X.K) := by
  refine CallR.imp (call_len_str.or (call_len_seq.or call_lenD)) fun vs H Q h => ?_
  unfold lenU at h
  split at h
  · exact .inl ⟨_, rfl, h.1, h.2⟩
  · rcases h with ⟨xs, h1, h2⟩ | ⟨kvs, h1, h2⟩
    · exact .inr (.inl ⟨_, xs, rfl, h1, h2⟩)
    · exact .inr (.inr ⟨_, kvs, rfl, h1, h2⟩)
  · exact h.elim
def intU : List V → Hp → VK → Prop := fun vs H Q => match vs with
  | [.int i] => Q (.int i) H
  | [.bl k] => Q (.int (if k then 1 else 0)) H
  | _ => False
theorem c_int : CallR X (.type "int") intU := by
  refine CallR.imp call_int1 fun vs H Q h => ?_
  unfold intU at h
  split at h
  · exact .inl ⟨_, rfl, h⟩
  · exact .inr ⟨_, rfl, h⟩
  · exact h.elim
def absU : List V → Hp → VK → Prop := fun vs H Q => match vs with
  | [.int i] => Q (.int i.natAbs) H
  | _ => False
theorem c_abs : CallR X (.builtin "abs") absU := by
  refine CallR.imp call_abs fun vs H Q h => ?_
  unfold absU at h
  split at h
  · rename_i i
    refine ⟨_, rfl, ?_⟩
    have e : (if i < 0 then -i else i) = (i.natAbs : Int) := by omega
    rw [e]; exact h
  · exact h.elim
def mm2U (f : Int → Int → Int) : List V → Hp → VK → Prop := fun vs H Q => match vs with
  | [.int i, .int j] => Q (.int (f i j)) H
  | _ => False
theorem c_max2 (hc : X.calm = true) : CallR X (.builtin "max") (mm2U max) := by
  refine CallR.imp (call_max2 hc) fun vs H Q h => ?_
  unfold mm2U at h
  split at h
  · rename_i i j
    refine ⟨_, _, rfl, ?_⟩
    have e : (if j > i then j else i) = max i j := by omega
    rw [e]; exact h
  · exact h.elim
theorem c_min2 (hc : X.calm = true) : CallR X (.builtin "min") (mm2U min) := by
  refine CallR.imp (call_min2 hc) fun vs H Q h => ?_
  unfold mm2U at h
  split at h
  · rename_i i j
    refine ⟨_, _, rfl, ?_⟩
    have e : (if j < i then j else i) = min i j := by omega
    rw [e]; exact h
  · exact h.elim
def divmodU : List V → Hp → VK → Prop := fun vs H Q => match vs with
  | [.int i, .int j] => CDiv i j ∧ ∀ p, H p = none → Q (.ref p) (upd H p (.tup [.int (i / j), .int (i % j)]))
  | _ => False
theorem c_divmod : CallR X (.builtin "divmod") divmodU := by
  refine CallR.imp call_divmod fun vs H Q h => ?_
  unfold divmodU at h
  split at h
  · exact ⟨_, _, rfl, h.1, h.2⟩
  · exact h.elim
def allU (K : PySem.W.Frag) (f : List Bool → Bool) : List V → Hp → VK → Prop := fun vs H Q => match vs with
  | [.ref a] => ∃ bs : List Bool, SqL K H a (bs.map V.bl) ∧ Q (.bl (f bs)) H
  | _ => False
theorem c_all (hc : X.calm = true) : CallR X (.builtin "all") (allU X.K fun bs => bs.all id) := by
  refine CallR.imp (cr_all hc) fun vs H Q h => ?_
  unfold allU at h
  split at h
  · obtain ⟨bs, h1, h2⟩ := h; exact ⟨_, bs, rfl, h1, h2⟩
  · exact h.elim
theorem c_any (hc : X.calm = true) : CallR X (.builtin "any") (allU X.K fun bs => bs.any id) := by
  refine CallR.imp (cr_any hc) fun vs H Q h => ?_
  unfold allU at h
  split at h
  · obtain ⟨bs, h1, h2⟩ := h; exact ⟨_, bs, rfl, h1, h2⟩
  · exact h.elim
def sumU (K : PySem.W.Frag) : List V → Hp → VK → Prop := fun vs H Q => match vs with
  | [.ref a] => ∃ ns : List Int, SqL K H a (ns.map V.int) ∧ Q (.int ns.sum) H
  | _ => False
theorem c_sum (hc : X.calm = true) : CallR X (.builtin "sum") (sumU X.K) := by
  refine CallR.imp (cr_sum hc) fun vs H Q h => ?_
  unfold sumU at h
  split at h
  · obtain ⟨bs, h1, h2⟩ := h; exact ⟨_, bs, rfl, h1, h2⟩
  · exact h.elim
/-- list(a list, a tuple, a dict) -/
def listU (K : PySem.W.Frag) : List V → Hp → VK → Prop := fun vs H Q => match vs with
  | [.ref p] => (∃ ys, (SqL K H p ys ∨ SqT K H p ys) ∧ ∀ l, H l = none → Q (.ref l) (upd H l (.lst ys))) ∨
      ∃ kvs, H p = some (.dK kvs) ∧ ∀ l, H l = none → Q (.ref l) (upd H l (.lst (kvs.map fun kv => kV kv.1)))
  | _ => False
theorem c_list (hc : X.calm = true) : CallR X (.type "list") (listU X.K) := by
  refine CallR.imp (call_list_of.or (call_list_dK hc)) fun vs H Q h => ?_
  unfold listU at h
  split at h
  · rcases h with ⟨ys, h1, h2⟩ | ⟨kvs, h1, h2⟩
    · exact .inl ⟨_, ys, rfl, h1, h2⟩
    · exact .inr ⟨_, kvs, rfl, h1, h2⟩
  · exact h.elim
end

/-! own calls: the promise at the arguments -/
section
variable {X : Cx} {CX : CXT} {k : Nat} {f : Addr} {fd : FuncData} {ps ks : List Str} {sp : Sp} {E : XK} {x : Str} {p pos : Pos} {e : Expr} {es : List Expr} {t : TA}
def uCall (sp : Sp) (E : XK) (t : TA) : TE := fun σ H Q => t σ H fun vs H1 => sp vs H1 Q E
theorem uCall_eq (sp : Sp) (E : XK) (t : TA) : uCall sp E t = tCall sp [] E t := by
  funext σ H Q; unfold uCall tCall; congr 1; funext vs H1; rw [List.append_nil]
theorem pe_callU (F : FnOk X.prog X.w X.K X.mg X.base CX k f fd ps sp) (hr : Room k X.A) (hg : Gl X x) (hm : X.mg x = some (.ref f))
    (hk : PySem.W.keepIn X.K (.ref f) = true) (hb : Binds X.K fd ps []) (hx : Passes CX X E) (ha : PA X (e :: es) t)
    (hdb : (x == ("__debug__" : Str)) = false := by decide) (he : starEach (e :: es) X.env = (false, eval e X.env) :: starEach es X.env := by rfl)
    (hpl : (backTo pos (starEach es X.env)).any (·.1) = false := by rfl) : PE X (.Call (.Name x p) (e :: es) [] pos) (uCall sp E t) := by
  rw [uCall_eq]; exact pe_call F hr hg hm hk hb .nil hx ha hdb he hpl
theorem pe_callUG (F : FnG X.prog X.w X.K X.mg X.base CX k f fd ps sp) (hA : X.A.guards = some []) (hr : Room k X.A) (hg : Gl X x) (hm : X.mg x = some (.ref f))
    (hk : PySem.W.keepIn X.K (.ref f) = true) (hb : Binds X.K fd ps []) (hx : Passes CX X E) (ha : PA X (e :: es) t)
    (hdb : (x == ("__debug__" : Str)) = false := by decide) (he : starEach (e :: es) X.env = (false, eval e X.env) :: starEach es X.env := by rfl)
    (hpl : (backTo pos (starEach es X.env)).any (·.1) = false := by rfl) : PE X (.Call (.Name x p) (e :: es) [] pos) (uCall sp E t) := by
  rw [uCall_eq]; exact pe_callG F hA hr hg hm hk hb hx ha hdb he hpl
end
end LK

/-! sorted of a dict's texts, of texts by key= -/
namespace LK
open PySem PySem.Spec PyProof.Rows L2
open PySem.W (EachIs dataLe AllAlike Sortable)

/-- a text's value -/
def RT (v : Value) (l : List Nat) : Prop := ∃ t, v = .str (T l) t
abbrev encT (l : List Nat) : PyData := .str (T l)
theorem alike_T (ks : List (List Nat)) : AllAlike (ks.map encT) := by
  intro d h1 d' h2
  obtain ⟨a, _, rfl⟩ := List.mem_map.mp h1
  obtain ⟨b, _, rfl⟩ := List.mem_map.mp h2
  rfl
theorem sortable_T (ks : List (List Nat)) : Sortable (ks.map encT) := by
  refine .inr fun d h1 => ?_
  obtain ⟨a, _, rfl⟩ := List.mem_map.mp h1
  exact ⟨(fun z => nomatch z), (fun xs z => nomatch z)⟩
theorem vals_RT : ∀ {vs : List Value} {ks : List (List Nat)}, EachIs RT vs ks → L2.Vals (ks.map fun l => V.str (T l)) vs
  | _, _, .nil => .nil
  | _, _, .cons h t => .cons h (vals_RT t)
theorem RT_vals : ∀ {vs : List Value} {ks : List (List Nat)}, L2.Vals (ks.map fun l => V.str (T l)) vs → EachIs RT vs ks
  | [], [], _ => .nil
  | _ :: _, [], h => by cases h
  | [], _ :: _, h => by cases h
  | v :: vs, k :: ks, h => by
    cases h with
    | cons r t => exact .cons r (RT_vals t)
theorem reads_RT {h : Heap} : ∀ {vs : List Value} {ks : List (List Nat)}, EachIs RT vs ks → EachIs (fun v l => ∃ as, Reads h v (encT l) as) vs ks
  | _, _, .nil => .nil
  | _, _, .cons ⟨t, e⟩ r => .cons ⟨[], by rw [e]; exact .str _ t⟩ (reads_RT r)

section
variable {X : Cx} {pins : List (Addr × Obj)} {σ : L2.St} {H : Hp} {s : Shared} {E : Value → Shared → Prop}
/-- the items of a dict with texts as keys, taken into a new list -/
theorem collect_dict {A : Around} (hA : A.handled = none) (I : Inv X pins σ H s) {a : Addr} {kvs : List (Key × V)} {ks : List (List Nat)} (hd : H a = some (.dK kvs))
    (hk : kvs.map (·.1) = ks.map fun l => Sum.inr (T l)) {R : List Value → Shared → Prop}
    (h : ∀ (h' : Heap) (tk : Nat) (vs : List Value), (∀ b o, s.heap.get? b = some o → h'.get? b = some o) → EachIs RT vs ks → ks.length ≤ sizeLine →
      R vs { s with heap := h', toks := tk }) : wpAny (model X.prog X.w) A (collect (.ref a)) R E s := by
  obtain ⟨z, lo, vs, rel, dd⟩ := (show ObjOk X.prog X.w H s.heap a (.dK kvs) from I.hok a _ hd)
  obtain ⟨ep, hat⟩ := dd.dictAt
  have hkeys : vs.map (·.1) = ks.map fun l => Sum.inr (T l) := (KV.keys rel).symm.trans hk
  have hl : vs.length = ks.length := by
    have e := congrArg List.length hkeys
    simpa using e
  have hz : ks.length ≤ sizeLine := by
    have e := congrArg List.length hk
    simp only [List.length_map] at e
    omega
  refine PySem.W.kdu_collect (A := A) (PySem.W.kdl_dict (knd := mixKind X.prog X.w) (kvs := vs) (ep := ep) lo) hA hat (by rw [hl]; exact hz) ?_
  intro h' tk acc keep it
  refine h h' tk acc.toList keep ?_ hz
  have hal : acc.toList.length = ks.length := by rw [Array.length_toList, it.1, hl]
  refine RT_vals (vals_of_at (by rw [List.length_map]; exact hal.symm) ?_)
  intro j x v e1 e2
  obtain ⟨k, y, ky, hi⟩ := it.2 j v (by rw [← Array.getElem?_toList]; exact e2)
  have e3 : (vs.map (·.1))[j]? = some k := by rw [List.getElem?_map, ky]; rfl
  rw [hkeys, List.getElem?_map] at e3
  rw [List.getElem?_map] at e1
  cases e4 : ks[j]? with
  | none => rw [e4] at e3; cases e3
  | some l =>
    rw [e4] at e1 e3
    cases Option.some.inj e1
    cases Option.some.inj e3
    obtain ⟨t, ev⟩ := Value.isStrOf_shape (x := T l) (v := v) hi
    exact ⟨t, ev⟩

/-- sorted over what was collected, by list.sort -/
theorem sorted_via {v : Value} {kw : List (Str × Value)} {Q : Value → Shared → Prop} {A : Around} (I : Inv X pins σ H s) (ha1 : argsOk "sorted" ⟨[v], kw⟩)
    (ha2 : ∀ x, argsOk "list.sort" ⟨[.ref x], kw⟩) (P : List Value → Prop)
    (col : ∀ (R : List Value → Shared → Prop), (∀ (h' : Heap) (tk : Nat) (vs : List Value), (∀ b o, s.heap.get? b = some o → h'.get? b = some o) → P vs → vs.length ≤ sizeLine →
      R vs { s with heap := h', toks := tk }) → wpAny (model X.prog X.w) A.in1 (collect v) R E s)
    (body : ∀ (h' : Heap) (tk : Nat) (vs : List Value) (E' : Value → Shared → Prop), (∀ b o, s.heap.get? b = some o → h'.get? b = some o) → P vs → vs.length ≤ sizeLine →
      Inv X pins σ H { s with heap := h', toks := tk } →
      wpAny (model X.prog X.w) A.in1.in1 (Builtin.«list.sort» ⟨[.ref h'.objs.size], kw⟩) (fun f s' => f = .done (.ret .none) ∧ Q (.ref h'.objs.size) s') E'
        { s with heap := h'.push (seqObj "list" vs.toArray 0), toks := tk }) :
    wpAny (model X.prog X.w) A (call (.builtin "sorted") [v] kw) Q E s := by
  refine call_function_entry_kw kind_sorted plain_sorted entry_sorted ha1 ?_
  unfold Builtin.«sorted»
  refine wpAny_bind (m := checkCount "sorted" 1 1 _) (wpAny_pure ?_)
  refine wpAny_bind (col _ fun h' tk vs keep p hl => ?_)
  refine wpAny_bind (wpAny_newList ?_ hl)
  have hoL : (h'.push (seqObj "list" vs.toArray 0)).get? h'.objs.size = some (seqObj "list" vs.toArray 0) := Heap.get?_push_size _ rfl
  refine wpAny_bind (wpAny_holding (wpAny_call_entry_kw slot_list_sort ⟨_, hoL, rfl⟩ entry_list_sort ?body (ha2 _)))
  case body =>
    refine wpAny_mono (body h' tk vs _ keep p hl (I.kept keep)) (fun f s' z => ?_) fun _ _ z => z
    obtain ⟨rfl, q⟩ := z
    exact ⟨_, rfl, wpAny_pure ⟨_, rfl, q⟩⟩

theorem len_each {ks : List (List Nat)} {vs : List Value} (e : EachIs RT vs ks) : vs.length = ks.length := e.length

/-- sorted(d), d a dict with texts as keys -/
def sortedD : List V → Hp → VK → Prop := fun vs H Q => match vs with
  | [.ref a] => ∃ (kvs : List (Key × V)) (ks : List (List Nat)), H a = some (.dK kvs) ∧ kvs.map (·.1) = (ks.map fun l => Sum.inr (T l)) ∧
      ∀ p, H p = none → Q (.ref p) (upd H p (.lst ((ks.mergeSort (dataLe false encT)).map fun l => .str (T l))))
  | _ => False
theorem new_lst {h' hf : Heap} {tk tk' : Nat} {ks : List (List Nat)} {out : List Value} {c : Nat} (J : Inv X pins σ H { s with heap := h', toks := tk })
    (keep : ∀ b o, h'.get? b = some o → hf.get? b = some o) (hat : hf.get? h'.objs.size = some (seqObj "list" out.toArray c)) (r : EachIs RT out ks) (hl : ks.length ≤ sizeLine) :
    Inv X pins σ (upd H h'.objs.size (.lst (ks.map fun l => .str (T l)))) { s with heap := hf, toks := tk' } :=
  J.laid (t' := tk') keep (Nat.le_refl _) ⟨by rw [List.length_map]; exact hl, out, c, vals_RT r, hat⟩
theorem c_sortedD (hc : X.calm = true) (hu : X.A.units + 64 < cLine) : CallR X (.builtin "sorted") sortedD := by
  intro pins s σ H xs us Q I r h
  unfold sortedD at h
  split at h
  · rename_i a
    obtain ⟨kvs, ks, hd, hk, q⟩ := h
    obtain ⟨u, rfl, ru⟩ := vals1 r
    obtain rfl : u = Value.ref a := ru
    refine sorted_via I (args_sorted1 _) (fun _ => args_list_sort _) (fun vs => EachIs RT vs ks ∧ ks.length ≤ sizeLine)
      (fun R hR => collect_dict (A := X.A.in1) (I.ok.hd hc) I hd hk fun h' tk vs keep e hz => hR h' tk vs keep ⟨e, hz⟩ (by rw [e.length]; exact hz)) ?_
    intro h' tk vs E' keep p hl J
    obtain ⟨e, hz⟩ := p
    have hoL : (h'.push (seqObj "list" vs.toArray 0)).get? h'.objs.size = some (seqObj "list" vs.toArray 0) := Heap.get?_push_size _ rfl
    have S := PySem.W.SortsAt.data (prog := X.prog) (w := X.w) (A := X.A.in1.in1) (s := { s with heap := PySem.W.sortingHeap (h'.push (seqObj "list" vs.toArray 0)) h'.objs.size vs, toks := tk })
      (PySem.W.each_map (R := fun v d => ∃ as, Reads _ v d as) encT (reads_RT e)) (alike_T ks) (sortable_T ks)
      (PySem.W.bound_map (A := X.A.in1.in1) fun l _ => by show X.A.units + 1 + 1 + 0 < cLine; omega)
    refine PySem.W.list_sort_vals (s := { s with heap := h'.push (seqObj "list" vs.toArray 0), toks := tk }) hoL S (by rw [e.length]; exact hz) ⟨rfl, ?_⟩
    obtain ⟨c, hc'⟩ := PyProof.Rows.sortedHeap_at (vs := vs) (out := (PySem.W.sortVals (PySem.W.dataKind (PySem.W.sortingHeap (h'.push (seqObj "list" vs.toArray 0)) h'.objs.size vs) (ks.map encT)) false vs vs).toArray) hoL
    have ro := PySem.W.sortVals_data (h' := PySem.W.sortingHeap (h'.push (seqObj "list" vs.toArray 0)) h'.objs.size vs) (R := RT) false e (reads_RT e) (alike_T ks)
    refine ⟨.ref _, _, new_lst (tk' := tk) J (fun b o hb => ?_) hc' ro (by rw [List.length_mergeSort]; exact hz), rfl, q _ (J.hok.fresh (Nat.le_refl _))⟩
    have lt := Heap.lt_size hb
    rw [PyProof.Rows.sortedHeap_old (Nat.ne_of_lt lt) (by rw [size_push']; exact Nat.lt_succ_of_lt lt)]
    exact Heap.get?_push_of_some _ hb
  · exact h.elim

/-- sorted(xs, key=len), xs a list of texts -/
abbrev encL (l : List Nat) : PyData := .int (l.length : Int)
theorem alike_L (ks : List (List Nat)) : AllAlike (ks.map encL) := by
  intro d h1 d' h2
  obtain ⟨a, _, rfl⟩ := List.mem_map.mp h1
  obtain ⟨b, _, rfl⟩ := List.mem_map.mp h2
  rfl
theorem sortable_L (ks : List (List Nat)) : Sortable (ks.map encL) := by
  refine .inr fun d h1 => ?_
  obtain ⟨a, _, rfl⟩ := List.mem_map.mp h1
  exact ⟨(fun z => nomatch z), (fun xs z => nomatch z)⟩
/-- the end of a sort by keys -/
theorem sort_key_end {f : Value} {kw : List (Str × Value)} {A : Around} {k : List Nat → PyData} {ks : List (List Nat)} {h' : Heap} {tk : Nat} {vs : List Value} {Q : Value → Shared → Prop} {E' : Value → Shared → Prop}
    (J : Inv X pins σ H { s with heap := h', toks := tk }) (e : EachIs RT vs ks) (hz : ks.length ≤ sizeLine) (hal : AllAlike (ks.map k)) (hk : Sortable (ks.map k))
    (hu : ∀ l, l ∈ ks → A.units + (k l).depth < cLine) (ht : ∀ x, Builtin.«list.sort» ⟨[.ref x], kw⟩ = ksk_tree x f false)
    (turn : ∀ (v : Value) (l : List Nat), RT v l → l ∈ ks → ∀ (h2 : Heap) (tk2 : Nat), (∀ b o, h'.get? b = some o → h2.get? b = some o) →
      wpAny (model X.prog X.w) A (call f [v]) (PySem.W.KeyPure (k l) { s with heap := h2, toks := tk2 }) (fun _ _ => False) { s with heap := h2, toks := tk2 })
    (q : ∀ hf tk', (∀ b o, h'.get? b = some o → hf.get? b = some o) →
      Inv X pins σ (upd H h'.objs.size (.lst ((ks.mergeSort (dataLe false k)).map fun l => .str (T l)))) { s with heap := hf, toks := tk' } → H h'.objs.size = none → Q (.ref h'.objs.size) { s with heap := hf, toks := tk' }) :
    wpAny (model X.prog X.w) A (Builtin.«list.sort» ⟨[.ref h'.objs.size], kw⟩) (fun f s' => f = .done (.ret .none) ∧ Q (.ref h'.objs.size) s') E'
      { s with heap := h'.push (seqObj "list" vs.toArray 0), toks := tk } := by
  have hoL : (h'.push (seqObj "list" vs.toArray 0)).get? h'.objs.size = some (seqObj "list" vs.toArray 0) := Heap.get?_push_size _ rfl
  have up : ∀ {g : Heap}, PySem.W.KeepsBut h'.objs.size (h'.push (seqObj "list" vs.toArray 0)) g → ∀ b o, h'.get? b = some o → g.get? b = some o := fun {g} kp b o z =>
    kp b o (Nat.ne_of_lt (Heap.lt_size z)) (Heap.get?_push_of_some _ z)
  rw [ht]
  refine PySem.W.keyH_tree (kz := ks.map k) (s := { s with heap := h'.push (seqObj "list" vs.toArray 0), toks := tk }) hoL (by rw [List.length_map]; exact e.length.symm) (by rw [e.length]; exact hz) hal hk
    (PySem.W.bound_map (A := A) hu) (PySem.W.keyH_turns (s := { s with heap := h'.push (seqObj "list" vs.toArray 0), toks := tk }) e fun v l hR hm h2 tk2 kp => turn v l hR hm h2 tk2 (up kp)) ?_
  intro hf tk' out c kp hD ko
  have ro := PySem.W.keyedOut_each k ko e
  refine ⟨rfl, q hf tk' (up kp) ?_ (J.hok.fresh (Nat.le_refl _))⟩
  exact new_lst (tk' := tk') J (up kp) hD ro (by rw [List.length_mergeSort]; exact hz)
def sortedLen (K : PySem.W.Frag) : List V → List V → Hp → VK → Prop := fun vs zs H Q => match vs with
  | [.ref a] => ∃ (ks : List (List Nat)), SqL K H a (ks.map fun l => .str (T l)) ∧ (∀ l ∈ ks, l.length ≤ sizeLine) ∧
      ∀ p, H p = none → Q (.ref p) (upd H p (.lst ((ks.mergeSort (dataLe false encL)).map fun l => .str (T l))))
  | _ => False
end
end LK

/-! key=len; key=lambda x: (len(x), x) -/
namespace LK
open PySem PySem.Spec PyProof.Rows L2 LamX
open PySem.W (EachIs dataLe AllAlike Sortable)

abbrev encP (l : List Nat) : PyData := .tuple [.int (l.length : Int), .str (T l)]
theorem alike_P (ks : List (List Nat)) : AllAlike (ks.map encP) := by
  intro d h1 d' h2
  obtain ⟨a, _, rfl⟩ := List.mem_map.mp h1
  obtain ⟨b, _, rfl⟩ := List.mem_map.mp h2
  rfl
theorem sortable_P (ks : List (List Nat)) : Sortable (ks.map encP) := by
  refine .inl fun d h1 => ?_
  obtain ⟨a, _, rfl⟩ := List.mem_map.mp h1
  exact ⟨_, _, rfl⟩

section
variable {X : Cx} {e : Expr} {t : TA} {p p2 kp pos : Pos}
/-- sorted(xs, key=len) -/
def sortedLenU (K : PySem.W.Frag) : List V → Hp → VK → Prop := fun vs H Q => match vs with
  | [.ref a] => ∃ (ks : List (List Nat)), SqL K H a (ks.map fun l => .str (T l)) ∧ (∀ l ∈ ks, l.length ≤ sizeLine) ∧
      ∀ p, H p = none → Q (.ref p) (upd H p (.lst ((ks.mergeSort (dataLe false encL)).map fun l => .str (T l))))
  | _ => False
theorem pe_sortedLen (hu : X.A.units + 64 < cLine) (hg : Gl X "sorted") (hm : X.mg "sorted" = none) (hgl : Gl X "len") (hml : X.mg "len" = none) (ha : PA X [e] t)
    (hv : bootBuiltins "sorted" = some (.builtin "sorted") := by decide +kernel) (hvl : bootBuiltins "len" = some (.builtin "len") := by exact PySem.boot_len)
    (he : backTo pos (starEach [e] X.env) = (false, eval e X.env) :: backTo pos (starEach [] X.env) := by rfl)
    (hpl : (backTo pos (starEach [e] X.env)).any (·.1) = false := by rfl) :
    PE X (.Call (.Name "sorted" p) [e] [⟨some "key", .Name "len" p2, kp⟩] pos) (tCB (sortedLenU X.K) t) := by
  refine ⟨fun pins s σ H Q I h => ?_⟩
  refine wpAny_Call_Name_kw (ld_blt I hg hm hv ?_)
  refine PyProof.Rows.callWith_kw (thn (ha.run pos pins s σ H _ I h) fun us s1 z => ?_) he hpl rfl rfl
  obtain ⟨vs, H1, I1, r1, q1⟩ := z
  show wpAny _ _ (evalAll [(do let v ← eval (.Name "len" p2) X.env; standAt pos; pure v)]) _ _ s1
  refine wpAny_evalAll_cons (wpAny_bind (ld_blt I1 hgl hml hvl (wpAny_bind (wpAny_standAt (wpAny_pure ?_)))))
  refine wpAny_evalAll_nil ?_
  show wpAny (model X.prog X.w) X.A (call (.builtin "sorted") us [(Str.ofString "key", .builtin "len")]) (EP X pins σ Q) X.xe s1
  have q1 : sortedLenU X.K vs H1 Q := q1
  have key : ∃ a, vs = [.ref a] ∧ ∃ (ks : List (List Nat)), SqL X.K H1 a (ks.map fun l => .str (T l)) ∧ (∀ l ∈ ks, l.length ≤ sizeLine) ∧
      ∀ p, H1 p = none → Q (.ref p) (upd H1 p (.lst ((ks.mergeSort (dataLe false encL)).map fun l => .str (T l)))) := by
    unfold sortedLenU at q1
    split at q1
    · exact ⟨_, rfl, q1⟩
    · exact q1.elim
  · obtain ⟨a, rfl, ks, hs, hl, q⟩ := key
    obtain ⟨u, rfl, ru⟩ := vals1 r1
    obtain rfl : u = Value.ref a := ru
    obtain ⟨its, rv, hli, hz⟩ := I1.list hs
    have e := RT_vals rv
    have hz2 : ks.length ≤ sizeLine := by rw [List.length_map] at hz; exact hz
    refine sorted_via I1 (PyProof.Rows.ksk_s1 _ _) (fun _ => PyProof.Rows.ksk_l1 _ _) (fun vs => vs = its) (fun R hR => ?_) ?_
    · refine collect_list hli.isList ?_ (by rw [e.length]; exact hz2)
      refine hR _ s1.toks its (fun b o hb => ?_) rfl (by rw [e.length]; exact hz2)
      rw [Heap.get?_update_ne _ _ _ _ (Nat.ne_of_lt (Heap.lt_size hb))]
      exact Heap.get?_push_of_some _ hb
    · intro h' tk vs' E' keep pv hl2 J
      subst pv
      refine sort_key_end J e hz2 (alike_L ks) (sortable_L ks) (fun l _ => by show X.A.units + 1 + 1 + 0 < cLine; omega) (fun x => PyProof.Rows.ksk_t4 _ _) ?_ ?_
      · intro v l hR hm h2 tk2 k2
        obtain ⟨t, rfl⟩ := hR
        refine PySem.P.len_str ?_ ⟨h2, _, rfl, fun _ _ z => z, .int _ _⟩
        have := hl l hm
        have := sizeLine_eq
        show ¬ ((T l).length : Int) ≥ 2 ^ 63
        rw [T_len]; omega
      · intro hf tk' k3 J2 n
        exact ⟨.ref _, _, J2, rfl, q _ n⟩
end

section
variable {prog : Program} {w : World} {A : Around} {E : Value → Shared → Prop} {s : Shared}
/-- (len(x), x), x a local text -/
theorem pair_run {env : Env} {x : Str} {l : List Nat} {t : Tok} {m mg mb : Str → Option Value} {p1 p2 p3 p4 p5 : Pos} {cx : Nat}
    (hk : env.scope.kind = .function) (hx : env.kindOf x = some .local) (hn : s.heap.Ns env.locals m) (hm : m x = some (.str (T l) t))
    (hl : env.kindOf ("len" : Str) = some .globalImplicit) (g : s.heap.Ns env.globals mg) (gl : mg "len" = none) (b : s.heap.Ns env.builtins mb) (bl : mb "len" = some (.builtin "len"))
    (hz : l.length ≤ sizeLine) (hd : (x == ("__debug__" : Str)) = false)
    (h1 : starEach [.Call (.Name "len" p1) [.Name x p2] [] p3, .Name x p4] env = (false, eval (.Call (.Name "len" p1) [.Name x p2] [] p3) env) :: starEach [.Name x p4] env)
    (h2 : starEach [.Name x p4] env = (false, eval (.Name x p4) env) :: starEach [] env) (h3 : starEach [.Name x p2] env = (false, eval (.Name x p2) env) :: starEach [] env) :
    wpAny (model prog w) A (eval (.Tuple [.Call (.Name "len" p1) [.Name x p2] [] p3, .Name x p4] cx p5) env)
      (PySem.W.KeyPure (encP l) s) E s := by
  have hz3 : ¬ ((T l).length : Int) ≥ 2 ^ 63 := by
    have := sizeLine_eq
    rw [T_len]; omega
  refine wpAny_Tuple_spliced ?_
  rw [h1]
  show wpAny _ _ (spliced ((false, eval (.Call (.Name "len" p1) [.Name x p2] [] p3) env) :: backTo p5 (starEach [.Name x p4] env))) _ _ s
  rw [h2]
  show wpAny _ _ (spliced ((false, eval (.Call (.Name "len" p1) [.Name x p2] [] p3) env) :: (false, eval (.Name x p4) env) :: [])) _ _ s
  have ld : ∀ (pp : Pos) (s' : Shared) (Q : Value → Shared → Prop) (E : Value → Shared → Prop), s'.heap = s.heap → Q (.str (T l) t) s' → wpAny (model prog w) A (eval (.Name x pp) env) Q E s' := by
    intro pp s' Q E e q
    exact wpAny_Name (wpAny_loadName_local hk hx (by rw [e]; exact hn) hm q) hd
  refine Calls.spliced_cons ?_
  refine wpAny_Call_Name_kw (Calls.Name_function_global hk hl (Calls.loadGlobal_builtin g gl b bl ?_))
  refine PyProof.Rows.callWith_builtin1 ?_ h3 rfl
  rw [h3]
  show wpAny _ _ (spliced ((false, eval (.Name x p2) env) :: [])) _ _ s
  refine Calls.spliced_cons (ld _ _ _ _ rfl (Calls.spliced_nil ?_))
  refine PySem.P.len_str hz3 ?_
  refine Calls.spliced_cons (ld _ _ _ _ rfl (Calls.spliced_nil ?_))
  refine ⟨by show 2 ≤ sizeLine; decide, ?_⟩
  refine ⟨_, _, rfl, fun _ _ z => Heap.get?_push_of_some _ z, ?_⟩
  refine .tuple (o := { cls := .type "tuple", data := .seq [Value.int ((T l).length : Nat) (s.toks + 1), .str (T l) t].toArray }) (Heap.get?_push_size _ rfl) rfl rfl ?_
  exact .cons (as := []) (bs := []) (.int _ _) (.cons (as := []) (bs := []) (.str _ _) .nil)
end
end LK
namespace LK
open PySem PySem.Spec PyProof.Rows L2 LamX
open PySem.W (EachIs dataLe AllAlike Sortable)
section
variable {X : Cx} {e : Expr} {t : TA} {p p1 p2 p3 p4 p5 lp kp pos : Pos}
/-- what is sorted: a dict's keys, a list -/
def SrcT (K : PySem.W.Frag) (H : Hp) (a : Addr) (ks : List (List Nat)) : Prop :=
  (∃ kvs : List (Key × V), H a = some (.dK kvs) ∧ kvs.map (·.1) = ks.map fun l => Sum.inr (T l)) ∨ SqL K H a (ks.map fun l => .str (T l))
/-- sorted(xs, key=lambda x: (len(x), x)) -/
def sortedLamU (K : PySem.W.Frag) (TT : List (Addr × Str)) : List V → Hp → VK → Prop := fun vs H Q => match vs with
  | [.ref a] => ∃ (ks : List (List Nat)), SrcT K H a ks ∧ (∀ l ∈ ks, l.length ≤ sizeLine) ∧ Tabs TT H ∧
      ∀ H2, ExtN H H2 → Tabs TT H2 → ∀ p, H2 p = none → Q (.ref p) (upd H2 p (.lst ((ks.mergeSort (dataLe false encP)).map fun l => .str (T l))))
  | _ => False
theorem ExtN.lst {K : PySem.W.Frag} {H H2 : Hp} {a : Addr} {xs : List V} (x : ExtN H H2) (h : SqL K H a xs) : SqL K H2 a xs := by
  rcases h with (h | ⟨o, h⟩) | h
  · exact .inl (.inl (x _ _ h fun ps z => nomatch z))
  · exact .inl (.inr ⟨o, x _ _ h fun ps z => nomatch z⟩)
  · exact .inr h
theorem pe_sortedLam {TT : List (Addr × Str)} {c P : Addr} {x : Str} {params : Arguments} {scope : Scope} {cx : Nat}
    (hc : X.calm = true) (hr : Room 1 X.A) (hg : Gl X "sorted") (hm : X.mg "sorted" = none) (hml : X.mg "len" = none)
    (TB : TabB X.base X.mg c P) (hcode : X.env.code = .ref c) (hmem : (P, X.env.qual ++ "<lambda>") ∈ TT) (hun : ∀ p ∈ TT, p.1 = P → p.2 = X.env.qual ++ "<lambda>")
    (hdef : defaultsOf params X.env = ([], [])) (hfree : ∀ y ∈ scope.names, y.2 = .free → ∃ c, X.env.cells.lookup y.1 = some c)
    (hbind : ∀ (q : Str) (cl : List (Str × Addr)) (pm ctv cv v : Value),
      bindArgs (PySem.W.kla_fn "<lambda>" q params (.Tuple [.Call (.Name "len" p1) [.Name x p2] [] p3, .Name x p4] cx p5) scope cl pm cv ctv) ⟨[v], []⟩ = pure [(x, v)])
    (sk : scope.kind = .function) (sc : scope.isCoroutine = false) (sg : scope.isGenerator = false) (scell : ∀ y ∈ scope.names, y.2 ≠ .cell)
    (sx : scope.names.lookup x = some .local) (sl : scope.names.lookup ("len" : Str) = some .globalImplicit)
    (ha : PA X [e] t) (hd : (x == ("__debug__" : Str)) = false := by decide)
    (hst : ∀ (q : Str) (L f c : Addr) (cl : List (Str × Addr)), starEach [.Call (.Name "len" p1) [.Name x p2] [] p3, .Name x p4] (PySem.W.envX q scope L f (.ref c) cl) =
      (false, eval (.Call (.Name "len" p1) [.Name x p2] [] p3) (PySem.W.envX q scope L f (.ref c) cl)) :: starEach [.Name x p4] (PySem.W.envX q scope L f (.ref c) cl) := by intros; rfl)
    (hst2 : ∀ (pp : Pos) (q : Str) (L f c : Addr) (cl : List (Str × Addr)), starEach [.Name x pp] (PySem.W.envX q scope L f (.ref c) cl) =
      (false, eval (.Name x pp) (PySem.W.envX q scope L f (.ref c) cl)) :: starEach [] (PySem.W.envX q scope L f (.ref c) cl) := by intros; rfl)
    (hv : bootBuiltins "sorted" = some (.builtin "sorted") := by decide +kernel)
    (he : backTo pos (starEach [e] X.env) = (false, eval e X.env) :: backTo pos (starEach [] X.env) := by rfl)
    (hpl : (backTo pos (starEach [e] X.env)).any (·.1) = false := by rfl) :
    PE X (.Call (.Name "sorted" p) [e] [⟨some "key", .Lambda params (.Tuple [.Call (.Name "len" p1) [.Name x p2] [] p3, .Name x p4] cx p5) scope lp, kp⟩] pos)
      (tCB (sortedLamU X.K TT) t) := by
  refine ⟨fun pins s σ H Q I h => ?_⟩
  refine wpAny_Call_Name_kw (ld_blt I hg hm hv ?_)
  refine PyProof.Rows.callWith_kw (thn (ha.run pos pins s σ H _ I h) fun us s1 z => ?_) he hpl rfl rfl
  obtain ⟨vs, H1, I1, r1, q1⟩ := z
  have q1 : sortedLamU X.K TT vs H1 Q := q1
  have key : ∃ a, vs = [.ref a] ∧ ∃ (ks : List (List Nat)), SrcT X.K H1 a ks ∧ (∀ l ∈ ks, l.length ≤ sizeLine) ∧ Tabs TT H1 ∧
      ∀ H2, ExtN H1 H2 → Tabs TT H2 → ∀ p, H2 p = none → Q (.ref p) (upd H2 p (.lst ((ks.mergeSort (dataLe false encP)).map fun l => .str (T l)))) := by
    unfold sortedLamU at q1
    split at q1
    · exact ⟨_, rfl, q1⟩
    · exact q1.elim
  obtain ⟨a, rfl, ks, hs, hl, hT, q⟩ := key
  obtain ⟨u, rfl, ru⟩ := vals1 r1
  obtain rfl : u = Value.ref a := ru
  show wpAny _ _ (evalAll [(do let v ← eval (.Lambda params _ scope lp) X.env; standAt pos; pure v)]) _ _ s1
  refine wpAny_evalAll_cons (wpAny_bind (lam_make2 I1 TB hcode hmem hun hT hdef hfree ?_))
  intro f c' pm ctv H2 s2 I2 x2 hT2 hf nf frf hco
  refine wpAny_bind (wpAny_standAt (wpAny_pure (wpAny_evalAll_nil ?_)))
  show wpAny (model X.prog X.w) X.A (call (.builtin "sorted") [.ref a] [(Str.ofString "key", .ref f)]) (EP X pins σ Q) X.xe s2
  have body : ∀ (h' : Heap) (tk : Nat) (vs : List Value) (E' : Value → Shared → Prop), (∀ b o, s2.heap.get? b = some o → h'.get? b = some o) → EachIs RT vs ks → ks.length ≤ sizeLine →
      Inv X pins σ H2 { s2 with heap := h', toks := tk } →
      wpAny (model X.prog X.w) X.A.in1.in1 (Builtin.«list.sort» ⟨[.ref h'.objs.size], [(Str.ofString "key", .ref f)]⟩) (fun fl s' => fl = .done (.ret .none) ∧ EP X pins σ Q (.ref h'.objs.size) s') E'
        { s2 with heap := h'.push (seqObj "list" vs.toArray 0), toks := tk } := by
    intro h' tk vs E' keep e hz J
    refine sort_key_end J e hz (alike_P ks) (sortable_P ks) (fun l _ => ?_) (fun x => PyProof.Rows.ksk_t1 _ _) ?_ ?_
    · have := hr.un
      show X.A.units + 1 + 1 + (encP l).depth < cLine
      have : (encP l).depth = 1 := rfl
      omega
    · intro v l hR hm h2 tk2 k2
      obtain ⟨tv, rfl⟩ := hR
      have kp : ∀ b o, s2.heap.get? b = some o → h2.get? b = some o := fun b o z => k2 b o (keep b o z)
      have bk : ∀ b o, X.base.get? b = some o → h2.get? b = some o := fun b o z => kp b o (I2.bk b o z)
      obtain ⟨mb, b1, b2⟩ := I2.mod.blt
      have gB : h2.Ns builtinsNs mb := b1.keeps bk
      have gG : h2.Ns mainGlobals X.mg := I2.mod.glob.keeps bk
      have hrec : h2.CodeRec (.ref c') (X.env.qual ++ "<lambda>") := by
        have cx : ObjOk X.prog X.w H2 s2.heap c' (CodeO c' (X.env.qual ++ "<lambda>")) := I2.hok c' _ hco
        obtain ⟨⟨oc, fv, tq, e1, e2, e3⟩, _⟩ := cx
        exact ⟨c', oc, fv, tq, rfl, kp _ _ e1, e2, e3⟩
      refine wpAny_call (codeAny_mono (PySem.W.kla_callFunE (s := { s2 with heap := h2, toks := tk2 })
        (R := fun r s' => ∃ v, r = .ok (.ret v) ∧ PySem.W.KeyPure (encP l) { s2 with heap := h2, toks := tk2 } v s') hr.depth (kp _ _ hf) rfl sc sg rfl hrec ?_) ?_)
      · rw [hbind]
        refine wpAny_pure (wpAny_newFunctionEnv scell (fun y hy => ?_) (fun h3 hns hsb => ?_) sk)
        · obtain rfl : y = (x, Value.str (T l) tv) := by simpa using hy
          exact sx
        · have k3 : ∀ b o, h2.get? b = some o → h3.get? b = some o := fun b o z => (hsb.2 b (Nat.ne_of_lt (Heap.lt_size z))).trans (Heap.get?_push_of_some _ z)
          refine ⟨(I2.mod.nolimit.keeps bk).fresh _ hsb, ?_⟩
          show codeAny _ _ (.expr _ (PySem.W.envX (X.env.qual ++ "<lambda>") scope h2.objs.size f (.ref c') (cloFrom X.env.cells scope.names []))) _ _
          refine PySem.W.kla_codeExpr (wpAny_mono (pair_run (l := l) (t := tv) (mg := X.mg) (mb := mb) sk sx hns ?_ sl (gG.keeps k3) hml (gB.keeps k3) ?_ (hl l hm) hd (hst _ _ _ _ _) (hst2 _ _ _ _ _ _) (hst2 _ _ _ _ _ _)) ?_ (fun _ _ z => z))
          · show ([(x, Value.str (T l) tv)] : List (Str × Value)).reverse.lookup x = _
            simp [List.lookup]
          · rw [b2 "len" (by decide)]; exact PySem.boot_len
          · intro v s' z
            obtain ⟨h4, tk4, rfl, k4, rd⟩ := z
            exact ⟨v, rfl, h4, tk4, rfl, fun b o z => k4 b o (k3 b o z), rd⟩
      · intro r s' z
        obtain ⟨v, rfl, z⟩ := z
        exact z
    · intro hf' tk' k3 J2 n
      exact ⟨.ref _, _, J2, rfl, q H2 x2 hT2 _ n⟩
  rcases hs with ⟨kvs, hk1, hk2⟩ | hs
  · have hk1' : H2 a = some (.dK kvs) := x2 a _ hk1 fun ps z => nomatch z
    refine sorted_via I2 (PyProof.Rows.ksk_s1 _ _) (fun _ => PyProof.Rows.ksk_l1 _ _) (fun vs => EachIs RT vs ks ∧ ks.length ≤ sizeLine)
      (fun R hR => collect_dict (A := X.A.in1) (I2.ok.hd hc) I2 hk1' hk2 fun h' tk vs keep e hz => hR h' tk vs keep ⟨e, hz⟩ (by rw [e.length]; exact hz)) ?_
    intro h' tk vs E' keep pv _ J
    exact body h' tk vs E' keep pv.1 pv.2 J
  · have hs' : SqL X.K H2 a (ks.map fun l => .str (T l)) := ExtN.lst x2 hs
    obtain ⟨its, rv, hli, hz⟩ := I2.list hs'
    have e := RT_vals rv
    have hz2 : ks.length ≤ sizeLine := by rw [List.length_map] at hz; exact hz
    refine sorted_via I2 (PyProof.Rows.ksk_s1 _ _) (fun _ => PyProof.Rows.ksk_l1 _ _) (fun vs => vs = its) (fun R hR => ?_) ?_
    · refine collect_list hli.isList ?_ (by rw [e.length]; exact hz2)
      refine hR _ s2.toks its (fun b o hb => ?_) rfl (by rw [e.length]; exact hz2)
      rw [Heap.get?_update_ne _ _ _ _ (Nat.ne_of_lt (Heap.lt_size hb))]
      exact Heap.get?_push_of_some _ hb
    · intro h' tk vs E' keep pv _ J
      subst pv
      exact body h' tk vs E' keep e hz2 J
end
end LK

/-! Walks over values known beforehand: for, list comprehensions. -/
namespace LK
open PySem PySem.Spec PyProof.Rows L2
open PySem.W (EachIs)

/-- J tells the values xs one behind another as long as P holds of the heap -/
structure Wk (J : It) (xs : List V) (P : Hp → Prop) : Prop where
  go : ∀ i H, P H → i < xs.length → J.go i H
  yld : ∀ i H x H', P H → i < xs.length → J.yld i H x H' → H' = H ∧ xs[i]? = some x
  stop : ∀ i H, P H → xs.length ≤ i → J.stop i H
theorem wk_list {K : PySem.W.Frag} {a : Addr} {xs : List V} : Wk (Itl K a) xs (fun H => SqL K H a xs) :=
  ⟨fun i H h l => ⟨xs, xs[i], h, List.getElem?_eq_getElem l⟩, fun i H x H' h _ y => ⟨y.1, y.2 xs h⟩, fun i H h l => ⟨xs, h, l⟩⟩
theorem wk_tup {K : PySem.W.Frag} {a : Addr} {xs : List V} : Wk (Itt K a) xs (fun H => SqT K H a xs) :=
  ⟨fun i H h l => ⟨xs, xs[i], h, List.getElem?_eq_getElem l⟩, fun i H x H' h _ y => ⟨y.1, y.2 xs h⟩, fun i H h l => ⟨xs, h, l⟩⟩
abbrev lets (l : List Nat) : List V := l.map fun c => .str (T [c])
theorem wk_str (l : List Nat) : Wk (Its (T l)) (lets l) (fun _ => True) := by
  refine ⟨fun i H _ h => ?_, fun i H x H' _ _ y => ?_, fun i H _ h => ?_⟩
  · rw [List.length_map] at h; exact h
  · obtain ⟨e, c, hc, rfl⟩ := y
    refine ⟨e, ?_⟩
    have hc' : l[i]? = some c := by
      rw [← hc]
      show l[i]? = (l.toArray)[i]?
      exact List.getElem?_toArray.symm
    rw [List.getElem?_map, hc']; rfl
  · rw [List.length_map] at h; exact h
abbrev rng (lo : Int) (n : Nat) : List V := (List.range n).map fun (i : Nat) => V.int (lo + (i : Nat))
theorem wk_rng (lo : Int) (n : Nat) : Wk (Itr lo n) (rng lo n) (fun _ => True) := by
  refine ⟨fun i H _ h => ?_, fun i H x H' _ hi y => ?_, fun i H _ h => ?_⟩
  · rw [List.length_map, List.length_range] at h; exact h
  · rw [List.length_map, List.length_range] at hi
    obtain ⟨e, rfl⟩ := y
    refine ⟨e, ?_⟩
    rw [List.getElem?_map, List.getElem?_range hi]; rfl
  · rw [List.length_map, List.length_range] at h; exact h
theorem wk_rngC (lo c : Int) (n : Nat) : Wk (Itc lo c n) ((List.range n).map fun (i : Nat) => V.int (lo + (i : Nat) * c)) (fun _ => True) := by
  refine ⟨fun i H _ h => ?_, fun i H x H' _ hi y => ?_, fun i H _ h => ?_⟩
  · rw [List.length_map, List.length_range] at h; exact h
  · rw [List.length_map, List.length_range] at hi
    obtain ⟨e, rfl⟩ := y
    refine ⟨e, ?_⟩
    rw [List.getElem?_map, List.getElem?_range hi]; rfl
  · rw [List.length_map, List.length_range] at h; exact h

theorem split_at {α : Type} {xs : List α} {i : Nat} {x : α} (h : xs[i]? = some x) : xs = xs.take i ++ x :: xs.drop (i + 1) ∧ xs.take (i + 1) = xs.take i ++ [x] := by
  have hi : i < xs.length := (List.getElem?_eq_some_iff.mp h).1
  have hx : xs[i] = x := (List.getElem?_eq_some_iff.mp h).2
  refine ⟨?_, ?_⟩
  · conv => lhs; rw [← List.take_append_drop i xs, List.drop_eq_getElem_cons hi, hx]
  · rw [List.take_add_one, h]; rfl

/-- for over known values: an invariant by what is gone through -/
theorem for_wk {J : It} {xs : List V} {P : Hp → Prop} (W : Wk J xs P) {g : TG} {tb : TS} {D : Ends} {σ : L2.St} {H : Hp} (Iv : List V → L2.St → Hp → Prop)
    (hP : ∀ pre σ H, Iv pre σ H → P H) (h0 : Iv [] σ H)
    (hs : ∀ pre x suf σ H, xs = pre ++ x :: suf → Iv pre σ H → g x σ H fun σ2 H2 => tb { D with nx := Iv (pre ++ [x]), ct := Iv (pre ++ [x]), bk := D.nx } σ2 H2)
    (he : ∀ σ H, Iv xs σ H → D.nx σ H) :
    ∃ W : Nat → Nat → L2.St → Hp → Prop, (∃ m, W 0 m σ H) ∧ ∀ i m σ H, W i m σ H → (J.stop i H ∧ D.nx σ H) ∨ (J.go i H ∧ ∃ N : L2.St → Hp → Prop, (∀ σ' H', N σ' H' → ∃ m', m' < m ∧ W (i + 1) m' σ' H') ∧
      ∀ x H', J.yld i H x H' → g x σ H' fun σ2 H2 => tb { D with nx := N, ct := N, bk := D.nx } σ2 H2) := by
  refine ⟨fun i m σ H => i + m = xs.length ∧ Iv (xs.take i) σ H, ⟨xs.length, by omega, h0⟩, fun i m σ H h => ?_⟩
  obtain ⟨em, iv⟩ := h
  by_cases hi : i < xs.length
  · have hx := List.getElem?_eq_getElem hi
    obtain ⟨e1, e2⟩ := split_at hx
    refine .inr ⟨W.go i H (hP _ _ _ iv) hi, Iv (xs.take i ++ [xs[i]]), fun σ' H' n => ⟨m - 1, by omega, by omega, by rw [e2]; exact n⟩, fun x H' y => ?_⟩
    obtain ⟨rfl, hx2⟩ := W.yld i H x H' (hP _ _ _ iv) hi y
    rw [hx] at hx2
    cases hx2
    exact hs _ _ _ _ _ e1 iv
  · have e : xs.take i = xs := List.take_of_length_le (by omega)
    rw [e] at iv
    exact .inl ⟨W.stop i H (hP _ _ _ iv) (by omega), he _ _ iv⟩

/-- a list comprehension over known values without if: the values ys that come of xs -/
theorem lc_wk {J : It} {xs : List V} {P : Hp → Prop} (W : Wk J xs P) {g : TG} {te : TE} {σ : L2.St} {H : Hp} {vs : List Nat} {Q : VK} {D : Addr} (R : List V → List V → Hp → Prop)
    (hP : ∀ pre acc H, R pre acc H → P H) (h0 : R [] [] (upd H D (.lst [])))
    (hs : ∀ pre acc x suf H, xs = pre ++ x :: suf → R pre acc H → g x (wipe σ vs) H fun σ2 H2 => wipe σ2 vs = wipe σ vs ∧ te σ2 H2 fun y H4 =>
      ∃ acc, H4 D = some (.lst acc) ∧ acc.length < sizeLine ∧ ∃ a, R (pre ++ [x]) a (upd H4 D (.lst (acc ++ [y]))))
    (he : ∀ acc H, R xs acc H → Q (.ref D) H) :
    ∃ W : Nat → Nat → Hp → Prop, (∃ m, W 0 m (upd H D (.lst []))) ∧ ∀ i m H, W i m H →
  (J.stop i H ∧ Q (.ref D) H) ∨ (J.go i H ∧ ∃ Nx : Hp → Prop, (∀ H', Nx H' → ∃ m', m' < m ∧ W (i + 1) m' H') ∧ ∀ x H', J.yld i H x H' → g x (wipe σ vs) H' fun σ2 H2 => wipe σ2 vs = wipe σ vs ∧ tYes σ2 H2 fun b H3 =>
    if b = true then te σ2 H3 fun y H4 => ∃ acc, H4 D = some (.lst acc) ∧ acc.length < sizeLine ∧ Nx (upd H4 D (.lst (acc ++ [y]))) else Nx H3) := by
  refine ⟨fun i m H => i + m = xs.length ∧ ∃ acc, R (xs.take i) acc H, ⟨xs.length, by omega, [], h0⟩, fun i m H h => ?_⟩
  obtain ⟨em, acc, iv⟩ := h
  by_cases hi : i < xs.length
  · have hx := List.getElem?_eq_getElem hi
    obtain ⟨e1, e2⟩ := split_at hx
    refine .inr ⟨W.go i H (hP _ _ _ iv) hi, fun H' => ∃ acc, R (xs.take i ++ [xs[i]]) acc H', fun H' n => ?_, fun x H' y => ?_⟩
    · obtain ⟨acc, n⟩ := n
      exact ⟨m - 1, by omega, by omega, acc, by rw [e2]; exact n⟩
    · obtain ⟨rfl, hx2⟩ := W.yld i H x H' (hP _ _ _ iv) hi y
      rw [hx] at hx2
      cases hx2
      exact hs _ _ _ _ _ e1 iv
  · have e : xs.take i = xs := List.take_of_length_le (by omega)
    rw [e] at iv
    exact .inl ⟨W.stop i H (hP _ _ _ iv) (by omega), he _ _ iv⟩

section
variable {K : PySem.W.Frag} {g : TG} {te : TE} {tb : TS} {σ : L2.St} {H H1 : Hp} {vs : List Nat} {Q : VK} {t : TE} {D : Ends}
/-- t tells v at once -/
def At (t : TE) (σ : L2.St) (H : Hp) (v : V) (H1 : Hp) : Prop := ∀ R : VK, R v H1 → t σ H R
theorem lc_str {l : List Nat} (h : At t σ H (.str (T l)) H1) (R : Addr → List V → List V → Hp → Prop)
    (h0 : ∀ D, H1 D = none → R D [] [] (upd H1 D (.lst [])))
    (hs : ∀ D, H1 D = none → ∀ pre acc c suf H, l = pre ++ c :: suf → R D (lets pre) acc H → g (.str (T [c])) (wipe σ vs) H fun σ2 H2 => wipe σ2 vs = wipe σ vs ∧ te σ2 H2 fun y H4 =>
      ∃ acc, H4 D = some (.lst acc) ∧ acc.length < sizeLine ∧ ∃ a, R D (lets (pre ++ [c])) a (upd H4 D (.lst (acc ++ [y]))))
    (he : ∀ D, H1 D = none → ∀ acc H, R D (lets l) acc H → Q (.ref D) H) : tLc (iStr t) g tYes te vs σ H Q := by
  refine h _ ⟨_, rfl, fun D nD => ?_⟩
  refine lc_wk (wk_str l) (fun pre acc H => R D pre acc H) (fun _ _ _ _ => trivial) (h0 D nD) (fun pre acc x suf H2 e r => ?_) (he D nD)
  obtain ⟨p, q, e1, e2, e3⟩ := List.map_eq_append_iff.mp e
  cases q with
  | nil => cases e3
  | cons c q =>
    obtain ⟨rfl, rfl⟩ := List.cons.inj e3
    subst e2
    have z := hs D nD p acc c q H2 e1 r
    simp only [lets, List.map_append, List.map_cons, List.map_nil] at z
    exact z
theorem lc_rng {t : TA} {n : Nat} (h : ∀ R : List V → Hp → Prop, R [.int n] H1 → t σ H R) (hn : n < 1000000) (R : Addr → Nat → List V → Hp → Prop)
    (h0 : ∀ D, H1 D = none → R D 0 [] (upd H1 D (.lst [])))
    (hs : ∀ D, H1 D = none → ∀ i acc H, i < n → R D i acc H → g (.int i) (wipe σ vs) H fun σ2 H2 => wipe σ2 vs = wipe σ vs ∧ te σ2 H2 fun y H4 =>
      ∃ acc, H4 D = some (.lst acc) ∧ acc.length < sizeLine ∧ ∃ a, R D (i + 1) a (upd H4 D (.lst (acc ++ [y]))))
    (he : ∀ D, H1 D = none → ∀ acc H, R D n acc H → Q (.ref D) H) : tLc (iRng1 t) g tYes te vs σ H Q := by
  refine h _ ⟨n, rfl, by omega, by omega, fun D nD => ?_⟩
  refine lc_wk (wk_rng 0 n) (fun pre acc H => R D pre.length acc H) (fun _ _ _ _ => trivial) (h0 D nD) (fun pre acc x suf H2 e r => ?_) (fun acc H r => he D nD acc H ?_)
  · have hl : pre.length < n := by
      have := congrArg List.length e
      simp at this; omega
    have hx : (rng 0 n)[pre.length]? = some x := by rw [e]; simp
    rw [List.getElem?_map, List.getElem?_range hl] at hx
    have hx := Option.some.inj hx
    simp only [Int.zero_add] at hx
    subst hx
    have z := hs D nD pre.length acc H2 hl r
    rw [List.length_append]
    exact z
  · rw [List.length_map, List.length_range] at r; exact r
theorem lc_list {a : Addr} {xs : List V} (h : At t σ H (.ref a) H1) (hx : SqL K H1 a xs) (R : Addr → List V → List V → Hp → Prop)
    (hP : ∀ D pre acc H, R D pre acc H → SqL K H a xs) (h0 : ∀ D, H1 D = none → R D [] [] (upd H1 D (.lst [])))
    (hs : ∀ D, H1 D = none → ∀ pre acc x suf H, xs = pre ++ x :: suf → R D pre acc H → g x (wipe σ vs) H fun σ2 H2 => wipe σ2 vs = wipe σ vs ∧ te σ2 H2 fun y H4 =>
      ∃ acc, H4 D = some (.lst acc) ∧ acc.length < sizeLine ∧ ∃ a, R D (pre ++ [x]) a (upd H4 D (.lst (acc ++ [y]))))
    (he : ∀ D, H1 D = none → ∀ acc H, R D xs acc H → Q (.ref D) H) : tLc (iList K t) g tYes te vs σ H Q :=
  h _ ⟨a, rfl, ⟨_, hx⟩, fun D nD => lc_wk wk_list (fun pre acc H => R D pre acc H) (hP D) (h0 D nD) (hs D nD) (he D nD)⟩

theorem for_str {l : List Nat} (h : At t σ H (.str (T l)) H1) (Iv : List Nat → L2.St → Hp → Prop) (h0 : Iv [] σ H1)
    (hs : ∀ pre c suf σ H, l = pre ++ c :: suf → Iv pre σ H → g (.str (T [c])) σ H fun σ2 H2 => tb { D with nx := Iv (pre ++ [c]), ct := Iv (pre ++ [c]), bk := D.nx } σ2 H2)
    (he : ∀ σ H, Iv l σ H → D.nx σ H) : tFor (iStr t) g tb D σ H := by
  refine h _ ⟨_, rfl, ?_⟩
  refine for_wk (wk_str l) (fun pre σ H => ∃ p, pre = lets p ∧ Iv p σ H) (fun _ _ _ _ => trivial) ⟨[], rfl, h0⟩ (fun pre x suf σ H2 e r => ?_) (fun σ H r => ?_)
  · obtain ⟨p', rfl, iv⟩ := r
    obtain ⟨p, q, e1, e2, e3⟩ := List.map_eq_append_iff.mp e
    obtain rfl : p = p' := by
      have inj : ∀ a b : Nat, V.str (T [a]) = V.str (T [b]) → a = b := fun a b z => by
        have z1 := T_inj (V.str.inj z)
        exact (List.cons.inj z1).1
      exact (List.map_inj_right inj).mp e2
    cases q with
    | nil => cases e3
    | cons c q =>
      obtain ⟨rfl, rfl⟩ := List.cons.inj e3
      have z := hs p c q σ H2 e1 iv
      have e4 : (fun (σ : L2.St) (H : Hp) => ∃ p_1, lets p ++ [V.str (T [c])] = lets p_1 ∧ Iv p_1 σ H) = Iv (p ++ [c]) := by
        funext σ H
        apply propext
        constructor
        · rintro ⟨p1, e, h⟩
          have e5 : lets (p ++ [c]) = lets p1 := by rw [← e]; simp [lets]
          have inj : ∀ a b : Nat, V.str (T [a]) = V.str (T [b]) → a = b := fun a b z => by
            have z1 := T_inj (V.str.inj z)
            exact (List.cons.inj z1).1
          rw [(List.map_inj_right inj).mp e5]; exact h
        · intro h; exact ⟨_, by simp [lets], h⟩
      rw [e4]
      exact z
  · obtain ⟨p, e, iv⟩ := r
    have inj : ∀ a b : Nat, V.str (T [a]) = V.str (T [b]) → a = b := fun a b z => by
      have z1 := T_inj (V.str.inj z)
      exact (List.cons.inj z1).1
    obtain rfl := (List.map_inj_right inj).mp e
    exact he σ H iv
theorem for_list {a : Addr} {xs : List V} (h : At t σ H (.ref a) H1) (hx : SqL K H1 a xs) (Iv : List V → L2.St → Hp → Prop) (hP : ∀ pre σ H, Iv pre σ H → SqL K H a xs) (h0 : Iv [] σ H1)
    (hs : ∀ pre x suf σ H, xs = pre ++ x :: suf → Iv pre σ H → g x σ H fun σ2 H2 => tb { D with nx := Iv (pre ++ [x]), ct := Iv (pre ++ [x]), bk := D.nx } σ2 H2)
    (he : ∀ σ H, Iv xs σ H → D.nx σ H) : tFor (iList K t) g tb D σ H :=
  h _ ⟨a, rfl, ⟨_, hx⟩, for_wk wk_list Iv hP h0 hs he⟩
/-- turns that are counted: J tells f i in turn i -/
theorem for_n {J : It} {n : Nat} {f : Nat → V} (W : Wk J ((List.range n).map f) fun _ => True) (Iv : Nat → L2.St → Hp → Prop) (h0 : Iv 0 σ H1)
    (hs : ∀ i σ H, i < n → Iv i σ H → g (f i) σ H fun σ2 H2 => tb { D with nx := Iv (i + 1), ct := Iv (i + 1), bk := D.nx } σ2 H2)
    (he : ∀ σ H, Iv n σ H → D.nx σ H) :
    ∃ W : Nat → Nat → L2.St → Hp → Prop, (∃ m, W 0 m σ H1) ∧ ∀ i m σ H, W i m σ H → (J.stop i H ∧ D.nx σ H) ∨ (J.go i H ∧ ∃ N : L2.St → Hp → Prop, (∀ σ' H', N σ' H' → ∃ m', m' < m ∧ W (i + 1) m' σ' H') ∧
      ∀ x H', J.yld i H x H' → g x σ H' fun σ2 H2 => tb { D with nx := N, ct := N, bk := D.nx } σ2 H2) := by
  refine for_wk W (fun pre σ H => Iv pre.length σ H) (fun _ _ _ _ => trivial) h0 (fun pre x suf σ H2 e r => ?_) (fun σ H r => he σ H ?_)
  · have hl : pre.length < n := by
      have := congrArg List.length e
      simp at this; omega
    have hx : ((List.range n).map f)[pre.length]? = some x := by rw [e]; simp
    rw [List.getElem?_map, List.getElem?_range hl] at hx
    have hx := Option.some.inj hx
    subst hx
    have z := hs pre.length σ H2 hl r
    rw [List.length_append]
    exact z
  · rw [List.length_map, List.length_range] at r; exact r
theorem for_rng {t : TA} {n : Nat} (h : ∀ R : List V → Hp → Prop, R [.int n] H1 → t σ H R) (hn : n < 1000000) (Iv : Nat → L2.St → Hp → Prop) (h0 : Iv 0 σ H1)
    (hs : ∀ i σ H, i < n → Iv i σ H → g (.int i) σ H fun σ2 H2 => tb { D with nx := Iv (i + 1), ct := Iv (i + 1), bk := D.nx } σ2 H2)
    (he : ∀ σ H, Iv n σ H → D.nx σ H) : tFor (iRng1 t) g tb D σ H := by
  refine h _ ⟨n, rfl, by omega, by omega, ?_⟩
  refine for_n (f := fun i => V.int (0 + (i : Nat))) (wk_rng 0 n) Iv h0 (fun i σ H hi iv => ?_) he
  rw [Int.zero_add]
  exact hs i σ H hi iv
/-- range(n - 1, -1, -1) -/
theorem for_down {t : TA} {n : Nat} (h : ∀ R : List V → Hp → Prop, R [.int ((n : Int) - 1), .int (-1), .int (-1)] H1 → t σ H R) (hn : n < 1000000) (Iv : Nat → L2.St → Hp → Prop) (h0 : Iv 0 σ H1)
    (hs : ∀ i σ H, i < n → Iv i σ H → g (.int ((n - 1 - i : Nat) : Int)) σ H fun σ2 H2 => tb { D with nx := Iv (i + 1), ct := Iv (i + 1), bk := D.nx } σ2 H2)
    (he : ∀ σ H, Iv n σ H → D.nx σ H) : tFor (iRng3 t) g tb D σ H := by
  have e : ((n : Int) - 1 - (-1)).toNat = n := by omega
  have rc := RgC.neg (i := (n : Int) - 1) (j := -1) (by omega) (by omega) (by omega) (by omega)
  rw [e] at rc
  refine h _ ⟨_, _, _, n, rfl, rc, ?_⟩
  refine for_n (f := fun i => V.int ((n : Int) - 1 + (i : Nat) * (-1))) (wk_rngC ((n : Int) - 1) (-1) n) Iv h0 (fun i σ H hi iv => ?_) he
  have e2 : (n : Int) - 1 + (i : Nat) * (-1) = ((n - 1 - i : Nat) : Int) := by omega
  rw [e2]
  exact hs i σ H hi iv
end
end LK

/-! list(d.values()); text[::-1], text[::2] -/
namespace LK
open PySem PySem.Spec PyProof.Rows L2
section
variable {X : Cx} {e : Expr} {te : TE} {p apos cpos pos : Pos}
def tListValues (te : TE) : TE := fun σ H Q => te σ H fun x H1 => ∃ (d : Addr) (kvs : List (Key × V)), x = .ref d ∧ H1 d = some (.dK kvs) ∧ ∀ p, H1 p = none → Q (.ref p) (upd H1 p (.lst (kvs.map (·.2))))
theorem pe_listValues (hc : X.calm = true) (he : PE X e te) (hg : Gl X "list") (hm : X.mg "list" = none) (hv : bootBuiltins "list" = some (.type "list")) (hbase : attributeBase e "values" X.env (eval e X.env) = eval e X.env := by rfl) (hline : (apos.endLine == cpos.line) = true := by rfl)
    (hs : starEach [.Call (.Attribute e "values" apos) [] [] cpos] X.env = (false, eval (.Call (.Attribute e "values" apos) [] [] cpos) X.env) :: starEach [] X.env := by rfl) :
    PE X (.Call (.Name "list" p) [.Call (.Attribute e "values" apos) [] [] cpos] [] pos) (tListValues te) := by
  refine ⟨fun pins s σ H Q I hq => ?_⟩
  refine wpAny_Call_Name_kw (ld_blt I hg hm hv ?_)
  refine PyProof.Rows.callWith_type1 ?_ hs rfl
  rw [hs]
  show wpAny _ _ (spliced ((false, eval (.Call (.Attribute e "values" apos) [] [] cpos) X.env) :: backTo pos (starEach [] X.env))) _ _ s
  refine Calls.spliced_cons ?_
  refine wpAny_Call_method (T := "dict") (id := "dict.values") hbase rfl hline F.plainAttrs_dict F.slot_dict_values F.type_dict_values (thn (he.run pins s σ H _ I hq) fun u s1 ⟨x, H1, I1, rx, d, kvs, ex, hd, q⟩ => ?_)
  subst ex
  obtain rfl : u = Value.ref d := rx
  obtain ⟨hz, hs0, vs, kv, hdo⟩ := I1.hok d _ hd
  obtain ⟨ep, hat⟩ := hdo.dictAt
  have lk : kvs.length = vs.length := Paired.length kv
  have I2 : Inv X pins σ H1 { s1 with heap := s1.heap.push { cls := .type "dict_values", data := .fields #[.ref d] } } := I1.kept (t' := s1.toks) fun b ob q => Heap.get?_push_of_some _ q
  refine ⟨hdo.typeIs, hdo.mapOf.noDict, ?_⟩
  show wpAny _ _ (callWith cpos (.builtin "dict.values") [.ref d] [] []) _ X.xe s1
  refine method_meetsIn F.slot_dict_values F.entry_dict_values rfl (PySem.evalArgs_none ⟨rfl, hdo.typeIs, F.args_dict_values_1 _, _, meets_dict_values (mixKind X.prog X.w) d hs0, ⟨vs, hdo⟩, ?_⟩)
  refine Calls.spliced_nil ?_
  refine PySem.W.kdl_call (PySem.W.kdl_values (knd := mixKind X.prog X.w) (kvs := vs) (ep := ep)) (I1.ok.hd hc) ⟨⟨_, Heap.get?_push_size _ rfl, rfl, rfl⟩, hat.push _⟩ (by omega) fun h' tk acc' c' hkeep hS hacc => ?_
  refine ⟨.ref _, upd H1 _ (.lst (kvs.map (·.2))), I2.laid hkeep (Nat.le_refl _) (show ObjOk X.prog X.w _ _ _ (.lst (kvs.map (·.2))) from ⟨?_, acc'.toList, c', ?_, ?_⟩), rfl, q _ (I2.hok.fresh (Nat.le_refl _))⟩
  · rw [List.length_map]; exact hz
  · have el : acc'.toList.length = acc'.size := by simp
    refine vals_of_at (by rw [List.length_map, el, hacc.1, lk]) fun j x w h1 h2 => ?_
    obtain ⟨k, hky⟩ := hacc.2 j w (by rw [← Array.getElem?_toList]; exact h2)
    rw [List.getElem?_map] at h1
    cases z : kvs[j]? with
    | none => rw [z] at h1; cases h1
    | some kx =>
      rw [z] at h1
      cases Option.some.inj h1
      obtain ⟨q', g1, g2, g3⟩ := LiI.paired_get kv z
      rw [hky] at g1
      cases g1
      exact g3
  · rw [Array.toArray_toList]; exact hS
end

section
variable {X : Cx} {e es : Expr} {te : TE} {ts : TO} {p3 pos : Pos}
/-- the signs of l that l[::i] takes -/
def stp (i : Int) (l : List Nat) : List Nat := (Builtin.Str.strSliceIndices none none i l.length).filterMap (l[·]?)
/-- text[::i], i not 0, not 1 -/
def tStep (i : Int) (te : TE) : TE := fun σ H Q => te σ H fun x H1 => match x with
  | .str z => (stp i (cs z)).length ≤ sizeLine ∧ Q (.str (T (stp i (cs z)))) H1
  | _ => False
theorem pe_step (i : Int) (h0 : (i == 0) = false) (h1 : (i == 1) = false) (he : PE X e te) (hst : PO X (some es) ts) (ht : ∀ (σ : L2.St) (H : Hp) (R : Option Int → Hp → Prop), R (some i) H → ts σ H R)
    (hop : ∀ (o : Value) (a : Addr), subscripted (.Slice none none (some es) p3) false o (.ref a) = operate [o, .ref a] (getItem o (.ref a)) := by intros; with_unfolding_all rfl) :
    PE X (.Subscript e (.Slice none none (some es) p3) pos) (tStep i te) := by
  refine ⟨fun pins s σ H Q I h => ?_⟩
  refine Subscript_ (thn (he.run pins s σ H _ I h) fun v s1 z => ?_)
  obtain ⟨x, H1, I1, r1, q1⟩ := z
  have key : ∃ z, x = .str z ∧ (stp i (cs z)).length ≤ sizeLine ∧ Q (.str (T (stp i (cs z)))) H1 := by
    split at q1
    · exact ⟨_, rfl, q1⟩
    · exact q1.elim
  obtain ⟨z, rfl, hz, q⟩ := key
  obtain ⟨t, rfl⟩ := r1
  refine wpAny_Slice (thn (po_none.run pins s1 σ H1 (fun o H2 => o = none ∧ H2 = H1) I1 ⟨rfl, rfl⟩) fun vl s2 z2 => ?_)
  obtain ⟨l, H2, I2, pl, el, e2⟩ := z2
  subst el e2
  refine thn (po_none.run pins s2 σ H2 (fun o H3 => o = none ∧ H3 = H2) I2 ⟨rfl, rfl⟩) fun vu s3 z3 => ?_
  obtain ⟨u, H3, I3, pu, eu, e3⟩ := z3
  subst eu e3
  refine thn (hst.run pins s3 σ H3 (fun o H4 => o = some i ∧ H4 = H3) I3 (ht _ _ _ ⟨rfl, rfl⟩)) fun vs s4 z4 => ?_
  obtain ⟨o, H4, I4, ps, eo, e4⟩ := z4
  subst eo e4
  have I5 : Inv X pins σ H4 { s4 with heap := s4.heap.push { cls := .type "slice", data := .fields #[vl, vu, vs] } } := I4.kept (t' := s4.toks) fun b ob q => Heap.get?_push_of_some _ q
  obtain ⟨l', rfl, e1⟩ := IsPart.raw pl
  obtain ⟨u', rfl, e2⟩ := IsPart.raw pu
  obtain ⟨st, rfl, est⟩ := IsPart.raw ps
  obtain rfl : l' = none := Option.map_eq_none_iff.mp e1
  obtain rfl : u' = none := Option.map_eq_none_iff.mp e2
  show wpAny (model X.prog X.w) X.A (subscriptTail e (.Slice none none (some es) p3) (.str z t) (.ref s4.heap.objs.size)) (EP X pins σ Q) X.xe _
  refine tail_any (ops := [.str z t, .ref s4.heap.objs.size]) (typeIs_str _ _ _) (F.slot_str_getitem.lookup) ?_ (hop _ _)
  have est2 : (st.map (·.1)).getD 1 = i := by rw [est]; rfl
  refine wpAny_getItem_str_slice (l := none) (u := none) (st := st) ⟨_, Heap.get?_push_size _ rfl, rfl, rfl⟩ (by rw [est2]; exact h0) ?_
  have em : sliceMade z t none none st = .str (T (stp i (cs z))) := by
    unfold sliceMade slicePicked
    rw [est2, h1]
    have ez : (fun k => z.cps[k]?) = fun k => (cs z)[k]? := funext fun k => Array.getElem?_toList.symm
    show Made.str ⟨((Builtin.Str.strSliceIndices none none i z.length).filterMap (z.cps[·]?)).toArray⟩ = _
    rw [ez]; rfl
  rw [em]
  exact ⟨hz, .str _, H4, I5.tok _, ⟨_, rfl⟩, q⟩
end

theorem mem_stp {i : Int} {l : List Nat} {c : Nat} (h : c ∈ stp i l) : c ∈ l := by
  obtain ⟨k, _, hk⟩ := List.mem_filterMap.mp h
  exact List.mem_of_getElem? hk
theorem len_stp2 (l : List Nat) : (stp 2 l).length ≤ l.length := by
  unfold stp
  refine Nat.le_trans (List.length_filterMap_le _ _) ?_
  have e : Builtin.Str.strSliceIndices none none 2 l.length = sliceRange 0 l.length 2 := by
    unfold Builtin.Str.strSliceIndices; simp
  rw [e]
  unfold sliceRange
  rw [List.length_map, List.length_range, if_pos (by decide)]
  split <;> omega
theorem fm_congr {α β : Type} {f g : α → Option β} : ∀ {l : List α}, (∀ x ∈ l, f x = g x) → l.filterMap f = l.filterMap g
  | [], _ => rfl
  | x :: l, h => by
    rw [List.filterMap_cons, List.filterMap_cons, h x (by simp), fm_congr fun y hy => h y (by simp [hy])]
theorem stp_rev (l : List Nat) : stp (-1) l = l.reverse := by
  unfold stp
  have e : Builtin.Str.strSliceIndices none none (-1) l.length = sliceRange ((l.length : Int) - 1) (-1) (-1) := by
    unfold Builtin.Str.strSliceIndices; simp
  rw [e]
  have e2 : sliceRange ((l.length : Int) - 1) (-1) (-1) = (List.range l.length).map fun k => l.length - 1 - k := by
    unfold sliceRange
    rw [if_neg (by decide)]
    have ec : (if (l.length : Int) - 1 > -1 then ((l.length : Int) - 1 - -1 - -1 - 1) / (- -1) else 0).toNat = l.length := by
      split <;> simp <;> omega
    dsimp only
    rw [ec]
    refine List.map_congr_left fun k hk => ?_
    rw [List.mem_range] at hk
    omega
  rw [e2]
  refine List.ext_getElem? fun k => ?_
  have e3 : ((List.range l.length).map fun k => l.length - 1 - k).filterMap (l[·]?) = (List.range l.length).filterMap fun k => l[l.length - 1 - k]? := by
    rw [List.filterMap_map]; rfl
  rw [e3]
  have e4 : ((List.range l.length).filterMap fun k => l[l.length - 1 - k]?) = (List.range l.length).map fun k => l.reverse.getD k 0 := by
    rw [← List.filterMap_eq_map]
    refine fm_congr fun k hk => ?_
    rw [List.mem_range] at hk
    show l[l.length - 1 - k]? = some (l.reverse.getD k 0)
    rw [List.getD_eq_getElem?_getD, List.getElem?_reverse hk, List.getElem?_eq_getElem (by omega)]
    rfl
  rw [e4, List.getElem?_map]
  by_cases hk : k < l.length
  · rw [List.getElem?_range hk, List.getElem?_eq_getElem (by rw [List.length_reverse]; exact hk)]
    show some (l.reverse.getD k 0) = _
    rw [List.getD_eq_getElem?_getD, List.getElem?_eq_getElem (by rw [List.length_reverse]; exact hk)]
    rfl
  · rw [List.getElem?_eq_none (by rw [List.length_range]; omega), List.getElem?_eq_none (by rw [List.length_reverse]; omega)]
    rfl
end LK

/-! Calls of own defs, by place and by name; repr of lists and tuples. -/
namespace LK
open PySem PySem.Spec PyProof.Rows L2

/-- a def of the module and what it promises -/
structure Has (P : Program) (w : World) (K : PySem.W.Frag) (mg : Str → Option Value) (base : Heap) (k : Nat) (x : Str) (ps : List Str) (sp : Sp) : Prop where
  ex : ∃ f fd, FnG P w K mg base CX0 k f fd ps sp ∧ mg x = some (.ref f) ∧ PySem.W.keepIn K (.ref f) = true ∧ Binds K fd ps [] ∧
    ∀ (s : Shared) (us : List Value), us.length = ps.length → BindsTo s fd ⟨[], ps.zip us⟩ (ps.zip us) ∧ BindsTo s fd ⟨[], (ps.zip us).reverse⟩ (ps.zip us)
theorem Has.up {P : Program} {w : World} {K : PySem.W.Frag} {mg : Str → Option Value} {base : Heap} {j k : Nat} {x : Str} {ps : List Str} {sp : Sp}
    (F : Has P w K mg base j x ps sp) (h : j ≤ k) : Has P w K mg base k x ps sp := by
  obtain ⟨f, fd, a, b⟩ := F.ex
  exact ⟨f, fd, a.up h, b⟩

section
variable {X : Cx} {k : Nat} {ps : List Str} {sp : Sp} {x : Str} {p pos : Pos} {e : Expr} {es : List Expr} {kws : List Keyword} {t tk : TA}
/-- f(e, ..) -/
theorem pe_callH (F : Has X.prog X.w X.K X.mg X.base k x ps sp) (hA : X.A.guards = some []) (hr : Room k X.A) (hg : Gl X x) (ha : PA X (e :: es) t)
    (hdb : (x == ("__debug__" : Str)) = false := by decide) (he : starEach (e :: es) X.env = (false, eval e X.env) :: starEach es X.env := by rfl)
    (hpl : (backTo pos (starEach es X.env)).any (·.1) = false := by rfl) : PE X (.Call (.Name x p) (e :: es) [] pos) (uCall sp E0 t) := by
  obtain ⟨f, fd, a, b, c, d, _⟩ := F.ex
  exact pe_callUG a hA hr hg b c d pass0 ha hdb he hpl
/-- the values by name in the sequence of the parameters -/
def uCallK (sp : Sp) (gV : List V → List V) (t : TA) : TE := fun σ H Q => t σ H fun zs H1 => sp (gV zs) H1 Q E0
/-- f(k = v, ..); g: the values in the sequence of the parameters -/
theorem pe_callHK {ks : List Str} {g : List Value → List Value} {gV : List V → List V} (F : Has X.prog X.w X.K X.mg X.base k x ps sp) (hA : X.A.guards = some []) (hr : Room k X.A) (hg : Gl X x)
    (hkw : PK X kws tk) (hall : (backToKw pos (keywordEach kws X.env)).all (·.1.isSome) = true := by rfl) (hks : (backToKw pos (keywordEach kws X.env)).filterMap (·.1) = ks := by rfl)
    (hpl : ((backTo pos (starEach [] X.env)).any (·.1) || (backToKw pos (keywordEach kws X.env)).any (·.1.isNone)) = false := by rfl)
    (hb : ∀ (f : Addr) (fd : FuncData), (∀ (s : Shared) (us : List Value), us.length = ps.length → BindsTo s fd ⟨[], ps.zip us⟩ (ps.zip us) ∧ BindsTo s fd ⟨[], (ps.zip us).reverse⟩ (ps.zip us)) → ∀ (s : Shared) (ws : List Value), ws.length = ks.length → (g ws).length = ps.length → BindsTo s fd ⟨[], ks.zip ws⟩ (ps.zip (g ws)))
    (hrel : ∀ (zs : List V) (ws : List Value), Vals zs ws → (gV zs).length = ps.length → Vals (gV zs) (g ws) ∧ ws.length = ks.length)
    (hdb : (x == ("__debug__" : Str)) = false := by decide) : PE X (.Call (.Name x p) [] kws pos) (uCallK sp gV tk) := by
  obtain ⟨f, fd, F, hm, hk, _, bk⟩ := F.ex
  refine ⟨fun pins s σ H Q I h => ?_⟩
  refine wpAny_Call_Name_kw (ld_glob I hg hm ?_ hdb)
  refine PySem.W.callWith_KW0 (h₀ := X.base) I.ok.mod.kin hk hall (thn (hkw.run pos pins s σ H _ I h) fun ws s1 z => ?_) hpl
  obtain ⟨zs, H1, I1, rz, q⟩ := z
  have q : sp (gV zs) H1 Q E0 := q
  have hl := F.len _ _ _ _ q
  obtain ⟨r2, l2⟩ := hrel zs ws rz hl
  refine ⟨I1.kIn, ?_⟩
  rw [hks, List.append_nil]
  refine wpAny_call (codeAny_mono (F.run X.A hA X.stack s1 H1 ⟨[], ks.zip ws⟩ (g ws) (gV zs) Q E0 hr I1.env0 (hb f fd bk s1 ws l2 (by rw [← r2.length]; exact hl)) r2 q) ?_)
  intro r s' z
  match r, z with
  | .error e, z => exact pass0 pins σ H1 s1 e s' I1 z
  | .ok (.ret u), z => exact I1.after z
  | .ok .next, z => exact z
  | .ok .brk, z => exact z
  | .ok .cont, z => exact z
end

/-! ### repr -/
section
variable {X : Cx}
/-- data without dicts that is short enough to be shown -/
structure Shw (d : PyData) : Prop where
  sh : d.showable = true
  nd : d.hasDict → False
  dp : d.depth ≤ 3
  lf : d.leavesShort 13 = true
  wt : d.weight ≤ 2 ^ 20
def reprU (K : PySem.W.Frag) : List V → Hp → VK → Prop := fun vs H Q => match vs with
  | [.ref a] => ∃ d, Dp K H (.ref a) d ∧ Shw d ∧ Q (.str d.shown) H
  | [.bl b] => Q (.str (PyData.bool b).shown) H
  | _ => False
theorem c_repr (hA : X.A.guards = some []) (hu : X.A.units + 64 < cLine) : CallR X (.builtin "repr") (reprU X.K) := by
  intro pins s σ H xs us Q I r h
  unfold reprU at h
  split at h
  · obtain ⟨d, hd, hw, q⟩ := h
    obtain ⟨u, rfl, ru⟩ := vals1 r
    obtain rfl : u = Value.ref _ := ru
    obtain ⟨as, rd⟩ := Dp.reads I d _ (Value.ref _) hd rfl
    refine repr_of_reads' rd hw.sh (fun z => (hw.nd z).elim) hA (by have := hw.dp; omega) (fun _ _ e => e) (fun h' u tk hk => ?_) (PyData.shown_fits (B := 13) (by omega) (by omega) hw.lf hw.wt)
    exact ⟨.str d.shown, H, I.kept hk, ⟨u, rfl⟩, q⟩
  · rename_i b
    obtain ⟨u, rfl, ru⟩ := vals1 r
    obtain rfl : u = Value.bool b := ru
    refine PySem.P.repr_of_bool ⟨.str _, H, I.tok _, ⟨_, rfl⟩, ?_⟩
    exact h
  · exact h.elim
end
end LK

/-! own exceptions over any built-in base, as values: stored into, made, read, asked for their class -/
namespace LK
open PySem PySem.Spec PyProof.Rows L2 Builtin Builtin.ObjectAttr
/-- what the written part says of an own exception class -/
structure ExcK (K : PySem.W.Frag) (C : Addr) (bmB : List Value) (newId : String) : Prop where
  init : PySem.W.excInitIn K C bmB newId = true
  over : PySem.W.excOver K C bmB = true
  sa : PySem.W.findIn K (.ref C) "__setattr__" = some (some (.builtin "object.__setattr__"))
  is : ExcC K C
  kC : PySem.W.keepIn K (.ref C) = true
section
variable {X : Cx} {pins : List (Addr × Obj)} {σ : L2.St} {H : Hp} {s : Shared} {a C dx : Addr} {f : Str} {y : V} {u : Value} {bmB : List Value} {B newId : String}
theorem ExcK.cd (T : ExcK X.K C bmB newId) : ∃ cd : ClassData, PySem.W.clsIn X.K C = some cd ∧ cd.hasDict = true := by
  obtain ⟨cd, h1, h2⟩ := PySem.W.any_some T.is.hd
  exact ⟨cd, h1, h2⟩
/-- an object is written and another one laid beside it, at once -/
theorem inv_two {h' : Heap} {t' : Nat} {oa q : Obj} {o od : HO} (I : Inv X pins σ H s) (mu : Mut (H a)) (ha : s.heap.get? a = some oa) (ha' : h'.get? a = some q)
    (keep : ∀ b v, b ≠ a → s.heap.get? b = some v → h'.get? b = some v) (nd : s.heap.objs.size ≤ dx) (ne : dx ≠ a)
    (hd : ∀ g : Heap, g.get? dx = h'.get? dx → ObjOk X.prog X.w (upd H dx od) g dx od) (hn : ObjOk X.prog X.w (upd (upd H dx od) a o) h' a o) :
    Inv X pins σ (upd (upd H dx od) a o) { s with heap := h', toks := t' } := by
  have hdn : H dx = none := I.hok.fresh nd
  have g1 : (h'.update a fun _ => oa).get? a = some oa := Heap.get?_update_self _ ha' (Heap.get?_some_iff.mp ha).2
  have g2 : ∀ b, b ≠ a → (h'.update a fun _ => oa).get? b = h'.get? b := fun b hb => Heap.get?_update_ne _ _ _ _ hb
  have I1 : Inv X pins σ (upd H dx od) { s with heap := h'.update a fun _ => oa, toks := t' } := I.laid (t' := t') (fun b v hv => by
    by_cases hb : b = a
    · subst hb
      rw [ha] at hv
      exact hv ▸ g1
    · rw [g2 b hb]; exact keep b v hb hv) nd (hd _ (g2 dx ne))
  exact I1.write (t' := t') (x := a) (e := a) (by rw [upd_ne ne.symm]; exact mu) (.inl rfl) (fun b v hb hv => by rw [g2 b hb] at hv; exact hv) ⟨_, ha'⟩ hn
/-- the first field -/
theorem stE_new (SF : StoreFacts B bmB "object.__setattr__" "object") (T : ExcK X.K C bmB newId) (I : Inv X pins σ H s) (e : H a = some (exo a C none)) (hno : PySem.W.takerIn X.K C f = some none) (ry : RelV y u)
    {Q : Unit → Shared → Prop} {E : Value → Shared → Prop} {A : Around}
    (h : ∀ dx s', H dx = none → dx ≠ a → Inv X pins σ (upd (upd H dx (exd dx [(f, y)])) a (exo a C (some dx))) s' → Q () s') : wpAny (model X.prog X.w) A (setAttr (.ref a) f u) Q E s := by
  obtain ⟨cd, hcd, hdct⟩ := T.cd
  obtain ⟨t1, ho⟩ := exo_at I.hok e
  have inst : PySem.W.InstAt s.heap a { cls := .ref C, data := .fields #[.ref t1, .none, .none, .none, .bool false, .none] } C none := ⟨ho, rfl, rfl, trivial⟩
  refine PySem.W.set_plain I.kIn inst T.sa (PySem.W.osa_openX SF I.kIn inst T.over hno fun b => ?_)
  have look : PySem.W.Looks (model X.prog X.w) s.heap (classData C) cd := PySem.W.looks_clsIn I.kIn hcd
  obtain ⟨heap0, gens0, dr0, tk0, os0⟩ := s
  obtain ⟨c1, c2, c3, c4, c5, c6, c7, c8, c9, c10, c11⟩ := cd
  dsimp only at hdct
  subst hdct
  have neA : a ≠ heap0.objs.size := Nat.ne_of_lt (Heap.lt_size ho)
  show wpAny _ _ (storeInOwnDict (.ref a) (.ref C) (.str f tk0) f u b) _ _ _
  unfold storeInOwnDict ownDictForStores
  repeat (first | with_reducible refine PySem.HandSPX.store_in_new ?_ ?_ | with_reducible refine wpAny_loadPart_at ho ?_ | with_reducible refine look.at ?_ | wp_step)
  · exact ⟨_, #[], _, (Heap.get?_update_ne _ _ _ _ neA.symm).trans (Heap.get?_push_at rfl rfl), rfl, fun _ z => absurd z (by simp), fun _ => rfl⟩
  · intro h2 tk2 n1 sb
    have ho2 : (heap0.push { cls := .type "dict", data := .dict #[] }).get? a = some { cls := .ref C, data := .fields #[.ref t1, .none, .none, .none, .bool false, .none] } := Heap.get?_push_of_some _ ho
    have fin : h2.get? a = some { cls := .ref C, dict := some heap0.objs.size, data := .fields #[.ref t1, .none, .none, .none, .bool false, .none] } := (sb.2 a neA).trans (Heap.get?_update_self _ ho2 rfl)
    refine h heap0.objs.size _ (I.hok.fresh (Nat.le_refl _)) neA.symm (inv_two I (by rw [e]; exact True.intro) ho fin (fun b v hb hv => ?_) (Nat.le_refl _) neA.symm (fun g hg => ?_) (exo_ok fin))
    · exact (sb.2 b (Nat.ne_of_lt (Heap.lt_size hv))).trans ((Heap.get?_update_ne _ _ _ _ hb).trans (Heap.get?_push_of_some _ hv))
    · exact exd_ok (n1.at fun o z => by rw [hg]; exact z) (relO_put (fs := []) ry fun _ => True.intro)
/-- a further field -/
theorem stE_old {fs : List (Str × V)} (SF : StoreFacts B bmB "object.__setattr__" "object") (T : ExcK X.K C bmB newId) (I : Inv X pins σ H s) (e : H a = some (exo a C (some dx))) (ed : H dx = some (exd dx fs)) (hl : fs.length ≤ 900)
    (hno : PySem.W.takerIn X.K C f = some none) (ry : RelV y u) {Q : Unit → Shared → Prop} {E : Value → Shared → Prop} {A : Around}
    (h : ∀ s', Inv X pins σ (upd H dx (exd dx ((f, y) :: fs))) s' → Q () s') : wpAny (model X.prog X.w) A (setAttr (.ref a) f u) Q E s := by
  obtain ⟨cd, hcd, hdct⟩ := T.cd
  obtain ⟨t1, ho⟩ := exo_at I.hok e
  obtain ⟨mA, nsD, rel⟩ := exd_at I.hok ed
  have inMA := within_of rel
  obtain ⟨oD, _, _, hoD, _, _⟩ := nsD.count inMA
  have inst : PySem.W.InstAt s.heap a { cls := .ref C, dict := some dx, data := .fields #[.ref t1, .none, .none, .none, .bool false, .none] } C (some oD) := ⟨ho, rfl, rfl, hoD⟩
  refine PySem.W.set_plain I.kIn inst T.sa (PySem.W.osa_openX SF I.kIn inst T.over hno fun b => ?_)
  have look : PySem.W.Looks (model X.prog X.w) s.heap (classData C) cd := PySem.W.looks_clsIn I.kIn hcd
  obtain ⟨heap0, gens0, dr0, tk0, os0⟩ := s
  obtain ⟨c1, c2, c3, c4, c5, c6, c7, c8, c9, c10, c11⟩ := cd
  dsimp only at hdct
  subst hdct
  show wpAny _ _ (storeInOwnDict (.ref a) (.ref C) (.str f tk0) f u b) _ _ _
  unfold storeInOwnDict ownDictForStores
  repeat (first | with_reducible refine PySem.OEX.store_in_old nsD inMA (by rw [List.length_map]; omega) ?_ | with_reducible refine wpAny_loadPart_at ho ?_ | with_reducible refine look.at ?_ | wp_step)
  intro h2 tk2 n1 sb
  refine h _ (I.write (t' := tk2) (x := dx) (e := dx) (by rw [ed]; exact True.intro) (.inl rfl) (fun b v hb hv => (sb.2 b hb).trans hv) ?_ (exd_ok n1 (relO_put ry rel)))
  obtain ⟨o, _, _, z, _⟩ := n1
  exact ⟨o, z⟩
end
section
variable {X : Cx} {to te : TE} {o e : Expr} {f : Str} {p' pos : Pos} {B : String}
/-- self.f = e, self an exception that is being made -/
def tStE (K : PySem.W.Frag) (bmB : List Value) (f : Str) (to te : TE) : TS := fun D σ H => te σ H fun y H1 => to σ H1 fun x H2 => match x with
  | .ref a => ∃ (C : Addr) (newId : String), ExcK K C bmB newId ∧ PySem.W.takerIn K C f = some none ∧
      ((H2 a = some (exo a C none) ∧ ∀ dx, H2 dx = none → dx ≠ a → D.nx σ (upd (upd H2 dx (exd dx [(f, y)])) a (exo a C (some dx)))) ∨
        ∃ (dx : Addr) (fs : List (Str × V)), H2 a = some (exo a C (some dx)) ∧ H2 dx = some (exd dx fs) ∧ fs.length ≤ 900 ∧ D.nx σ (upd H2 dx (exd dx ((f, y) :: fs))))
  | _ => False
theorem ps_stE {bmB : List Value} (SF : StoreFacts B bmB "object.__setattr__" "object") (ho : PE X o to) (he : PE X e te) (hs : swapsWith e (some (.Attribute o f p')) pos.line X.env = pure false := by rfl) :
    PS X (.Assign [.Attribute o f p'] e pos) (tStE X.K bmB f to te) := by
  refine ⟨fun pins s σ H D I h => ?_⟩
  refine plainObj_wpAny_Assign_Attribute (thn (he.run pins s σ H _ I h) fun v s1 q => ?_) hs
  obtain ⟨y, H1, I1, r1, q1⟩ := q
  refine thn (ho.run pins s1 σ H1 _ I1 q1) fun u s2 q => ?_
  obtain ⟨x, H2, I2, r2, q2⟩ := q
  cases x with
  | ref a =>
    obtain ⟨C, newId, T, hno, q2⟩ := q2
    obtain rfl : u = Value.ref a := r2
    rcases q2 with ⟨ea, q2⟩ | ⟨dx, fs, ea, ed, hl, q2⟩
    · exact stE_new SF T I2 ea hno r1 fun dx s' n ne J => ⟨σ, _, J, q2 dx n ne⟩
    · exact stE_old SF T I2 ea ed hl hno r1 fun s' J => ⟨σ, _, J, q2⟩
  | _ => exact q2.elim
end
section
variable {X : Cx} {x : Str} {C fI : Addr} {k : Nat} {fd : FuncData} {ps : List Str} {sp : Sp} {p pos : Pos} {e : Expr} {es : List Expr} {ta : TA} {B newId initId : String} {bmB : List Value}
theorem under_guards {A : Around} {us : List Value} {kw : List (Str × Value)} {C : Addr} (h : A.guards = some []) : (A.under (.builtin "type.__call__" ⟨.ref C :: us, kw⟩)).guards = some [] := by
  unfold Around.under
  dsimp only
  rw [h]
  first | rfl | decide +kernel | (simp [pushGuards])
/-- C(e, ..), as a value; C's own __init__ keeps sp -/
def tMkE (C : Addr) (sp : Sp) (ta : TA) : TE := fun σ H Q => ta σ H fun vs H1 => vs.length ≤ 1000 ∧ ∀ a, H1 a = none → sp (.ref a :: vs) (upd H1 a (exo a C none)) (fun v H2 => v = .non ∧ Q (.ref a) H2) E0
theorem mk_run {pins : List (Addr × Obj)} {σ : L2.St} {H : Hp} {s : Shared} {Q : VK} {us : List Value} {vs : List V} (FB : ExcBaseFacts B newId initId bmB) (T : ExcK X.K C bmB newId) (iC : PySem.W.findIn X.K (.ref C) "__init__" = some (some (.ref fI)))
    (tI : PySem.W.typeIn X.K (.ref fI) = some (.type "function")) (F1 : FnG X.prog X.w X.K X.mg X.base CX0 k fI fd ps sp) (hA : X.A.guards = some []) (hr : Room (k + 1) X.A) (I : Inv X pins σ H s) (r : Vals vs us) (hz : us.length ≤ sizeLine)
    (hb : Binds X.K fd ps []) (hl : us.length + 1 = ps.length)
    (h : ∀ a, H a = none → sp (.ref a :: vs) (upd H a (exo a C none)) (fun v H2 => v = .non ∧ Q (.ref a) H2) E0) :
    wpAny (model X.prog X.w) X.A (call (.ref C) us) (EP X pins σ Q) X.xe s := by
  obtain ⟨nm, N, qn, bs, bm, hdct, sn, sub, ab, col, dd, k0, k1, k2, k3, k5, hC, hT⟩ := PySem.W.excInit_of I.kIn T.init
  obtain ⟨heap0, gens0, dr0, tk0, os0⟩ := s
  have up : heap0.objs.size ≤ heap0.objs.size + 1 := Nat.le_succ _
  have free : H (heap0.objs.size + 1) = none := I.hok.fresh up
  have keep : ∀ b o, heap0.get? b = some o → ((heap0.push (PySem.W.kdv_tup us)).push (PySem.HandSPX.excO C heap0.objs.size)).get? b = some o := fun b o z => Heap.get?_push_of_some _ (Heap.get?_push_of_some _ z)
  have there : ((heap0.push (PySem.W.kdv_tup us)).push (PySem.HandSPX.excO C heap0.objs.size)).get? (heap0.objs.size + 1) = some (PySem.HandSPX.excO C heap0.objs.size) := by heap_get
  have J : Inv X pins σ (upd H (heap0.objs.size + 1) (exo (heap0.objs.size + 1) C none)) ⟨(heap0.push (PySem.W.kdv_tup us)).push (PySem.HandSPX.excO C heap0.objs.size), gens0, dr0, tk0, os0⟩ :=
    I.laid (t' := tk0) (h' := (heap0.push (PySem.W.kdv_tup us)).push (PySem.HandSPX.excO C heap0.objs.size)) keep up (exo_ok there)
  have bnd : ∀ z : Value, BindsTo ⟨(heap0.push (PySem.W.kdv_tup us)).push (PySem.HandSPX.excO C heap0.objs.size), gens0, dr0, tk0, os0⟩ fd ⟨z :: us, []⟩ (ps.zip (z :: us)) := fun z => by
    have b := hb ⟨(heap0.push (PySem.W.kdv_tup us)).push (PySem.HandSPX.excO C heap0.objs.size), gens0, dr0, tk0, os0⟩ (z :: us) J.kIn (by rw [List.append_nil]; exact hl)
    rw [List.append_nil] at b
    exact b
  refine wpAny_call (PySem.HandSPX.call_own FB hT hC (PySem.W.looks_findIn I.kIn iC) (fun z => PySem.W.bind_fn I.kIn z tI) hz (codeAny_mono (F1.run _ (under_guards hA) X.stack _ _ ⟨.ref (heap0.objs.size + 1) :: us, []⟩ (.ref (heap0.objs.size + 1) :: us) (.ref (heap0.objs.size + 1) :: vs) _ E0
    (hr.make C us []) (J.env0.make C us []) (bnd _) (.cons rfl r) (h _ free)) fun r' s' z => ?_))
  match r', z with
  | .error er, z => exact pass0 pins σ _ _ er s' J z
  | .ok .next, z => exact z.elim
  | .ok .brk, z => exact z.elim
  | .ok .cont, z => exact z.elim
  | .ok (.ret u), z =>
    obtain ⟨v, H2, J2, rv, ev, q⟩ := J.after z
    subst ev
    exact ⟨rv, .ref _, H2, J2, rfl, q⟩
theorem pe_mkE (FB : ExcBaseFacts B newId initId bmB) (T : ExcK X.K C bmB newId) (iC : PySem.W.findIn X.K (.ref C) "__init__" = some (some (.ref fI))) (tI : PySem.W.typeIn X.K (.ref fI) = some (.type "function"))
    (F1 : FnG X.prog X.w X.K X.mg X.base CX0 k fI fd ps sp) (hA : X.A.guards = some []) (hr : Room (k + 1) X.A) (hb : Binds X.K fd ps []) (hg : Gl X x) (hm : X.mg x = some (.ref C)) (ha : PA X (e :: es) ta)
    (hdb : (x == ("__debug__" : Str)) = false := by decide) (he : starEach (e :: es) X.env = (false, eval e X.env) :: starEach es X.env := by rfl) (hpl : (backTo pos (starEach es X.env)).any (·.1) = false := by rfl) :
    PE X (.Call (.Name x p) (e :: es) [] pos) (tMkE C sp ta) := by
  refine ⟨fun pins s σ H Q I h => ?_⟩
  refine wpAny_Call_Name_kw (ld_glob I hg hm ?_ hdb)
  refine PySem.W.callWith_K (h₀ := X.base) I.ok.mod.kin T.kC (thn (ha.run pos pins s σ H _ I h) fun us s1 z => ?_) he hpl
  obtain ⟨vs, H1, I1, r1, hz, q⟩ := z
  refine ⟨I1.kIn, ?_⟩
  have hl : us.length ≤ sizeLine := by rw [← Paired.length r1, sizeLine_eq]; omega
  have free : H1 s1.heap.objs.size = none := I1.hok.fresh (Nat.le_refl _)
  have len : us.length + 1 = ps.length := by
    have := F1.len _ _ _ _ (q _ free)
    rw [List.length_cons, Paired.length r1] at this
    exact this
  exact mk_run FB T iC tI F1 hA hr I1 r1 hl hb len q
end

/-! ### read, asked for the class -/
/-- a: an exception of the class C with the fields fs -/
def ExAt (K : PySem.W.Frag) (H : Hp) (a C : Addr) (fs : List (Str × V)) : Prop :=
  (∃ (bmB : List Value) (newId : String), ExcK K C bmB newId) ∧ ((H a = some (exo a C none) ∧ fs = []) ∨ ∃ d, H a = some (exo a C (some d)) ∧ H d = some (exd d fs))
section
variable {X : Cx} {pins : List (Addr × Obj)} {σ : L2.St} {H : Hp} {s : Shared} {a C : Addr} {fs : List (Str × V)}
theorem ExAt.inst (I : Inv X pins σ H s) (e : ExAt X.K H a C fs) : ∃ (oe : Obj) (od : Option Obj), PySem.W.InstAt s.heap a oe C od ∧ ∀ f v, fs.lookup f = some v → ∃ (d : Addr) (oD : Obj) (mA : Str → Option Value), od = some oD ∧ s.heap.get? d = some oD ∧ s.heap.Ns1 d mA ∧ RelO (some v) (mA f) := by
  rcases e.2 with ⟨ea, rfl⟩ | ⟨d, ea, ed⟩
  · obtain ⟨t1, ho⟩ := exo_at I.hok ea
    exact ⟨_, none, ⟨ho, rfl, rfl, trivial⟩, fun f v z => nomatch z⟩
  · obtain ⟨t1, ho⟩ := exo_at I.hok ea
    obtain ⟨mA, nsD, rel⟩ := exd_at I.hok ed
    obtain ⟨oD, _, _, hoD, _, _⟩ := nsD.count (within_of rel)
    exact ⟨_, some oD, ⟨ho, rfl, rfl, hoD⟩, fun f v z => ⟨d, oD, mA, rfl, hoD, nsD, by rw [← z]; exact rel f⟩⟩
/-- e.f, e an exception -/
def tAttrE (K : PySem.W.Frag) (te : TE) (f : Str) : TE := fun σ H Q => te σ H fun x H1 => match x with
  | .ref a => ∃ (C : Addr) (fs : List (Str × V)) (v : V), ExAt K H1 a C fs ∧ PySem.W.findIn K (.ref C) f = some none ∧ fs.lookup f = some v ∧ Q v H1
  | _ => False
theorem pe_attrE {e : Expr} {te : TE} {f : Str} {pos : Pos} (he : PE X e te) (hb : attributeBase e f X.env (eval e X.env) = eval e X.env := by rfl) : PE X (.Attribute e f pos) (tAttrE X.K te f) := by
  refine ⟨fun pins s σ H Q I h => ?_⟩
  refine attr_of hb (thn (he.run pins s σ H _ I h) fun u s1 z => ?_)
  obtain ⟨x, H1, I1, rx, q⟩ := z
  cases x with
  | ref a =>
    obtain ⟨C, fs, v, ea, hno, hl, q⟩ := q
    obtain rfl : u = Value.ref a := rx
    obtain ⟨oe, od, inst, fld⟩ := ea.inst I1
    obtain ⟨d, oD, mA, rfl, hoD, nsD, rel⟩ := fld f v hl
    obtain ⟨bmB, newId, T⟩ := ea.1
    obtain ⟨u, hu, ru⟩ := RelO.some_of (v := v) rel
    obtain ⟨od2, ho2, hl2⟩ := lookIn_ns nsD
    rw [hoD] at ho2
    cases ho2
    exact PySem.HandSPX.exc_get I1.kIn inst T.is.hg T.is.hk T.is.hs (PySem.W.findObj_own T.is.hd hno rfl (by rw [hl2, hu])) (handed_of ru) ⟨v, H1, I1.tok _, ru, q⟩
  | _ => exact q.elim
/-- isinstance(e, c), e an exception -/
def isU_E (K : PySem.W.Frag) : List V → Hp → VK → Prop := fun vs H Q => match vs with
  | [.ref a, c] => ∃ (C : Addr) (fs : List (Str × V)) (cv : Value) (b : Bool), ExAt K H a C fs ∧ ClsV c cv ∧ PySem.W.kitOne K (.ref C) cv = some b ∧ Q (.bl b) H
  | _ => False
theorem c_isE : CallR X (.builtin "isinstance") (isU_E X.K) := by
  intro pins s σ H xs us Q I r h
  unfold isU_E at h
  split at h
  · rename_i a c
    obtain ⟨C, fs, cv, b, ea, hc, hk, q⟩ := h
    obtain ⟨u1, u2, rfl, r1, r2⟩ := vals2 r
    obtain rfl : u1 = Value.ref a := r1
    have e2 := hc.eq r2
    subst e2
    obtain ⟨oe, od, inst, _⟩ := ea.inst I
    obtain ⟨bmB, newId, T⟩ := ea.1
    obtain ⟨cd, hcd, _⟩ := T.cd
    exact PySem.W.kia_one (PySem.W.kitx_exc (by rw [hcd]; rfl) T.is.hg T.is.hk T.is.hs T.is.ha T.is.hn T.is.ht T.is.hm) I.kIn inst hk (fun z => nomatch z) fun tk => ⟨.bl b, H, I.kept (t' := tk) fun _ _ z => z, rfl, q⟩
  · exact h.elim
end

/-! ### made to be raised; made without fields -/
section
variable {X : Cx} {x : Str} {C fI : Addr} {k : Nat} {fd : FuncData} {ps : List Str} {sp : Sp} {p pos : Pos} {e : Expr} {es : List Expr} {ta : TA} {B newId initId : String} {bmB : List Value}
/-- C(e, ..) behind raise: what flies is the class with its fields -/
def tPmE (C : Addr) (sp : Sp) (ta : TA) : L2.St → Hp → XK → Prop := fun σ H Q => ta σ H fun vs H1 => vs.length ≤ 1000 ∧ ∀ a, H1 a = none → sp (.ref a :: vs) (upd H1 a (exo a C none))
  (fun v H2 => v = .non ∧ ∃ (d : Addr) (fs : List (Str × V)), H2 a = some (exo a C (some d)) ∧ H2 d = some (exd d fs) ∧ H1 d = none ∧ Q (.ref C) (some d) (upd (del H2 a) d (.xd fs))) E0
theorem pmk_mkE (FB : ExcBaseFacts B newId initId bmB) (T : ExcK X.K C bmB newId) (tyC : PySem.W.typeIn X.K (.ref C) = some (.type "type")) (iC : PySem.W.findIn X.K (.ref C) "__init__" = some (some (.ref fI))) (tI : PySem.W.typeIn X.K (.ref fI) = some (.type "function"))
    (F1 : FnG X.prog X.w X.K X.mg X.base CX0 k fI fd ps sp) (hA : X.A.guards = some []) (hr : Room (k + 1) X.A) (hb : Binds X.K fd ps []) (hg : Gl X x) (hm : X.mg x = some (.ref C)) (ha : PA X (e :: es) ta)
    (hdb : (x == ("__debug__" : Str)) = false := by decide) (he : starEach (e :: es) X.env = (false, eval e X.env) :: starEach es X.env := by rfl) (hpl : (backTo pos (starEach es X.env)).any (·.1) = false := by rfl) :
    PMk X (.Call (.Name x p) (e :: es) [] pos) (tPmE C sp ta) := by
  intro pins s σ H Q I h
  refine wpAny_Call_Name_kw (ld_glob I hg hm ?_ hdb)
  refine PySem.W.callWith_K (h₀ := X.base) I.ok.mod.kin T.kC (thn (ha.run pos pins s σ H _ I h) fun us s1 z => ?_) he hpl
  obtain ⟨vs, H1, I1, r1, hz, q⟩ := z
  refine ⟨I1.kIn, ?_⟩
  have hl : us.length ≤ sizeLine := by rw [← Paired.length r1, sizeLine_eq]; omega
  have len : us.length + 1 = ps.length := by
    have := F1.len _ _ _ _ (q _ (I1.hok.fresh (Nat.le_refl _)))
    rw [List.length_cons, Paired.length r1] at this
    exact this
  obtain ⟨nm, N, qn, bs, bm, hdct, sn, sub, ab, col, dd, k0, k1, k2, k3, k5, hC, hT⟩ := PySem.W.excInit_of I1.kIn T.init
  obtain ⟨heap0, gens0, dr0, tk0, os0⟩ := s1
  have up : heap0.objs.size ≤ heap0.objs.size + 1 := Nat.le_succ _
  have keep : ∀ b o, heap0.get? b = some o → ((heap0.push (PySem.W.kdv_tup us)).push (PySem.HandSPX.excO C heap0.objs.size)).get? b = some o := fun b o z => Heap.get?_push_of_some _ (Heap.get?_push_of_some _ z)
  have there : ((heap0.push (PySem.W.kdv_tup us)).push (PySem.HandSPX.excO C heap0.objs.size)).get? (heap0.objs.size + 1) = some (PySem.HandSPX.excO C heap0.objs.size) := by heap_get
  have J : Inv X pins σ (upd H1 (heap0.objs.size + 1) (exo (heap0.objs.size + 1) C none)) ⟨(heap0.push (PySem.W.kdv_tup us)).push (PySem.HandSPX.excO C heap0.objs.size), gens0, dr0, tk0, os0⟩ :=
    I1.laid (t' := tk0) (h' := (heap0.push (PySem.W.kdv_tup us)).push (PySem.HandSPX.excO C heap0.objs.size)) keep up (exo_ok there)
  have bnd : ∀ z : Value, BindsTo ⟨(heap0.push (PySem.W.kdv_tup us)).push (PySem.HandSPX.excO C heap0.objs.size), gens0, dr0, tk0, os0⟩ fd ⟨z :: us, []⟩ (ps.zip (z :: us)) := fun z => by
    have b := hb ⟨(heap0.push (PySem.W.kdv_tup us)).push (PySem.HandSPX.excO C heap0.objs.size), gens0, dr0, tk0, os0⟩ (z :: us) J.kIn (by rw [List.append_nil]; exact len)
    rw [List.append_nil] at b
    exact b
  refine wpAny_call (PySem.HandSPX.call_own FB hT hC (PySem.W.looks_findIn I1.kIn iC) (fun z => PySem.W.bind_fn I1.kIn z tI) hl (codeAny_mono (F1.run _ (under_guards hA) X.stack _ _ ⟨.ref (heap0.objs.size + 1) :: us, []⟩ (.ref (heap0.objs.size + 1) :: us) (.ref (heap0.objs.size + 1) :: vs) _ E0
    (hr.make C us []) (J.env0.make C us []) (bnd _) (.cons rfl r1) (q _ (I1.hok.fresh up))) fun r' s' z => ?_))
  match r', z with
  | .error er, z => exact pass0 pins σ _ _ er s' J z
  | .ok .next, z => exact z.elim
  | .ok .brk, z => exact z.elim
  | .ok .cont, z => exact z.elim
  | .ok (.ret u), z =>
    obtain ⟨v, H2, os2, bare2, un2, hok2, rv, ev, d, fs, ea, ed, hd1, q2⟩ := z
    subst ev
    obtain ⟨h2, g2, d2, t2, os'⟩ := s'
    exact ⟨rv, mk_end (raises_own T.is.hs tyC) I1 up keep un2 hok2 os2 bare2 ea ed hd1 q2⟩
/-- C(), C without an __init__ of its own -/
theorem pe_mk0 (FB : ExcBaseFacts B newId initId bmB) (q : PySem.W.excIn X.K C bmB newId = true) (kC : PySem.W.keepIn X.K (.ref C) = true) (hg : Gl X x) (hm : X.mg x = some (.ref C)) (hdb : (x == ("__debug__" : Str)) = false := by decide) :
    PE X (.Call (.Name x p) [] [] pos) (fun σ H Q => ∀ a, H a = none → Q (.ref a) (upd H a (exo a C none))) := by
  refine ⟨fun pins s σ H Q I h => ?_⟩
  refine wpAny_Call_Name_kw (ld_glob I hg hm ?_ hdb)
  refine PySem.W.callWith_K0 I.kIn kC ?_
  obtain ⟨bm, N, nm, qn, bs, hdct, sn, sub, ab, col, dd, k0, k1, k2, k3, k5, mN, hC, hN, hni, T⟩ := exc_obj I.kIn q
  refine wpAny_call_exc_subT FB T hC hN hni (fun h' a hm => ?_) (Nat.zero_le _)
  have free : H a = none := I.hok.gone hm.new
  obtain ⟨t, ht, _, _⟩ := hm.there
  exact ⟨.ref a, _, I.laidN hm.keeps hm.new free (exo_ok ht), rfl, h a free⟩
end
end LK

/-! own exceptions made by names alone -/
namespace LK
open PySem PySem.Spec PyProof.Rows L2 Builtin Builtin.ObjectAttr PySem.HandSPX
section
variable {M : Model} {A : Around} {E : Value → Shared → Prop} {h : Heap} {g : Array GenState} {d : Drawn} {t : Nat} {os : OsState}
variable {nm q : Str} {C N : Addr} {bs bm bmB : List Value} {hdct : Bool} {sn : List Str} {sub : List Value} {ab : Bool} {col : Option Bool} {dd : Option Addr} {k0 k1 k2 k3 k5 : Option Value} {B newId initId : String}
variable {n0 : Str} {v0 : Value} {kr : List (Str × Value)}
theorem kw_check (FB : ExcBaseFacts B newId initId bmB) (hT : ∀ X : String, bm.contains (.type X) = bmB.contains (.type X)) {Q : Unit → Shared → Prop}
    (hC : h.get? C = some (excClassObj nm q C N bs bm hdct sn sub ab col dd k0 k1 k2 k3 k5 newId)) (then_ : Q () ⟨h, g, d, t, os⟩) : wpAny M A (checkBuiltinCall newId ⟨[.ref C], (n0, v0) :: kr⟩) Q E ⟨h, g, d, t, os⟩ := by
  have inB : (Value.ref C :: bm).contains (.type B) = true := by rw [List.contains_cons, hT, FB.hasB, Bool.or_true]
  have star := FB.noStar
  simp only [checkBuiltinCall, FB.newKind, FB.newSplit, FB.newRow]
  repeat (first | refine wpAny_loadPart_at hC ?_ | (refine wpAny_isSubtype_exc hC ?_; rw [inB]) | refine wpAny_staticBase_exc hC ?_ | refine wpAny_madeBy_exc hC ?_ | simp only [bne_self_eq_false, Bool.false_eq_true, if_false] | wp_step)
  exact then_
end
section
variable {prog : Program} {w : World} {A : Around} {E : Value → Shared → Prop} {R : Result → Shared → Prop} {h : Heap} {g : Array GenState} {d : Drawn} {t : Nat} {os : OsState}
variable {nm q : Str} {C N : Addr} {bs bm bmB : List Value} {hdct : Bool} {sn : List Str} {sub : List Value} {ab : Bool} {col : Option Bool} {dd : Option Addr} {k0 k1 k2 k3 k5 : Option Value} {B newId initId : String}
variable {n0 : Str} {v0 : Value} {kr : List (Str × Value)}
theorem kw_new (FB : ExcBaseFacts B newId initId bmB) (hT : ∀ X : String, bm.contains (.type X) = bmB.contains (.type X))
    (hC : h.get? C = some (excClassObj nm q C N bs bm hdct sn sub ab col dd k0 k1 k2 k3 k5 newId))
    (then_ : R (.ok (.ret (.ref (h.objs.size + 1)))) ⟨(h.push (PySem.W.kdv_tup [])).push (excO C h.objs.size), g, d, t, os⟩) :
    codeAny (model prog w) A (.builtin newId ⟨[.ref C], (n0, v0) :: kr⟩) R ⟨h, g, d, t, os⟩ := by
  have fin := FB.ends
  have inB : (Value.ref C :: bm).contains (.type B) = true := by rw [List.contains_cons, hT, FB.hasB, Bool.or_true]
  have notA : (Value.ref C :: bm).contains (.type "AttributeError") = false := by rw [List.contains_cons, hT, FB.noAttr]; rfl
  have notN : (Value.ref C :: bm).contains (.type "NameError") = false := by rw [List.contains_cons, hT, FB.noName]; rfl
  refine codeAny_builtinAt FB.entry ?_
  unfold Builtin.«BaseException.__new__»
  refine PySem.wpAt_bind ?_
  show PySem.wpAt _ _ _ (stack >>= _) _ _ _
  refine PySem.wpAt_bind (PySem.wpAt_stack fun pp below => PySem.wpAt_of_wpAny ?_)
  wp_walk
  refine PySem.wpAt_of_wpAny ?_
  rw [FB.owner]
  repeat (first | with_reducible refine wpAny_madeHere_exc FB.canon hC ?_ | with_reducible refine wpAny_loadPart_at hC ?_ | (with_reducible refine wpAny_isSubtype_exc hC ?_; first | rw [inB] | rw [notA] | rw [notN]) | wp_step)
  show R _ _
  rw [Heap.size_push]
  exact then_
theorem kw_type (FB : ExcBaseFacts B newId initId bmB) (hT : ∀ X : String, bm.contains (.type X) = bmB.contains (.type X)) {fI : Addr} {Q : Fin → Shared → Prop}
    (hC : h.get? C = some (excClassObj nm q C N bs bm hdct sn sub ab col dd k0 k1 k2 k3 k5 newId))
    (look : PySem.W.Looks (model prog w) h (typeLookup (.ref C) "__init__") (some (.ref fI))) (bind : ∀ self, PySem.W.Looks (model prog w) h (bindSpecial (.ref fI) self) (.ref fI, [self]))
    (then_ : codeAny (model prog w) A (.call (.ref fI) ⟨[.ref (h.objs.size + 1)], (n0, v0) :: kr⟩)
      (fun r s' => match r with | .ok (.ret v) => v = .none ∧ Q (.done (.ret (.ref (h.objs.size + 1)))) s' | .ok _ => False | .error e => E e s')
      ⟨(h.push (PySem.W.kdv_tup [])).push (excO C h.objs.size), g, d, t, os⟩) :
    wpAny (model prog w) A (Builtin.«type.__call__» ⟨[.ref C], (n0, v0) :: kr⟩) Q E ⟨h, g, d, t, os⟩ := by
  repeat (first | with_reducible refine wpAny_loadPart_at hC ?_ | with_reducible refine wpAny_madeBy_exc hC ?_ | wp_step)
  refine codeAny_call_builtin_code (Code.quiet_builtin _ FB.quiet) (kw_check FB hT hC (kw_new FB hT hC ?_))
  show wpAny _ _ _ _ _ _
  have keep : ∀ b o, h.get? b = some o → ((h.push (PySem.W.kdv_tup [])).push (excO C h.objs.size)).get? b = some o := fun b o z => Heap.get?_push_of_some _ (Heap.get?_push_of_some _ z)
  have hC2 := keep _ _ hC
  have made : ((h.push (PySem.W.kdv_tup [])).push (excO C h.objs.size)).get? (h.objs.size + 1) = some (excO C h.objs.size) := by heap_get
  have own : (Value.ref C :: bm).contains (.ref C) = true := by simp
  have l2 := look.keeps keep
  have b2 := (bind (.ref (h.objs.size + 1))).keeps keep
  unfold isInstance
  repeat (first | with_reducible refine wpAny_loadPart_at made ?_ | (with_reducible refine wpAny_isSubtype_exc hC2 ?_; rw [own]) | wp_step)
  show wpAny _ _ (typeLookup (.ref C) _) _ _ _
  refine l2.at (wpAny_holding (wpAny_bind (b2.at (wpAny_bind (wpAny_call (codeAny_mono then_ fun r s' z => ?_))))))
  rcases r with e | (v | _ | _ | _) <;> first | exact z | exact z.elim | skip
  obtain ⟨rfl, z⟩ := z
  first
    | exact wpAny_pure (wpAny_pure z)
    | (wp_walk; exact z)
theorem kw_callable {M : Model} {A : Around} {E : Value → Shared → Prop} {Q : Unit → Shared → Prop} (hC : h.get? C = some (excClassObj nm q C N bs bm hdct sn sub ab col dd k0 k1 k2 k3 k5 newId)) (then_ : Q () ⟨h, g, d, t, os⟩) :
    wpAny M A (checkBuiltinCall "type.__call__" ⟨[.ref C], (n0, v0) :: kr⟩) Q E ⟨h, g, d, t, os⟩ := by
  have f3 := tc_sub
  have isT : (⟨h, g, d, t, os⟩ : Shared).TypeIs (.ref C) "type" := ⟨_, hC, rfl⟩
  simp only [checkBuiltinCall, tc_kind, tc_split]
  repeat (any_goals (first | assumption | with_reducible refine wpAny_loadPart_at hC ?_ | with_reducible refine wpAny_onRaise ?_ | with_reducible refine wpAny_map ?_ | wp_step))
theorem kw_own (FB : ExcBaseFacts B newId initId bmB) (hT : ∀ X : String, bm.contains (.type X) = bmB.contains (.type X)) {fI : Addr}
    (hC : h.get? C = some (excClassObj nm q C N bs bm hdct sn sub ab col dd k0 k1 k2 k3 k5 newId))
    (look : PySem.W.Looks (model prog w) h (typeLookup (.ref C) "__init__") (some (.ref fI))) (bind : ∀ self, PySem.W.Looks (model prog w) h (bindSpecial (.ref fI) self) (.ref fI, [self]))
    (then_ : codeAny (model prog w) (A.under (.builtin "type.__call__" ⟨[.ref C], (n0, v0) :: kr⟩)) (.call (.ref fI) ⟨[.ref (h.objs.size + 1)], (n0, v0) :: kr⟩) (PySem.W.InitBack (h.objs.size + 1) R)
      ⟨(h.push (PySem.W.kdv_tup [])).push (excO C h.objs.size), g, d, t, os⟩) :
    codeAny (model prog w) A (.call (.ref C) ⟨[], (n0, v0) :: kr⟩) R ⟨h, g, d, t, os⟩ := by
  have f1 := tc_lookup
  have f2 := tc_bind (.ref C)
  have isT : (⟨h, g, d, t, os⟩ : Shared).TypeIs (.ref C) "type" := ⟨_, hC, rfl⟩
  refine codeAny_of_tree ?_
  show wpAny _ _ (callAny (.ref C) _) _ _ _
  repeat (any_goals (first | assumption | with_reducible refine wpAny_loadPart_at hC ?_ | wp_step))
  refine ⟨rfl, ?_⟩
  refine codeAny_call_builtin_at (Code.quiet_builtin _ (by decide +kernel)) entry_typeCall ?_
  refine kw_callable hC (kw_type FB hT hC look bind ?_)
  refine codeAny_mono then_ fun r s' z => ?_
  rcases r with e | (v | _ | _ | _) <;> exact z
end

section
variable {X : Cx} {x kn : Str} {kns : List Str} {C fI : Addr} {k : Nat} {fd : FuncData} {ps : List Str} {sp : Sp} {p pos : Pos} {kws : List Keyword} {tk : TA} {B newId initId : String} {bmB : List Value} {gU : List Value → List Value} {gV : List V → List V}
/-- C(k = v, ..), as a value; gV: the values in the sequence of the parameters -/
def tMkEK (C : Addr) (n : Nat) (gV : List V → List V) (sp : Sp) (tk : TA) : TE := fun σ H Q => tk σ H fun zs H1 => zs.length = n ∧ ∀ a, H1 a = none → sp (.ref a :: gV zs) (upd H1 a (exo a C none)) (fun v H2 => v = .non ∧ Q (.ref a) H2) E0
theorem mk_runK {pins : List (Addr × Obj)} {σ : L2.St} {H1 : Hp} {s1 : Shared} {Q : VK} {w0 : Value} {kr : List (Str × Value)} {gs : List Value} {gz : List V} (FB : ExcBaseFacts B newId initId bmB) (T : ExcK X.K C bmB newId) (iC : PySem.W.findIn X.K (.ref C) "__init__" = some (some (.ref fI)))
    (tI : PySem.W.typeIn X.K (.ref fI) = some (.type "function")) (F1 : FnG X.prog X.w X.K X.mg X.base CX0 k fI fd ps sp) (hA : X.A.guards = some []) (hr : Room (k + 1) X.A) (I1 : Inv X pins σ H1 s1)
    (hb : ∀ (s : Shared) (z : Value), BindsTo s fd ⟨[z], (kn, w0) :: kr⟩ (ps.zip (z :: gs))) (hrel : Vals gz gs)
    (q : ∀ a, H1 a = none → sp (.ref a :: gz) (upd H1 a (exo a C none)) (fun v H2 => v = .non ∧ Q (.ref a) H2) E0) :
    wpAny (model X.prog X.w) X.A (call (.ref C) [] ((kn, w0) :: kr)) (EP X pins σ Q) X.xe s1 := by
  obtain ⟨nm, N, qn, bs, bm, hdct, sn, sub, ab, col, dd, k0, k1, k2, k3, k5, hC, hT⟩ := PySem.W.excInit_of I1.kIn T.init
  obtain ⟨heap0, gens0, dr0, tk0, os0⟩ := s1
  have up : heap0.objs.size ≤ heap0.objs.size + 1 := Nat.le_succ _
  have keep : ∀ b o, heap0.get? b = some o → ((heap0.push (PySem.W.kdv_tup [])).push (PySem.HandSPX.excO C heap0.objs.size)).get? b = some o := fun b o z => Heap.get?_push_of_some _ (Heap.get?_push_of_some _ z)
  have there : ((heap0.push (PySem.W.kdv_tup [])).push (PySem.HandSPX.excO C heap0.objs.size)).get? (heap0.objs.size + 1) = some (PySem.HandSPX.excO C heap0.objs.size) := by heap_get
  have J : Inv X pins σ (upd H1 (heap0.objs.size + 1) (exo (heap0.objs.size + 1) C none)) ⟨(heap0.push (PySem.W.kdv_tup [])).push (PySem.HandSPX.excO C heap0.objs.size), gens0, dr0, tk0, os0⟩ :=
    I1.laid (t' := tk0) (h' := (heap0.push (PySem.W.kdv_tup [])).push (PySem.HandSPX.excO C heap0.objs.size)) keep up (exo_ok there)
  refine wpAny_call (kw_own FB hT hC (PySem.W.looks_findIn I1.kIn iC) (fun z => PySem.W.bind_fn I1.kIn z tI) (codeAny_mono (F1.run _ (under_guards hA) X.stack _ _ ⟨[.ref (heap0.objs.size + 1)], (kn, w0) :: kr⟩ (.ref (heap0.objs.size + 1) :: gs) (.ref (heap0.objs.size + 1) :: gz) _ E0
    (hr.make C [] ((kn, w0) :: kr)) (J.env0.make C [] ((kn, w0) :: kr)) (hb _ _) (.cons rfl hrel) (q _ (I1.hok.fresh up))) fun r' s' z => ?_))
  match r', z with
  | .error er, z => exact pass0 pins σ _ _ er s' J z
  | .ok .next, z => exact z.elim
  | .ok .brk, z => exact z.elim
  | .ok .cont, z => exact z.elim
  | .ok (.ret u), z =>
    obtain ⟨v, H2, J2, rv, ev, q⟩ := J.after z
    subst ev
    exact ⟨rv, .ref _, H2, J2, rfl, q⟩
end
end LK

/-! repr of nested data, dicts among it -/
namespace LK
open PySem PySem.Spec PyProof.Rows L2
def encK : Key → PyData
  | .inl i => .int i
  | .inr x => .str x
mutual
/-- data, dicts with ints and texts as keys among it -/
inductive DpX (K : PySem.W.Frag) (N : Addr → Prop) (H : Hp) : V → PyData → Prop
  | non : DpX K N H .non .none
  | bl (b : Bool) : DpX K N H (.bl b) (.bool b)
  | int (i : Int) : DpX K N H (.int i) (.int i)
  | str (x : Str) : DpX K N H (.str x) (.str x)
  | lst {a : Addr} {xs : List V} {ds : List PyData} : ¬ N a → SqL K H a xs → DpXAll K N H xs ds → DpX K N H (.ref a) (.list ds)
  | tup {a : Addr} {xs : List V} {ds : List PyData} : ¬ N a → SqT K H a xs → DpXAll K N H xs ds → DpX K N H (.ref a) (.tuple ds)
  | dct {a : Addr} {kvs : List (Key × V)} {ds : List PyData} : ¬ N a → H a = some (.dK kvs) → DpXAll K N H (kvs.map (·.2)) ds → DpX K N H (.ref a) (.dict ((kvs.map fun p => encK p.1).zip ds))
inductive DpXAll (K : PySem.W.Frag) (N : Addr → Prop) (H : Hp) : List V → List PyData → Prop
  | nil : DpXAll K N H [] []
  | cons {v : V} {vs : List V} {d : PyData} {ds : List PyData} : DpX K N H v d → DpXAll K N H vs ds → DpXAll K N H (v :: vs) (d :: ds)
end
/-- sys.modules is a dict there -/
def SysD (h : Heap) : Prop := ∃ (o : Obj) (es : Array DictEntry) (ep : Nat), h.get? sysModules = some o ∧ o.data = .dict es ep
section
variable {X : Cx} {pins : List (Addr × Obj)} {σ : L2.St} {H : Hp} {s : Shared} {N : Addr → Prop}
theorem pairs_read {h : Heap} : ∀ {kvs : List (Key × V)} {vs : List (Key × Value)} {ds : List PyData} {bs : List Addr}, KV kvs vs → ReadsAll h (vs.map (·.2)) ds bs → PyProof.V.PairsRead h encK vs ((kvs.map fun p => encK p.1).zip ds) bs := by
  intro kvs vs ds bs r
  induction r generalizing ds bs with
  | nil => intro z; cases z; exact .nil
  | cons h1 t ih =>
    intro z
    cases z with
    | cons z1 z2 =>
      rw [List.map_cons, List.zip_cons_cons, h1.1]
      exact .cons z1 (ih z2)
theorem kv_vals : ∀ {kvs : List (Key × V)} {vs : List (Key × Value)}, KV kvs vs → Vals (kvs.map (·.2)) (vs.map (·.2))
  | _, _, .nil => .nil
  | _, _, .cons h t => .cons h.2 (kv_vals t)
theorem sys_ne {a : Addr} {o : Obj} (S : SysD s.heap) (e : s.heap.get? a = some o) (n : ∀ es ep, o.data ≠ .dict es ep) : sysModules ≠ a := fun z => by
  obtain ⟨o2, es, ep, e2, d⟩ := S
  rw [z, e] at e2
  cases e2
  exact n _ _ d
mutual
theorem DpX.reads (I : Inv X pins σ H s) (S : SysD s.heap) : ∀ {v : V} {d : PyData} {u : Value}, DpX X.K N H v d → RelV v u → ∃ as, Reads s.heap u d as ∧ sysModules ∉ as
  | _, _, _, .non, r => by cases r; exact ⟨_, .none, by simp⟩
  | _, _, _, .bl b, r => by cases r; exact ⟨_, .bool b, by simp⟩
  | _, _, _, .int i, r => by obtain ⟨t, rfl⟩ := r; exact ⟨_, .int i t, by simp⟩
  | _, _, _, .str x, r => by obtain ⟨t, rfl⟩ := r; exact ⟨_, .str x t, by simp⟩
  | _, _, _, .lst _ hs ha, r => by
    cases r
    obtain ⟨its, rv, ⟨o, n, ho, hc, _, hd⟩, _⟩ := I.list hs
    obtain ⟨as, hr, ns⟩ := DpXAll.reads I S ha rv
    refine ⟨_, .list ho hc hd hr, ?_⟩
    rw [List.mem_cons, not_or]
    exact ⟨sys_ne S ho (fun es ep z => by rw [hd] at z; cases z), ns⟩
  | _, _, _, .tup _ hs ha, r => by
    cases r
    obtain ⟨its, rv, ⟨o, ho, hc, n, hd⟩, _⟩ := I.tuple hs
    obtain ⟨as, hr, ns⟩ := DpXAll.reads I S ha rv
    exact ⟨_, .tuple ho hc hd hr, ns⟩
  | _, _, _, .dct _ hk ha, r => by
    cases r
    obtain ⟨_, lo, vs, rel, dd⟩ := dk_of I.hok hk
    have rv : Vals _ (vs.map (·.2)) := kv_vals rel
    obtain ⟨as, hr, ns⟩ := DpXAll.reads I S ha rv
    refine ⟨_, PyProof.V.reads_dictOf (enc := encK) (fun k key z => ?_) dd (pairs_read rel hr), ?_⟩
    · have r := keyIs_rel (show keyIs k key = true from z)
      cases k with
      | inl i => obtain ⟨t, rfl⟩ := r; exact .int i t
      | inr x => obtain ⟨t, rfl⟩ := r; exact .str x t
    · rw [List.mem_cons, not_or]
      exact ⟨fun z => by rw [← z] at lo; simp at lo, ns⟩
theorem DpXAll.reads (I : Inv X pins σ H s) (S : SysD s.heap) : ∀ {vs : List V} {ds : List PyData} {us : List Value}, DpXAll X.K N H vs ds → Vals vs us → ∃ as, ReadsAll s.heap us ds as ∧ sysModules ∉ as
  | _, _, _, .nil, r => by cases r; exact ⟨_, .nil, by simp⟩
  | _, _, _, .cons h1 h2, r => by
    cases r with
    | cons r1 r2 =>
      obtain ⟨as, q1, n1⟩ := DpX.reads I S h1 r1
      obtain ⟨bs, q2, n2⟩ := DpXAll.reads I S h2 r2
      exact ⟨_, .cons q1 q2, by rw [List.mem_append, not_or]; exact ⟨n1, n2⟩⟩
end
end

section
variable {X : Cx}
/-- data that is short enough to be shown -/
structure ShwX (d : PyData) : Prop where
  sh : d.showable = true
  dp : d.depth ≤ 8
  lf : d.leavesShort 25 = true
  wt : d.weight ≤ 100000
def reprX (K : PySem.W.Frag) : List V → Hp → VK → Prop := fun vs H Q => match vs with
  | [.ref a] => ∃ (N : Addr → Prop) (d : PyData), DpX K N H (.ref a) d ∧ ShwX d ∧ Q (.str d.shown) H
  | _ => False
theorem c_reprX (hA : X.A.guards = some []) (hu : X.A.units + 64 < cLine) (SM : SysD X.base) : CallR X (.builtin "repr") (reprX X.K) := by
  intro pins s σ H xs us Q I r h
  unfold reprX at h
  split at h
  · obtain ⟨N, d, hd, hw, q⟩ := h
    obtain ⟨u, rfl, ru⟩ := vals1 r
    obtain rfl : u = Value.ref _ := ru
    have S : SysD s.heap := by
      obtain ⟨o, es, ep, z1, z2⟩ := SM
      exact ⟨o, es, ep, I.bk _ _ z1, z2⟩
    obtain ⟨as, rd, ns⟩ := DpX.reads I S hd (u := Value.ref _) rfl
    refine repr_of_reads' rd hw.sh (fun _ => ns) hA (by have := hw.dp; omega) (fun _ _ e => e) (fun h' u tk hk => ?_) (by have := PyData.shown_le 25 (by omega) d hw.lf; have := hw.wt; have := sizeLine_eq; omega)
    exact ⟨.str d.shown, H, I.kept hk, ⟨u, rfl⟩, q⟩
  · exact h.elim
end
end LK

/-! methods of own classes under guards; what an instance answers to len, in, ==, !=, repr -/
namespace LK
open PySem PySem.Spec PyProof.Rows L2 Builtin
/-- a method and what it promises; its values may come by place or by name -/
structure HasM (P : Program) (w : World) (K : PySem.W.Frag) (mg : Str → Option Value) (base : Heap) (k : Nat) (C : Addr) (m : Str) (ps : List Str) (sp : Sp) : Prop where
  ex : ∃ f fd, FnG P w K mg base CX0 k f fd (("self" : Str) :: ps) sp ∧ Meth K C m f ∧ Binds K fd (("self" : Str) :: ps) [] ∧
    ∀ (s : Shared) (z : Value) (us : List Value), us.length = ps.length → BindsTo s fd ⟨[z], ps.zip us⟩ ((("self" : Str) :: ps).zip (z :: us)) ∧ BindsTo s fd ⟨[z], (ps.zip us).reverse⟩ ((("self" : Str) :: ps).zip (z :: us))
theorem HasM.up {P : Program} {w : World} {K : PySem.W.Frag} {mg : Str → Option Value} {base : Heap} {j k : Nat} {C : Addr} {m : Str} {ps : List Str} {sp : Sp} (F : HasM P w K mg base j C m ps sp) (h : j ≤ k) : HasM P w K mg base k C m ps sp := by
  obtain ⟨f, fd, a, b⟩ := F.ex
  exact ⟨f, fd, a.up h, b⟩
section
variable {X : Cx} {k : Nat} {C : Addr} {ps : List Str} {sp : Sp} {m : Str} {apos pos : Pos} {e o : Expr} {es : List Expr} {kws : List Keyword} {ta : TE} {t tk : TA} {pins : List (Addr × Obj)} {σ : L2.St} {H : Hp} {s : Shared} {a : Addr}
def uMeth (C : Addr) (m : Str) (sp : Sp) (ta : TE) (t : TA) : TE := fun σ H Q => ta σ H fun x H1 => match x with
  | .ref a => ∃ dx fs, H1 a = some (.ins C dx fs) ∧ fs.lookup m = none ∧ t σ H1 fun vs H2 => sp (.ref a :: vs) H2 Q E0
  | _ => False
/-- o.m(e, ..) -/
theorem pe_mH {pl : Sem Bool} (F : HasM X.prog X.w X.K X.mg X.base k C m ps sp) (c : Cls X.K C) (hA : X.A.guards = some []) (hr : Room k X.A) (ho : PE X o ta) (ha : PA X (e :: es) t)
    (st : starEach (e :: es) X.env = (false, eval e X.env) :: starEach es X.env := by rfl) (hpl : (backTo pos (starEach es X.env)).any (·.1) = false := by rfl)
    (ht : eval (.Call (.Attribute o m apos) (e :: es) [] pos) X.env = (do
      let ov ← eval o X.env
      standAt apos.atName
      let (f, first) ← holding [ov] (getMethod ov m pl)
      callWith pos f first (backTo pos (starEach (e :: es) X.env)) (backToKw pos (keywordEach [] X.env))) := by rfl) :
    PE X (.Call (.Attribute o m apos) (e :: es) [] pos) (uMeth C m sp ta t) := by
  obtain ⟨f, fd, F, hm, hb, _⟩ := F.ex
  constructor
  intro pins s σ H Q I w
  refine PySem.W.methodCall_KW (pl := pl) (thn (ho.run pins s σ H _ I w) fun u s1 z => ?_) ht
  obtain ⟨x, H1, I1, rx, q⟩ := z
  cases x with
  | ref a =>
    obtain ⟨dx, fs, ea, l, q⟩ := q
    obtain rfl : u = Value.ref a := rx
    refine getmeth_ok I1 ea c hm l (PySem.W.callWith_K (first := [.ref a]) (h₀ := X.base) I.ok.mod.kin hm.kp (thn (ha.run pos pins s1 σ H1 _ I1 q) fun us s2 z => ?_) st hpl)
    obtain ⟨vs, H2, I2, r, q2⟩ := z
    refine ⟨I2.kIn, runG (us := .ref a :: us) (ws := .ref a :: us) (kw := []) (CX := CX0) (E := E0) F hA hr pass0 I2 (fun n => ?_) (vs := .ref a :: vs) (.cons rfl r) q2⟩
    have b := hb s2 (.ref a :: us) I2.kIn (by simpa using n)
    simpa using b
  | _ => exact q.elim
/-- o.m() -/
theorem pe_mH0 {pl : Sem Bool} (F : HasM X.prog X.w X.K X.mg X.base k C m [] sp) (c : Cls X.K C) (hA : X.A.guards = some []) (hr : Room k X.A) (ho : PE X o ta)
    (ht : eval (.Call (.Attribute o m apos) [] [] pos) X.env = (do
      let ov ← eval o X.env
      standAt apos.atName
      let (f, first) ← holding [ov] (getMethod ov m pl)
      callWith pos f first (backTo pos (starEach [] X.env)) (backToKw pos (keywordEach [] X.env))) := by rfl) :
    PE X (.Call (.Attribute o m apos) [] [] pos) (uMeth C m sp ta tNil) := by
  obtain ⟨f, fd, F, hm, hb, _⟩ := F.ex
  constructor
  intro pins s σ H Q I w
  refine PySem.W.methodCall_KW (pl := pl) (thn (ho.run pins s σ H _ I w) fun u s1 z => ?_) ht
  obtain ⟨x, H1, I1, rx, q⟩ := z
  cases x with
  | ref a =>
    obtain ⟨dx, fs, ea, l, q⟩ := q
    obtain rfl : u = Value.ref a := rx
    refine getmeth_ok I1 ea c hm l (PySem.W.callWith_K0 (first := [.ref a]) I1.kIn hm.kp ?_)
    refine runG (us := [.ref a]) (ws := [.ref a]) (kw := []) (CX := CX0) (E := E0) F hA hr pass0 I1 (fun n => ?_) (vs := [.ref a]) (.cons rfl .nil) q
    have b := hb s1 [.ref a] I1.kIn (by simpa using n)
    simpa using b
  | _ => exact q.elim
/-- o.m(k = v, ..), the names in the sequence of the parameters or turned round -/
theorem pe_mHK {pl : Sem Bool} {ks : List Str} {rv : Bool} (F : HasM X.prog X.w X.K X.mg X.base k C m ps sp) (c : Cls X.K C) (hA : X.A.guards = some []) (hr : Room k X.A) (ho : PE X o ta) (hk : PK X kws tk)
    (hks : (backToKw pos (keywordEach kws X.env)).filterMap (·.1) = ks := by rfl) (hord : (ks = ps ∧ rv = false) ∨ (ks = ps.reverse ∧ rv = true))
    (hall : (backToKw pos (keywordEach kws X.env)).all (·.1.isSome) = true := by rfl) (hpl : ((backTo pos (starEach [] X.env)).any (·.1) || (backToKw pos (keywordEach kws X.env)).any (·.1.isNone)) = false := by rfl)
    (ht : eval (.Call (.Attribute o m apos) [] kws pos) X.env = (do
      let ov ← eval o X.env
      standAt apos.atName
      let (f, first) ← holding [ov] (getMethod ov m pl)
      callWith pos f first (backTo pos (starEach [] X.env)) (backToKw pos (keywordEach kws X.env))) := by rfl) :
    PE X (.Call (.Attribute o m apos) [] kws pos) (uMeth C m sp ta fun σ H R => tk σ H fun zs H1 => zs.length = ps.length ∧ R (if rv = true then zs.reverse else zs) H1) := by
  obtain ⟨f, fd, F, hm, _, hb⟩ := F.ex
  constructor
  intro pins s σ H Q I w
  refine PySem.W.methodCall_KW (pl := pl) (thn (ho.run pins s σ H _ I w) fun u s1 z => ?_) ht
  obtain ⟨x, H1, I1, rx, q⟩ := z
  cases x with
  | ref a =>
    obtain ⟨dx, fs, ea, l, q⟩ := q
    obtain rfl : u = Value.ref a := rx
    refine getmeth_ok I1 ea c hm l (PySem.W.callWith_KW0 (first := [.ref a]) (h₀ := X.base) I.ok.mod.kin hm.kp hall (thn (hk.run pos pins s1 σ H1 _ I1 q) fun us s2 z => ?_) hpl)
    obtain ⟨zs, H2, I2, r, lz, q2⟩ := z
    refine ⟨I2.kIn, ?_⟩
    rw [hks]
    have lu : us.length = ps.length := r.length ▸ lz
    rcases hord with ⟨rfl, rfl⟩ | ⟨rfl, rfl⟩
    · exact runG (us := [.ref a]) (ws := .ref a :: us) (CX := CX0) (E := E0) F hA hr pass0 I2 (fun _ => (hb s2 (.ref a) us lu).1) (vs := .ref a :: zs) (.cons rfl r) q2
    · have lr : us.reverse.length = ps.length := by rw [List.length_reverse]; exact lu
      have b := (hb s2 (.ref a) us.reverse lr).2
      have ez : (ps.zip us.reverse).reverse = ps.reverse.zip us := by
        rw [List.zip_eq_zipWith, List.zip_eq_zipWith, List.reverse_zipWith lr.symm, List.reverse_reverse]
      rw [ez] at b
      exact runG (us := [.ref a]) (ws := .ref a :: us.reverse) (CX := CX0) (E := E0) F hA hr pass0 I2 (fun _ => b) (vs := .ref a :: zs.reverse) (.cons rfl r.reverse) q2
  | _ => exact q.elim

/-! ### what Python asks of an instance by itself -/
/-- a method called one deeper, by Python itself -/
theorem runG1 {f : Addr} {fd : FuncData} {Q : VK} {us : List Value} {vs : List V} (F : FnG X.prog X.w X.K X.mg X.base CX0 k f fd ps sp) (hA : X.A.guards = some []) (hr : Room (k + 1) X.A) (hb : Binds X.K fd ps []) (I : Inv X pins σ H s) (r : Vals vs us)
    (h : sp vs H Q E0) : wpAny (model X.prog X.w) X.A.in1 (call (.ref f) us) (EP X pins σ Q) X.xe s := by
  have n : us.length = ps.length := r.length ▸ F.len vs H Q E0 h
  have b := hb s us I.kIn (by simpa using n)
  simp only [List.append_nil] at b
  refine wpAny_call (codeAny_mono (F.run X.A.in1 hA X.stack s H ⟨us, []⟩ us vs Q E0 hr.in1 I.env0.in1 b r h) ?_)
  rintro (er | fl) s' z
  · exact pass0 pins σ H s er s' I z
  · cases fl
    case ret => exact I.after z
    all_goals exact z.elim
theorem inst_at {C dx : Addr} {fs : List (Str × V)} (I : Inv X pins σ H s) (e : H a = some (.ins C dx fs)) : ∃ (ox : Obj) (od : Option Obj), PySem.W.InstAt s.heap a ox C od := by
  obtain ⟨mA, O, _⟩ := ins_get I.hok e
  obtain ⟨od, J, _⟩ := O.look
  exact ⟨_, _, J⟩
/-- len(o) -/
def lenI (C : Addr) (sp : Sp) : List V → Hp → VK → Prop := fun vs H Q => match vs with
  | [.ref a] => ∃ dx fs, H a = some (.ins C dx fs) ∧ sp [.ref a] H (fun v H' => ∃ n : Nat, v = .int n ∧ n < 2 ^ 62 ∧ Q (.int n) H') E0
  | _ => False
theorem c_lenI (F : HasM X.prog X.w X.K X.mg X.base k C "__len__" [] sp) (hA : X.A.guards = some []) (hr : Room (k + 1) X.A) : CallR X (.builtin "len") (lenI C sp) := by
  intro pins s σ H xs us Q I r h
  unfold lenI at h
  split at h
  · rename_i a
    obtain ⟨dx, fs, ea, q⟩ := h
    obtain ⟨f, fd, F, hm, hb, _⟩ := F.ex
    obtain ⟨u, rfl, ru⟩ := vals1 r
    obtain rfl : u = Value.ref a := ru
    obtain ⟨ox, od, J⟩ := inst_at I ea
    obtain ⟨m', hF⟩ := I.fr
    refine PySem.W.len_K hF I.ok.mod.kin J hm.at_ hm.fn (wpAny_mono (runG1 (us := [.ref a]) (vs := [.ref a]) F hA hr hb I (.cons rfl .nil) q) ?_ fun _ _ z => z)
    rintro v s' ⟨y, H', I', ry, n, rfl, hn, q'⟩
    obtain ⟨t, rfl⟩ := ry
    exact ⟨⟨by omega, by omega⟩, .int n, H', I'.tok _, ⟨_, rfl⟩, q'⟩
  · exact h.elim
/-- x in o, x not in o -/
def inI (C : Addr) (sp : Sp) (neg : Bool) : R2 := fun x y H Q => match y with
  | .ref a => ∃ dx fs, H a = some (.ins C dx fs) ∧ sp [.ref a, x] H (fun v H' => ∃ b : Bool, v = .bl b ∧ Q (.bl (if neg then !b else b)) H') E0
  | _ => False
theorem o_inI {p : Str} (F : HasM X.prog X.w X.K X.mg X.base k C "__contains__" [p] sp) (hA : X.A.guards = some []) (hr : Room k X.A) : OpR X (compareOp .In) (inI C sp false) := by
  intro pins s σ H x y v u Q I rx ry h
  unfold inI at h
  split at h
  · rename_i a
    obtain ⟨dx, fs, ea, q⟩ := h
    obtain ⟨f, fd, F, hm, hb, _⟩ := F.ex
    obtain rfl : u = Value.ref a := ry
    obtain ⟨ox, od, J⟩ := inst_at I ea
    obtain ⟨m', hF⟩ := I.fr
    refine PySem.W.in_K hF I.ok.mod.kin J hm.at_ hm.fn (wpAny_mono (runG (us := [.ref a, v]) (ws := [.ref a, v]) (kw := []) (CX := CX0) (E := E0) F hA hr pass0 I (fun n => ?_) (vs := [.ref a, x]) (.cons rfl (.cons rx .nil)) q) ?_ fun _ _ z => z)
    · have b := hb s [.ref a, v] I.kIn (by simpa using n)
      simpa using b
    · rintro r s' ⟨y, H', I', ry, b, rfl, q'⟩
      obtain rfl : r = Value.bool b := ry
      exact wpAny_truthy_bool ⟨.bl b, H', I', rfl, q'⟩
  · exact h.elim
/-- the type of a value by which the classes are compared -/
def tyK : V → Value
  | .non => .type "NoneType"
  | .bl _ => .type "bool"
  | .int _ => .type "int"
  | .str _ => .type "str"
  | .byt _ => .type "bytes"
  | .flt _ => .type "float"
  | .ty _ => .type "type"
  | .ref _ => .none
end
end LK

/-! == and != of an instance whose class has an __eq__ of its own, beside any value -/
namespace LK
open PySem PySem.Spec PyProof.Rows L2 Builtin
/-- what != asks of the class -/
structure EqC (K : PySem.W.Frag) (C : Addr) : Prop where
  ne : PySem.W.findIn K (.ref C) "__ne__" = some (some (.builtin "object.__ne__"))
  ob : PySem.W.mroIn K C (.type "object") = some true
section
variable {prog : Program} {w : World} {A : Around} {E : Value → Shared → Prop} {s : Shared} {K : PySem.W.Frag} {x C f : Addr} {ox : Obj} {od : Option Obj} {u t : Value}
/-- the type's answer to __ne__ is object's own: it asks __eq__ and turns the answer -/
theorem tryNe (X : K.In s.heap) (J : PySem.W.InstAt s.heap x ox C od) (c : EqC K C) (hs : PySem.W.findIn K (.ref C) "__eq__" = some (some (.ref f))) (hf : PySem.W.isFn K (.ref f) = true) (hu : A.in1.units < cLine) {Q : Option Value → Shared → Prop}
    (h : wpAny (model prog w) A.in1 (call (.ref f) [.ref x, u]) (fun v s' => ∃ b, v = .bool b ∧ Q (some (.bool (!b))) s') E s) : wpAny (model prog w) A (tryCompare (.ref x) "__ne__" u) Q E s := by
  have body : wpAny (model prog w) A (call (.builtin "object.__ne__") [.ref x, u]) (fun v s' => ∃ b, v = .bool (!b) ∧ Q (some (.bool (!b))) s') E s := by
    refine wpAny_call (codeAny_call_builtin F.cmp_object.ne.plain F.cmpEntry_ne (PySem.W.check_slot F.cmpKind_ne F.cmpSplit_ne (J.type.andThen (PySem.W.looks_mroIn X c.ob)) (F.cmpArgs_ne _ _) ?_))
    unfold Builtin.«object.__ne__»
    refine wpAny_bind (m := slotArgs "__ne__" 1 _) (wpAny_pure (wpAny_bind (wpAny_cRoomFor hu ?_)))
    refine wpAny_bind (m := callSpecialIfBound? (.ref x) "__eq__" [u]) (PySem.W.ifBound_K X J hs hf (wpAny_mono h ?_ fun _ _ z => z))
    rintro v s' ⟨b, rfl, q⟩
    exact wpAny_bind (wpAny_truthy_bool (wpAny_pure ⟨b, rfl, q⟩))
  have go : wpAny (model prog w) A (call (.builtin "object.__ne__") ([.ref x] ++ [u]) >>= fun v => pure (some v)) (fun r s' => ∃ b, r = some (.bool (!b)) ∧ Q (some (.bool (!b))) s') E s :=
    wpAny_bind (wpAny_mono body (fun _ _ ⟨b, e, q⟩ => wpAny_pure ⟨b, by rw [e], q⟩) fun _ _ z => z)
  unfold tryCompare
  refine wpAny_bind (m := callSpecialIfBound? (.ref x) "__ne__" [u]) (wpAny_mono (Q := fun r s' => ∃ b, r = some (.bool (!b)) ∧ Q (some (.bool (!b))) s') ?_ (fun r s' ⟨b, e, q⟩ => by subst e; exact wpAny_pure q) fun _ _ z => z)
  simp only [callSpecialIfBound?, bindSpecialIfBound?]
  refine wpAny_holding (wpAny_bind (wpAny_bind (wpAny_bind (J.type.here ((PySem.W.looks_findIn X c.ne).here (wpAny_bind (wpAny_askSetting (wpAny_ite ?_))))))))
  have bnd : ∀ {R : Value × List Value → Shared → Prop} {E' : Value → Shared → Prop}, R (.builtin "object.__ne__", [.ref x]) s → wpAny (model prog w) A (bindSpecial (.builtin "object.__ne__") (.ref x)) R E' s := fun q => wpAny_of_eq (F.cmp_object.ne.bind _) q
  split
  · exact wpAny_bind (bnd (wpAny_pure go))
  · exact wpAny_tryCatch (wpAny_bind (bnd (wpAny_pure go)))
theorem rcNe (X : K.In s.heap) (J : PySem.W.InstAt s.heap x ox C od) (c : EqC K C) (hs : PySem.W.findIn K (.ref C) "__eq__" = some (some (.ref f))) (hf : PySem.W.isFn K (.ref f) = true) (hu : A.in1.units < cLine)
    (hb : PySem.W.Looks (model prog w) s.heap (typeOf u) t) (hn : PySem.W.notFirst K C t = true) {Q : Value → Shared → Prop}
    (h : wpAny (model prog w) A.in1 (call (.ref f) [.ref x, u]) (fun v s' => ∃ b, v = .bool b ∧ Q (.bool (!b)) s') E s) : wpAny (model prog w) A (richCompare .NotEq (.ref x) u) Q E s := by
  have hu0 : A.units < cLine := Nat.lt_of_succ_lt (show A.units + 1 < cLine from hu)
  have one : ∀ {R : Option Value → Shared → Prop}, (∀ (b : Bool) s', Q (.bool (!b)) s' → R (some (.bool (!b))) s') → wpAny (model prog w) A (tryCompare (.ref x) "__ne__" u) R E s := fun k =>
    tryNe X J c hs hf hu (wpAny_mono h (fun _ _ ⟨b, e, q⟩ => ⟨b, e, k b _ q⟩) fun _ _ z => z)
  unfold richCompare
  rw [oneThing_ref]
  refine wpAny_holding (wpAny_bind (wpAny_cRoomFor hu0 ?_))
  refine wpAny_bind (J.type.here (wpAny_bind (hb.here ?_)))
  by_cases e : (Value.ref C != t) = true
  · have su : PySem.W.subIn K t (.ref C) = some false := by
      rcases Bool.or_eq_true_iff.mp hn with z | z
      · rw [beq_iff_eq.mp z] at e
        simp at e
      · exact beq_iff_eq.mp z
    rw [if_pos e]
    refine wpAny_bind ((PySem.W.looks_subIn X su).here ?_)
    simp only [Bool.false_eq_true, if_false]
    exact wpAny_bind (one fun b s' q => wpAny_pure q)
  · rw [if_neg e]
    refine wpAny_bind (wpAny_pure ?_)
    simp only [Bool.false_eq_true, if_false]
    exact wpAny_bind (one fun b s' q => wpAny_pure q)
end
section
variable {X : Cx} {k : Nat} {C : Addr} {sp : Sp} {p : Str}
/-- o == y, o != y -/
def eqI (K : PySem.W.Frag) (C : Addr) (sp : Sp) (neg : Bool) : R2 := fun x y H Q => match x with
  | .ref a => ∃ dx fs t, H a = some (.ins C dx fs) ∧ TyX K H y t ∧ PySem.W.notFirst K C t = true ∧ sp [.ref a, y] H (fun v H' => ∃ b : Bool, v = .bl b ∧ Q (.bl (if neg then !b else b)) H') E0
  | _ => False
theorem o_eqI (F : HasM X.prog X.w X.K X.mg X.base k C "__eq__" [p] sp) (hA : X.A.guards = some []) (hr : Room k X.A) : OpR X (compareOp .Eq) (eqI X.K C sp false) := by
  intro pins s σ H x y v u Q I rx ry h
  unfold eqI at h
  split at h
  · rename_i a
    obtain ⟨dx, fs, t, ea, ty, hn, q⟩ := h
    obtain ⟨f, fd, F, hm, hb, _⟩ := F.ex
    obtain rfl : v = Value.ref a := rx
    obtain ⟨ox, od, J⟩ := inst_at I ea
    obtain ⟨m', hF⟩ := I.fr
    obtain ⟨P, Z, hp, _⟩ := kit_of I ry ty
    refine PySem.W.cmp_K (op := .Eq) (tb := t) hr.units0 hF I.ok.mod.kin J (Z.ty _ _ I.kIn hp) hn hm.at_ hm.fn (wpAny_mono (runG (us := [.ref a, u]) (ws := [.ref a, u]) (kw := []) (CX := CX0) (E := E0) F hA hr pass0 I (fun n => ?_) (vs := [.ref a, y]) (.cons rfl (.cons ry .nil)) q) ?_ fun _ _ z => z)
    · have b := hb s [.ref a, u] I.kIn (by simpa using n)
      simpa using b
    · rintro r s' ⟨z, H', I', rz, b, rfl, q'⟩
      obtain rfl : r = Value.bool b := rz
      exact ⟨.bl b, H', I', rfl, q'⟩
  · exact h.elim
theorem o_neI (F : HasM X.prog X.w X.K X.mg X.base k C "__eq__" [p] sp) (c : EqC X.K C) (hA : X.A.guards = some []) (hr : Room (k + 1) X.A) : OpR X (compareOp .NotEq) (eqI X.K C sp true) := by
  intro pins s σ H x y v u Q I rx ry h
  unfold eqI at h
  split at h
  · rename_i a
    obtain ⟨dx, fs, t, ea, ty, hn, q⟩ := h
    obtain ⟨f, fd, F, hm, hb, _⟩ := F.ex
    obtain rfl : v = Value.ref a := rx
    obtain ⟨ox, od, J⟩ := inst_at I ea
    obtain ⟨P, Z, hp, _⟩ := kit_of I ry ty
    refine rcNe I.kIn J c hm.at_ hm.fn (hr.in1).units0 (Z.ty _ _ I.kIn hp) hn (wpAny_mono (runG1 (us := [.ref a, u]) (vs := [.ref a, y]) F hA hr hb I (.cons rfl (.cons ry .nil)) q) ?_ fun _ _ z => z)
    rintro r s' ⟨z, H', I', rz, b, rfl, q'⟩
    exact ⟨b, rz, .bl (!b), H', I', rfl, q'⟩
  · exact h.elim
end
end LK

/-! {x!r} of nested data in an f-string; repr of an instance -/
namespace LK
open PySem PySem.Spec PyProof.Rows L2 Builtin
section
variable {X : Cx} {e : Expr} {te : TE} {pos : Pos} {k : Nat} {C : Addr} {sp : Sp}
/-- {e!r}, e a list or tuple of data -/
def tFmtD (K : PySem.W.Frag) (te : TE) : TE := fun σ H Q => te σ H fun x H1 => match x with
  | .ref a => ∃ d, Dp K H1 (.ref a) d ∧ Shw d ∧ d.shown.length ≤ sizeLine ∧ Q (.str d.shown) H1
  | .str y => (reprText y).length ≤ sizeLine ∧ Q (.str (reprText y)) H1
  | _ => False
theorem pe_fmtD (hA : X.A.guards = some []) (hu : X.A.units + 64 < cLine) (he : PE X e te) : PE X (.FormattedValue e 114 none pos) (tFmtD X.K te) := by
  constructor
  intro pins s σ H Q I w
  refine wpAny_FormattedValue_repr (thn (he.run pins s σ H _ I w) fun v s1 z => ?_)
  obtain ⟨x, H1, I1, r1, q⟩ := z
  cases x with
  | ref a =>
    obtain ⟨d, hd, hw, hl, q⟩ := q
    obtain rfl : v = Value.ref a := r1
    obtain ⟨as, rd⟩ := Dp.reads I1 d _ (Value.ref a) hd rfl
    have dp := hw.dp
    refine pyReprObj_of_reads rd hw.sh (fun z => (hw.nd z).elim) hA (by omega) (fun _ _ e => e) (fun h' u tk hk => ?_) hl
    have J := I1.kept (t' := tk) hk
    exact wpAny_formatField_str ⟨.str d.shown, H1, J, ⟨_, rfl⟩, q⟩ ⟨.str d.shown, H1, J.tok _, ⟨_, rfl⟩, q⟩ hl
  | str y =>
    obtain ⟨hl, q⟩ := q
    obtain ⟨t, rfl⟩ := r1
    exact pyReprObj_str (wpAny_formatField_str ⟨.str (reprText y), H1, I1.tok _, ⟨_, rfl⟩, q⟩ ⟨.str (reprText y), H1, I1.tok _, ⟨_, rfl⟩, q⟩ hl) hl
  | _ => exact q.elim
/-- repr(o) -/
def reprI (C : Addr) (sp : Sp) : List V → Hp → VK → Prop := fun vs H Q => match vs with
  | [.ref a] => ∃ dx fs, H a = some (.ins C dx fs) ∧ sp [.ref a] H (fun v H' => ∃ y : Str, v = .str y ∧ Q (.str y) H') E0
  | _ => False
theorem c_reprI (F : HasM X.prog X.w X.K X.mg X.base k C "__repr__" [] sp) (hA : X.A.guards = some []) (hr : Room (k + 1) X.A) : CallR X (.builtin "repr") (reprI C sp) := by
  intro pins s σ H xs us Q I r h
  unfold reprI at h
  split at h
  · rename_i a
    obtain ⟨dx, fs, ea, q⟩ := h
    obtain ⟨f, fd, F, hm, hb, _⟩ := F.ex
    obtain ⟨u, rfl, ru⟩ := vals1 r
    obtain rfl : u = Value.ref a := ru
    obtain ⟨ox, od, J⟩ := inst_at I ea
    obtain ⟨m', hF⟩ := I.fr
    refine PySem.W.repr_K (hr.in1).units0 hF I.ok.mod.kin J hm.at_ hm.fn (wpAny_mono (runG1 (us := [.ref a]) (vs := [.ref a]) F hA hr hb I (.cons rfl .nil) q) ?_ fun _ _ z => z)
    rintro v s' ⟨z, H', I', rz, y, rfl, q'⟩
    obtain ⟨t, rfl⟩ := rz
    exact ⟨.str y, H', I', ⟨t, rfl⟩, q'⟩
  · exact h.elim
end
end LK

/-! set(text), sorted of it -/
namespace LK
open PySem PySem.Spec PyProof.Rows L2 PySem.Froz
open PySem.W (EachIs dataLe AllAlike Sortable)
/-- D holds the signs of l; its slots rise; what the order rests on -/
structure SgD (P : Program) (w : World) (D : SD) (l : List Nat) : Prop where
  tx : TxOk P w D (l.map sing)
  ris : Ris D.2.2.place.toList
  led : w.params.followText "set-order" = true ∨ D.2.2.led = true
section
variable {P : Program} {w : World}
theorem tail_ris {ep : Nat} {es1 : Array (Int × Value)} {t2 : SetTable} {wd : Bool} (r : Ris t2.place.toList) : Ris (tailTx ep es1 t2 wd).2.2.place.toList := by
  unfold tailTx; split
  · exact relayAll_ris _ _ _
  · exact r
theorem tail_led {ep : Nat} {es1 : Array (Int × Value)} {t2 : SetTable} {wd : Bool} : (tailTx ep es1 t2 wd).2.2.led = t2.led := by
  unfold tailTx; split
  · exact relayAll_led _ _ _
  · rfl
theorem SgD.add {D : SD} {l : List Nat} (S : SgD P w D l) (c : Nat) (tk : Tok) : SgD P w (addTx (hashStr w (sing c)) (.str (sing c) tk) D) (c :: l) := by
  refine ⟨add_ok tk S.tx, tail_ris ?_, ?_⟩
  · have r := layNew_ris D.2.2 D.1 (hashStr w (sing c)) (.str (sing c) tk) S.ris
    split <;> exact r
  · rcases S.led with h | h
    · exact .inl h
    · refine .inr (tail_led.trans ?_)
      have r : (layNew D.2.2 D.1 (hashStr w (sing c)) (.str (sing c) tk)).2.1.led = true := (layNew_led D.2.2 D.1 _ _).trans h
      split <;> exact r
theorem SgD.run : ∀ (cs : List Nat) (tk : Tok) (D : SD) (l : List Nat), SgD P w D l → SgD P w (runD w cs tk D) (cs.reverse ++ l)
  | [], _, _, _, S => S
  | c :: cs, tk, D, l, S => by
    have r := SgD.run cs (tk + 2) _ (c :: l) (S.add c tk)
    rw [List.reverse_cons, List.append_assoc]
    exact r
/-- what is known of the set of the signs of l that lies at a -/
def SgSet (P : Program) (w : World) (a : Addr) (l : List Nat) (h : Heap) : Prop := ∃ D : SD, h.get? a = some (sObj "set" D) ∧ SgD P w D l
def SetS (P : Program) (w : World) (a : Addr) (l : List Nat) : HO := .ext (SgSet P w a l)
theorem setS_ok {H : Hp} {h : Heap} {a : Addr} {l : List Nat} (S : SgSet P w a l h) : ObjOk P w H h a (SetS P w a l) := by
  obtain ⟨D, e, g⟩ := S
  exact ⟨⟨D, e, g⟩, ⟨_, e⟩, fun h1 h2 ⟨D', e', g'⟩ k => ⟨D', k _ e', g'⟩⟩

variable {A : Around} {E : Value → Shared → Prop} {s : Shared}
abbrev set0 (w : World) : Obj := sObj "set" (#[], 0, .fresh 0 0 (!w.params.followText "set-order"))
theorem new_set1 (a : Value) {R : Value → Shared → Prop} (h : R (.ref s.heap.objs.size) { s with heap := s.heap.push (set0 w) }) :
    codeAny (model P w) A (.call (.builtin "set.__new__") ⟨[.type "set", a], []⟩) (wants R E) s := by
  refine codeAny_of_tree (show wpAny _ A.in1 (checkBuiltinCall "set.__new__" ⟨[.type "set", a], []⟩ >>= fun _ => again (.builtin "set.__new__" ⟨[.type "set", a], []⟩)) _ _ s from ?_)
  refine wpAny_bind (wpAny_of_eq (F.newCall_set_1 a) (wpAny_pure ⟨plainId_quiet F.plain_set_new _, codeAny_builtin F.entry_set_new ?_⟩))
  have hsub := sub_set_self
  rw [Around.under_plainId F.plain_set_new _]; unfold Builtin.«set.__new__» Builtin.Frozenset.newClass
  obtain ⟨hp, g, d, tk, os⟩ := s; dsimp only
  wp_walk
  refine wpAny_askSetting (wpAny_pure ?_); dsimp only; simp only [newObj]
  exact wpAny_bind (wpAny_alloc (wpAny_pure (wpAny_pure h)))
theorem init_text {Q : Value → Shared → Prop} (hh : A.handled = none) (x : Str) (t : Tok) (ha : x.cps.all (· < 128) = true) (nd : x.cps.toList.Nodup) (hl : x.cps.toList.length < scanBound)
    (hQ : ∀ h' tk, (∀ b o, s.heap.get? b = some o → h'.get? b = some o) → SgSet P w s.heap.objs.size x.cps.toList.reverse h' → Q (.ref s.heap.objs.size) { s with heap := h', toks := tk }) :
    wpAny (model P w) A.in1.in1 (Builtin.«set.__init__» ⟨[.ref s.heap.objs.size, .str x t], []⟩)
      (fun fin s' => match fin with | .done f => wants (fun r s₂ => r = .none ∧ Q (.ref s.heap.objs.size) s₂) E (.ok f) s' | .again c' => c'.quiet = true ∧ codeAny (model P w) A.in1 c' (wants (fun r s₂ => r = .none ∧ Q (.ref s.heap.objs.size) s₂) E) s')
      (fun e s' => wants (fun r s₂ => r = .none ∧ Q (.ref s.heap.objs.size) s₂) E (.error e) s') { s with heap := s.heap.push (set0 w) } := by
  have hS : (s.heap.push (set0 w)).get? s.heap.objs.size = some (set0 w) := Heap.get?_push_size _ rfl
  have f1 := PySem.F.sub_str_set
  have f2 := PySem.F.sub_str_frozenset
  have f3 : (Value.type "str" == Value.type "dict") = false := by decide
  unfold Builtin.«set.__init__» noKeywords Builtin.Frozenset.updateFrom
  generalize hPI : pyIter = PI
  wp_walk
  subst hPI
  refine wpAny_pyIter_ascii ha ?_
  refine wpAny_bind (wpAny_runValue ?_)
  have hz : (s.heap.push (set0 w)).objs.size = s.heap.objs.size + 1 := size_push' _ _
  have S0 : SgD P w (#[], 0, .fresh 0 0 (!w.params.followText "set-order")) [] := ⟨TxOk.nil rfl, List.Pairwise.nil, by
    show _ ∨ (!w.params.followText "set-order") = true
    cases w.params.followText "set-order" <;> simp⟩
  have ne : s.heap.objs.size ≠ (s.heap.push (set0 w)).objs.size := by rw [hz]; omega
  refine code_update (P := P) (w := w) (T := "set") (x := x) (u := t) ne (by exact hh) x.cps.toList 0 _ [] _ rfl (Heap.get?_push_of_some _ hS) (Heap.get?_push_size _ rfl) S0.tx (fun _ _ z => nomatch z) nd (by show 0 + x.cps.toList.length < scanBound; omega) ?_
  have R := S0.run x.cps.toList s.toks
  rw [List.append_nil] at R
  show wpAny _ _ _ _ _ _
  refine wpAny_pure ?_
  show wpAny _ _ (ret Value.none) _ _ _
  refine wpAny_pure ⟨rfl, hQ _ _ (fun b o e => ?_) ⟨_, ?_, R⟩⟩
  · have lt := Heap.lt_size e
    refine Heap.get?_push_of_some _ (Heap.get?_push_of_some _ ?_)
    unfold two
    have n2 : s.heap.objs.size ≠ b := Nat.ne_of_gt lt
    have n1 : (s.heap.push (set0 w)).objs.size ≠ b := by rw [hz]; exact Nat.ne_of_gt (Nat.lt_succ_of_lt lt)
    refine PySem.Heap.get?_update_of_ne _ n1 (PySem.Heap.get?_update_of_ne _ n2 ?_)
    exact Heap.get?_push_of_some _ (Heap.get?_push_of_some _ e)
  · refine Heap.get?_push_of_some _ (Heap.get?_push_of_some _ ?_)
    unfold two
    refine PySem.Heap.get?_update_of_ne _ (Ne.symm ne) (get_upd _ (Heap.get?_push_of_some _ hS) rfl)
theorem set_of_text {Q : Value → Shared → Prop} (hh : A.handled = none) (x : Str) (t : Tok) (ha : x.cps.all (· < 128) = true) (nd : x.cps.toList.Nodup) (hl : x.cps.toList.length < scanBound)
    (hQ : ∀ h' tk, (∀ b o, s.heap.get? b = some o → h'.get? b = some o) → SgSet P w s.heap.objs.size x.cps.toList.reverse h' → Q (.ref s.heap.objs.size) { s with heap := h', toks := tk }) :
    wpAny (model P w) A (call (.type "set") [.str x t]) Q E s := by
  obtain ⟨c0, tl0, m0⟩ := F.called_set.mro
  have m1 := F.called_set.made; have m2 := F.called_set.sub; have m3 := F.called_set.notType; have m4 := F.called_set.canCreate
  have m5 := F.typeCall_set_1 (.str x t)
  refine wpAny_call (codeAny_of_tree (show wpAny _ _ (callAny (.type "set") _) _ _ _ from wpAny_pure ⟨Code.quiet_builtin _ (by decide +kernel), codeAny_builtin F.entry_type_call ?_⟩))
  rw [Around.under_plain (weight_type_call_type "set" [.str x t] []) rfl]
  repeat (any_goals (first | assumption | wp_step))
  refine codeAny_mono (new_set1 (.str x t) (E := E) (R := fun obj s₁ => obj = .ref s.heap.objs.size ∧ s₁ = { s with heap := s.heap.push (set0 w) }) ⟨rfl, rfl⟩) fun r s₁ hr => ?_
  match r, hr with
  | .error e, hr => exact hr
  | .ok .next, hr => exact hr.elim
  | .ok .brk, hr => exact hr.elim
  | .ok .cont, hr => exact hr.elim
  | .ok (.ret obj), hr =>
    obtain ⟨rfl, rfl⟩ := hr
    have hS : (s.heap.push (set0 w)).get? s.heap.objs.size = some (set0 w) := Heap.get?_push_size _ rfl
    have hT : Shared.TypeIs { s with heap := s.heap.push (set0 w) } (.ref s.heap.objs.size) "set" := ⟨_, hS, rfl⟩
    have m6 := F.called_set.init.lookup; have m7 := F.called_set.init.bind (.ref s.heap.objs.size)
    repeat (any_goals (first | assumption | wp_step))
    refine codeAny_mono (codeAny_call_builtin (R := wants (fun r s₂ => r = .none ∧ Q (.ref s.heap.objs.size) s₂) E) F.called_set.init.plain F.entry_set_init (check_set_init_1 hT (init_text hh x t ha nd hl hQ))) fun r₂ s₂ hr₂ => ?_
    match r₂, hr₂ with
    | .error e, hr₂ => exact hr₂
    | .ok .next, hr₂ => exact hr₂.elim
    | .ok .brk, hr₂ => exact hr₂.elim
    | .ok .cont, hr₂ => exact hr₂.elim
    | .ok (.ret r), hr₂ =>
      obtain ⟨rfl, hq⟩ := hr₂
      repeat (any_goals (first | assumption | wp_step))
end
end LK

/-! texts, their parts -/
namespace LK
open PySem PySem.Spec PyProof.Rows L2
open scoped List

theorem sub_first {c : Nat} {suf rest : List Nat} : ∀ {pre : List Nat}, c ∉ pre → ((c :: suf) <+ pre ++ c :: rest ↔ suf <+ rest)
  | [], _ => by simp
  | d :: pre, h => by
    have hd : c ≠ d := fun e => h (by simp [e])
    have hp : c ∉ pre := fun e => h (by simp [e])
    rw [List.cons_append]
    constructor
    · intro s
      cases s with
      | cons _ s => exact (sub_first hp).mp s
      | cons_cons _ s => exact (hd rfl).elim
    · intro s
      exact ((sub_first hp).mpr s).cons _
theorem sub_none {c : Nat} {suf b : List Nat} (h : c ∉ b) : ¬ (c :: suf) <+ b := fun s => h (s.subset (by simp))
theorem getD_T (b : List Nat) (v : Nat) : (T b).cps.getD v 0 = b.getD v 0 := by
  show (b.toArray).getD v 0 = b.getD v 0
  simp [Array.getD_eq_getD_getElem?, List.getD_eq_getElem?_getD]
theorem find_step (b : List Nat) (c : Nat) (i : Nat) (h : i ≤ b.length) :
    (Txt.find3 (T b) (T [c]) (i : Int) = -1 ∧ ∀ suf, ¬ (c :: suf) <+ b.drop i) ∨
      ∃ j : Nat, Txt.find3 (T b) (T [c]) (i : Int) = (j : Int) ∧ i ≤ j ∧ j < b.length ∧ ∀ suf, (c :: suf) <+ b.drop i ↔ suf <+ b.drop (j + 1) := by
  have fi : fromIndex (T b).length (i : Int) = i := by
    unfold fromIndex
    rw [if_neg (by omega)]
    omega
  rcases StrLaws.find3_spec (T b) c (i : Int) with ⟨h1, h2⟩ | ⟨j, h1, h2, h3, h4, h5⟩
  · refine .inl ⟨h1, fun suf => sub_none fun hm => ?_⟩
    obtain ⟨v, hv, e⟩ := List.mem_iff_getElem.mp hm
    rw [List.length_drop] at hv
    refine h2 (i + v) (by rw [fi]; omega) (by rw [T_len]; omega) ?_
    rw [getD_T, List.getD_eq_getElem?_getD]
    rw [List.getElem_drop] at e
    rw [List.getElem?_eq_getElem (by omega)]
    exact e
  · rw [fi] at h2 h5
    rw [T_len] at h3
    refine .inr ⟨j, h1, h2, h3, fun suf => ?_⟩
    have hc : b[j] = c := by
      rw [getD_T, List.getD_eq_getElem?_getD, List.getElem?_eq_getElem h3] at h4
      exact h4
    have e : b.drop i = (b.drop i).take (j - i) ++ c :: b.drop (j + 1) := by
      conv => lhs; rw [← List.take_append_drop (j - i) (b.drop i)]
      congr 1
      rw [List.drop_drop, show i + (j - i) = j by omega, List.drop_eq_getElem_cons h3, hc]
    rw [e]
    refine sub_first fun hm => ?_
    obtain ⟨v, hv, e2⟩ := List.mem_iff_getElem.mp hm
    rw [List.length_take, List.length_drop] at hv
    refine h5 (i + v) (by omega) (by omega) ?_
    rw [List.getElem_take, List.getElem_drop] at e2
    rw [getD_T, List.getD_eq_getElem?_getD, List.getElem?_eq_getElem (by omega)]
    exact e2
end LK
namespace LK
open PySem PySem.Spec PyProof.Rows L2
open scoped List
/-! ### all parts -/
/-- each part once -/
def DS : List Nat → List (List Nat)
  | [] => [[]]
  | c :: s => (DS s).filter (fun x => decide (x.head? ≠ some c)) ++ (DS s).map (c :: ·)
theorem mem_DS : ∀ {s x : List Nat}, x ∈ DS s ↔ x <+ s
  | [], x => by simp [DS]
  | c :: s, x => by
    unfold DS
    simp only [List.mem_append, List.mem_filter, List.mem_map, decide_eq_true_eq]
    constructor
    · rintro (⟨h, _⟩ | ⟨y, h, rfl⟩)
      · exact (mem_DS.mp h).cons _
      · exact (mem_DS.mp h).cons_cons _
    · intro h
      cases h with
      | cons _ h =>
        by_cases e : x.head? = some c
        · cases x with
          | nil => cases e
          | cons d x =>
            obtain rfl : d = c := Option.some.inj e
            exact .inr ⟨x, mem_DS.mpr ((List.sublist_cons_self _ _).trans h), rfl⟩
        · exact .inl ⟨mem_DS.mpr h, e⟩
      | cons_cons _ h => exact .inr ⟨_, mem_DS.mpr h, rfl⟩
theorem nodup_DS : ∀ s : List Nat, (DS s).Nodup
  | [] => by simp [DS]
  | c :: s => by
    unfold DS
    refine List.nodup_append.mpr ⟨(nodup_DS s).filter _, ?_, ?_⟩
    · exact List.Pairwise.map _ (fun a b h e => h (List.cons.inj e).2) (nodup_DS s)
    · intro a ha b hb e
      subst e
      obtain ⟨_, h1⟩ := List.mem_filter.mp ha
      obtain ⟨y, _, rfl⟩ := List.mem_map.mp hb
      simp at h1
def NN (s : List Nat) : Int := (DS s).length
def BB (s : List Nat) (d : Nat) : Int := ((DS s).filter fun x => decide (x.head? = some d)).length
theorem NN_nil : NN [] = 1 := rfl
theorem BB_nil (d : Nat) : BB [] d = 0 := by simp [BB, DS]
theorem part_len (l : List (List Nat)) (c : Nat) : (l.filter fun x => decide (x.head? ≠ some c)).length + (l.filter fun x => decide (x.head? = some c)).length = l.length := by
  induction l with
  | nil => rfl
  | cons x l ih =>
    by_cases e : x.head? = some c
    · simp [e] at ih ⊢; omega
    · simp [e] at ih ⊢; omega
theorem NN_cons (c : Nat) (s : List Nat) : NN (c :: s) = 2 * NN s - BB s c := by
  have := part_len (DS s) c
  unfold NN BB
  rw [DS, List.length_append, List.length_map]
  omega
theorem BB_cons (c : Nat) (s : List Nat) (d : Nat) : BB (c :: s) d = if d = c then NN s else BB s d := by
  unfold BB NN
  rw [DS, List.filter_append, List.length_append]
  by_cases e : d = c
  · subst e
    rw [if_pos rfl]
    have h1 : ((DS s).filter (fun x => decide (x.head? ≠ some d))).filter (fun x => decide (x.head? = some d)) = [] := by
      rw [List.filter_filter, List.filter_eq_nil_iff]
      intro a _
      simp
    have h2 : ((DS s).map (d :: ·)).filter (fun x => decide (x.head? = some d)) = (DS s).map (d :: ·) := by
      rw [List.filter_eq_self]
      intro a ha
      obtain ⟨y, _, rfl⟩ := List.mem_map.mp ha
      simp
    rw [h1, h2, List.length_map]
    simp
  · rw [if_neg e]
    have h1 : ((DS s).filter (fun x => decide (x.head? ≠ some c))).filter (fun x => decide (x.head? = some d)) = (DS s).filter (fun x => decide (x.head? = some d)) := by
      rw [List.filter_filter]
      refine List.filter_congr fun x _ => ?_
      by_cases z : x.head? = some d
      · simp [z, e]
      · simp [z]
    have h2 : ((DS s).map (c :: ·)).filter (fun x => decide (x.head? = some d)) = [] := by
      rw [List.filter_eq_nil_iff]
      intro a ha
      obtain ⟨y, _, rfl⟩ := List.mem_map.mp ha
      have : ¬ c = d := fun z => e z.symm
      simp [this]
    rw [h1, h2]
    simp
theorem NN_of {s : List Nat} {ks : List (List Nat)} (nd : ks.Nodup) (h : ∀ x, x ∈ ks ↔ x <+ s) : (ks.length : Int) = NN s := by
  have := ((List.perm_ext_iff_of_nodup nd (nodup_DS s)).mpr fun x => (h x).trans mem_DS.symm).length_eq
  unfold NN; omega
theorem NN_rev (s : List Nat) : NN s.reverse = NN s := by
  have nd : ((DS s).map List.reverse).Nodup := List.Pairwise.map _ (fun a b h e => h (List.reverse_inj.mp e)) (nodup_DS s)
  rw [← NN_of nd (s := s.reverse) ?_, List.length_map]
  · rfl
  · intro x
    rw [List.mem_map]
    constructor
    · rintro ⟨y, h, rfl⟩
      exact List.reverse_sublist.mpr (mem_DS.mp h)
    · intro h
      refine ⟨x.reverse, mem_DS.mpr ?_, List.reverse_reverse x⟩
      rw [← List.reverse_reverse s]
      exact List.reverse_sublist.mpr h
theorem DS_le : ∀ s : List Nat, (DS s).length ≤ 2 ^ s.length
  | [] => by simp [DS]
  | c :: s => by
    have h := DS_le s
    have h2 : ((DS s).filter (fun x => decide (x.head? ≠ some c))).length ≤ (DS s).length := List.length_filter_le _ _
    rw [DS, List.length_append, List.length_map, List.length_cons, Nat.pow_succ]
    omega
end LK
namespace LK
open PySem PySem.Spec PyProof.Rows L2
open scoped List
open PySem.W (dataLe sortLe sortLe_total keyToks)
/-! ### the two ways to sort -/
abbrev tl (a b : List Nat) : Bool := itemOrd.blt (.inr a) (.inr b)
theorem leL_iff (a b : List Nat) : dataLe false encL a b = true ↔ a.length ≤ b.length := by
  show (!(lexLt itemOrd [.inl (b.length : Int)] [.inl (a.length : Int)])) = true ↔ _
  have : lexLt itemOrd [.inl (b.length : Int)] [.inl (a.length : Int)] = decide ((b.length : Int) < a.length) := by
    show (decide ((b.length : Int) < a.length) || (!decide ((a.length : Int) < b.length) && false)) = _
    simp
  rw [this, Bool.not_eq_true', decide_eq_false_iff_not]
  omega
theorem leT_eq (a b : List Nat) : dataLe false encT a b = !tl b a := by
  show (!(lexLt itemOrd [.inr b] [.inr a])) = _
  show (!(tl b a || (!tl a b && false))) = _
  simp
theorem leP_iff (a b : List Nat) : dataLe false encP a b = true ↔ a.length < b.length ∨ (a.length = b.length ∧ dataLe false encT a b = true) := by
  rw [leT_eq]
  show (!(decide ((1:Int) < 1) || (!decide ((1:Int) < 1) && (decide ((b.length : Int) < a.length) || (!decide ((a.length : Int) < b.length) && (decide ((1:Int) < 1) || (!decide ((1:Int) < 1) &&
    (tl b a || (!tl a b && (decide ((0:Int) < 0) || (!decide ((0:Int) < 0) && false)))))))))))  = true ↔ _
  have d1 : decide ((1:Int) < 1) = false := by decide
  have d0 : decide ((0:Int) < 0) = false := by decide
  rw [d1, d0]
  have e1 : decide ((b.length : Int) < a.length) = decide (b.length < a.length) := by
    by_cases h : b.length < a.length
    · rw [decide_eq_true h, decide_eq_true (by omega)]
    · rw [decide_eq_false h, decide_eq_false (by omega)]
  have e2 : decide ((a.length : Int) < b.length) = decide (a.length < b.length) := by
    by_cases h : a.length < b.length
    · rw [decide_eq_true h, decide_eq_true (by omega)]
    · rw [decide_eq_false h, decide_eq_false (by omega)]
  rw [e1, e2]
  by_cases h1 : b.length < a.length
  · have h2 : ¬ a.length < b.length := by omega
    have h3 : ¬ a.length = b.length := by omega
    simp [h1, h2, h3]
  · by_cases h2 : a.length < b.length
    · simp [h1, h2]
    · have h3 : a.length = b.length := by omega
      simp [h1, h2, h3]
theorem leT_anti {a b : List Nat} (h1 : dataLe false encT a b = true) (h2 : dataLe false encT b a = true) : a = b := by
  rw [leT_eq, Bool.not_eq_true'] at h1 h2
  have := itemOrd.total (.inr a) (.inr b) h2 h1
  exact Sum.inr.inj this
theorem leP_anti {a b : List Nat} (h1 : dataLe false encP a b = true) (h2 : dataLe false encP b a = true) : a = b := by
  rcases (leP_iff a b).mp h1 with h1 | ⟨_, h1⟩ <;> rcases (leP_iff b a).mp h2 with h2 | ⟨_, h2⟩
  · omega
  · omega
  · omega
  · exact leT_anti h1 h2
theorem srt (k : List Nat → PyData) (ks : List (List Nat)) : (ks.mergeSort (dataLe false k)).Pairwise fun a b => dataLe false k a b = true :=
  List.pairwise_mergeSort (fun a b c => (sortLe_total (listOrd itemOrd) false fun b => keyToks (k b)).trans a b c) (fun a b => by
    have := (sortLe_total (listOrd itemOrd) false fun b => keyToks (k b)).total a b
    rw [Bool.or_eq_true]; exact this) ks
/-- the parts of a text, the shorter ones first -/
def PP (s : List Nat) : List (List Nat) := (DS s).mergeSort (dataLe false encP)
theorem sort_one {s : List Nat} {ks : List (List Nat)} (nd : ks.Nodup) (h : ∀ x, x ∈ ks ↔ x <+ s) : ks.mergeSort (dataLe false encP) = PP s := by
  have p : ks ~ DS s := (List.perm_ext_iff_of_nodup nd (nodup_DS s)).mpr fun x => (h x).trans mem_DS.symm
  exact List.Perm.eq_of_pairwise (fun a b _ _ => leP_anti) (srt encP ks) (srt encP (DS s)) (((List.mergeSort_perm _ _).trans p).trans (List.mergeSort_perm _ _).symm)
theorem sort_two {s : List Nat} {ks : List (List Nat)} (nd : ks.Nodup) (h : ∀ x, x ∈ ks ↔ x <+ s) : (ks.mergeSort (dataLe false encT)).mergeSort (dataLe false encL) = PP s := by
  rw [← sort_one nd h]
  have p1 := List.mergeSort_perm ks (dataLe false encT)
  have p2 := List.mergeSort_perm (ks.mergeSort (dataLe false encT)) (dataLe false encL)
  have n1 : (ks.mergeSort (dataLe false encT)).Nodup := p1.nodup_iff.mpr nd
  have n2 : ((ks.mergeSort (dataLe false encT)).mergeSort (dataLe false encL)).Nodup := p2.nodup_iff.mpr n1
  refine List.Perm.eq_of_pairwise (fun a b _ _ => leP_anti) ?_ (srt encP ks) ((p2.trans p1).trans (List.mergeSort_perm _ _).symm)
  refine List.pairwise_iff_forall_sublist.mpr fun {a b} hab => ?_
  have hl := List.pairwise_iff_forall_sublist.mp (srt encL _) hab
  rw [leL_iff] at hl
  rw [leP_iff]
  by_cases e : a.length < b.length
  · exact .inl e
  refine .inr ⟨by omega, ?_⟩
  have hne : a ≠ b := by
    have := hab.nodup n2
    simpa using this
  have ha : a ∈ ks.mergeSort (dataLe false encT) := p2.mem_iff.mp (hab.subset (by simp))
  have hb : b ∈ ks.mergeSort (dataLe false encT) := p2.mem_iff.mp (hab.subset (by simp))
  have st : ∀ {x y : List Nat}, [x, y] <+ ks.mergeSort (dataLe false encT) → dataLe false encT x y = true := fun {x y} h => List.pairwise_iff_forall_sublist.mp (srt encT ks) h
  have two : ∀ (l : List (List Nat)), a ∈ l → b ∈ l → [a, b] <+ l ∨ [b, a] <+ l := by
    intro l
    induction l with
    | nil => intro h; cases h
    | cons x l ih =>
      intro h1 h2
      rcases List.mem_cons.mp h1 with ea | h3
      · rcases List.mem_cons.mp h2 with eb | h4
        · exact (hne (ea.trans eb.symm)).elim
        · rw [ea]; exact .inl ((List.singleton_sublist.mpr h4).cons_cons _)
      · rcases List.mem_cons.mp h2 with eb | h4
        · rw [eb]; exact .inr ((List.singleton_sublist.mpr h3).cons_cons _)
        · rcases ih h3 h4 with h | h
          · exact .inl (h.cons _)
          · exact .inr (h.cons _)
  rcases two _ ha hb with h | h
  · exact st h
  · exfalso
    have tt := sortLe_total (listOrd itemOrd) false fun b : List Nat => keyToks (encL b)
    have hba := List.sublist_mergeSort (le := dataLe false encL) (fun a b c => tt.trans a b c) (fun a b => by rw [Bool.or_eq_true]; exact tt.total a b) (ys := [b, a]) (by
      rw [List.pairwise_pair, leL_iff]; omega) h
    have one : ∀ (l : List (List Nat)), l.Nodup → [a, b] <+ l → ¬ [b, a] <+ l := by
      intro l
      induction l with
      | nil => intro _ h; cases h
      | cons x l ih =>
        intro nd h1 h2
        have nx := (List.nodup_cons.mp nd).1
        cases h1 with
        | cons _ h1 =>
          cases h2 with
          | cons _ h2 => exact ih (List.nodup_cons.mp nd).2 h1 h2
          | cons_cons _ h2 => exact nx (h1.subset (by simp))
        | cons_cons _ h1 =>
          cases h2 with
          | cons _ h2 => exact nx (h2.subset (by simp))
          | cons_cons _ h2 => exact hne rfl
    exact one _ n2 hab hba
theorem mem_PP {s x : List Nat} : x ∈ PP s ↔ x <+ s := ((List.mergeSort_perm _ _).mem_iff).trans mem_DS
theorem len_PP (s : List Nat) : ((PP s).length : Int) = NN s := by
  unfold PP NN; rw [List.length_mergeSort]
theorem PP_le (s : List Nat) : (PP s).length ≤ 2 ^ s.length := by
  unfold PP; rw [List.length_mergeSort]; exact DS_le s
end LK

namespace LK
open PySem PySem.Spec PyProof.Rows L2 PySem.Froz
open PySem.W (EachIs dataLe AllAlike Sortable)
/-! ### texts of one sign, sorted -/
theorem perm_of {α : Type} [BEq α] [LawfulBEq α] : ∀ {l ks : List α}, l.Nodup → (∀ x, x ∈ l → x ∈ ks) → ks.length = l.length → ks.Perm l
  | [], ks, _, _, h => by rw [List.length_eq_zero_iff.mp h]
  | x :: l, ks, nd, sub, h => by
    obtain ⟨n1, n2⟩ := List.nodup_cons.mp nd
    have hx := sub x (by simp)
    refine (List.perm_cons_erase hx).trans (.cons x (perm_of n2 (fun y hy => ?_) ?_))
    · have ne : y ≠ x := fun e => n1 (e ▸ hy)
      exact (List.mem_erase_of_ne ne).mpr (sub y (by simp [hy]))
    · rw [List.length_erase_of_mem hx, h]; rfl
theorem sorted_eq {ks l : List (List Nat)} (h : ks.Perm l) (s : l.Pairwise fun a b => dataLe false encT a b = true) (asy : ∀ a b, dataLe false encT a b = true → dataLe false encT b a = true → a = b) : ks.mergeSort (dataLe false encT) = l :=
  List.Perm.eq_of_pairwise (fun a b _ _ => asy a b) (srt encT ks) s ((List.mergeSort_perm _ _).trans h)
section
variable {X : Cx}
def Ris1 (l : List Nat) : Prop := l.Pairwise (· < ·)
/-- set(text) -/
def setT (P : Program) (w : World) : List V → Hp → VK → Prop := fun vs H Q => match vs with
  | [.str z] => Ris1 (cs z) ∧ (∀ c ∈ cs z, c < 128) ∧ (cs z).length ≤ 100 ∧ ∀ p, H p = none → Q (.ref p) (upd H p (SetS P w p (cs z).reverse))
  | _ => False
theorem c_setT (hc : X.calm = true) : CallR X (.type "set") (setT X.prog X.w) := by
  intro pins s σ H xs us Q I r h
  unfold setT at h
  split at h
  · rename_i z
    obtain ⟨hr, ha, hl, q⟩ := h
    obtain ⟨u, rfl, t, rfl⟩ := vals1 r
    have asc : z.cps.all (· < 128) = true := by
      rw [← Array.all_toList, List.all_eq_true]
      intro c hc
      exact decide_eq_true (ha c hc)
    refine set_of_text (I.ok.hd hc) z t asc (hr.imp fun h => Nat.ne_of_lt h) (by have := hl; show (cs z).length < scanBound; unfold scanBound; omega) fun h' tk keep S => ?_
    exact ⟨.ref s.heap.objs.size, upd H s.heap.objs.size (SetS X.prog X.w s.heap.objs.size (cs z).reverse), I.laid (t' := tk) keep (Nat.le_refl _) (setS_ok S), rfl, q _ (I.hok.fresh (Nat.le_refl _))⟩
  · exact h.elim
/-- the keys of the set's elements -/
theorem keys_perm {P : Program} {w : World} {D : SD} {l : List Nat} (S : SgD P w D l) (nd : l.Nodup) : ∃ ks : List (List Nat), ks.Perm (l.map fun c => [c]) ∧ EachIs RT (D.1.toList.map (·.2)) ks := by
  have key : ∀ es : List (Int × Value), (∀ e ∈ es, ∃ k, (strKind P w).is k e.2 = true) → ∃ ks : List (List Nat), EachIs RT (es.map (·.2)) ks ∧ ∀ k, (∃ e ∈ es, (strKind P w).is k e.2 = true) → cs k ∈ ks := by
    intro es
    induction es with
    | nil => exact fun _ => ⟨[], .nil, fun k ⟨e, z, _⟩ => nomatch z⟩
    | cons e es ih =>
      intro h
      obtain ⟨ks, e1, e2⟩ := ih fun x hx => h x (by simp [hx])
      obtain ⟨k, hk⟩ := h e (by simp)
      obtain ⟨t, ev⟩ := Value.isStrOf_shape (show Value.isStrOf k e.2 = true from hk)
      refine ⟨cs k :: ks, .cons ⟨t, ev⟩ e1, ?_⟩
      rintro k' ⟨e', he, hk'⟩
      rcases List.mem_cons.mp he with rfl | he
      · rw [(strKind P w).inj _ k' k hk' hk]; simp
      · exact List.mem_cons_of_mem _ (e2 k' ⟨e', he, hk'⟩)
  obtain ⟨ks, e1, e2⟩ := key D.1.toList fun e he => ⟨_, (S.tx.el e he).1.choose_spec.1⟩
  refine ⟨ks, perm_of ?_ ?_ ?_, e1⟩
  · refine List.Pairwise.map _ (fun a b h e => h (List.cons.inj e).1) nd
  · intro x hx
    obtain ⟨c, hc, rfl⟩ := List.mem_map.mp hx
    exact e2 (sing c) ((S.tx.mem _).mp (List.mem_map.mpr ⟨c, hc, rfl⟩))
  · rw [← e1.length, List.length_map, Array.length_toList, List.length_map]
    have := S.tx.sz
    rw [List.length_map] at this
    exact this
theorem le_sing {a b : Nat} (h : a < b) : dataLe false encT [a] [b] = true := by
  rw [leT_eq]
  show (!decide ([b] < [a])) = true
  have n : ¬ [b] < [a] := fun z => by
    rcases List.cons_lt_cons_iff.mp z with z | ⟨_, z⟩
    · omega
    · exact absurd z (List.lt_irrefl _)
  rw [decide_eq_false n]; rfl
theorem each_perm {α β : Type} {R : α → β → Prop} : ∀ {vs us : List α} {ks : List β}, EachIs R us ks → vs.Perm us → ∃ ks', ks'.Perm ks ∧ EachIs R vs ks' := by
  intro vs us ks e p
  induction p generalizing ks with
  | nil => exact ⟨ks, .refl _, e⟩
  | cons x _ ih => cases e with | cons h t => obtain ⟨k', p', e'⟩ := ih t; exact ⟨_ :: k', p'.cons _, .cons h e'⟩
  | swap x y l => cases e with | cons h t => cases t with | cons h2 t => exact ⟨_, .swap _ _ _, .cons h2 (.cons h t)⟩
  | trans _ _ ih1 ih2 =>
    obtain ⟨k1, p1, e1⟩ := ih2 e
    obtain ⟨k2, p2, e2⟩ := ih1 e1
    exact ⟨k2, p2.trans p1, e2⟩
/-- sorted(a set of signs) -/
def sortedS (P : Program) (w : World) : List V → Hp → VK → Prop := fun vs H Q => match vs with
  | [.ref a] => ∃ l, H a = some (SetS P w a l.reverse) ∧ Ris1 l ∧ l.length ≤ 100 ∧ ∀ p, H p = none → Q (.ref p) (upd H p (.lst (lets l)))
  | _ => False
theorem c_sortedS (hc : X.calm = true) (hu : X.A.units + 64 < cLine) : CallR X (.builtin "sorted") (sortedS X.prog X.w) := by
  intro pins s σ H xs us Q I r h
  unfold sortedS at h
  split at h
  · rename_i a
    obtain ⟨l, hd, hr, hl, q⟩ := h
    obtain ⟨u, rfl, ru⟩ := vals1 r
    obtain rfl : u = Value.ref a := ru
    obtain ⟨D, ho, S⟩ := (I.hok a _ hd).1
    have nd : l.reverse.Nodup := (List.pairwise_reverse.mpr (hr.imp fun h => Nat.ne_of_gt h))
    obtain ⟨ks, pk, ek⟩ := keys_perm S nd
    have sz : D.1.size = l.length := by have := S.tx.sz; rw [List.length_map, List.length_reverse] at this; exact this
    refine call_function_entry_kw kind_sorted plain_sorted entry_sorted (args_sorted1 _) ?_
    unfold Builtin.«sorted»
    refine wpAny_bind (m := checkCount "sorted" 1 1 _) (wpAny_pure ?_)
    refine wpAny_bind (collect_set (A := X.A.in1) (I.ok.hd hc) ⟨_, ho, rfl, rfl⟩ S.tx.fit (by rw [sz]; unfold scanBound; omega) S.ris S.led fun s1 vs k1 hz1 g1 o1 pm => ?_)
    have hvl : vs.length = l.length := by rw [pm.length_eq, List.length_map, Array.length_toList]; exact sz
    -- the values as they came, by their texts
    have ev : ∃ ks', ks'.Perm (l.map fun c => [c]) ∧ EachIs RT vs ks' := by
      obtain ⟨ks', p1, e1⟩ := each_perm ek pm
      refine ⟨ks', p1.trans (pk.trans ?_), e1⟩
      exact (List.reverse_perm l).map _
    obtain ⟨ks', p', e⟩ := ev
    have hz : ks'.length ≤ sizeLine := by rw [← e.length, hvl, sizeLine_eq]; omega
    refine wpAny_bind (wpAny_newList ?_ (by rw [hvl, sizeLine_eq]; omega))
    have hoL : (s1.heap.push (seqObj "list" vs.toArray 0)).get? s1.heap.objs.size = some (seqObj "list" vs.toArray 0) := Heap.get?_push_size _ rfl
    have St := PySem.W.SortsAt.data (prog := X.prog) (w := X.w) (A := X.A.in1.in1) (s := { s1 with heap := PySem.W.sortingHeap (s1.heap.push (seqObj "list" vs.toArray 0)) s1.heap.objs.size vs })
      (PySem.W.each_map (R := fun v d => ∃ as, Reads _ v d as) encT (reads_RT e)) (alike_T ks') (sortable_T ks')
      (PySem.W.bound_map (A := X.A.in1.in1) fun l _ => by show X.A.units + 1 + 1 + 0 < cLine; omega)
    refine wpAny_bind (wpAny_holding (wpAny_call_entry_kw slot_list_sort ⟨_, hoL, rfl⟩ entry_list_sort ?body (args_list_sort _)))
    refine PySem.W.list_sort_vals (s := { s1 with heap := s1.heap.push (seqObj "list" vs.toArray 0) }) hoL St (by rw [e.length]; exact hz) ⟨_, rfl, wpAny_pure ⟨_, rfl, ?_⟩⟩
    obtain ⟨c, hc'⟩ := PyProof.Rows.sortedHeap_at (vs := vs) (out := (PySem.W.sortVals (PySem.W.dataKind (PySem.W.sortingHeap (s1.heap.push (seqObj "list" vs.toArray 0)) s1.heap.objs.size vs) (ks'.map encT)) false vs vs).toArray) hoL
    have ro := PySem.W.sortVals_data (h' := PySem.W.sortingHeap (s1.heap.push (seqObj "list" vs.toArray 0)) s1.heap.objs.size vs) (R := RT) false e (reads_RT e) (alike_T ks')
    rw [sorted_eq p' (List.Pairwise.map _ (fun a b h => le_sing h) hr) (fun a b => leT_anti)] at ro
    have hn : H s1.heap.objs.size = none := I.hok.fresh hz1
    have keep : ∀ b o, s.heap.get? b = some o → (PyProof.Rows.sortedHeap (s1.heap.push (seqObj "list" vs.toArray 0)) s1.heap.objs.size vs (PySem.W.sortVals (PySem.W.dataKind (PySem.W.sortingHeap (s1.heap.push (seqObj "list" vs.toArray 0)) s1.heap.objs.size vs) (ks'.map encT)) false vs vs).toArray).get? b = some o := fun b o hb => by
      have z := k1 b o hb
      have lt := Heap.lt_size z
      rw [PyProof.Rows.sortedHeap_old (Nat.ne_of_lt lt) (by rw [size_push']; exact Nat.lt_succ_of_lt lt)]
      exact Heap.get?_push_of_some _ z
    have J : Inv X pins σ (upd H s1.heap.objs.size (.lst (lets l))) { s with heap := PyProof.Rows.sortedHeap (s1.heap.push (seqObj "list" vs.toArray 0)) s1.heap.objs.size vs (PySem.W.sortVals (PySem.W.dataKind (PySem.W.sortingHeap (s1.heap.push (seqObj "list" vs.toArray 0)) s1.heap.objs.size vs) (ks'.map encT)) false vs vs).toArray, gens := s1.gens, drawn := s1.drawn, toks := s1.toks } :=
      I.call (ch := []) (Un.laid keep hz1 hn) (I.hok.laid keep hz1 ⟨by rw [List.length_map, sizeLine_eq]; omega, _, c, (by
        have v := vals_RT ro
        rw [List.map_map] at v
        exact v), hc'⟩) (by show AllBare s1.gens; rw [g1]; exact I.bare) (fun _ z => nomatch z)
    obtain ⟨hp1, ge1, dr1, tk1, os1⟩ := s1
    cases o1
    exact ⟨.ref _, _, J, rfl, q _ hn⟩
  · exact h.elim
end
end LK

/-! list(text) -/
namespace LK
open PySem PySem.Spec PyProof.Rows L2
section
variable {X : Cx}
/-- list(text): its signs -/
def listT : List V → Hp → VK → Prop := fun vs H Q => match vs with
  | [.str z] => (cs z).length ≤ sizeLine ∧ ∀ p, H p = none → Q (.ref p) (upd H p (.lst (lets (cs z))))
  | _ => False
theorem c_listT (hc : X.calm = true) : CallR X (.type "list") listT := by
  intro pins s σ H xs us Q I r h
  unfold listT at h
  split at h
  · rename_i z
    obtain ⟨hz, q⟩ := h
    obtain ⟨u, rfl, t, rfl⟩ := vals1 r
    refine PySem.call_list_str (I.ok.hd hc) z t (fun h' tk acc c' hk e hi => ?_) hz
    refine ⟨.ref s.heap.objs.size, upd H s.heap.objs.size (.lst (lets (cs z))), I.laid hk (Nat.le_refl _) ⟨by rw [List.length_map]; exact hz, acc.toList, c', ?_, by rw [Array.toArray_toList]; exact e⟩, rfl, q _ (I.hok.fresh (Nat.le_refl _))⟩
    refine vals_of_idx _ _ (by rw [List.length_map, Array.length_toList]; exact hi.1) fun j u hj => ?_
    obtain ⟨c, t', hc, rfl⟩ := hi.2 j u (by rw [← Array.getElem?_toList]; exact hj)
    refine ⟨.str (T [c]), ?_, ⟨t', rfl⟩⟩
    rw [List.getElem?_map]
    have : (cs z)[j]? = some c := by rw [← hc]; exact Array.getElem?_toList
    rw [this]; rfl
  · exact h.elim
end
end LK

/-! for c, y in zip(text, list) -/
namespace LK
open PySem PySem.Spec PyProof.Rows L2
/-- the signs of x beside what the list at b holds at each turn, in new pairs; both are of one length -/
def ItSL (K : PySem.W.Frag) (x : Str) (b : Addr) : It where
  go := fun i H => i < x.cps.size ∧ ∃ ys y, SqL K H b ys ∧ ys[i]? = some y
  yld := fun i H v H' => ∃ T c y, v = .ref T ∧ H T = none ∧ H' = upd H T (.tup [.str ⟨#[c]⟩, y]) ∧ x.cps[i]? = some c ∧ ∀ ys, SqL K H b ys → ys[i]? = some y
  stop := fun i H => i = x.cps.size ∧ ∃ ys, SqL K H b ys ∧ i = ys.length
/-- where the parts of the walk lie -/
structure Far (z TI TO i1 i2 b : Addr) : Prop where
  a1 : TI ≠ z
  a2 : TO ≠ z
  a3 : TI ≠ TO
  a4 : TI ≠ i1
  a5 : TI ≠ i2
  a6 : z ≠ i1
  a7 : z ≠ i2
  a8 : TO ≠ i1
  a9 : TO ≠ i2
  b1 : i1 ≠ i2
  b2 : b ≠ i2
  b3 : z ≠ b
  b4 : TO ≠ b
  b5 : i1 ≠ b
theorem Far.sep {z TI TO i1 i2 b : Addr} (D : Far z TI TO i1 i2 b) : ZipSep2 z TI TO i1 i2 [i1] [i2, b] where
  TIz := D.a1
  TOz := D.a2
  TITO := D.a3
  TIi1 := D.a4
  mem1 := by simp
  zf1 := by simp [D.a6]
  Tf1 := by simp [D.a8]
  TIi2 := D.a5
  mem2 := by simp
  zf2 := by simp [D.a7, D.b3]
  Tf2 := by simp [D.a9, D.b4]
  sep1_2 := by simp [D.b1, D.b5]
  sep2_1 := by simp [D.b1.symm]
def StSL (x : Str) (t : Tok) (z TI TO i1 i2 b : Addr) (i : Nat) (h : Heap) : Prop :=
  IsZip h z TI TO .none ∧ IsPair h TI (.ref i1) (.ref i2) ∧ (∃ u v, IsPair h TO u v) ∧ h.IsStrIter i1 "str_ascii_iterator" x t i ∧ h.IsListIter i2 b i
theorem turn_zipSL {P : Program} {w : World} {K : PySem.W.Frag} {elts : List Expr} {kk : Nat} {tpos : Pos} {x : Str} {t : Tok} {b z TI TO i1 i2 : Addr} (D : Far z TI TO i1 i2 b) :
    Turn P w K (.Tuple elts kk tpos) (ItSL K x b) [z, TI, TO, i1, i2] z (StSL x t z TI TO i1 i2 b) where
  mem := by simp
  obj := fun i h st c hc => by
    obtain ⟨hz, hTI, ⟨u, v, hTO⟩, ⟨o1, e1, _, d1⟩, ⟨o2, e2, _, d2⟩⟩ := st
    simp only [List.mem_cons, List.not_mem_nil, or_false] at hc
    rcases hc with rfl | rfl | rfl | rfl | rfl
    · exact ⟨_, hz, fun v q => nomatch q⟩
    · exact ⟨_, hTI, fun v q => nomatch q⟩
    · exact ⟨_, hTO, fun v q => nomatch q⟩
    · exact ⟨o1, e1, fun v q => by rw [d1] at q; cases q⟩
    · exact ⟨o2, e2, fun v q => by rw [d2] at q; cases q⟩
  keep := fun i h h' st k => by
    obtain ⟨hz, hTI, ⟨u, v, hTO⟩, ⟨o1, e1, r1⟩, h2⟩ := st
    exact ⟨k z (by simp) _ hz, k TI (by simp) _ hTI, ⟨u, v, k TO (by simp) _ hTO⟩, ⟨o1, k i1 (by simp) _ e1, r1⟩, h2.at fun o q => k i2 (by simp) o q⟩
  item := by
    intro X hP hw hK hc i pins s σ H E I hf st ⟨hi, ys, y, hq, hy⟩
    subst hP hw hK
    obtain ⟨hz, hTI, ⟨u0, v0, hTO⟩, h1, h2⟩ := st
    obtain ⟨its, rv, p, _⟩ := I.list hq
    obtain ⟨v, hv, rvv⟩ := rv.get hy
    have hii : i < its.toArray.size := by
      have := (List.getElem?_eq_some_iff.mp hv).1
      simpa using this
    have hh : X.A.in1.handled = none := I.ok.hd hc
    have zl := Heap.lt_size hz
    refine wpAny_pyNext_zipD2_item D.sep (Draws.strAscii hh i1 x t) (Draws.list hh i2 b D.b2 its.toArray) hz hTI hTO h1 ⟨h2, p.isList⟩ hi hii fun c1 c2 h' tk hc1 hc2 z' TO' h1' h2' hT hsz hk => ?_
    obtain ⟨c, ut, hcc, rfl⟩ := hc1
    have e2 : c2 = v := by
      have : its[i]? = some c2 := by simpa using hc2
      rw [hv] at this; exact (Option.some.inj this).symm
    subst e2
    refine ⟨_, rfl, wpAny_letOwnedTupleGo_zip (s := { s with heap := h', toks := tk }) z' fun h'' z'' sb => ?_⟩
    have hT2 : h''.get? s.heap.objs.size = some { cls := .type "tuple", data := .seq #[.str ⟨#[c]⟩ ut, c2] } := (sb.2 _ (Nat.ne_of_gt zl)).trans hT
    have new : ObjOk X.prog X.w (upd H s.heap.objs.size (.tup [.str ⟨#[c]⟩, y])) h'' s.heap.objs.size (.tup [.str ⟨#[c]⟩, y]) :=
      ⟨by show 2 ≤ sizeLine; decide, [.str ⟨#[c]⟩ ut, c2], .cons ⟨ut, rfl⟩ (.cons rvv .nil), ⟨_, hT2, rfl, _, rfl⟩⟩
    have far : ∀ d o, d ∉ [z, TI, TO, i1, i2] → s.heap.get? d = some o → h''.get? d = some o := fun d o nd q => by
      simp only [List.mem_cons, List.not_mem_nil, or_false, not_or] at nd
      exact (sb.2 d nd.1).trans (hk d o nd.1 nd.2.2.1 nd.2.2.2.1 nd.2.2.2.2 q)
    refine ⟨.ref s.heap.objs.size, _, I.turnedNew (t' := tk) (ch := [z, TI, TO, i1, i2]) far hf (Nat.le_refl _) new, rfl, ⟨_, c, y, rfl, I.hok.fresh (Nat.le_refl _), rfl, hcc, fun l hl => by rw [I.list_inj hl hq]; exact hy⟩, ⟨z'', ?_, ⟨_, _, (sb.2 _ D.a2).trans TO'⟩, ?_, ?_⟩, fun d hd => ?_⟩
    · exact (sb.2 _ D.a1).trans (hk _ _ D.a1 D.a3 D.a4 D.a5 hTI)
    · obtain ⟨o1, e1, r1⟩ := h1'
      exact ⟨o1, (sb.2 _ D.a6.symm).trans e1, r1⟩
    · exact h2'.1.at fun o q => (sb.2 _ D.a7.symm).trans q
    · have lt : d < s.heap.objs.size := by
        simp only [List.mem_cons, List.not_mem_nil, or_false] at hd
        obtain ⟨o1, e1, _⟩ := h1
        obtain ⟨o2, e2, _⟩ := h2
        rcases hd with rfl | rfl | rfl | rfl | rfl
        · exact zl
        · exact Heap.lt_size hTI
        · exact Heap.lt_size hTO
        · exact Heap.lt_size e1
        · exact Heap.lt_size e2
      rw [upd_ne (Nat.ne_of_lt lt)]
      exact (hf d hd).1
  done := by
    intro X hP hw hK hc i pins s σ H E I hf st ⟨hi, ys, hq, hl⟩
    subst hP hw hK
    obtain ⟨hz, hTI, ⟨u0, v0, hTO⟩, h1, h2⟩ := st
    obtain ⟨its, rv, p, _⟩ := I.list hq
    have l1 := rv.length
    have hh : X.A.in1.handled = none := I.ok.hd hc
    have e2 : i = its.toArray.size := by rw [List.size_toArray]; omega
    exact wpAny_pyNext_zipD2_end D.sep (Draws.strAscii hh i1 x t) (Draws.list hh i2 b D.b2 its.toArray) hz hTI hTO h1 ⟨h2, p.isList⟩ (by omega) (by omega) (.inl hi) fun h' tk hk => ⟨rfl, I.turnedL (t' := tk) (ch := [z, TI, TO, i1, i2]) (fun d o nd q => by
      simp only [List.mem_cons, List.not_mem_nil, or_false, not_or] at nd
      exact hk d o nd.1 nd.2.2.1 nd.2.2.2.1 nd.2.2.2.2 q) hf⟩
  self := fun A i s Q E st h => wpAny_pyIter_zip st.1 h
section
variable {prog : Program} {w : World} {A : Around} {E : Value → Shared → Prop} {s : Shared}
abbrev zs1 (h : Heap) (x : Str) (t : Tok) : Heap := h.push { cls := .type "str_ascii_iterator", data := .fields #[.str x t, .int 0 0] }
abbrev zs2 (h : Heap) (x : Str) (t : Tok) (b : Addr) : Heap := (zs1 h x t).push { cls := .type "list_iterator", data := .fields #[.ref b, .int 0 0] }
abbrev zs3 (h : Heap) (x : Str) (t : Tok) (b : Addr) : Heap := (zs2 h x t b).push { cls := .type "tuple", data := .seq #[.ref h.objs.size, .ref (zs1 h x t).objs.size] }
abbrev zs4 (h : Heap) (x : Str) (t : Tok) (b : Addr) : Heap := (zs3 h x t b).push { cls := .type "tuple", data := .seq #[.none, .none] }
abbrev zs5 (h : Heap) (x : Str) (t : Tok) (b : Addr) : Heap := (zs4 h x t b).push { cls := .type "zip", data := .fields #[.none, .bool false, .bool false, .ref (zs2 h x t b).objs.size, .ref (zs3 h x t b).objs.size] }
theorem new_zipSL (x : Str) (t : Tok) (b : Addr) (ys : Array Value) (ha : x.cps.all (· < 128) = true) :
    Meets (Builtin.«zip.__new__» ⟨[.type "zip", .str x t, .ref b], []⟩) (fun _ R s => s.heap.IsList b ys ∧ R (.ok (.ret (.ref (zs4 s.heap x t b).objs.size))) { s with heap := zs5 s.heap x t b }) :=
  .of_wp fun prog w A R s h => by
    obtain ⟨hp, g, d, tk, os⟩ := s; obtain ⟨hl, h⟩ := h
    have hsub := sub_zip
    have hL2 : Heap.IsList (Shared.heap ⟨zs1 hp x t, g, d, tk, os⟩) b ys := Heap.IsList.push hl _
    wp_walk using wpAny_pyIter_ascii ha, wpAny_pyIter_list hL2
    exact ⟨_, rfl, h⟩
end
end LK

namespace LK
open PySem PySem.Spec PyProof.Rows L2
section
variable {prog : Program} {w : World} {A : Around} {E : Value → Shared → Prop} {s : Shared}
theorem zip_text_list {x : Str} {t : Tok} {b : Addr} {ys : Array Value} {Q : Value → Shared → Prop} (ha : x.cps.all (· < 128) = true) (hl : s.heap.IsList b ys)
    (h : ∀ h', StSL x t (s.heap.objs.size + 4) (s.heap.objs.size + 2) (s.heap.objs.size + 3) s.heap.objs.size (s.heap.objs.size + 1) b 0 h' →
      (∀ c o, s.heap.get? c = some o → h'.get? c = some o) → Q (.ref (s.heap.objs.size + 4)) { s with heap := h' }) :
    wpAny (model prog w) A (call (.type "zip") [.str x t, .ref b]) Q E s := by
  refine callType_new F.called_zip (by decide) (F.typeCall_zip_2 _ _) (F.newCall_zip_2 _ _) (fun obj => F.args_object_init_3 obj _ _) F.entry_zip_new (new_zipSL x t b ys ha) ⟨hl, ?_⟩
  have z1 : (zs1 s.heap x t).objs.size = s.heap.objs.size + 1 := Heap.size_push ..
  have z2 : (zs2 s.heap x t b).objs.size = s.heap.objs.size + 2 := by rw [Heap.size_push, z1]
  have z3 : (zs3 s.heap x t b).objs.size = s.heap.objs.size + 3 := by rw [Heap.size_push, z2]
  have z4 : (zs4 s.heap x t b).objs.size = s.heap.objs.size + 4 := by rw [Heap.size_push, z3]
  have up : ∀ {c o}, s.heap.get? c = some o → (zs5 s.heap x t b).get? c = some o := fun e =>
    Heap.get?_push_of_some _ (Heap.get?_push_of_some _ (Heap.get?_push_of_some _ (Heap.get?_push_of_some _ (Heap.get?_push_of_some _ e))))
  have g5 : (zs5 s.heap x t b).get? (s.heap.objs.size + 4) = some _ := z4 ▸ Heap.get?_push_size _ rfl
  have g4 : (zs5 s.heap x t b).get? (s.heap.objs.size + 3) = some _ := z3 ▸ Heap.get?_push_of_some _ (Heap.get?_push_size _ rfl)
  have g3 : (zs5 s.heap x t b).get? (s.heap.objs.size + 2) = some _ := z2 ▸ Heap.get?_push_of_some _ (Heap.get?_push_of_some _ (Heap.get?_push_size _ rfl))
  have g2 : (zs5 s.heap x t b).get? (s.heap.objs.size + 1) = some _ := z1 ▸ Heap.get?_push_of_some _ (Heap.get?_push_of_some _ (Heap.get?_push_of_some _ (Heap.get?_push_size _ rfl)))
  have g1 : (zs5 s.heap x t b).get? s.heap.objs.size = some _ := Heap.get?_push_of_some _ (Heap.get?_push_of_some _ (Heap.get?_push_of_some _ (Heap.get?_push_of_some _ (Heap.get?_push_size _ rfl))))
  rw [z2, z3] at g5
  rw [z1] at g3
  show _ ∧ _
  rw [z4]
  exact ⟨⟨_, g5, rfl⟩, h _ ⟨g5, g3, ⟨_, _, g4⟩, ⟨_, g1, rfl, rfl⟩, ⟨_, g2, rfl, rfl⟩⟩ fun c o e => up e⟩
end
theorem far_new (n b : Nat) (h : b < n) : Far (n + 4) (n + 2) (n + 3) n (n + 1) b := by
  constructor <;> (intro e; have e : (_ : Nat) = _ := e; omega)
def iZipSL (K : PySem.W.Frag) (ta : TA) : TI := fun σ H R => ta σ H fun vs H1 => match vs with
  | [.str x, .ref b] => (∀ c ∈ cs x, c < 128) ∧ (∃ ys, SqL K H1 b ys) ∧ R (ItSL K x b) H1
  | _ => False
theorem pi_zipSL {X : Cx} {e e2 : Expr} {ta : TA} {p pos tpos : Pos} {elts : List Expr} {kk : Nat} (hg : Gl X "zip") (hm : X.mg "zip" = none) (ha : PA X [e, e2] ta)
    (hs : starEach [e, e2] X.env = (false, eval e X.env) :: starEach [e2] X.env := by rfl) (hpl : (backTo pos (starEach [e2] X.env)).any (·.1) = false := by rfl) :
    PI X (.Tuple elts kk tpos) (.Call (.Name "zip" p) [e, e2] [] pos) (iZipSL X.K ta) := by
  refine ⟨fun pins s σ H R I h => ?_⟩
  refine Call_ (ld_blt I hg hm PyProof.Rows.boot_zip (PyProof.Rows.callWith_type1 (thn (ha.run pos pins s σ H _ I h) fun us s1 z => ?_) hs hpl))
  obtain ⟨vs, H1, I1, r1, q1⟩ := z
  split at q1
  · rename_i x b
    obtain ⟨hc, ⟨ys, hq⟩, q⟩ := q1
    cases r1 with
    | cons r rr =>
      cases rr with
      | cons r' rr =>
        cases rr
        obtain ⟨t, rfl⟩ := r
        cases r'
        obtain ⟨its, rv, p1, _⟩ := I1.list hq
        have lb : b < s1.heap.objs.size := p1.lt
        have asc : x.cps.all (· < 128) = true := by
          rw [← Array.all_toList, List.all_eq_true]
          exact fun c h => decide_eq_true (hc c h)
        refine zip_text_list asc p1.isList fun h' st hk => wpAny_pyIter_zip st.1 ?_
        refine ⟨_, [s1.heap.objs.size + 4, s1.heap.objs.size + 2, s1.heap.objs.size + 3, s1.heap.objs.size, s1.heap.objs.size + 1], _, _, H1, rfl, I1.kept (t' := s1.toks) hk, turn_zipSL ?_, st, fun c hcm => ?_, q⟩
        · exact far_new _ _ lb
        · have hle : s1.heap.objs.size ≤ c := by
            simp only [List.mem_cons, List.not_mem_nil, or_false] at hcm
            rcases hcm with z | z | z | z | z <;> rw [z]
            · exact Nat.le_add_right _ _
            · exact Nat.le_add_right _ _
            · exact Nat.le_add_right _ _
            · exact Nat.le_refl _
            · exact Nat.le_add_right _ _
          exact I1.fpOk hle (I1.hok.fresh hle)
  · exact q1.elim
/-- the loop -/
theorem for_zipSL {K : PySem.W.Frag} {ta : TA} {b : Addr} {l : List Nat} {ys : List V} {g : TG} {tb : TS} {D : Ends} {σ : L2.St} {H H1 : Hp}
    (h : ∀ R : List V → Hp → Prop, R [.str (T l), .ref b] H1 → ta σ H R) (ha : ∀ c ∈ l, c < 128) (hl : l.length = ys.length) (Iv : Nat → L2.St → Hp → Prop) (h0 : Iv 0 σ H1)
    (hq : ∀ i σ H, Iv i σ H → SqL K H b ys)
    (hs : ∀ (i c : Nat) (y : V) (p : Addr) (σ : L2.St) (H : Hp), l[i]? = some c → ys[i]? = some y → Iv i σ H → H p = none →
      g (.ref p) σ (upd H p (.tup [.str (T [c]), y])) fun σ2 H2 => tb { D with nx := Iv (i + 1), ct := Iv (i + 1), bk := D.nx } σ2 H2)
    (he : ∀ σ H, Iv l.length σ H → D.nx σ H) : tFor (iZipSL K ta) g tb D σ H := by
  refine h _ ⟨ha, ⟨ys, hq _ _ _ h0⟩, ?_⟩
  refine ⟨fun i m σ H => m = l.length - i ∧ i ≤ l.length ∧ Iv i σ H, ⟨l.length, rfl, Nat.zero_le _, h0⟩, ?_⟩
  rintro i m σ H ⟨rfl, hi, iv⟩
  have qy := hq i σ H iv
  by_cases lt : i < l.length
  · have hx : l[i]? = some l[i] := List.getElem?_eq_getElem lt
    have hy : ys[i]? = some (ys[i]'(by omega)) := List.getElem?_eq_getElem (by omega)
    refine .inr ⟨⟨lt, ys, _, qy, hy⟩, Iv (i + 1), fun σ' H' z => ⟨l.length - (i + 1), by omega, rfl, lt, z⟩, ?_⟩
    rintro v H' ⟨p, c, y, rfl, hp, rfl, hc, hyy⟩
    have e1 : c = l[i] := by
      have : (T l).cps[i]? = some l[i] := by rw [← Array.getElem?_toList]; exact hx
      rw [hc] at this; exact Option.some.inj this
    have e2 := hyy ys qy
    subst e1
    exact hs i _ y p σ H hx e2 iv hp
  · have e : i = l.length := by omega
    subst e
    exact .inl ⟨⟨rfl, ys, qy, hl⟩, he σ H iv⟩
end LK

/-! for i, x in enumerate(tuple) -/
namespace LK
open PySem PySem.Spec PyProof.Rows L2
open AutoSeq1 (wpAny_loadPart')
/-- what the tuple at a holds, each item beside its number in a new pair -/
def ItET (K : PySem.W.Frag) (a : Addr) : It where
  go := fun i H => ∃ xs x, SqT K H a xs ∧ xs[i]? = some x
  yld := fun i H v H' => ∃ T x, v = .ref T ∧ H T = none ∧ H' = upd H T (.tup [.int (i : Nat), x]) ∧ ∀ xs, SqT K H a xs → xs[i]? = some x
  stop := fun i H => ∃ xs, SqT K H a xs ∧ i = xs.length
theorem turn_enumT {P : Program} {w : World} {K : PySem.W.Frag} {elts : List Expr} {kk : Nat} {tpos : Pos} {a e it : Addr} (ne : e ≠ it) (n1 : e ≠ a) (n2 : a ≠ it) :
    Turn P w K (.Tuple elts kk tpos) (ItET K a) [e, it] e (fun i h => (∃ old, IsEnum h e it ((i : Nat) : Int) old) ∧ h.IsTupleIter it a i) where
  mem := by simp
  obj := fun i h st c hc => by
    obtain ⟨⟨old, he⟩, o, ho, _, hd⟩ := st
    simp only [List.mem_cons, List.not_mem_nil, or_false] at hc
    rcases hc with rfl | rfl
    · exact ⟨_, he, fun v q => nomatch q⟩
    · exact ⟨o, ho, fun v q => by rw [hd] at q; cases q⟩
  keep := fun i h h' st k => by
    obtain ⟨⟨old, he⟩, hi⟩ := st
    exact ⟨⟨old, k e (by simp) _ he⟩, hi.at fun o q => k it (by simp) o q⟩
  item := by
    intro X hP hw hK hc i pins s σ H E I hf st ⟨xs, x, hq, hx⟩
    subst hP hw hK
    obtain ⟨⟨old, he⟩, hit⟩ := st
    obtain ⟨its, rv, p, _⟩ := I.tuple hq
    obtain ⟨u, hu, ru⟩ := rv.get hx
    have hii : i < its.toArray.size := by
      have := (List.getElem?_eq_some_iff.mp hu).1
      simpa using this
    have hh : X.A.in1.handled = none := I.ok.hd hc
    have el := Heap.lt_size he
    have il : it < s.heap.objs.size := by obtain ⟨_, q, _⟩ := hit; exact Heap.lt_size q
    refine wpAny_pyNext_enum_itemD (Draws.tuple hh it a n2 its.toArray) he ⟨hit, p⟩ hii ne (by simp [ne, n1]) fun y h' tk hy ho hst hT hsz hk => ?_
    have ey : y = u := by
      have z : its[i]? = some y := by simpa using hy
      rw [hu] at z; exact (Option.some.inj z).symm
    subst ey
    refine ⟨_, rfl, wpAny_letOwnedTupleGo_enum (s := { s with heap := h', toks := tk + 1 }) ho fun h'' he' sb => ?_⟩
    have hT2 : h''.get? s.heap.objs.size = some { cls := .type "tuple", data := .seq #[.int i tk, y] } := (sb.2 _ (Nat.ne_of_gt el)).trans hT
    have new : ObjOk X.prog X.w (upd H s.heap.objs.size (.tup [.int (i : Nat), x])) h'' s.heap.objs.size (.tup [.int (i : Nat), x]) :=
      ⟨by show 2 ≤ sizeLine; decide, [.int i tk, y], .cons ⟨_, rfl⟩ (.cons ru .nil), ⟨_, hT2, rfl, _, rfl⟩⟩
    have far : ∀ d o, d ∉ [e, it] → s.heap.get? d = some o → h''.get? d = some o := fun d o nd q => by
      simp only [List.mem_cons, List.not_mem_nil, or_false, not_or] at nd
      exact (sb.2 d nd.1).trans (hk d o nd.1 nd.2 q)
    refine ⟨.ref s.heap.objs.size, _, I.turnedNew (t' := tk + 1) (ch := [e, it]) far hf (Nat.le_refl _) new, rfl, ⟨_, x, rfl, I.hok.fresh (Nat.le_refl _), rfl, fun l hl => by rw [I.tuple_inj hl hq]; exact hx⟩, ⟨⟨y, ?_⟩, hst.1.at fun o q => (sb.2 it ne.symm).trans q⟩, fun d hd => ?_⟩
    · rw [show ((i + 1 : Nat) : Int) = (i : Int) + 1 by omega]; exact he'
    · have lt : d < s.heap.objs.size := by
        simp only [List.mem_cons, List.not_mem_nil, or_false] at hd
        rcases hd with rfl | rfl
        · exact el
        · exact il
      rw [upd_ne (Nat.ne_of_lt lt)]; exact (hf d hd).1
  done := by
    intro X hP hw hK hc i pins s σ H E I hf st ⟨xs, hq, hl⟩
    subst hP hw hK
    obtain ⟨⟨old, he⟩, hit⟩ := st
    obtain ⟨its, rv, p, _⟩ := I.tuple hq
    obtain ⟨f0, f1, f2, f3, f4, f5⟩ := hf it (by simp)
    have l1 := rv.length
    have e2 : i = its.toArray.size := by rw [List.size_toArray]; omega
    have hh : X.A.in1.handled = none := I.ok.hd hc
    subst e2
    exact wpAny_pyNext_enum_endD (Draws.tuple hh it a n2 its.toArray) he ⟨hit, p⟩ fun h' eb => ⟨rfl, I.turned (t' := s.toks) (fun b o hb q => eb b o hb q) f0 f1 f3 f4 f5⟩
  self := fun A i s Q E st h => by obtain ⟨⟨_, he⟩, _⟩ := st; exact wpAny_pyIter_enum he h
theorem new_enumT (l : Addr) (items : Array Value) (n : Nat) (dct : Option Addr) (sl : Array (Option Value)) :
    Meets (Builtin.«enumerate.__new__» ⟨[.type "enumerate", .ref l], []⟩) (fun _ R s => s.heap.get? l = some { cls := .type "tuple", dict := dct, data := .seq items n, slots := sl } ∧
      R (.ok (.ret (.ref (s.heap.push { cls := .type "tuple_iterator", data := .fields #[.ref l, .int 0 0] }).objs.size)))
        { s with heap := (s.heap.push { cls := .type "tuple_iterator", data := .fields #[.ref l, .int 0 0] }).push { cls := .type "enumerate", data := .fields #[.none, .bool false, .ref s.heap.objs.size, rawInt 0, .none, .none] } }) :=
  .of_wp fun prog w A R s h => by
    obtain ⟨hp, g, d, tk, os⟩ := s; obtain ⟨hl, h⟩ := h
    have hsub := sub_enumerate
    have hL : Heap.IsTuple (Shared.heap ⟨hp, g, d, tk, os⟩) l items := ⟨_, hl, rfl, n, rfl⟩
    wp_walk using wpAny_loadPart' hl
    refine wpAny_stack_any fun st => wpAny_pure ?_
    split
    · rename_i c _ _ _ _ _
      cases (c == Value.type "enumerate") <;> (wp_walk using wpAny_loadPart' hl, wpAny_pyIter_tuple hL; exact ⟨_, rfl, h⟩)
    · wp_walk using wpAny_loadPart' hl, wpAny_pyIter_tuple hL
      exact ⟨_, rfl, h⟩
end LK

/-! walks over a list or a tuple -/
namespace LK
open PySem PySem.Spec PyProof.Rows L2
/-- the values of the list (tp = false) or of the tuple at a -/
def SqB (K : PySem.W.Frag) (tp : Bool) (H : Hp) (a : Addr) (xs : List V) : Prop := match tp with | true => SqT K H a xs | false => SqL K H a xs
def ItB (K : PySem.W.Frag) (tp : Bool) (a : Addr) : It := match tp with | true => Itt K a | false => Itl K a
def ItEB (K : PySem.W.Frag) (tp : Bool) (a : Addr) : It := match tp with | true => ItET K a | false => Ite K a
theorem wk_sq {K : PySem.W.Frag} {tp : Bool} {a : Addr} {xs : List V} : Wk (ItB K tp a) xs (fun H => SqB K tp H a xs) := by
  cases tp
  · exact wk_list
  · exact wk_tup
section
variable {X : Cx} {tg e : Expr} {te : TE} {p pos tpos : Pos} {elts : List Expr} {kk : Nat} {ta : TA}
def iSq (K : PySem.W.Frag) (te : TE) : TI := fun σ H R => te σ H fun x H1 => match x with
  | .ref a => ∃ tp xs, SqB K tp H1 a xs ∧ R (ItB K tp a) H1
  | _ => False
theorem pi_sq (he : PE X e te) : PI X tg e (iSq X.K te) := by
  refine ⟨fun pins s σ H R I h => thn (he.run pins s σ H _ I h) fun v s1 z => ?_⟩
  obtain ⟨x, H1, I1, r1, q⟩ := z
  cases x with
  | ref a =>
    obtain ⟨tp, xs, hx, q⟩ := q
    obtain rfl : v = Value.ref a := r1
    cases tp
    · obtain ⟨its, rv, p, _⟩ := I1.list hx
      exact wpAny_pyIter_list p.isList (pi_one (tk := s1.toks) I1 _ (turn_list a _) ⟨_, Heap.get?_push_size _ rfl, rfl, rfl⟩ q)
    · obtain ⟨its, rv, p, _⟩ := I1.tuple hx
      exact wpAny_pyIter_tuple p (pi_one (tk := s1.toks) I1 _ (turn_tuple a _) ⟨_, Heap.get?_push_size _ rfl, rfl, rfl⟩ q)
  | _ => exact q.elim
theorem call_enumT {A : Around} {E : Value → Shared → Prop} {prog : Program} {w : World} {s : Shared} {l : Addr} {items : Array Value} {Q : Value → Shared → Prop} (hL : s.heap.IsTuple l items)
    (h : ∀ h', IsEnum h' (s.heap.objs.size + 1) s.heap.objs.size 0 .none → h'.IsTupleIter s.heap.objs.size l 0 → (∀ b o, s.heap.get? b = some o → h'.get? b = some o) → Q (.ref (s.heap.objs.size + 1)) { s with heap := h' }) :
    wpAny (model prog w) A (call (.type "enumerate") [.ref l]) Q E s := by
  obtain ⟨⟨c, dct, dt, sl⟩, hl, hc, n, hd⟩ := hL
  obtain rfl : c = .type "tuple" := hc
  obtain rfl : dt = .seq items n := hd
  refine callType_new F.called_enumerate (by decide) (F.typeCall_enumerate_1 _) (F.newCall_enumerate_1 _) (fun obj => F.args_object_init_2 obj _) F.entry_enumerate_new (new_enumT l items n dct sl) ⟨hl, ?_⟩
  have hz : (s.heap.push { cls := .type "tuple_iterator", data := .fields #[.ref l, .int 0 0] }).objs.size = s.heap.objs.size + 1 := Heap.size_push ..
  have he : IsEnum ((s.heap.push { cls := .type "tuple_iterator", data := .fields #[.ref l, .int 0 0] }).push { cls := .type "enumerate", data := .fields #[.none, .bool false, .ref s.heap.objs.size, rawInt 0, .none, .none] }) (s.heap.objs.size + 1) s.heap.objs.size 0 .none :=
    hz ▸ Heap.get?_push_size _ rfl
  show _ ∧ _
  rw [hz]
  exact ⟨⟨_, he, rfl⟩, h _ he ⟨_, Heap.get?_push_of_some _ (Heap.get?_push_size _ rfl), rfl, rfl⟩ fun b o x => Heap.get?_push_of_some _ (Heap.get?_push_of_some _ x)⟩
def iEnumB (K : PySem.W.Frag) (ta : TA) : TI := fun σ H R => ta σ H fun vs H1 => match vs with
  | [.ref a] => ∃ tp xs, SqB K tp H1 a xs ∧ R (ItEB K tp a) H1
  | _ => False
theorem pi_enumB (hg : Gl X "enumerate") (hm : X.mg "enumerate" = none) (ha : PA X [e] ta) (hs : starEach [e] X.env = [(false, eval e X.env)] := by rfl) :
    PI X (.Tuple elts kk tpos) (.Call (.Name "enumerate" p) [e] [] pos) (iEnumB X.K ta) := by
  refine ⟨fun pins s σ H R I h => Call_ (ld_blt I hg hm boot_enumerate (PyProof.Rows.callWith_type1 (thn (ha.run pos pins s σ H _ I h) fun us s1 z => ?_) hs rfl))⟩
  obtain ⟨vs, H1, I1, r1, q1⟩ := z
  have key : ∃ a, vs = [.ref a] ∧ ∃ tp xs, SqB X.K tp H1 a xs ∧ R (ItEB X.K tp a) H1 := by
    split at q1
    · exact ⟨_, rfl, q1⟩
    · exact q1.elim
  obtain ⟨a, rfl, tp, xs, hx, q⟩ := key
  obtain ⟨u, rfl, ru⟩ := vals1 r1
  obtain rfl : u = Value.ref a := ru
  have fp : ∀ b ∈ [s1.heap.objs.size + 1, s1.heap.objs.size], FpOk X pins H1 b := fun b hb => by
    have hle : s1.heap.objs.size ≤ b := by
      simp only [List.mem_cons, List.not_mem_nil, or_false] at hb
      rcases hb with z | z <;> rw [z]
      · exact Nat.le_add_right _ _
      · exact Nat.le_refl _
    exact I1.fpOk hle (I1.hok.fresh hle)
  cases tp
  · obtain ⟨its, rv, p', _⟩ := I1.list hx
    refine call_enumerate_list p'.isList fun h' he hit _ hk => wpAny_pyIter_enum he ?_
    exact ⟨s1.heap.objs.size + 1, _, _, _, H1, rfl, I1.kept (t' := s1.toks) hk, turn_enum a (s1.heap.objs.size + 1) s1.heap.objs.size, ⟨⟨.none, he⟩, hit, Nat.succ_ne_self _⟩, fp, q⟩
  · obtain ⟨its, rv, p', _⟩ := I1.tuple hx
    have lt : a < s1.heap.objs.size := by obtain ⟨_, q, _⟩ := id p'; exact Heap.lt_size q
    refine call_enumT (show s1.heap.IsTuple a its.toArray from p') fun h' he hit hk => wpAny_pyIter_enum he ?_
    exact ⟨s1.heap.objs.size + 1, _, _, _, H1, rfl, I1.kept (t' := s1.toks) hk, turn_enumT (Nat.succ_ne_self _) (Nat.ne_of_gt (Nat.lt_succ_of_lt lt)) (Nat.ne_of_lt lt), ⟨⟨.none, he⟩, hit⟩, fp, q⟩
end
section
variable {K : PySem.W.Frag} {g : TG} {te : TE} {tb : TS} {σ : L2.St} {H H1 : Hp} {vs : List Nat} {Q : VK} {t : TE} {ta : TA} {D : Ends} {tp : Bool}
theorem for_sq {a : Addr} {xs : List V} (h : At t σ H (.ref a) H1) (hx : SqB K tp H1 a xs) (Iv : List V → L2.St → Hp → Prop) (hP : ∀ pre σ H, Iv pre σ H → SqB K tp H a xs) (h0 : Iv [] σ H1)
    (hs : ∀ pre x suf σ H, xs = pre ++ x :: suf → Iv pre σ H → g x σ H fun σ2 H2 => tb { D with nx := Iv (pre ++ [x]), ct := Iv (pre ++ [x]), bk := D.nx } σ2 H2)
    (he : ∀ σ H, Iv xs σ H → D.nx σ H) : tFor (iSq K t) g tb D σ H :=
  h _ ⟨tp, xs, hx, for_wk wk_sq Iv hP h0 hs he⟩
theorem lc_sq {a : Addr} {xs : List V} (h : At t σ H (.ref a) H1) (hx : SqB K tp H1 a xs) (R : Addr → List V → List V → Hp → Prop)
    (hP : ∀ D pre acc H, R D pre acc H → SqB K tp H a xs) (h0 : ∀ D, H1 D = none → R D [] [] (upd H1 D (.lst [])))
    (hs : ∀ D, H1 D = none → ∀ pre acc x suf H, xs = pre ++ x :: suf → R D pre acc H → g x (wipe σ vs) H fun σ2 H2 => wipe σ2 vs = wipe σ vs ∧ te σ2 H2 fun y H4 =>
      ∃ acc, H4 D = some (.lst acc) ∧ acc.length < sizeLine ∧ ∃ a, R D (pre ++ [x]) a (upd H4 D (.lst (acc ++ [y]))))
    (he : ∀ D, H1 D = none → ∀ acc H, R D xs acc H → Q (.ref D) H) : tLc (iSq K t) g tYes te vs σ H Q :=
  h _ ⟨tp, xs, hx, fun D nD => lc_wk wk_sq (fun pre acc H => R D pre acc H) (hP D) (h0 D nD) (hs D nD) (he D nD)⟩
/-- enumerate of a list or a tuple -/
theorem for_enB {a : Addr} {xs : List V} (h : ∀ R : List V → Hp → Prop, R [.ref a] H1 → ta σ H R) (hx : SqB K tp H1 a xs) (Iv : Nat → L2.St → Hp → Prop) (hP : ∀ i σ H, Iv i σ H → SqB K tp H a xs) (h0 : Iv 0 σ H1)
    (hs : ∀ (i : Nat) x p σ H, xs[i]? = some x → Iv i σ H → H p = none → g (.ref p) σ (upd H p (.tup [.int (i : Nat), x])) fun σ2 H2 => tb { D with nx := Iv (i + 1), ct := Iv (i + 1), bk := D.nx } σ2 H2)
    (he : ∀ σ H, Iv xs.length σ H → D.nx σ H) : tFor (iEnumB K ta) g tb D σ H := by
  refine h _ ⟨tp, xs, hx, ?_⟩
  refine ⟨fun i m σ H => m = xs.length - i ∧ i ≤ xs.length ∧ Iv i σ H, ⟨xs.length, rfl, Nat.zero_le _, h0⟩, ?_⟩
  rintro i m σ H ⟨rfl, hi, iv⟩
  have q := hP i σ H iv
  by_cases lt : i < xs.length
  · have hxi : xs[i]? = some xs[i] := List.getElem?_eq_getElem lt
    refine .inr ⟨?_, Iv (i + 1), fun σ' H' z => ⟨xs.length - (i + 1), by omega, rfl, lt, z⟩, ?_⟩
    · cases tp
      · exact ⟨xs, _, q, hxi⟩
      · exact ⟨xs, _, q, hxi⟩
    · intro v H' y
      have key : ∃ T x, v = .ref T ∧ H T = none ∧ H' = upd H T (.tup [.int (i : Nat), x]) ∧ xs[i]? = some x := by
        cases tp
        · obtain ⟨T, x, e1, e2, e3, e4⟩ := y; exact ⟨T, x, e1, e2, e3, e4 xs q⟩
        · obtain ⟨T, x, e1, e2, e3, e4⟩ := y; exact ⟨T, x, e1, e2, e3, e4 xs q⟩
      obtain ⟨T, x, rfl, hT, rfl, e⟩ := key
      exact hs i x T σ H e iv hT
  · have e : i = xs.length := by omega
    subst e
    refine .inl ⟨?_, he σ H iv⟩
    cases tp
    · exact ⟨xs, q, Nat.le_refl _⟩
    · exact ⟨xs, q, rfl⟩
end
end LK

/-! instances made, by place and by names the other way round; the fields that are read and written -/
namespace LK
open PySem PySem.Spec PyProof.Rows L2 Builtin
/-- a class that is called: its __init__ keeps sp -/
structure HasI (P : Program) (w : World) (K : PySem.W.Frag) (mg : Str → Option Value) (base : Heap) (k : Nat) (x : Str) (C : Addr) (ps : List Str) (sp : Sp) : Prop where
  ex : ∃ f fd, FnG P w K mg base CX0 k f fd (("self" : Str) :: ps) sp ∧ Mk K C f ∧ Binds K fd (("self" : Str) :: ps) [] ∧ mg x = some (.ref C) ∧
    ∀ (s : Shared) (z : Value) (us : List Value), us.length = ps.length → BindsTo s fd ⟨[z], (ps.zip us).reverse⟩ ((("self" : Str) :: ps).zip (z :: us))
theorem HasI.up {P : Program} {w : World} {K : PySem.W.Frag} {mg : Str → Option Value} {base : Heap} {j k : Nat} {x : Str} {C : Addr} {ps : List Str} {sp : Sp} (F : HasI P w K mg base j x C ps sp) (h : j ≤ k) : HasI P w K mg base k x C ps sp := by
  obtain ⟨f, fd, a, b⟩ := F.ex
  exact ⟨f, fd, a.up h, b⟩
section
variable {X : Cx} {k : Nat} {C : Addr} {x : Str} {ps : List Str} {sp : Sp} {p pos : Pos} {e : Expr} {es : List Expr} {kws : List Keyword} {t tk : TA}
theorem mkI_run {pins : List (Addr × Obj)} {σ : L2.St} {H : Hp} {s : Shared} {Q : VK} {f : Addr} {fd : FuncData} {us ws : List Value} {kw : List (Str × Value)} {vs : List V} (M : Mk X.K C f) (F : FnG X.prog X.w X.K X.mg X.base CX0 k f fd (("self" : Str) :: ps) sp)
    (hA : X.A.guards = some []) (hr : Room (k + 1) X.A) (I : Inv X pins σ H s) (r : Vals vs ws) (n : ws.length = ps.length)
    (b : ∀ s' : Shared, X.K.In s'.heap → ∀ z : Value, BindsTo s' fd ⟨z :: us, kw⟩ ((("self" : Str) :: ps).zip (z :: ws)))
    (h : ∀ a d, H a = none → H d = none → d ≠ a → sp (.ref a :: vs) (upd (upd H d (.own a)) a (.ins C d [])) (fun v H2 => v = .non ∧ Q (.ref a) H2) E0) :
    wpAny (model X.prog X.w) X.A (call (.ref C) us kw) (EP X pins σ Q) X.xe s := by
  have q := h (s.heap.objs.size + 1) s.heap.objs.size (I.hok.fresh (Nat.le_succ _)) (I.hok.fresh (Nat.le_refl _)) (Nat.ne_of_lt (Nat.lt_succ_self _))
  have I2 := Inv.made (C := C) I
  refine wpAny_call (make_map (f := f) I.kIn M.makes M.init (beq_iff_eq.mp M.fn) (codeAny_mono (F.run _ (under_guards hA) X.stack _ _ ⟨.ref (s.heap.objs.size + 1) :: us, kw⟩ (.ref (s.heap.objs.size + 1) :: ws) (.ref (s.heap.objs.size + 1) :: vs) _ E0
    (hr.make C us kw) (I2.env0.make C us kw) (b _ I2.kIn _) (.cons rfl r) q) fun r' s' z => ?_))
  match r', z with
  | .error er, z => exact pass0 pins σ _ _ er s' I2 z
  | .ok .next, z => exact z.elim
  | .ok .brk, z => exact z.elim
  | .ok .cont, z => exact z.elim
  | .ok (.ret u), z =>
    obtain ⟨v, H2, J2, rv, ev, q⟩ := I2.after z
    subst ev
    exact ⟨rv, .ref _, H2, J2, rfl, q⟩
/-- the new instance, and what its __init__ does -/
def mkSp (C : Addr) (sp : Sp) (vs : List V) (H : Hp) (Q : VK) : Prop := ∀ a d, H a = none → H d = none → d ≠ a → sp (.ref a :: vs) (upd (upd H d (.own a)) a (.ins C d [])) (fun v H2 => v = .non ∧ Q (.ref a) H2) E0
/-- C(e, ..) -/
theorem pe_mkI (F : HasI X.prog X.w X.K X.mg X.base k x C ps sp) (hA : X.A.guards = some []) (hr : Room (k + 1) X.A) (hg : Gl X x) (ha : PA X (e :: es) t)
    (hdb : (x == ("__debug__" : Str)) = false := by decide) (he : starEach (e :: es) X.env = (false, eval e X.env) :: starEach es X.env := by rfl) (hpl : (backTo pos (starEach es X.env)).any (·.1) = false := by rfl) :
    PE X (.Call (.Name x p) (e :: es) [] pos) (fun σ H Q => t σ H fun vs H1 => vs.length = ps.length ∧ mkSp C sp vs H1 Q) := by
  obtain ⟨f, fd, F, M, hb, hm, _⟩ := F.ex
  refine ⟨fun pins s σ H Q I h => ?_⟩
  refine wpAny_Call_Name_kw (ld_glob I hg hm ?_ hdb)
  refine PySem.W.callWith_K (h₀ := X.base) I.ok.mod.kin M.kp (thn (ha.run pos pins s σ H _ I h) fun us s1 z => ?_) he hpl
  obtain ⟨vs, H1, I1, r1, n, q⟩ := z
  have l : us.length = ps.length := r1.length ▸ n
  refine ⟨I1.kIn, mkI_run (us := us) (ws := us) (kw := []) M F hA hr I1 r1 l (fun s' X' z => ?_) q⟩
  have b := hb s' (z :: us) X' (by simp [l])
  simpa using b
/-- C(k = v, ..), the names from the last parameter on -/
theorem pe_mkIK {ks : List Str} (F : HasI X.prog X.w X.K X.mg X.base k x C ps sp) (hA : X.A.guards = some []) (hr : Room (k + 1) X.A) (hg : Gl X x) (hk : PK X kws tk)
    (hks : (backToKw pos (keywordEach kws X.env)).filterMap (·.1) = ks := by rfl) (hord : ks = ps.reverse)
    (hall : (backToKw pos (keywordEach kws X.env)).all (·.1.isSome) = true := by rfl) (hpl : ((backTo pos (starEach [] X.env)).any (·.1) || (backToKw pos (keywordEach kws X.env)).any (·.1.isNone)) = false := by rfl)
    (hdb : (x == ("__debug__" : Str)) = false := by decide) :
    PE X (.Call (.Name x p) [] kws pos) (fun σ H Q => tk σ H fun zs H1 => zs.length = ps.length ∧ mkSp C sp zs.reverse H1 Q) := by
  obtain ⟨f, fd, F, M, _, hm, hb⟩ := F.ex
  refine ⟨fun pins s σ H Q I h => ?_⟩
  refine wpAny_Call_Name_kw (ld_glob I hg hm ?_ hdb)
  refine PySem.W.callWith_KW0 (h₀ := X.base) I.ok.mod.kin M.kp hall (thn (hk.run pos pins s σ H _ I h) fun us s1 z => ?_) hpl
  obtain ⟨zs, H1, I1, r, n, q⟩ := z
  have l : us.reverse.length = ps.length := by rw [List.length_reverse, ← r.length]; exact n
  refine ⟨I1.kIn, ?_⟩
  rw [hks, hord]
  refine mkI_run (us := []) (ws := us.reverse) M F hA hr I1 r.reverse l (fun s' _ z => ?_) q
  have b := hb s' z us.reverse l
  have ez : (ps.zip us.reverse).reverse = ps.reverse.zip us := by
    rw [List.zip_eq_zipWith, List.zip_eq_zipWith, List.reverse_zipWith l.symm, List.reverse_reverse]
  rw [ez] at b
  exact b
/-! ### fields -/
def uFld (K : PySem.W.Frag) (f : Str) (ta : TE) : TE := fun σ H Q => ta σ H fun x H1 => match x with
  | .ref a => ∃ C dx fs v, H1 a = some (.ins C dx fs) ∧ Cls K C ∧ NoAttr K C f ∧ fs.lookup f = some v ∧ Q v H1
  | _ => False
theorem pe_fldU {f : Str} {ta : TE} (he : PE X e ta) (hb : attributeBase e f X.env (eval e X.env) = eval e X.env := by rfl) : PE X (.Attribute e f pos) (uFld X.K f ta) := by
  refine PE.imp (pe_fld he hb) fun σ H Q h => ?_
  unfold uFld at h
  unfold tFld
  have e : (fun x H1 => match x with | .ref a => ∃ C dx fs v, H1 a = some (HO.ins C dx fs) ∧ Cls X.K C ∧ NoAttr X.K C f ∧ fs.lookup f = some v ∧ Q v H1 | _ => False) =
      (fun x H1 => ∃ a C dx fs v, x = V.ref a ∧ H1 a = some (HO.ins C dx fs) ∧ Cls X.K C ∧ NoAttr X.K C f ∧ fs.lookup f = some v ∧ Q v H1) := by
    funext x H1
    apply propext
    constructor
    · intro h
      split at h
      · obtain ⟨C, dx, fs, v, h⟩ := h; exact ⟨_, C, dx, fs, v, rfl, h⟩
      · exact h.elim
    · rintro ⟨a, C, dx, fs, v, rfl, h⟩; exact ⟨C, dx, fs, v, h⟩
  rw [e] at h
  exact h
end
end LK

/-! places that are come to, least texts to them -/
namespace LK
abbrev Rows := List (List Nat)
def gls (R : Rows) (p : Nat) : List Nat := R.getD p []
def add1 (f : List Nat) (g : Nat) : List Nat := if g ∈ f then f else f ++ [g]
def adds (f gs : List Nat) : List Nat := gs.foldl add1 f
/-- what is found behind i places gone on with -/
def fnd (R : Rows) (s : Nat) : Nat → List Nat
  | 0 => [s]
  | i + 1 => match (fnd R s i)[i]? with
    | some p => adds (fnd R s i) (gls R p)
    | none => fnd R s i
def met (R : Rows) (s : Nat) : List Nat := fnd R s R.length
/-- each row leads to places that are there -/
structure RowsOk (R : Rows) (m : Nat) : Prop where
  len : ∀ r ∈ R, r.length = m
  lt : ∀ r ∈ R, ∀ g ∈ r, g < R.length
theorem add1_pre {f : List Nat} {g : Nat} : f <+: add1 f g := by
  unfold add1; split
  · exact List.prefix_refl _
  · exact List.prefix_append _ _
theorem adds_pre {gs : List Nat} : ∀ {f : List Nat}, f <+: adds f gs := by
  induction gs with
  | nil => exact List.prefix_refl _
  | cons g gs ih => exact add1_pre.trans ih
theorem mem_add1 {f : List Nat} {g x : Nat} : x ∈ add1 f g ↔ x ∈ f ∨ x = g := by
  unfold add1; split
  · rename_i h
    exact ⟨.inl, fun z => z.elim id fun e => e ▸ h⟩
  · simp
theorem mem_adds {gs : List Nat} {x : Nat} : ∀ {f : List Nat}, x ∈ adds f gs ↔ x ∈ f ∨ x ∈ gs := by
  induction gs with
  | nil => simp [adds]
  | cons g gs ih =>
    intro f
    show x ∈ adds (add1 f g) gs ↔ _
    rw [ih, mem_add1, List.mem_cons, or_assoc]
theorem nd_add1 {f : List Nat} {g : Nat} (h : f.Nodup) : (add1 f g).Nodup := by
  unfold add1; split
  · exact h
  · rename_i n
    exact List.nodup_append.mpr ⟨h, by simp, fun a ha b hb e => n (by simp at hb; rw [← hb, ← e]; exact ha)⟩
theorem nd_adds {gs : List Nat} : ∀ {f : List Nat}, f.Nodup → (adds f gs).Nodup := by
  induction gs with
  | nil => exact fun h => h
  | cons g gs ih => exact fun h => ih (nd_add1 h)
section
variable {R : Rows} {s : Nat}
theorem fnd_pre1 (i : Nat) : fnd R s i <+: fnd R s (i + 1) := by
  show _ <+: (match (fnd R s i)[i]? with | some p => adds (fnd R s i) (gls R p) | none => fnd R s i)
  split
  · exact adds_pre
  · exact List.prefix_refl _
theorem fnd_pre {i j : Nat} (h : i ≤ j) : fnd R s i <+: fnd R s j := by
  induction j with
  | zero => obtain rfl : i = 0 := by omega
            exact List.prefix_refl _
  | succ j ih =>
    by_cases e : i = j + 1
    · rw [e]; exact List.prefix_refl _
    · exact (ih (by omega)).trans (fnd_pre1 j)
theorem fnd_step {i p : Nat} (h : (fnd R s i)[i]? = some p) : fnd R s (i + 1) = adds (fnd R s i) (gls R p) := by
  show (match (fnd R s i)[i]? with | some p => adds (fnd R s i) (gls R p) | none => fnd R s i) = _
  rw [h]
theorem fnd_stop {i : Nat} (h : (fnd R s i).length ≤ i) : ∀ j, i ≤ j → fnd R s j = fnd R s i := by
  intro j hj
  induction j with
  | zero => obtain rfl : i = 0 := by omega
            rfl
  | succ j ih =>
    by_cases e : i = j + 1
    · rw [e]
    · have ij := ih (by omega)
      have n : (fnd R s j)[j]? = none := by rw [ij]; exact List.getElem?_eq_none (by omega)
      show (match (fnd R s j)[j]? with | some p => adds (fnd R s j) (gls R p) | none => fnd R s j) = _
      rw [n]; exact ij
theorem fnd_nd : ∀ i, (fnd R s i).Nodup
  | 0 => by simp [fnd]
  | i + 1 => by
    have ih := fnd_nd i
    show List.Nodup (match (fnd R s i)[i]? with | some p => adds (fnd R s i) (gls R p) | none => fnd R s i)
    split
    · exact nd_adds ih
    · exact ih
theorem fnd_head (i : Nat) : s ∈ fnd R s i := (fnd_pre (Nat.zero_le i)).subset (by simp [fnd])
theorem gls_lt {m p g : Nat} (ok : RowsOk R m) (h : g ∈ gls R p) : g < R.length := by
  unfold gls at h
  rw [List.getD_eq_getElem?_getD] at h
  cases e : R[p]? with
  | none => rw [e] at h; cases h
  | some r => rw [e] at h; exact ok.lt r (List.mem_of_getElem? e) g h
theorem fnd_lt {m : Nat} (ok : RowsOk R m) (hs : s < R.length) : ∀ i, ∀ x ∈ fnd R s i, x < R.length
  | 0, x, h => by simp [fnd] at h; omega
  | i + 1, x, h => by
    have ih := fnd_lt ok hs i
    have h : x ∈ (match (fnd R s i)[i]? with | some p => adds (fnd R s i) (gls R p) | none => fnd R s i) := h
    split at h
    · rcases mem_adds.mp h with h | h
      · exact ih x h
      · exact gls_lt ok h
    · exact ih x h
theorem len_le_of_lt {l : List Nat} {n : Nat} (nd : l.Nodup) (h : ∀ x ∈ l, x < n) : l.length ≤ n := by
  have := List.Nodup.length_le_of_subset nd (l₂ := List.range n) fun x hx => List.mem_range.mpr (h x hx)
  rwa [List.length_range] at this
theorem fnd_len {m : Nat} (ok : RowsOk R m) (hs : s < R.length) (i : Nat) : (fnd R s i).length ≤ R.length := len_le_of_lt (fnd_nd i) (fnd_lt ok hs i)
/-- a walk that has come to its end has met all -/
theorem fnd_met {m i : Nat} (ok : RowsOk R m) (hs : s < R.length) (h : (fnd R s i).length ≤ i) : fnd R s i = met R s := by
  have l := fnd_len ok hs i
  by_cases e : i ≤ R.length
  · exact (fnd_stop h R.length e).symm
  · have l2 := fnd_len ok hs R.length
    exact fnd_stop l2 i (by omega)
theorem fnd_more {i : Nat} (h : i < (fnd R s R.length).length) (hi : i ≤ R.length) : i < (fnd R s i).length := by
  refine Nat.lt_of_not_le fun z => ?_
  rw [fnd_stop z R.length hi] at h
  omega
theorem met_closed {m p g : Nat} (ok : RowsOk R m) (hs : s < R.length) (hp : p ∈ met R s) (hg : g ∈ gls R p) : g ∈ met R s := by
  obtain ⟨k, hk⟩ := List.mem_iff_getElem?.mp hp
  have lk : k < (met R s).length := (List.getElem?_eq_some_iff.mp hk).1
  have ln := fnd_len ok hs R.length
  have lk2 : k < R.length := Nat.lt_of_lt_of_le lk ln
  have l1 := fnd_more lk (by omega)
  have e : (fnd R s k)[k]? = some p := by
    obtain ⟨t, et⟩ := fnd_pre (R := R) (s := s) (i := k) (j := R.length) (by omega)
    have hk2 : (fnd R s R.length)[k]? = some p := hk
    rw [← et, List.getElem?_append_left l1] at hk2
    exact hk2
  refine (fnd_pre (i := k + 1) (j := R.length) lk2).subset ?_
  rw [fnd_step e]
  exact mem_adds.mpr (.inr hg)
inductive Reach (R : Rows) (s : Nat) : Nat → Prop
  | here : Reach R s s
  | on {p g : Nat} : Reach R s p → g ∈ gls R p → Reach R s g
theorem reach_fnd : ∀ i, ∀ x ∈ fnd R s i, Reach R s x
  | 0, x, h => by simp [fnd] at h; rw [h]; exact .here
  | i + 1, x, h => by
    have ih := reach_fnd i
    have h : x ∈ (match (fnd R s i)[i]? with | some p => adds (fnd R s i) (gls R p) | none => fnd R s i) := h
    split at h
    · rename_i p e
      rcases mem_adds.mp h with h | h
      · exact ih x h
      · exact .on (ih p (List.mem_of_getElem? e)) h
    · exact ih x h
theorem mem_met {m x : Nat} (ok : RowsOk R m) (hs : s < R.length) : x ∈ met R s ↔ Reach R s x := by
  refine ⟨reach_fnd _ x, fun h => ?_⟩
  induction h with
  | here => exact fnd_head _
  | on _ hg ih => exact met_closed ok hs ih hg
/-- all places are come to -/
def Whole (R : Rows) : Prop := ∀ x, x < R.length → x ∈ met R 0
end
end LK

namespace LK
/-! ### other numbers for the places -/
def rn (R : Rows) (L : List Nat) : Rows := L.map fun p => (gls R p).map fun g => L.idxOf g
section
variable {R : Rows} {s m : Nat} {L : List Nat}
theorem rn_len : (rn R L).length = L.length := by simp [rn]
theorem rn_gls {x p : Nat} (h : L[x]? = some p) : gls (rn R L) x = (gls R p).map fun g => L.idxOf g := by
  unfold gls rn
  rw [List.getD_eq_getElem?_getD, List.getElem?_map, h]; rfl
theorem gls_len (ok : RowsOk R m) {p : Nat} (h : p < R.length) : (gls R p).length = m := by
  unfold gls
  rw [List.getD_eq_getElem?_getD, List.getElem?_eq_getElem h]
  exact ok.len _ (List.getElem_mem h)
theorem idx_get {p : Nat} (h : p ∈ L) : L[L.idxOf p]? = some p := by
  have lt := List.idxOf_lt_length_iff.mpr h
  rw [List.getElem?_eq_getElem lt, List.getElem_idxOf lt]
theorem rn_ok (ok : RowsOk R m) (hs : s < R.length) (h : ∀ x, x ∈ L ↔ x ∈ met R s) : RowsOk (rn R L) m := by
  constructor
  · intro r hr
    obtain ⟨p, hp, rfl⟩ := List.mem_map.mp hr
    rw [List.length_map]
    exact gls_len ok (fnd_lt ok hs _ p ((h p).mp hp))
  · intro r hr g hg
    obtain ⟨p, hp, rfl⟩ := List.mem_map.mp hr
    obtain ⟨q, hq, rfl⟩ := List.mem_map.mp hg
    rw [rn_len]
    exact List.idxOf_lt_length_iff.mpr ((h q).mpr (met_closed ok hs ((h p).mp hp) hq))
theorem rn_whole (ok : RowsOk R m) (hs : s < R.length) (nd : L.Nodup) (h : ∀ x, x ∈ L ↔ x ∈ met R s) (h0 : L[0]? = some s) : Whole (rn R L) := by
  intro x hx
  rw [rn_len] at hx
  have ok2 := rn_ok ok hs h
  have l0 : 0 < (rn R L).length := by rw [rn_len]; omega
  have key : ∀ p, Reach R s p → Reach (rn R L) 0 (L.idxOf p) := by
    intro p hp
    induction hp with
    | here =>
      have e : L.idxOf s = 0 := by
        cases L with
        | nil => cases h0
        | cons y L => simp at h0; rw [h0]; simp
      rw [e]; exact .here
    | on hp hg ih =>
      rename_i p g
      have hm : p ∈ L := (h p).mpr ((mem_met ok hs).mpr hp)
      refine .on ih ?_
      rw [rn_gls (idx_get hm)]
      exact List.mem_map.mpr ⟨g, hg, rfl⟩
  have hm := List.getElem_mem hx
  have r := key L[x] ((mem_met ok hs).mp ((h _).mp hm))
  rw [nd.idxOf_getElem] at r
  exact (mem_met ok2 l0).mpr r
theorem met_nd : (met R s).Nodup := fnd_nd _
theorem met_zero : (met R s)[0]? = some s := by
  obtain ⟨t, e⟩ := fnd_pre (R := R) (s := s) (Nat.zero_le R.length)
  show (fnd R s R.length)[0]? = _
  rw [← e]; rfl
end
/-! ### least texts -/
abbrev Ents := List (Nat × List Nat)
def add1T (t : List Nat) (f : Ents) (cg : Nat × Nat) : Ents := if cg.2 ∈ f.map (·.1) then f else f ++ [(cg.2, t ++ [cg.1])]
def addsT (t : List Nat) (f : Ents) (cs : List (Nat × Nat)) : Ents := cs.foldl (add1T t) f
def fndT (S : List Nat) (R : Rows) (s : Nat) : Nat → Ents
  | 0 => [(s, [])]
  | i + 1 => match (fndT S R s i)[i]? with
    | some e => addsT e.2 (fndT S R s i) (S.zip (gls R e.1))
    | none => fndT S R s i
section
variable {R : Rows} {s : Nat} {S : List Nat}
theorem addsT_keys {t : List Nat} : ∀ {cs : List (Nat × Nat)} {f : Ents}, (addsT t f cs).map (·.1) = adds (f.map (·.1)) (cs.map (·.2))
  | [], f => rfl
  | cg :: cs, f => by
    show (addsT t (add1T t f cg) cs).map (·.1) = adds (add1 (f.map (·.1)) cg.2) (cs.map (·.2))
    rw [addsT_keys]
    congr 1
    unfold add1T add1
    split <;> simp
theorem fndT_keys (ok : RowsOk R S.length) (hs : s < R.length) : ∀ i, (fndT S R s i).map (·.1) = fnd R s i
  | 0 => rfl
  | i + 1 => by
    have ih := fndT_keys ok hs i
    show List.map Prod.fst (match (fndT S R s i)[i]? with | some e => addsT e.2 (fndT S R s i) (S.zip (gls R e.1)) | none => fndT S R s i) = (match (fnd R s i)[i]? with | some p => adds (fnd R s i) (gls R p) | none => fnd R s i)
    have e1 : (fnd R s i)[i]? = Option.map Prod.fst ((fndT S R s i)[i]?) := by rw [← ih, List.getElem?_map]
    cases h : (fndT S R s i)[i]? with
    | none => rw [h] at e1; rw [e1]; exact ih
    | some e =>
      rw [h] at e1; rw [e1]
      show (addsT e.2 (fndT S R s i) (S.zip (gls R e.1))).map (·.1) = adds (fnd R s i) (gls R e.1)
      rw [addsT_keys, ih]
      congr 1
      have lt : e.1 < R.length := fnd_lt ok hs i e.1 (by rw [← ih]; exact List.mem_map.mpr ⟨e, List.mem_of_getElem? h, rfl⟩)
      have l := gls_len ok lt
      exact List.map_snd_zip (by omega)
theorem fndT_step {i : Nat} {e : Nat × List Nat} (h : (fndT S R s i)[i]? = some e) : fndT S R s (i + 1) = addsT e.2 (fndT S R s i) (S.zip (gls R e.1)) := by
  show (match (fndT S R s i)[i]? with | some e => addsT e.2 (fndT S R s i) (S.zip (gls R e.1)) | none => fndT S R s i) = _
  rw [h]
theorem fndT_stop {i : Nat} (h : (fndT S R s i).length ≤ i) : ∀ j, i ≤ j → fndT S R s j = fndT S R s i := by
  intro j hj
  induction j with
  | zero => obtain rfl : i = 0 := by omega
            rfl
  | succ j ih =>
    by_cases e : i = j + 1
    · rw [e]
    · have ij := ih (by omega)
      have n : (fndT S R s j)[j]? = none := by rw [ij]; exact List.getElem?_eq_none (by omega)
      show (match (fndT S R s j)[j]? with | some e => addsT e.2 (fndT S R s j) (S.zip (gls R e.1)) | none => fndT S R s j) = _
      rw [n]; exact ij
def metT (S : List Nat) (R : Rows) (s : Nat) : Ents := fndT S R s R.length
theorem fndT_met (ok : RowsOk R S.length) (hs : s < R.length) {i : Nat} (h : (fndT S R s i).length ≤ i) : fndT S R s i = metT S R s := by
  have k := fndT_keys ok hs i
  have l : (fndT S R s i).length ≤ R.length := by rw [← List.length_map (f := (·.1)), k]; exact fnd_len ok hs i
  by_cases e : i ≤ R.length
  · exact (fndT_stop h R.length e).symm
  · have k2 := fndT_keys ok hs R.length
    have l2 : (fndT S R s R.length).length ≤ R.length := by rw [← List.length_map (f := (·.1)), k2]; exact fnd_len ok hs R.length
    exact fndT_stop l2 i (by omega)
/-! ### they rise -/
/-- shorter, or of one length and ahead -/
def Lt2 (a b : List Nat) : Prop := a.length < b.length ∨ (a.length = b.length ∧ a < b)
theorem lt_app {a b x y : List Nat} (h : a < b) (l : a.length = b.length) : a ++ x < b ++ y := by
  induction a generalizing b with
  | nil => cases b with
    | nil => exact absurd h (List.lt_irrefl _)
    | cons _ _ => simp at l
  | cons c a ih => cases b with
    | nil => simp at l
    | cons d b =>
      rw [List.cons_append, List.cons_append, List.cons_lt_cons_iff]
      rcases List.cons_lt_cons_iff.mp h with h | ⟨e, h⟩
      · exact .inl h
      · exact .inr ⟨e, ih h (by simpa using l)⟩
theorem lt_app1 {a : List Nat} {c d : Nat} (h : c < d) : a ++ [c] < a ++ [d] := by
  induction a with
  | nil => exact List.cons_lt_cons_iff.mpr (.inl h)
  | cons x a ih => exact List.cons_lt_cons_iff.mpr (.inr ⟨rfl, ih⟩)
theorem Lt2.app {a b : List Nat} {c d : Nat} (h : Lt2 a b) : Lt2 (a ++ [c]) (b ++ [d]) := by
  rcases h with h | ⟨l, h⟩
  · exact .inl (by simp; omega)
  · exact .inr ⟨by simp [l], lt_app h l⟩
/-- the texts rise, each made of one that was gone on with, or empty -/
structure Rsg (f : Ents) (i : Nat) : Prop where
  up : f.Pairwise fun a b => Lt2 a.2 b.2
  from_ : ∀ e ∈ f, e.2 = [] ∨ ∃ j q c, j < i ∧ f[j]? = some q ∧ e.2 = q.2 ++ [c]
theorem add_rise {t : List Nat} : ∀ {cs : List (Nat × Nat)} {f : Ents}, (cs.map (·.1)).Pairwise (· < ·) → f.Pairwise (fun a b => Lt2 a.2 b.2) → (∀ e ∈ f, ∀ cg ∈ cs, Lt2 e.2 (t ++ [cg.1])) →
    (addsT t f cs).Pairwise (fun a b => Lt2 a.2 b.2) ∧ f <+: addsT t f cs ∧ ∀ e ∈ addsT t f cs, e ∈ f ∨ ∃ c, e.2 = t ++ [c]
  | [], f, _, h, _ => ⟨h, List.prefix_refl _, fun e he => .inl he⟩
  | cg :: cs, f, hc, h, hb => by
    obtain ⟨c1, c2⟩ := List.pairwise_cons.mp (show (cg.1 :: cs.map (·.1)).Pairwise (· < ·) from hc)
    have step : (add1T t f cg).Pairwise (fun a b => Lt2 a.2 b.2) ∧ f <+: add1T t f cg ∧ (∀ e ∈ add1T t f cg, ∀ x ∈ cs, Lt2 e.2 (t ++ [x.1])) ∧ ∀ e ∈ add1T t f cg, e ∈ f ∨ ∃ c, e.2 = t ++ [c] := by
      unfold add1T
      split
      · exact ⟨h, List.prefix_refl _, fun e he x hx => hb e he x (by simp [hx]), fun e he => .inl he⟩
      · refine ⟨List.pairwise_append.mpr ⟨h, by simp, fun a ha b hb2 => ?_⟩, List.prefix_append _ _, fun e he x hx => ?_, fun e he => ?_⟩
        · simp at hb2; rw [hb2]; exact hb a ha cg (by simp)
        · rcases List.mem_append.mp he with he | he
          · exact hb e he x (by simp [hx])
          · simp at he; rw [he]
            exact .inr ⟨by simp, lt_app1 (c1 x.1 (List.mem_map.mpr ⟨x, hx, rfl⟩))⟩
        · rcases List.mem_append.mp he with he | he
          · exact .inl he
          · simp at he; exact .inr ⟨cg.1, by rw [he]⟩
    obtain ⟨s1, s2, s3, s4⟩ := step
    obtain ⟨r1, r2, r3⟩ := add_rise c2 s1 s3
    refine ⟨r1, s2.trans r2, fun e he => ?_⟩
    rcases r3 e he with h | h
    · exact s4 e h
    · exact .inr h
theorem zip_keys {S g : List Nat} (hS : S.Pairwise (· < ·)) : ((S.zip g).map (·.1)).Pairwise (· < ·) := by
  refine List.Pairwise.sublist ?_ hS
  clear hS
  induction S generalizing g with
  | nil => simp
  | cons c S ih => cases g with
    | nil => simp
    | cons x g => exact (ih (g := g)).cons₂ c
theorem fndT_rise (hS : S.Pairwise (· < ·)) : ∀ i, Rsg (fndT S R s i) i
  | 0 => ⟨by simp [fndT], fun e he => by simp [fndT] at he; rw [he]; exact .inl rfl⟩
  | i + 1 => by
    have ih := fndT_rise hS i
    cases h : (fndT S R s i)[i]? with
    | none =>
      have e : fndT S R s (i + 1) = fndT S R s i := by
        show (match (fndT S R s i)[i]? with | some e => addsT e.2 (fndT S R s i) (S.zip (gls R e.1)) | none => fndT S R s i) = _
        rw [h]
      rw [e]
      refine ⟨ih.up, fun e he => ?_⟩
      rcases ih.from_ e he with h | ⟨j, q, c, h1, h2, h3⟩
      · exact .inl h
      · exact .inr ⟨j, q, c, by omega, h2, h3⟩
    | some p =>
      rw [fndT_step h]
      have bound : ∀ e ∈ fndT S R s i, ∀ cg ∈ S.zip (gls R p.1), Lt2 e.2 (p.2 ++ [cg.1]) := by
        intro e he cg _
        rcases ih.from_ e he with h' | ⟨j, q, c, h1, h2, h3⟩
        · rw [h']; exact .inl (by simp)
        · rw [h3]
          refine Lt2.app ?_
          have := List.pairwise_iff_getElem.mp ih.up j i (List.getElem?_eq_some_iff.mp h2).1 (List.getElem?_eq_some_iff.mp h).1 h1
          rw [(List.getElem?_eq_some_iff.mp h2).2, (List.getElem?_eq_some_iff.mp h).2] at this
          exact this
      obtain ⟨r1, r2, r3⟩ := add_rise (zip_keys hS) ih.up bound
      have up : ∀ {j : Nat} {q : Nat × List Nat}, (fndT S R s i)[j]? = some q → (addsT p.2 (fndT S R s i) (S.zip (gls R p.1)))[j]? = some q := fun {j q} hq => by
        obtain ⟨t, e⟩ := r2
        rw [← e]; exact (List.getElem?_append_left (List.getElem?_eq_some_iff.mp hq).1).trans hq
      refine ⟨r1, fun e he => ?_⟩
      rcases r3 e he with h' | ⟨c, h'⟩
      · rcases ih.from_ e h' with h | ⟨j, q, c, h1, h2, h3⟩
        · exact .inl h
        · exact .inr ⟨j, q, c, by omega, up h2, h3⟩
      · exact .inr ⟨i, p, c, by omega, up h, h'⟩
end
end LK

/-! what any law's proof wants -/
namespace LK
open PySem PySem.Spec PyProof.Rows L2 LamX
open scoped List
theorem Room.u1 {k : Nat} {A : Around} (r : Room k A) : A.units + 1 < cLine := by have := r.un; omega
theorem Room.u64 {k : Nat} {A : Around} (r : Room k A) : A.units + 64 < cLine := by have := r.un; omega
/-- names of built-ins that the module leaves as they are -/
structure Mx (mg : Str → Option Value) : Prop where
  tuple : mg "tuple" = none
  zip : mg "zip" = none
  set : mg "set" = none
  bool : mg "bool" = none
  any : mg "any" = none
  enumerate : mg "enumerate" = none
  ve : mg "ValueError" = none
  re : mg "RuntimeError" = none
  ae : mg "ArithmeticError" = none
  len : mg "len" = none
  isi : mg "isinstance" = none
  all : mg "all" = none
  str : mg "str" = none
  list : mg "list" = none
  sorted : mg "sorted" = none
  range : mg "range" = none
  sum : mg "sum" = none
  repr : mg "repr" = none
  int : mg "int" = none
  abs : mg "abs" = none
  max : mg "max" = none
  min : mg "min" = none
  divmod : mg "divmod" = none

theorem b_tuple : bootBuiltins "tuple" = some (.type "tuple") := by decide +kernel
theorem b_set : bootBuiltins "set" = some (.type "set") := by decide +kernel
theorem b_bool : bootBuiltins "bool" = some (.type "bool") := by decide +kernel
theorem b_len : bootBuiltins "len" = some (.builtin "len") := by decide +kernel
theorem b_isi : bootBuiltins "isinstance" = some (.builtin "isinstance") := by decide +kernel
theorem b_all : bootBuiltins "all" = some (.builtin "all") := by decide +kernel
theorem b_str : bootBuiltins "str" = some (.type "str") := by decide +kernel
theorem b_list : bootBuiltins "list" = some (.type "list") := by decide +kernel
theorem b_sorted : bootBuiltins "sorted" = some (.builtin "sorted") := by decide +kernel
theorem b_sum : bootBuiltins "sum" = some (.builtin "sum") := by decide +kernel
theorem b_repr : bootBuiltins "repr" = some (.builtin "repr") := by decide +kernel
theorem b_int : bootBuiltins "int" = some (.type "int") := by decide +kernel
theorem b_abs : bootBuiltins "abs" = some (.builtin "abs") := by decide +kernel
theorem b_max : bootBuiltins "max" = some (.builtin "max") := by decide +kernel
theorem b_min : bootBuiltins "min" = some (.builtin "min") := by decide +kernel
theorem b_any : bootBuiltins "any" = some (.builtin "any") := by decide +kernel
theorem b_ve : bootBuiltins "ValueError" = some (.type "ValueError") := by decide +kernel
theorem b_re : bootBuiltins "RuntimeError" = some (.type "RuntimeError") := by decide +kernel
theorem b_ae : bootBuiltins "ArithmeticError" = some (.type "ArithmeticError") := by decide +kernel
theorem b_divmod : bootBuiltins "divmod" = some (.builtin "divmod") := by decide +kernel

/-! ### heaps -/
/-- all stays but what S names and the tables; what is told of the tables stays true -/
structure Ex (TT : List (Addr × Str)) (S : Addr → Prop) (H H' : Hp) : Prop where
  keep : ∀ b o, ¬ S b → H b = some o → (∀ ps, o ≠ .tbl ps) → H' b = some o
  tabs : Tabs TT H → Tabs TT H'
abbrev no : Addr → Prop := fun _ => False
abbrev at1 (p : Addr) : Addr → Prop := fun b => b = p
section
variable {TT : List (Addr × Str)} {S : Addr → Prop} {H H1 H2 : Hp}
theorem Ex.refl : Ex TT S H H := ⟨fun _ _ _ h _ => h, fun h => h⟩
theorem Ex.trans (a : Ex TT S H H1) (b : Ex TT S H1 H2) : Ex TT S H H2 := ⟨fun c o n h m => b.keep c o n (a.keep c o n h m) m, fun t => b.tabs (a.tabs t)⟩
theorem Ex.same (e : Same H H1) : Ex TT S H H1 := ⟨fun b o _ h _ => e b o h, fun t => t.ext e⟩
theorem Ex.mono {S' : Addr → Prop} (e : Ex TT S H H1) (h : ∀ b, S b → S' b) : Ex TT S' H H1 := ⟨fun b o n => e.keep b o (fun z => n (h b z)), e.tabs⟩
theorem Ex.of_no (e : Ex TT no H H1) : Ex TT S H H1 := e.mono fun _ z => z.elim
theorem same_upd {p : Addr} {o : HO} (h : H p = none) : Same H (upd H p o) := fun b x e => by
  rw [upd_ne (ne_of_none e h)]; exact e
theorem Ex.new {p : Addr} {o : HO} (h : H p = none) : Ex TT S H (upd H p o) := .same (same_upd h)
theorem Ex.lst {a : Addr} {xs : List V} (e : Ex TT S H H1) (n : ¬ S a) (h : H a = some (.lst xs)) : H1 a = some (.lst xs) := e.keep a _ n h fun ps z => nomatch z
theorem Ex.sq {K : PySem.W.Frag} {a : Addr} {xs : List V} (e : Ex TT S H H1) (n : ¬ S a) (h : SqL K H a xs) : SqL K H1 a xs := by
  rcases h with (h | ⟨o, h⟩) | h
  · exact .inl (.inl (e.keep _ _ n h fun ps z => nomatch z))
  · exact .inl (.inr ⟨o, e.keep _ _ n h fun ps z => nomatch z⟩)
  · exact .inr h
theorem Ex.extN (e : Ex TT no H H1) : ExtN H H1 := fun b o h n => e.keep b o (fun z => z) h n
theorem ex_of (x : ExtN H H1) (t : Tabs TT H1) : Ex TT S H H1 := ⟨fun b o _ h n => x b o h n, fun _ => t⟩
/-- a list, dict, ... of one's own is written -/
theorem Ex.write {p : Addr} {o o' : HO} (hS : S p) (h : H p = some o) (n : ∀ ps, o ≠ .tbl ps) (n2 : ∀ c q, o ≠ CodeO c q) : Ex TT S H (upd H p o') := by
  refine ⟨fun b u nb hb _ => ?_, fun t x hx => ?_⟩
  · have : b ≠ p := fun e => nb (e ▸ hS)
    rw [upd_ne this]; exact hb
  · obtain ⟨ps, h1, h2, h3⟩ := t x hx
    refine ⟨ps, ?_, h2, fun pos cv hc => ?_⟩
    · have : x.1 ≠ p := fun e => by rw [e, h] at h1; exact n _ (Option.some.inj h1)
      rw [upd_ne this]; exact h1
    · obtain ⟨c, e1, e2⟩ := h3 pos cv hc
      refine ⟨c, e1, ?_⟩
      have : c ≠ p := fun e => by rw [e, h] at e2; exact n2 _ _ (by rw [Option.some.inj e2])
      rw [upd_ne this]; exact e2
end

section
variable {X : Cx} {e : Expr} {t : TE} {K : PySem.W.Frag} {g : TG} {tb : TS} {D : Ends} {σ : L2.St} {H : Hp}
/-- a reading closed upwards -/
def cl (t : TE) : TE := fun σ H Q => ∃ Q0 : VK, t σ H Q0 ∧ ∀ v H', Q0 v H' → Q v H'
theorem pe_cl (h : PE X e t) : PE X e (cl t) := by
  refine ⟨fun pins s σ H Q I z => ?_⟩
  obtain ⟨Q0, h0, m⟩ := z
  refine wpAny_mono (h.run pins s σ H Q0 I h0) (fun v s' q => ?_) (fun _ _ z => z)
  obtain ⟨x, H', I', r, q⟩ := q
  exact ⟨x, H', I', r, m _ _ q⟩
/-- what a loop over a list asks, wherever the list comes to lie -/
def LoopL (K : PySem.W.Frag) (g : TG) (tb : TS) (D : Ends) (σ : L2.St) : VK := fun x H1 => ∃ a xs, x = .ref a ∧ SqL K H1 a xs ∧ ∃ Iv : List V → L2.St → Hp → Prop, (∀ pre σ H, Iv pre σ H → SqL K H a xs) ∧ Iv [] σ H1 ∧
  (∀ pre x suf σ H, xs = pre ++ x :: suf → Iv pre σ H → g x σ H fun σ2 H2 => tb { D with nx := Iv (pre ++ [x]), ct := Iv (pre ++ [x]), bk := D.nx } σ2 H2) ∧ (∀ σ H, Iv xs σ H → D.nx σ H)
theorem forM_list (h : t σ H (LoopL K g tb D σ)) : tFor (iList K (cl t)) g tb D σ H := by
  refine ⟨_, h, fun v H' z => ?_⟩
  obtain ⟨a, xs, rfl, hx, Iv, h1, h2, h3, h4⟩ := z
  exact ⟨a, rfl, ⟨_, hx⟩, for_wk wk_list Iv h1 h2 h3 h4⟩
end
theorem same_upd2 {H H1 : Hp} {p : Addr} {o : HO} (e : Same H H1) (h : H p = none) : Same H (upd H1 p o) := fun b x z => by
  rw [upd_ne (ne_of_none z h)]; exact e b x z

abbrev LT (l : List Nat) : V := .str (T l)
def New (H : Hp) (p : Addr) : Prop := ∀ b o, H b = some o → (∀ ps, o ≠ .tbl ps) → b ≠ p
def Pot (H : Hp) (p : Addr) : Prop := ∃ i j : Int, 0 ≤ i ∧ 0 ≤ j ∧ j < 2 ^ 32 ∧ H p = some (.lst [.int i, .int j])
section
variable {TT : List (Addr × Str)} {S : Addr → Prop} {H H1 : Hp}
theorem Ex.put {D : Addr} {o o' : HO} (e : Ex TT S H H1) (n : H D = none) (h : H1 D = some o) (n1 : ∀ ps, o ≠ .tbl ps) (n2 : ∀ c q, o ≠ CodeO c q) : Ex TT S H (upd H1 D o') :=
  ⟨fun b u nb hb m => by
    have : b ≠ D := ne_of_none hb n
    rw [upd_ne this]; exact e.keep b u nb hb m, fun t => (Ex.write (TT := TT) (S := at1 D) rfl h n1 n2).tabs (e.tabs t)⟩
theorem Pot.put {H : Hp} {p D : Addr} {o : HO} (h : Pot H p) (ne : p ≠ D) : Pot (upd H D o) p := by
  obtain ⟨i, j, a, b, c, d⟩ := h
  exact ⟨i, j, a, b, c, by rw [upd_ne ne]; exact d⟩
theorem Pot.ne {H : Hp} {p D : Addr} (h : Pot H p) (n : H D = none) : p ≠ D := by
  obtain ⟨i, j, a, b, c, d⟩ := h
  exact ne_of_none d n
theorem Pot.ex {p : Addr} (h : Pot H p) (e : Ex TT no H H1) : Pot H1 p := by
  obtain ⟨i, j, a, b, c, d⟩ := h
  exact ⟨i, j, a, b, c, e.lst (fun z => z) d⟩
theorem Ex.free {D : Addr} (e : Ex TT no H H1) (n : H1 D = none) : ¬ (∃ o, H D = some o ∧ ∀ ps, o ≠ .tbl ps) := fun ⟨o, h, m⟩ => by
  have := e.keep D o (fun z => z) h m
  rw [n] at this; cases this
end
section
variable {g : TG} {te : TE} {σ : L2.St} {H : Hp} {vs : List Nat} {Q : VK} {t : TE}
theorem lc_rngM (h : t σ H fun v H1 => ∃ n : Nat, v = .int n ∧ n < 1000000 ∧ ∃ R : Addr → Nat → List V → Hp → Prop, (∀ D, H1 D = none → R D 0 [] (upd H1 D (.lst []))) ∧
    (∀ D, H1 D = none → ∀ i acc H, i < n → R D i acc H → g (.int i) (wipe σ vs) H fun σ2 H2 => wipe σ2 vs = wipe σ vs ∧ te σ2 H2 fun y H4 =>
      ∃ acc, H4 D = some (.lst acc) ∧ acc.length < sizeLine ∧ ∃ a, R D (i + 1) a (upd H4 D (.lst (acc ++ [y])))) ∧
    (∀ D, H1 D = none → ∀ acc H, R D n acc H → Q (.ref D) H)) : tLc (iRng1 (tCons (cl t) tNil)) g tYes te vs σ H Q := by
  refine ⟨_, h, fun v H1 z => ?_⟩
  obtain ⟨n, rfl, hn, R, h0, hs, he⟩ := z
  exact lc_rng (t := fun _ H R => R [.int n] H) (fun R h => h) hn R h0 hs he
end
section
variable {TT : List (Addr × Str)} {S : Addr → Prop} {H H1 : Hp}
theorem Ex.putN {D : Addr} {o o' : HO} (e : Ex TT S H H1) (n : New H D) (h : H1 D = some o) (n1 : ∀ ps, o ≠ .tbl ps) (n2 : ∀ c q, o ≠ CodeO c q) : Ex TT S H (upd H1 D o') :=
  ⟨fun b u nb hb m => by
    have : b ≠ D := n b u hb m
    rw [upd_ne this]; exact e.keep b u nb hb m, fun t => (Ex.write (TT := TT) (S := at1 D) rfl h n1 n2).tabs (e.tabs t)⟩
theorem Ex.newN {p D : Addr} (e : Ex TT (at1 p) H H1) (pot : Pot H1 p) (n : H1 D = none) : New H D := fun b o hb m z => by
  subst z
  by_cases hp : b = p
  · subst hp; exact pot.ne n rfl
  · have := e.keep b o hp hb m
    rw [n] at this; cases this
end
theorem has_of {P : Program} {w : World} {K : PySem.W.Frag} {mg : Str → Option Value} {base : Heap} {k : Nat} {f : Addr} {fd : FuncData} {x : Str} {ps : List Str} {sp : Sp} (F : FnG P w K mg base CX0 k f fd ps sp) (hm : mg x = some (.ref f))
    (kp : PySem.W.keepIn K (.ref f) = true) (b : Binds K fd ps []) (bk : ∀ (s : Shared) (us : List Value), us.length = ps.length → BindsTo s fd ⟨[], ps.zip us⟩ (ps.zip us) ∧ BindsTo s fd ⟨[], (ps.zip us).reverse⟩ (ps.zip us)) : Has P w K mg base k x ps sp :=
  ⟨f, fd, F, hm, kp, b, bk⟩
section
def clT (t : TT) : TT := fun σ H Q => ∃ Q0 : Bool → Hp → Prop, t σ H Q0 ∧ ∀ v H', Q0 v H' → Q v H'
theorem pt_cl {X : Cx} {e : Expr} {t : TT} (h : PT X e t) : PT X e (clT t) := by
  refine ⟨fun pins s σ H Q I z => ?_⟩
  obtain ⟨Q0, h0, m⟩ := z
  refine wpAny_mono (h.run pins s σ H Q0 I h0) (fun v s' q => ?_) (fun _ _ z => z)
  obtain ⟨H', I', q⟩ := q
  exact ⟨H', I', m _ _ q⟩
end
/-! ### data that is shown -/
structure Leaf (d : PyData) : Prop where
  sh : d.showable = true
  nd : d.hasDict = false
  dp : d.depth = 0
  lf : d.leavesShort 13 = true
  wt : d.weight ≤ 400
theorem leaf_bool (b : Bool) : Leaf (.bool b) := ⟨rfl, rfl, rfl, rfl, Nat.zero_le _⟩
theorem leaf_str {l : List Nat} (h : ∀ c ∈ l, c < 16 ^ 8) (hl : l.length ≤ 400) : Leaf (.str (T l)) := by
  refine ⟨rfl, rfl, rfl, ?_, hl⟩
  show (l.all fun c => decide (c < 16 ^ 8)) = true
  rw [List.all_eq_true]
  intro c hc
  exact decide_eq_true (h c hc)
theorem leaf_int {i : Int} (h0 : 0 ≤ i) (h : i ≤ 100000) : Leaf (.int i) := by
  have h1 : i.natAbs < 2 ^ 17 := by omega
  have hl : i.natAbs.log2 < 17 := by
    by_cases e : i.natAbs = 0
    · rw [e]; decide
    · exact (Nat.log2_lt e).mpr h1
  refine ⟨?_, rfl, rfl, ?_, ?_⟩
  · show decide (i.natAbs.log2 < 1920) = true
    exact decide_eq_true (by omega)
  · show decide ((PyData.shown (.int i)).length ≤ 13) = true
    exact decide_eq_true (PyData.shown_int_le (by omega))
  · show (if i == 0 then 0 else i.natAbs.log2 + 1) ≤ 400
    split <;> omega
theorem shw_leaves {ds : List PyData} (h : ∀ d ∈ ds, Leaf d) (n : ds.length ≤ 2000) : Shw (.list ds) := by
  have key : PyData.showableAll ds = true ∧ PyData.hasDictAll ds = false ∧ PyData.depthAll ds = 0 ∧ PyData.leavesShortAll 13 ds = true ∧ PyData.weightAll ds ≤ 401 * ds.length := by
    clear n
    induction ds with
    | nil => exact ⟨rfl, rfl, rfl, rfl, Nat.le_refl _⟩
    | cons d ds ih =>
      obtain ⟨a, b, c, e, f⟩ := ih fun x hx => h x (List.mem_cons_of_mem _ hx)
      obtain ⟨a1, b1, c1, e1, f1⟩ := h d (by simp)
      refine ⟨?_, ?_, ?_, ?_, ?_⟩
      · rw [PyData.showableAll, a1, a]; rfl
      · rw [PyData.hasDictAll, b1, b]; rfl
      · rw [PyData.depthAll, c1, c]; rfl
      · rw [PyData.leavesShortAll, e1, e]; rfl
      · rw [PyData.weightAll, List.length_cons]; omega
  obtain ⟨a, b, c, e, f⟩ := key
  refine ⟨by rw [PyData.showable]; exact a, fun z => ?_, ?_, by rw [PyData.leavesShort]; exact e, ?_⟩
  · rw [PyData.hasDict, b] at z; cases z
  · rw [PyData.depth, c]; decide
  · rw [PyData.weight]
    have : (2 : Nat) ^ 20 = 1048576 := by decide
    omega
theorem dpAll_str {K : PySem.W.Frag} {H : Hp} : ∀ ls : List (List Nat), DpAll K H (ls.map fun l => .str (T l)) (ls.map encT)
  | [] => .nil
  | l :: ls => .cons (.str _) (dpAll_str ls)
theorem dpAll_int {K : PySem.W.Frag} {H : Hp} : ∀ ls : List Int, DpAll K H (ls.map V.int) (ls.map PyData.int)
  | [] => .nil
  | l :: ls => .cons (.int _) (dpAll_int ls)
theorem dpAll_bl {K : PySem.W.Frag} {H : Hp} : ∀ ls : List Bool, DpAll K H (ls.map V.bl) (ls.map PyData.bool)
  | [] => .nil
  | l :: ls => .cons (.bl _) (dpAll_bl ls)
end LK

/-! the program's statements, by their names -/
namespace LK
open PySem PySem.Spec PyProof.Rows L2 LamX
def topM (i : Nat) : Stmt := PySem.Challenge.pw_missedparts_k14_whole_machines_told.main.body.getD i (.Pass ⟨0, 0, 0, 0⟩)
/-- the i-th statement within the class -/
def inCls (st : Stmt) (i : Nat) : Stmt := match st with
  | .ClassDef (body := b) .. => b.getD i (.Pass ⟨0, 0, 0, 0⟩)
  | _ => .Pass ⟨0, 0, 0, 0⟩
abbrev sIsInt : Stmt := topM 4
abbrev sIsText : Stmt := topM 5
abbrev sIsOver : Stmt := topM 6
abbrev sAreLet : Stmt := topM 7
abbrev sMach : Stmt := topM 23
abbrev sInit : Stmt := inCls sMach 1
abbrev sComeTo : Stmt := inCls sMach 2
abbrev sLetters : Stmt := inCls sMach 3
abbrev sRows : Stmt := inCls sMach 4
abbrev sKinds : Stmt := inCls sMach 5
abbrev sGoal : Stmt := inCls sMach 6
abbrev sGoes : Stmt := inCls sMach 7
abbrev sTakes : Stmt := inCls sMach 8
abbrev sFirstText : Stmt := inCls sMach 9
abbrev sFirstTaken : Stmt := inCls sMach 10
abbrev sAt : Stmt := inCls sMach 11
abbrev sNumbered : Stmt := inCls sMach 12
abbrev sLeast : Stmt := inCls sMach 13
abbrev sLen : Stmt := inCls sMach 14
abbrev sHas : Stmt := inCls sMach 15
abbrev sEq : Stmt := inCls sMach 16
abbrev sRepr : Stmt := inCls sMach 17
abbrev sAnd : Stmt := inCls sMach 18
abbrev sOr : Stmt := inCls sMach 19
abbrev sSub : Stmt := inCls sMach 20
abbrev sInv : Stmt := inCls sMach 21
abbrev sNeedPlace : Stmt := inCls sMach 22
abbrev sLed : Stmt := inCls sMach 23
abbrev sNeedText : Stmt := topM 24
abbrev sSameLet : Stmt := topM 25
abbrev sFirstTexts : Stmt := topM 26
abbrev sLeastOf : Stmt := topM 27
abbrev sAlike : Stmt := topM 28
abbrev sNeedParts : Stmt := topM 29
abbrev sIsRow : Stmt := topM 30
abbrev sIsPlace : Stmt := topM 31
abbrev sMetFrom : Stmt := topM 32
abbrev sNumFrom : Stmt := topM 33
abbrev sPaired : Stmt := topM 34
abbrev sKindsOf : Stmt := topM 35
abbrev sPot : Stmt := topM 37
abbrev sDraw : Stmt := topM 38
abbrev sPick : Stmt := topM 39
abbrev sLMet : Stmt := topM 40
abbrev sMixed : Stmt := topM 41
abbrev sSheet : Stmt := topM 42
abbrev sLLed : Stmt := topM 43
abbrev sTexts : Stmt := topM 44
abbrev sRig : Stmt := topM 45
abbrev sFrom : Stmt := topM 46
abbrev sFirsts : Stmt := topM 47
abbrev sDue : Stmt := topM 48
abbrev sTold : Stmt := topM 49
abbrev sNames : Stmt := topM 50
abbrev sAtR : Stmt := topM 51
abbrev sOth : Stmt := topM 52
abbrev sRight : Stmt := topM 53
abbrev sLaw : Stmt := topM 54
end LK

/-! k14: the defs of missedparts.basics -/
namespace LK
open PySem PySem.Spec PyProof.Rows L2 LamX
open scoped List
abbrev smalls : List Nat := cs "abcdefghijklmnopqrstuvwxyz"
def Small (l : List Nat) : Prop := ∀ c ∈ l, c ∈ smalls
theorem Small.asc {l : List Nat} (h : Small l) : ∀ c ∈ l, c < 128 := fun c hc => by
  have k : ∀ d ∈ smalls, d < 128 := by decide +kernel
  exact k c (h c hc)
/-- the letters of a machine -/
structure LetOk (S : List Nat) : Prop where
  up : Ris1 S
  sm : Small S
  lo : 1 ≤ S.length
  hi : S.length ≤ 3
abbrev iv (row : List Nat) : List V := row.map fun (g : Nat) => V.int (g : Int)
section
variable {X : Cx} {a b c : Expr} {ta tb tc : TE} {pos : Pos}
theorem pt_ch {op op' : CmpOp} {r r' : R2} (ho : OpR X (compareOp op) r) (ho' : OpR X (compareOp op') r') (ha : PE X a ta) (hb : PE X b tb) (hc : PE X c tc)
    (hm : lastMarks [op, op'] [b, c] = false := by with_unfolding_all rfl) : PT X (.Compare a [op, op'] [b, c] pos) (uT (uChain r r' ta tb tc)) := pt_chainU (t2 := ta) (pt_chain ho ho' ha hb hc hm)
theorem pe_ch {op op' : CmpOp} {r r' : R2} (ho : OpR X (compareOp op) r) (ho' : OpR X (compareOp op') r') (ha : PE X a ta) (hb : PE X b tb) (hc : PE X c tc)
    (hm : lastMarks [op, op'] [b, c] = false := by with_unfolding_all rfl) : PE X (.Compare a [op, op'] [b, c] pos) (uChain r r' ta tb tc) := pe_chainU ho ho' ha hb hc (pe_chain ho ho' ha hb hc hm)
end
section
variable {P : Program} {w : World} {K : PySem.W.Frag} {mg : Str → Option Value} {base : Heap}
theorem scIsInt : FnScope ["value"] ["value"] (defScope sIsInt) := ⟨rfl, rfl, rfl, by decide +kernel, rfl, by decide +kernel, by decide +kernel⟩
def spIsInt : Sp := fun vs H Q _ => ∃ i, vs = [.int i] ∧ Q (.bl true) H
theorem ok_isInt {f : Addr} {fd : FuncData} {k : Nat} (F : Fun K "is_integer" "is_integer" sIsInt f fd) (M : Mx mg) : FnG P w K mg base CX0 (k + 1) f fd ["value"] spIsInt := by
  refine okG F scIsInt (fun vs H Q E h => ?_) (fun cdv A hA outer s H vs Q E hr h => ?_)
  · obtain ⟨i, rfl, _⟩ := h; rfl
  · obtain ⟨i, rfl, q⟩ := h
    refine ⟨_, pss_one (ps_ret (pe_andU (pe_callB call_isi (by rfl) M.isi b_isi (pa_cons (uv 0) (pa_cons (pe_bltn (by rfl) M.int b_int (v := .ty "int") (by rfl)) pa_nil)))
      (pe_one (pe_notU (pe_callB call_isi (by rfl) M.isi b_isi (pa_cons (uv 0) (pa_cons (pe_bltn (by rfl) M.bool b_bool (v := .ty "bool") (by rfl)) pa_nil))))))), ?_⟩
    refine ⟨_, _, _, _, true, rfl, .ty _, .base (.int _), rfl, .yes ?_⟩
    exact ⟨_, _, _, _, false, rfl, .ty _, .base (.int _), rfl, q⟩
theorem scIsText : FnScope ["value", "letter"] ["value"] (defScope sIsText) := ⟨rfl, rfl, rfl, by decide +kernel, rfl, by decide +kernel, by decide +kernel⟩
def spIsText : Sp := fun vs H Q _ => ∃ l, vs = [.str (T l)] ∧ Small l ∧ l.length ≤ 1000000 ∧ ∀ H', Same H H' → Q (.bl true) H'
theorem ok_isText {f : Addr} {fd : FuncData} {k : Nat} {tS : Tok} (F : Fun K "is_text" "is_text" sIsText f fd) (M : Mx mg) (gS : mg "SMALL_LETTERS" = some (.str "abcdefghijklmnopqrstuvwxyz" tS)) :
    FnG P w K mg base CX0 (k + 1) f fd ["value"] spIsText := by
  refine okG F scIsText (fun vs H Q E h => ?_) (fun cdv A hA outer s H vs Q E hr h => ?_)
  · obtain ⟨l, rfl, _⟩ := h; rfl
  · obtain ⟨l, rfl, hs, hl, q⟩ := h
    refine ⟨_, pss_one (ps_ret (pe_andU (pe_callB call_isi (by rfl) M.isi b_isi (pa_cons (uv 0) (pa_cons (pe_bltn (by rfl) M.str b_str (v := .ty "str") (by rfl)) pa_nil)))
      (pe_one (pe_callB (c_all rfl) (by rfl) M.all b_all (pa_cons (pe_lc (own := [("letter", 1)]) (g := gName 1) (tt := tYes) rfl scIsText.nd (pi_str (uv 0)) (blkOk_by (N := ["value", "letter"]) (sc := defScope sIsText) (by decide +kernel))
        (fun _ _ _ _ _ => pg_name (i := 1) scIsText.nd rfl (Or.inl rfl)) (fun _ _ _ _ _ => pts_nil)
        (fun _ _ _ _ _ => pe_cmpR op_in_sign (uv 1) (pe_glob (v := .str "abcdefghijklmnopqrstuvwxyz") (by rfl) gS ⟨tS, rfl⟩) (by rfl))) pa_nil))))), ?_⟩
    refine ⟨_, _, _, _, true, rfl, .ty _, .base (.str _), rfl, .yes ?_⟩
    dsimp only [tCB, tCons]
    refine lc_str (l := l) (H1 := H) (by exact fun _ h => h) (fun D pre acc H1 => H1 = upd H D (.lst acc) ∧ acc = (pre.map fun _ => true).map V.bl) (fun D nD => ⟨rfl, rfl⟩) (fun D nD pre acc c suf H1 e r => ?_) (fun D nD acc H1 r => ?_)
    · obtain ⟨rfl, rfl⟩ := r
      refine ⟨rfl, c, _, rfl, rfl, _, upd_same, ?_, _, upd_upd, ?_⟩
      · have : pre.length < l.length := by rw [e]; simp
        rw [List.length_map, List.length_map, List.length_map]
        have := sizeLine_eq; omega
      · have hc : c ∈ smalls := hs c (by rw [e]; simp)
        have hd : decide (c ∈ (Str.ofString "abcdefghijklmnopqrstuvwxyz").cps.toList) = true := decide_eq_true hc
        rw [hd]
        simp [lets]
    · obtain ⟨rfl, rfl⟩ := r
      refine ⟨_, .inl (.inl upd_same), ?_⟩
      have : (((lets l).map fun _ => true).all id) = true := by simp
      show Q (.bl (((lets l).map fun _ => true).all id)) _
      rw [this]
      exact q _ (same_upd nD)
theorem scIsOver : FnScope ["value", "letters", "letter"] ["value", "letters"] (defScope sIsOver) := ⟨rfl, rfl, rfl, by decide +kernel, rfl, by decide +kernel, by decide +kernel⟩
/-- a text: whether its signs are of the letters; anything else: False -/
def spIsOver (K : PySem.W.Frag) : Sp := fun vs H Q _ => ∃ S x, vs = [x, .str (T S)] ∧
  ((∃ l, x = .str (T l) ∧ l.length ≤ 1000000 ∧ ∀ H', Same H H' → Q (.bl (decide (∀ c ∈ l, c ∈ S))) H') ∨ ∃ t, TyX K H x t ∧ PySem.W.kitOne K t (.type "str") = some false ∧ Q (.bl false) H)
theorem ok_isOver {f : Addr} {fd : FuncData} {k : Nat} (F : Fun K "is_over" "is_over" sIsOver f fd) (M : Mx mg) : FnG P w K mg base CX0 (k + 1) f fd ["value", "letters"] (spIsOver K) := by
  refine okG F scIsOver (fun vs H Q E h => ?_) (fun cdv A hA outer s H vs Q E hr h => ?_)
  · obtain ⟨S, x, rfl, _⟩ := h; rfl
  · obtain ⟨S, x, rfl, q⟩ := h
    refine ⟨_, pss_one (ps_ret (pe_andU (pe_callB call_isi (by rfl) M.isi b_isi (pa_cons (uv 0) (pa_cons (pe_bltn (by rfl) M.str b_str (v := .ty "str") (by rfl)) pa_nil)))
      (pe_one (pe_callB (c_all rfl) (by rfl) M.all b_all (pa_cons (pe_lc (own := [("letter", 2)]) (g := gName 2) (tt := tYes) rfl scIsOver.nd (pi_str (uv 0)) (blkOk_by (N := ["value", "letters", "letter"]) (sc := defScope sIsOver) (by decide +kernel))
        (fun _ _ _ _ _ => pg_name (i := 2) scIsOver.nd rfl (Or.inl rfl)) (fun _ _ _ _ _ => pts_nil)
        (fun _ _ _ _ _ => pe_cmpR op_in_sign (uv 2) (uv 1) (by rfl))) pa_nil))))), ?_⟩
    rcases q with ⟨l, rfl, hl, q⟩ | ⟨t, ty, hk, q⟩
    · refine ⟨_, _, _, _, true, rfl, .ty _, .base (.str _), rfl, .yes ?_⟩
      dsimp only [tCB, tCons]
      refine lc_str (l := l) (H1 := H) (by exact fun _ h => h) (fun D pre acc H1 => ∃ p, pre = lets p ∧ H1 = upd H D (.lst acc) ∧ acc = (p.map fun c => decide (c ∈ S)).map V.bl) (fun D nD => ⟨[], rfl, rfl, rfl⟩) (fun D nD pre acc c suf H1 e r => ?_) (fun D nD acc H1 r => ?_)
      · obtain ⟨p, ep, rfl, rfl⟩ := r
        refine ⟨rfl, c, _, rfl, rfl, _, upd_same, ?_, _, p ++ [c], ?_, upd_upd, ?_⟩
        · have : p.length = pre.length := by have := congrArg List.length ep; simpa using this.symm
          have : pre.length < l.length := by rw [e]; simp
          rw [List.length_map, List.length_map]
          have := sizeLine_eq; omega
        · rw [show lets (pre ++ [c]) = lets pre ++ [.str (T [c])] by simp [lets], ep]; simp [lets]
        · rw [List.map_append, List.map_append]; rfl
      · obtain ⟨p, ep, rfl, rfl⟩ := r
        refine ⟨_, .inl (.inl upd_same), ?_⟩
        have inj : ∀ a b : Nat, V.str (T [a]) = V.str (T [b]) → a = b := fun a b z => by
          have z1 := T_inj (V.str.inj z)
          exact (List.cons.inj z1).1
        obtain rfl : l = p := (List.map_inj_right inj).mp ep
        have e2 : ((l.map fun c => decide (c ∈ S)).all id) = decide (∀ c ∈ l, c ∈ S) := by
          rw [List.all_map, Bool.eq_iff_iff, List.all_eq_true]
          simp
        show Q (.bl ((l.map fun c => decide (c ∈ S)).all id)) _
        rw [e2]
        exact q _ (same_upd nD)
    · exact ⟨_, _, _, _, false, rfl, .ty _, ty, hk, .no q⟩
end
end LK

/-! lists of texts, of numbers, of truth values, rows of numbers: compared -/
namespace LK
open PySem PySem.Spec PyProof.Rows L2 LamX
open scoped List
/-- data that == takes, of a small depth -/
structure Flat (n : Nat) (d : PyData) : Prop where
  lay : d.canLay0 = true
  dp : d.depth ≤ n
theorem flat_int (i : Int) : Flat 0 (.int i) := ⟨rfl, Nat.le_refl _⟩
theorem flat_bl (b : Bool) : Flat 0 (.bool b) := ⟨rfl, Nat.le_refl _⟩
theorem flat_str {l : List Nat} (h : ∀ c ∈ l, c < 0x110000) : Flat 0 (.str (T l)) := ⟨by
  show (T l).cps.all _ = true
  rw [← Array.all_toList, List.all_eq_true]
  exact fun c hc => decide_eq_true (h c hc), Nat.le_refl _⟩
theorem flat_all {n : Nat} : ∀ {ds : List PyData}, (∀ d ∈ ds, Flat n d) → PyData.canLayAll0 ds = true ∧ PyData.depthAll ds ≤ n
  | [], _ => ⟨rfl, Nat.zero_le _⟩
  | d :: ds, h => by
    obtain ⟨a, b⟩ := flat_all fun x hx => h x (List.mem_cons_of_mem _ hx)
    have c := h d (by simp)
    exact ⟨by rw [PyData.canLayAll0, c.lay, a]; rfl, by rw [PyData.depthAll]; exact Nat.max_le.mpr ⟨c.dp, b⟩⟩
theorem flat_list {n : Nat} {ds : List PyData} (h : ∀ d ∈ ds, Flat n d) : Flat (n + 1) (.list ds) := by
  obtain ⟨a, b⟩ := flat_all h
  exact ⟨by rw [PyData.canLay0]; exact a, by rw [PyData.depth]; omega⟩
theorem flat_tup {n : Nat} {ds : List PyData} (h : ∀ d ∈ ds, Flat n d) : Flat (n + 1) (.tuple ds) := by
  obtain ⟨a, b⟩ := flat_all h
  exact ⟨by rw [PyData.canLay0]; exact a, by rw [PyData.depth]; omega⟩
theorem Flat.shaped {n : Nat} {d : PyData} (h : Flat n d) (hn : n ≤ 64) : SeqAt.shaped d = true := by
  show (d.canLay0 && decide (d.depth ≤ 64)) = true
  rw [h.lay, decide_eq_true (Nat.le_trans h.dp hn)]; rfl
/-- equal data answers True -/
theorem eqv_all_iff {α : Type} {f : α → PyData} (hf : ∀ a b, PyData.eqv (f a) (f b) = true ↔ a = b) : ∀ {as bs : List α}, PyData.eqvAll (as.map f) (bs.map f) = true ↔ as = bs
  | [], [] => by simp [PyData.eqvAll]
  | [], _ :: _ => by simp [PyData.eqvAll]
  | _ :: _, [] => by simp [PyData.eqvAll]
  | a :: as, b :: bs => by
    show (PyData.eqv (f a) (f b) && PyData.eqvAll (as.map f) (bs.map f)) = true ↔ _
    rw [Bool.and_eq_true, hf, eqv_all_iff hf, List.cons.injEq]
abbrev encR (r : List Nat) : PyData := .list (r.map fun (g : Nat) => .int (g : Int))
abbrev encRs (R : List (List Nat)) : PyData := .list (R.map encR)
abbrev encB (k : List Bool) : PyData := .list (k.map .bool)
abbrev encTs (ls : List (List Nat)) : PyData := .list (ls.map encT)
theorem eqv_row {a b : List Nat} : PyData.eqv (encR a) (encR b) = true ↔ a = b := by
  show PyData.eqvAll _ _ = true ↔ _
  refine eqv_all_iff (f := fun (g : Nat) => PyData.int (g : Int)) fun x y => ?_
  show ((x : Int) == (y : Int)) = true ↔ _
  rw [beq_iff_eq]; omega
theorem eqv_rows {a b : List (List Nat)} : PyData.eqv (encRs a) (encRs b) = true ↔ a = b := by
  show PyData.eqvAll _ _ = true ↔ _
  exact eqv_all_iff (f := encR) fun x y => eqv_row
theorem eqv_kinds {a b : List Bool} : PyData.eqv (encB a) (encB b) = true ↔ a = b := by
  show PyData.eqvAll _ _ = true ↔ _
  refine eqv_all_iff (f := PyData.bool) fun x y => ?_
  show (x == y) = true ↔ _
  rw [beq_iff_eq]
theorem eqv_strs {a b : List (List Nat)} : PyData.eqv (encTs a) (encTs b) = true ↔ a = b := by
  show PyData.eqvAll _ _ = true ↔ _
  refine eqv_all_iff (f := encT) fun x y => ?_
  show (T x == T y) = true ↔ _
  rw [beq_iff_eq]
  exact ⟨T_inj, fun e => by rw [e]⟩
theorem flat_rows (R : List (List Nat)) : Flat 2 (encRs R) := flat_list fun d hd => by
  obtain ⟨r, _, rfl⟩ := List.mem_map.mp hd
  exact flat_list fun d hd => by
    obtain ⟨g, _, rfl⟩ := List.mem_map.mp hd
    exact flat_int _
theorem flat_kinds (k : List Bool) : Flat 1 (encB k) := flat_list fun d hd => by
  obtain ⟨g, _, rfl⟩ := List.mem_map.mp hd
  exact flat_bl _
theorem flat_strs {ls : List (List Nat)} (h : ∀ l ∈ ls, ∀ c ∈ l, c < 0x110000) : Flat 1 (encTs ls) := flat_list fun d hd => by
  obtain ⟨g, hg, rfl⟩ := List.mem_map.mp hd
  exact flat_str (h g hg)
section
variable {K : PySem.W.Frag} {H : Hp}
theorem dp_lst {a : Addr} {xs : List V} {ds : List PyData} (h : SqL K H a xs) (e : DpAll K H xs ds) : Dp K H (.ref a) (.list ds) := .lst h e
theorem dpAll_lets (l : List Nat) : DpAll K H (lets l) ((l.map fun c => [c]).map encT) := by
  induction l with
  | nil => exact .nil
  | cons c l ih => exact .cons (.str _) ih
end
end LK

namespace LK
open PySem PySem.Spec PyProof.Rows L2 LamX
open scoped List
section
variable {P : Program} {w : World} {K : PySem.W.Frag} {mg : Str → Option Value} {base : Heap}
theorem scAreLet : FnScope ["value"] ["value"] (defScope sAreLet) := ⟨rfl, rfl, rfl, by decide +kernel, rfl, by decide +kernel, by decide +kernel⟩
def spAreLet : Sp := fun vs H Q _ => ∃ S, vs = [.str (T S)] ∧ LetOk S ∧ ∀ H', Same H H' → Q (.bl true) H'
theorem ok_areLet {f : Addr} {fd : FuncData} {k : Nat} {t3 : Tok} (F : Fun K "are_letters" "are_letters" sAreLet f fd) (M : Mx mg) (gM : mg "MOST_LETTERS" = some (.int 3 t3)) (HT : Has P w K mg base k "is_text" ["value"] spIsText) :
    FnG P w K mg base CX0 (k + 1) f fd ["value"] spAreLet := by
  refine okG F scAreLet (fun vs H Q E h => ?_) (fun cdv A hA outer s H vs Q E hr h => ?_)
  · obtain ⟨i, rfl, _⟩ := h; rfl
  · obtain ⟨S, rfl, ok, q⟩ := h
    refine ⟨_, pss_cons (ps_ifU (PW.pt (pw_orU (pt_not (pt_u (pe_callH HT hA hr (by rfl) (pa_cons (uv 0) pa_nil)))) (pw_or1 (pt_not (pt_ch o_le o_le pe_int (pe_callB c_len (by rfl) M.len b_len (pa_cons (uv 0) pa_nil)) (pe_glob (v := .int 3) (by rfl) gM ⟨t3, rfl⟩))))))
        (pss_one (ps_ret pe_bl)) pss_nil)
      (pss_one (ps_ret (pe_cu (o_eq hr.units) (pe_callTy (c_listT rfl) (by rfl) M.list b_list (pa_cons (uv 0) pa_nil))
        (pe_callB (c_sortedS rfl hr.units) (by rfl) M.sorted b_sorted (pa_cons (pe_callTy (c_setT rfl) (by rfl) M.set b_set (pa_cons (uv 0) pa_nil)) pa_nil))))), ?_⟩
    have hi := ok.hi
    have lo := ok.lo
    refine ⟨S, rfl, ok.sm, by omega, fun H1 e1 => .no ⟨by show S.length ≤ sizeLine; rw [sizeLine_eq]; omega, ?_⟩⟩
    have c1 : decide ((1 : Int) ≤ (S.length : Int)) = true := decide_eq_true (by omega)
    have c2 : decide ((S.length : Int) ≤ 3) = true := decide_eq_true (by omega)
    refine ⟨fun _ => .nd (fun z => (z (by show (S.length : Int) ≤ 3; omega)).elim) fun _ => ?_, fun z => ?_⟩
    case refine_2 =>
      have z : decide ((1 : Int) ≤ (S.length : Int)) = false := z
      rw [c1] at z; cases z
    refine ⟨by show S.length ≤ sizeLine; rw [sizeLine_eq]; omega, fun p np => ?_⟩
    refine ⟨ok.up, ok.sm.asc, by show S.length ≤ 100; omega, fun p2 np2 => ?_⟩
    have n2 : p ≠ p2 := ne_of_none upd_same np2
    refine ⟨S, upd_same, ok.up, by omega, fun p3 np3 => ?_⟩
    have n3 : p ≠ p3 := fun z => by rw [← z, upd_ne n2, upd_same] at np3; cases np3
    have l1 : SqL K (upd (upd (upd H1 p (.lst (lets (cs (T S))))) p2 (SetS P w p2 (cs (T S)).reverse)) p3 (.lst (lets S))) p (lets S) := .inl (.inl (by rw [upd_ne n3, upd_ne n2]; exact upd_same))
    have l2 : SqL K (upd (upd (upd H1 p (.lst (lets (cs (T S))))) p2 (SetS P w p2 (cs (T S)).reverse)) p3 (.lst (lets S))) p3 (lets S) := .inl (.inl upd_same)
    have sh : SeqAt.shaped (encTs (S.map fun c => [c])) = true := (flat_strs fun l hl c hc => by
      obtain ⟨d, hd, rfl⟩ := List.mem_map.mp hl
      have := ok.sm.asc d hd
      simp at hc
      omega).shaped (by decide)
    refine ⟨_, _, dp_lst l1 (dpAll_lets S), dp_lst l2 (dpAll_lets S), sh, sh, ?_⟩
    have ev : PyData.eqv (encTs (S.map fun c => [c])) (encTs (S.map fun c => [c])) = true := eqv_strs.mpr rfl
    show Q (.bl (PyData.eqv (encTs (S.map fun c => [c])) (encTs (S.map fun c => [c])))) _
    rw [ev]
    refine q _ (e1.trans ?_)
    exact ((same_upd np).trans (same_upd np2)).trans (same_upd np3)
end
end LK

namespace LK
open PySem PySem.Spec PyProof.Rows L2 LamX
open scoped List
theorem ty_sq {K : PySem.W.Frag} {tp : Bool} {H : Hp} {a : Addr} {xs : List V} (h : SqB K tp H a xs) : TyX K H (.ref a) (.type (if tp then "tuple" else "list")) := by
  cases tp
  · rcases h with (h | ⟨o, h⟩) | ⟨o, is, n, h1, h2, h3, _⟩
    · exact .base (.lst h)
    · exact .base (.frz h)
    · exact .kList h1 h2
  · rcases h with (h | ⟨o, h⟩) | ⟨o, is, n, h1, h2, h3, _⟩
    · exact .base (.tup h)
    · exact .fTuple h
    · exact .kTuple h1 h2
theorem SqB.ext {K : PySem.W.Frag} {tp : Bool} {H H' : Hp} {a : Addr} {xs : List V} (h : SqB K tp H a xs) (e : Same H H') : SqB K tp H' a xs := by
  cases tp
  · rcases h with (h | ⟨o, h⟩) | h
    · exact .inl (.inl (e _ _ h))
    · exact .inl (.inr ⟨o, e _ _ h⟩)
    · exact .inr h
  · rcases h with (h | ⟨o, h⟩) | h
    · exact .inl (.inl (e _ _ h))
    · exact .inl (.inr ⟨o, e _ _ h⟩)
    · exact .inr h
theorem SqB.or {K : PySem.W.Frag} {tp : Bool} {H : Hp} {a : Addr} {xs : List V} (h : SqB K tp H a xs) : SqL K H a xs ∨ SqT K H a xs := by
  cases tp
  · exact .inl h
  · exact .inr h
section
variable {P : Program} {w : World} {K : PySem.W.Frag} {mg : Str → Option Value} {base : Heap}
theorem scNeedText : FnScope ["value", "letters"] ["value", "letters"] (defScope sNeedText) := ⟨rfl, rfl, rfl, by decide +kernel, rfl, by decide +kernel, by decide +kernel⟩
def spNeedText : Sp := fun vs H Q _ => ∃ S l, vs = [.str (T l), .str (T S)] ∧ (∀ c ∈ l, c ∈ S) ∧ l.length ≤ 1000000 ∧ ∀ H', Same H H' → Q .non H'
theorem ok_needText {f : Addr} {fd : FuncData} {k : Nat} (F : Fun K "need_text" "need_text" sNeedText f fd) (HO : Has P w K mg base k "is_over" ["value", "letters"] (spIsOver K)) :
    FnG P w K mg base CX0 (k + 1) f fd ["value", "letters"] spNeedText := by
  refine okG F scNeedText (fun vs H Q E h => ?_) (fun cdv A hA outer s H vs Q E hr h => ?_)
  · obtain ⟨S, l, rfl, _⟩ := h; rfl
  · obtain ⟨S, l, rfl, hs, hl, q⟩ := h
    refine ⟨_, pss_one (ps_ifU (pt_not (pt_u (pe_callH HO hA hr (by rfl) (pa_cons (uv 0) (pa_cons (uv 1) pa_nil))))) (pss_one ps_never) pss_nil), ?_⟩
    refine ⟨S, _, rfl, .inl ⟨l, rfl, hl, fun H' e => ?_⟩⟩
    exact .nd (fun z => (z hs).elim) fun _ => q H' e
theorem scIsPlace : FnScope ["value", "many"] ["value", "many"] (defScope sIsPlace) := ⟨rfl, rfl, rfl, by decide +kernel, rfl, by decide +kernel, by decide +kernel⟩
def spIsPlace : Sp := fun vs H Q _ => ∃ (g n : Nat), vs = [.int g, .int n] ∧ g < n ∧ Q (.bl true) H
theorem ok_isPlace {f : Addr} {fd : FuncData} {k : Nat} (F : Fun K "is_place" "is_place" sIsPlace f fd) (HI : Has P w K mg base k "is_integer" ["value"] spIsInt) :
    FnG P w K mg base CX0 (k + 1) f fd ["value", "many"] spIsPlace := by
  refine okG F scIsPlace (fun vs H Q E h => ?_) (fun cdv A hA outer s H vs Q E hr h => ?_)
  · obtain ⟨g, n, rfl, _⟩ := h; rfl
  · obtain ⟨g, n, rfl, hg, q⟩ := h
    refine ⟨_, pss_one (ps_ret (pe_andU (pe_callH HI hA hr (by rfl) (pa_cons (uv 0) pa_nil)) (pe_one (pe_ch o_le o_lt pe_int (uv 0) (uv 1))))), ?_⟩
    refine ⟨_, rfl, .yes ⟨fun _ => ?_, fun z => ?_⟩⟩
    · have e : decide ((g : Int) < (n : Int)) = true := decide_eq_true (by omega)
      show Q (.bl (decide ((g : Int) < (n : Int)))) H
      rw [e]; exact q
    · have z : decide ((0 : Int) ≤ (g : Int)) = false := z
      rw [decide_eq_true (by omega)] at z; cases z
theorem scIsRow : FnScope ["value", "many_letters", "many_places", "goal"] ["value", "many_letters", "many_places"] (defScope sIsRow) := ⟨rfl, rfl, rfl, by decide +kernel, rfl, by decide +kernel, by decide +kernel⟩
def spIsRow (K : PySem.W.Frag) : Sp := fun vs H Q _ => ∃ (a : Addr) (n m : Nat) (row : List Nat) (tp : Bool), vs = [.ref a, .int m, .int n] ∧ SqB K tp H a (iv row) ∧ row.length = m ∧ m ≤ 100 ∧ (∀ g ∈ row, g < n) ∧ ∀ H', Same H H' → Q (.bl true) H'
theorem ok_isRow {f : Addr} {fd : FuncData} {k : Nat} (F : Fun K "_is_row" "_is_row" sIsRow f fd) (M : Mx mg) (HP : Has P w K mg base k "is_place" ["value", "many"] spIsPlace) :
    FnG P w K mg base CX0 (k + 1) f fd ["value", "many_letters", "many_places"] (spIsRow K) := by
  refine okG F scIsRow (fun vs H Q E h => ?_) (fun cdv A hA outer s H vs Q E hr h => ?_)
  · obtain ⟨a, n, m, row, tp, rfl, _⟩ := h; rfl
  · obtain ⟨a, n, m, row, tp, rfl, hs, hm, hm2, hg, q⟩ := h
    refine ⟨_, pss_cons (ps_ifU (PW.pt (pw_orU (pt_not (pt_u (pe_callB call_isiT (by rfl) M.isi b_isi (pa_cons (uv 0) (pa_cons (pe_tup (pa_cons (pe_bltn (by rfl) M.list b_list (v := .ty "list") (by rfl)) (pa_cons (pe_bltn (by rfl) M.tuple b_tuple (v := .ty "tuple") (by rfl)) pa_nil))) pa_nil)))))
          (pw_or1 (pt_cu (o_ne hr.units) (pe_callB c_len (by rfl) M.len b_len (pa_cons (uv 0) pa_nil)) (uv 1)))))
        (pss_one (ps_ret pe_bl)) pss_nil)
      (pss_one (ps_ret (pe_callB (c_all rfl) (by rfl) M.all b_all (pa_cons (pe_lc (own := [("goal", 3)]) (g := gName 3) (tt := tYes) rfl scIsRow.nd (pi_sq (uv 0)) (blkOk_by (N := ["value", "many_letters", "many_places", "goal"]) (sc := defScope sIsRow) (by decide +kernel))
        (fun _ _ _ _ _ => pg_name (i := 3) scIsRow.nd rfl (Or.inl rfl)) (fun _ _ _ _ _ => pts_nil)
        (fun _ _ _ _ _ => pe_callH HP hA hr (by rfl) (pa_cons (uv 3) (pa_cons (uv 2) pa_nil)))) pa_nil)))), ?_⟩
    refine ⟨by show 2 ≤ sizeLine; decide, fun p np => ?_⟩
    have hs1 : SqB K tp (upd H p (.tup [.ty "list", .ty "tuple"])) a (iv row) := hs.ext (same_upd np)
    refine ⟨_, p, _, _, [.type "list", .type "tuple"], true, rfl, upd_same, .cons (.ty _) (.cons (.ty _) .nil), ty_sq hs1, ?_, .no ?_⟩
    · cases tp
      · rfl
      · rfl
    refine .inl ⟨iv row, hs1.or, ?_⟩
    have e : decide (((iv row).length : Int) = (m : Int)) = true := decide_eq_true (by rw [List.length_map]; omega)
    show Br (!decide (((iv row).length : Int) = (m : Int))) _ _
    rw [e]
    refine .no ?_
    dsimp only [tNext, tRet, tCB, tCons]
    refine lc_sq (K := K) (t := uVar 0) (a := a) (xs := iv row) (tp := tp) (H1 := upd H p (.tup [.ty "list", .ty "tuple"])) (by exact fun _ h => h) hs1 (fun D pre acc H1 => H1 = upd (upd H p (.tup [.ty "list", .ty "tuple"])) D (.lst acc) ∧ acc = (pre.map fun _ => true).map V.bl ∧ upd H p (.tup [.ty "list", .ty "tuple"]) D = none)
      (fun D pre acc H1 r => by obtain ⟨rfl, _, n⟩ := r; exact hs1.ext (same_upd n)) (fun D nD => ⟨rfl, rfl, nD⟩) (fun D nD pre acc x suf H1 e r => ?_) (fun D nD acc H1 r => ?_)
    · obtain ⟨rfl, rfl, _⟩ := r
      obtain ⟨p1, q1, e1, e2, e3⟩ := List.map_eq_append_iff.mp e
      obtain ⟨g, q2, e4, e5, e6⟩ := List.map_eq_cons_iff.mp e3
      subst e5
      refine ⟨rfl, g, n, rfl, hg g (by rw [e1, e4]; simp), _, upd_same, ?_, _, upd_upd, ?_, nD⟩
      · have l1 : pre.length < (iv row).length := by rw [e]; simp
        rw [List.length_map] at l1
        rw [List.length_map, List.length_map]
        have := sizeLine_eq; omega
      · rw [List.map_append, List.map_append]; rfl
    · obtain ⟨rfl, rfl, _⟩ := r
      refine ⟨_, .inl (.inl upd_same), ?_⟩
      have e : (((iv row).map fun _ => true).all id) = true := by simp
      show Q (.bl (((iv row).map fun _ => true).all id)) _
      rw [e]
      exact q _ ((same_upd np).trans (same_upd nD))
end
end LK

namespace LK
open PySem PySem.Spec PyProof.Rows L2 LamX ClX
open scoped List
/-- rows as they are passed: a list or tuple of lists or tuples -/
def RowsAt (K : PySem.W.Frag) (H : Hp) (a : Addr) (R : Rows) : Prop := ∃ (tp : Bool) (rs : List Addr), SqB K tp H a (rs.map V.ref) ∧ rs.length = R.length ∧ ∀ i p, rs[i]? = some p → ∃ t2, SqB K t2 H p (iv (gls R i))
def KindsAt (K : PySem.W.Frag) (H : Hp) (a : Addr) (Kd : List Bool) : Prop := ∃ tp : Bool, SqB K tp H a (Kd.map V.bl)
theorem RowsAt.ext {K : PySem.W.Frag} {H H' : Hp} {a : Addr} {R : Rows} (h : RowsAt K H a R) (e : Same H H') : RowsAt K H' a R := by
  obtain ⟨tp, rs, h1, h2, h3⟩ := h
  exact ⟨tp, rs, h1.ext e, h2, fun i p hp => by
    obtain ⟨t2, h⟩ := h3 i p hp
    exact ⟨t2, h.ext e⟩⟩
theorem KindsAt.ext {K : PySem.W.Frag} {H H' : Hp} {a : Addr} {Kd : List Bool} (h : KindsAt K H a Kd) (e : Same H H') : KindsAt K H' a Kd := by
  obtain ⟨tp, h⟩ := h; exact ⟨tp, h.ext e⟩
/-- a right sheet -/
structure ShOk (S : List Nat) (R : Rows) (Kd : List Bool) : Prop where
  let_ : LetOk S
  rows : RowsOk R S.length
  lo : 1 ≤ R.length
  hi : R.length ≤ 40
  kinds : Kd.length = R.length
section
variable {P : Program} {w : World} {K : PySem.W.Frag} {mg : Str → Option Value} {base : Heap}
theorem scNeedParts : FnScope ["letters", "rows", "kinds", "position", "row", "kind"] ["letters", "rows", "kinds"] (defScope sNeedParts) := ⟨rfl, rfl, rfl, by decide +kernel, rfl, by decide +kernel, by decide +kernel⟩
def spNeedParts (K : PySem.W.Frag) : Sp := fun vs H Q _ => ∃ (r k : Addr) (S : List Nat) (R : Rows) (Kd : List Bool), vs = [.str (T S), .ref r, .ref k] ∧ ShOk S R Kd ∧ RowsAt K H r R ∧ KindsAt K H k Kd ∧ ∀ H', Same H H' → Q .non H'
theorem ok_needParts {f CM : Addr} {mc u : Value} {fd : FuncData} {k : Nat} (F : Fun K "_need_parts" "_need_parts" sNeedParts f fd) (M : Mx mg) (HL : Has P w K mg base k "are_letters" ["value"] spAreLet)
    (HR : Has P w K mg base k "_is_row" ["value", "many_letters", "many_places"] (spIsRow K)) (gM : mg "Machine" = some (.ref CM)) (cr : CRead K CM mc) (cv : CVal K CM mc "MOST_PLACES" (.int 40) u) :
    FnG P w K mg base CX0 (k + 1) f fd ["letters", "rows", "kinds"] (spNeedParts K) := by
  refine okG F scNeedParts (fun vs H Q E h => ?_) (fun cdv A hA outer s H vs Q E hr h => ?_)
  · obtain ⟨r, k, S, R, Kd, rfl, _⟩ := h; rfl
  · obtain ⟨r, k, S, R, Kd, rfl, ok, hR, hK, q⟩ := h
    have nd := scNeedParts.nd
    refine ⟨_, pss_cons (ps_ifU (pt_not (pt_u (pe_callH HL hA hr (by rfl) (pa_cons (uv 0) pa_nil)))) (pss_one ps_never) pss_nil)
      (pss_cons (ps_ifU (PW.pt (pw_orU (pt_not (pt_u (pe_callB call_isiT (by rfl) M.isi b_isi (pa_cons (uv 1) (pa_cons (pe_tup (pa_cons (pe_bltn (by rfl) M.list b_list (v := .ty "list") (by rfl)) (pa_cons (pe_bltn (by rfl) M.tuple b_tuple (v := .ty "tuple") (by rfl)) pa_nil))) pa_nil)))))
          (pw_or1 (pt_cu (o_eq hr.units) (pe_callB c_len (by rfl) M.len b_len (pa_cons (uv 1) pa_nil)) pe_int)))) (pss_one ps_never) pss_nil)
      (pss_cons (ps_for PassesOwn.never rfl (pi_enumB (by rfl) M.enumerate (pa_cons (uv 1) pa_nil)) (pg_tup rfl (pgs_cons (pg_name (i := 3) nd rfl (.inl rfl)) (pgs_cons (pg_name (i := 4) nd rfl (.inl rfl)) pgs_nil)))
        (pss_one (ps_ifU (pt_not (pt_u (pe_callH HR hA hr (by rfl) (pa_cons (uv 4) (pa_cons (pe_callB c_len (by rfl) M.len b_len (pa_cons (uv 0) pa_nil)) (pa_cons (pe_callB c_len (by rfl) M.len b_len (pa_cons (uv 1) pa_nil)) pa_nil)))))) (pss_one ps_never) pss_nil)))
      (pss_cons (ps_ifU (PW.pt (pw_orU (pt_not (pt_u (pe_callB call_isiT (by rfl) M.isi b_isi (pa_cons (uv 2) (pa_cons (pe_tup (pa_cons (pe_bltn (by rfl) M.list b_list (v := .ty "list") (by rfl)) (pa_cons (pe_bltn (by rfl) M.tuple b_tuple (v := .ty "tuple") (by rfl)) pa_nil))) pa_nil)))))
          (pw_or1 (pt_cu (o_ne hr.units) (pe_callB c_len (by rfl) M.len b_len (pa_cons (uv 2) pa_nil)) (pe_callB c_len (by rfl) M.len b_len (pa_cons (uv 1) pa_nil)))))) (pss_one ps_never) pss_nil)
      (pss_cons (ps_for PassesOwn.never rfl (pi_enumB (by rfl) M.enumerate (pa_cons (uv 2) pa_nil)) (pg_tup rfl (pgs_cons (pg_name (i := 3) nd rfl (.inl rfl)) (pgs_cons (pg_name (i := 5) nd rfl (.inl rfl)) pgs_nil)))
        (pss_one (ps_ifU (pt_not (pt_u (pe_callB call_isi (by rfl) M.isi b_isi (pa_cons (uv 5) (pa_cons (pe_bltn (by rfl) M.bool b_bool (v := .ty "bool") (by rfl)) pa_nil))))) (pss_one ps_never) pss_nil)))
      (pss_one (ps_ifU (pt_cu o_gt (pe_callB c_len (by rfl) M.len b_len (pa_cons (uv 1) pa_nil)) (pe_cval (pe_glob (v := .ref CM) (by rfl) gM rfl))) (pss_one ps_never) pss_nil)))))), ?_⟩
    have lo := ok.lo
    have hi := ok.hi
    have sl := sizeLine_eq
    refine ⟨S, rfl, ok.let_, fun H1 e1 => .no ?_⟩
    refine ⟨by show 2 ≤ sizeLine; decide, fun p np => ?_⟩
    have e2 := e1.trans (same_upd (o := .tup [.ty "list", .ty "tuple"]) np)
    obtain ⟨tp, rs, hs, hl, hrow⟩ := hR.ext e2
    refine ⟨_, p, _, _, [.type "list", .type "tuple"], true, rfl, upd_same, .cons (.ty _) (.cons (.ty _) .nil), ty_sq hs, by cases tp <;> rfl, .no ?_⟩
    refine .inl ⟨rs.map V.ref, hs.or, ?_⟩
    have n0 : decide (((rs.map V.ref).length : Int) = 0) = false := decide_eq_false (by rw [List.length_map]; omega)
    show Br (decide (((rs.map V.ref).length : Int) = 0)) _ _
    rw [n0]
    refine .no ?_
    dsimp only [tNext, tSeq]
    have look : ∀ {H2 : Hp}, Same (upd H1 p (.tup [.ty "list", .ty "tuple"])) H2 → SqB K tp H2 r (rs.map V.ref) ∧ ∀ i q, rs[i]? = some q → ∃ t2, SqB K t2 H2 q (iv (gls R i)) := fun e => ⟨hs.ext e, fun i q hq => by
      obtain ⟨t2, h⟩ := hrow i q hq
      exact ⟨t2, h.ext e⟩⟩
    generalize upd H1 p (.tup [.ty "list", .ty "tuple"]) = Ha at e2 hs hrow look
    refine for_enB (K := K) (tp := tp) (a := r) (xs := rs.map V.ref) (H1 := Ha) (by exact fun _ h => h) hs (fun i σ H2 => Same Ha H2 ∧ ∃ y3 y4, σ = [some (.str (T S)), some (.ref r), some (.ref k), y3, y4, none]) (fun i σ H2 iv => (look iv.1).1) ⟨Same.refl _, none, none, rfl⟩ (fun i x p2 σ H2 hx iv np2 => ?_) (fun σ H2 iv => ?_)
    · obtain ⟨e3, y3, y4, rfl⟩ := iv
      rw [List.getElem?_map] at hx
      obtain ⟨q2, hq2, rfl⟩ := Option.map_eq_some_iff.mp hx
      have e4 := e3.trans (same_upd (o := .tup [.int (i : Nat), .ref q2]) np2)
      obtain ⟨hs3, hrow3⟩ := look e4
      obtain ⟨t2, hq3⟩ := hrow3 i q2 hq2
      have li : i < R.length := by
        have := (List.getElem?_eq_some_iff.mp hq2).1
        omega
      refine ⟨p2, _, rfl, .inl (.inl upd_same), rfl, _, _, rfl, _, _, rfl, rfl, ?_⟩
      refine ⟨by show S.length ≤ sizeLine; have := ok.let_.hi; omega, .inl ⟨rs.map V.ref, hs3.or, ?_⟩⟩
      have e5 : (rs.map V.ref).length = R.length := by rw [List.length_map, hl]
      refine ⟨q2, (rs.map V.ref).length, S.length, gls R i, t2, rfl, hq3, gls_len ok.rows li, by have := ok.let_.hi; omega, fun g hg => by rw [e5]; exact gls_lt ok.rows hg, fun H3 e6 => .no ?_⟩
      exact ⟨e4.trans e6, _, _, rfl⟩
    obtain ⟨e3, y3, y4, rfl⟩ := iv
    refine ⟨by show 2 ≤ sizeLine; decide, fun p2 np2 => ?_⟩
    have e4 := e3.trans (same_upd (o := .tup [.ty "list", .ty "tuple"]) np2)
    obtain ⟨tk, hk⟩ := hK.ext (e2.trans e4)
    refine ⟨_, p2, _, _, [.type "list", .type "tuple"], true, rfl, upd_same, .cons (.ty _) (.cons (.ty _) .nil), ty_sq hk, by cases tk <;> rfl, .no ?_⟩
    have e5 : (rs.map V.ref).length = R.length := by rw [List.length_map, hl]
    refine .inl ⟨Kd.map V.bl, hk.or, .inl ⟨rs.map V.ref, (look e4).1.or, ?_⟩⟩
    have n1 : decide (((Kd.map V.bl).length : Int) = ((rs.map V.ref).length : Int)) = true := decide_eq_true (by rw [e5, List.length_map, ok.kinds])
    show Br (!decide (((Kd.map V.bl).length : Int) = ((rs.map V.ref).length : Int))) _ _
    rw [n1]
    refine .no ?_
    generalize upd H2 p2 (.tup [.ty "list", .ty "tuple"]) = Hb at e4 hk
    dsimp only [tNext, tSeq]
    refine for_enB (K := K) (tp := tk) (a := k) (xs := Kd.map V.bl) (H1 := Hb) (by exact fun _ h => h) hk (fun i σ H2 => Same Hb H2 ∧ ∃ y3 y4 y5, σ = [some (.str (T S)), some (.ref r), some (.ref k), y3, y4, y5]) (fun i σ H2 iv => hk.ext iv.1) ⟨Same.refl _, _, _, _, rfl⟩ (fun i x p3 σ H3 hx iv np3 => ?_) (fun σ H3 iv => ?_)
    · obtain ⟨e6, y3, y4, y5, rfl⟩ := iv
      rw [List.getElem?_map] at hx
      obtain ⟨b, _, rfl⟩ := Option.map_eq_some_iff.mp hx
      refine ⟨p3, _, rfl, .inl (.inl upd_same), rfl, _, _, rfl, _, _, rfl, rfl, ?_⟩
      refine ⟨_, _, _, _, true, rfl, .ty _, .base (.bl _), rfl, .no ?_⟩
      exact ⟨e6.trans (same_upd np3), _, _, _, rfl⟩
    obtain ⟨e6, y3, y4, y5, rfl⟩ := iv
    refine .inl ⟨rs.map V.ref, (look (e4.trans e6)).1.or, ?_⟩
    refine ⟨CM, mc, _, u, rfl, cr, cv, ?_⟩
    have n2 : decide ((40 : Int) < ((rs.map V.ref).length : Int)) = false := decide_eq_false (by rw [e5]; omega)
    show Br (decide ((40 : Int) < ((rs.map V.ref).length : Int))) _ _
    rw [n2]
    exact .no (q H3 (e2.trans (e4.trans e6)))
end
end LK

/-! dicts with whole numbers as keys -/
namespace LK
open PySem PySem.Spec PyProof.Rows L2 LamX
open scoped List
abbrev kI (g : Nat) : Key := .inl (g : Int)
abbrev kmp (ps : List (Nat × V)) : List (Key × V) := ps.map fun p => (kI p.1, p.2)
theorem kI_iff {a b : Nat} : kI a = kI b ↔ a = b := ⟨fun h => by have := Sum.inl.inj h; omega, fun h => h ▸ rfl⟩
theorem val_kmp (g : Nat) : ∀ ps : List (Nat × V), valV (kmp ps) (kI g) = ps.lookup g
  | [] => rfl
  | (a, v) :: ps => by
    have ih := val_kmp g ps
    by_cases e : a = g
    · subst e
      rw [List.lookup_cons_self]
      exact valV_pos (p := (kI a, v)) rfl
    · rw [List.lookup_cons]
      have : (g == a) = false := by simpa using fun z => e z.symm
      rw [this]
      exact (valV_neg (p := (kI a, v)) fun z => e (kI_iff.mp z)).trans ih
theorem look_none {ps : List (Nat × V)} {g : Nat} : ps.lookup g = none ↔ g ∉ ps.map (·.1) := by
  induction ps with
  | nil => simp
  | cons p ps ih =>
    rw [List.lookup_cons, List.map_cons, List.mem_cons]
    by_cases e : g = p.1
    · subst e; simp
    · have : (g == p.1) = false := by simpa using e
      rw [this]
      simp [ih, e]
theorem look_isSome {ps : List (Nat × V)} {g : Nat} : (ps.lookup g).isSome = decide (g ∈ ps.map (·.1)) := by
  by_cases h : g ∈ ps.map (·.1)
  · rw [decide_eq_true h]
    cases e : ps.lookup g with
    | none => exact absurd h (look_none.mp e)
    | some v => rfl
  · rw [decide_eq_false h, look_none.mpr h]; rfl
theorem put_kmp {ps : List (Nat × V)} {g : Nat} (v : V) (h : g ∉ ps.map (·.1)) : putK (kmp ps) (kI g) v = kmp (ps ++ [(g, v)]) := by
  rw [putK_new v (by rw [val_kmp]; exact look_none.mpr h), kmp, kmp, List.map_append]; rfl
/-- places by the numbers under which they were met -/
def nums (f : List Nat) : List (Nat × V) := f.zipIdx.map fun p => (p.1, V.int (p.2 : Nat))
theorem nums_keys (f : List Nat) : (nums f).map (·.1) = f := by
  unfold nums
  rw [List.map_map]
  show f.zipIdx.map Prod.fst = f
  exact List.zipIdx_map_fst 0 f
theorem nums_len (f : List Nat) : (nums f).length = f.length := by simp [nums]
theorem nums_app (f : List Nat) (g : Nat) : nums (f ++ [g]) = nums f ++ [(g, V.int (f.length : Nat))] := by
  unfold nums
  rw [List.zipIdx_append, List.map_append]
  simp
theorem nums_look {f : List Nat} {g : Nat} (nd : f.Nodup) (h : g ∈ f) : (nums f).lookup g = some (.int (f.idxOf g : Nat)) := by
  have key : ∀ (f : List Nat) (k : Nat), g ∈ f → ((f.zipIdx k).map fun p => (p.1, V.int (p.2 : Nat))).lookup g = some (.int ((k + f.idxOf g : Nat) : Int)) := by
    intro f
    induction f with
    | nil => intro k h; cases h
    | cons a f ih =>
      intro k h
      rw [List.zipIdx_cons, List.map_cons]
      by_cases e : g = a
      · subst e; rw [List.lookup_cons_self]; simp
      · rw [List.lookup_cons]
        have : (g == a) = false := by simpa using e
        rw [this]
        have hm : g ∈ f := (List.mem_cons.mp h).resolve_left e
        have := ih (k + 1) hm
        have e2 : (a :: f).idxOf g = f.idxOf g + 1 := by
          rw [List.idxOf_cons]
          have : (a == g) = false := by simpa using fun z => e z.symm
          rw [this]; rfl
        rw [this, e2]
        show some (V.int ((k + 1 + f.idxOf g : Nat) : Int)) = some (V.int ((k + (f.idxOf g + 1) : Nat) : Int))
        rw [show k + 1 + f.idxOf g = k + (f.idxOf g + 1) by omega]
  have := key f 0 h
  rw [Nat.zero_add] at this
  exact this
/-- a loop with while, its turns numbered down -/
theorem wh {c : TT} {tb : TS} {D : Ends} {σ : L2.St} {H : Hp} (W : Nat → L2.St → Hp → Prop) {m0 : Nat} (h0 : W m0 σ H)
    (hs : ∀ m σ H, W m σ H → c σ H fun b H1 => if b = true then tb { D with nx := fun σ' H' => ∃ m', m' < m ∧ W m' σ' H', ct := fun σ' H' => ∃ m', m' < m ∧ W m' σ' H', bk := D.nx } σ H1 else D.nx σ H1)
    (mono : ∀ σ H Q Q', (∀ b H1, Q b H1 → Q' b H1) → c σ H Q → c σ H Q') : tWhile c tb D σ H := by
  refine ⟨W, ⟨m0, h0⟩, fun m σ H w => mono σ H _ _ (fun b H1 q => ?_) (hs m σ H w)⟩
  cases b with
  | true => exact ⟨_, fun σ' H' z => z, q⟩
  | false => exact q
end LK

namespace LK
open PySem PySem.Spec PyProof.Rows L2 LamX ClX
open scoped List
theorem iv_app (a b : List Nat) : iv (a ++ b) = iv a ++ iv b := List.map_append
theorem iv_inj {a b : List Nat} (h : iv a = iv b) : a = b := (List.map_inj_right fun x y z => by have := V.int.inj z; omega).mp h
theorem adds_app {f gs : List Nat} {g : Nat} : adds f (gs ++ [g]) = add1 (adds f gs) g := by unfold adds; rw [List.foldl_append]; rfl
theorem adds_len {R : Rows} {m s i p : Nat} {gs rest : List Nat} (ok : RowsOk R m) (hs : s < R.length) (e : gls R p = gs ++ rest) : (adds (fnd R s i) gs).length ≤ R.length :=
  len_le_of_lt (nd_adds (fnd_nd i)) fun x hx => by
    rcases mem_adds.mp hx with h | h
    · exact fnd_lt ok hs i x h
    · exact gls_lt ok (p := p) (by rw [e]; simp [h])
section
variable {P : Program} {w : World} {K : PySem.W.Frag} {mg : Str → Option Value} {base : Heap}
theorem scMetFrom : FnScope ["rows", "start", "numbers", "row", "longer", "place", "goal"] ["rows", "start"] (defScope sMetFrom) := ⟨rfl, rfl, rfl, by decide +kernel, rfl, by decide +kernel, by decide +kernel⟩
def spMetFrom (K : PySem.W.Frag) : Sp := fun vs H Q _ => ∃ (r : Addr) (s m : Nat) (R : Rows), vs = [.ref r, .int s] ∧ RowsAt K H r R ∧ RowsOk R m ∧ s < R.length ∧ R.length ≤ 1000 ∧
  ∀ H' D, Same H H' → H D = none → H' D = some (.dK (kmp (nums (met R s)))) → Q (.ref D) H'
theorem ok_metFrom {f : Addr} {fd : FuncData} {k : Nat} (F : Fun K "_met_from" "_met_from" sMetFrom f fd) (M : Mx mg) : FnG P w K mg base CX0 (k + 1) f fd ["rows", "start"] (spMetFrom K) := by
  refine okG F scMetFrom (fun vs H Q E h => ?_) (fun cdv A hA outer s H vs Q E hr h => ?_)
  · obtain ⟨r, s0, m, R, rfl, _⟩ := h; rfl
  · obtain ⟨r, s0, m, R, rfl, hR, ok, hs, hn, q⟩ := h
    have nd := scMetFrom.nd
    have sl := sizeLine_eq
    refine ⟨_, pss_cons (ps_set (i := 2) nd rfl (.inl rfl) (pe_disp (pps_cons (uv 1) pe_int pps_nil) (by rfl) (by rfl) (fun z => by cases z) (by decide)))
      (pss_cons (ps_set (i := 3) nd rfl (.inl rfl) (pe_lst (pa_cons (uv 1) pa_nil)))
      (pss_cons (ps_while PassesOwn.never (pt_truth (uv 3) (by intro _; rfl))
        (pss_cons (ps_set (i := 4) nd rfl (.inl rfl) (pe_lst pa_nil))
        (pss_cons (ps_for PassesOwn.never rfl (pi_list (uv 3)) (pg_name (i := 5) nd rfl (.inl rfl))
          (pss_one (ps_for PassesOwn.never rfl (pi_sq (pe_ixU (uv 0) (uv 5))) (pg_name (i := 6) nd rfl (.inl rfl))
            (pss_one (ps_ifU (pt_cmp (pc_dnotin (Room.u1 hr) (uv 6) (uv 2)))
              (pss_cons (ps_dput (Room.u1 hr) (uv 2) (uv 6) (pe_callB c_len (by rfl) M.len b_len (pa_cons (uv 2) pa_nil)) rfl)
              (pss_one (ps_expr (pe_bm PySem.F.plainAttrs_list PySem.F.slot_list_append PySem.F.type_list_append mt_append (uv 4) (pa_cons (uv 6) pa_nil))))) pss_nil)))))
        (pss_one (ps_set (i := 3) nd rfl (.inl rfl) (uv 4))))))
      (pss_one (ps_ret (uv 2))))), ?_⟩
    obtain ⟨tp, rs, hs', hl', hrow'⟩ := hR
    intro D nD
    refine ⟨upd_same, [(kI s0, .int 0)], rfl, by show 1 ≤ 15; omega, ?_⟩
    refine ⟨by show 1 ≤ sizeLine; omega, fun L nL => ?_⟩
    have eD : upd (upd H D (.dK [])) D (.dK (mergeK [] [(kI s0, V.int 0)])) = upd H D (.dK (kmp (nums (fnd R s0 0)))) := by rw [upd_upd]; rfl
    rw [eD] at nL ⊢
    have hLD : L ≠ D := fun e => by rw [e, upd_same] at nL; cases nL
    have sD : Same H (upd H D (.dK (kmp (nums (fnd R s0 0))))) := same_upd nD
    have nLH : H L = none := Same.free sD nL
    dsimp only [tSeq, tAsg, gName]
    show tWhile _ _ _ _ _
    refine wh (m0 := R.length) (fun mm σ H2 => ∃ i L y4 y5 y6, mm = R.length - i ∧ i ≤ (fnd R s0 i).length ∧ Same H H2 ∧ H2 D = some (.dK (kmp (nums (fnd R s0 i)))) ∧ H2 L = some (.lst (iv ((fnd R s0 i).drop i))) ∧ H L = none ∧ L ≠ D ∧
      σ = [some (.ref r), some (.int s0), some (.ref D), some (.ref L), y4, y5, y6]) ⟨0, L, none, none, none, rfl, Nat.zero_le _, same_upd2 sD nLH, by rw [upd_ne hLD.symm]; exact upd_same, upd_same, nLH, hLD, rfl⟩ (fun mm σ H2 iv2 => ?_) (fun σ H Q Q' hm h => ?_)
    case refine_2 =>
      simp only [uVar] at h ⊢
      split at h
      · obtain ⟨kk, a, b⟩ := h; exact ⟨kk, a, hm _ _ b⟩
      · exact h.elim
    clear nL hLD sD nLH eD L
    obtain ⟨i, L, y4, y5, y6, rfl, hi, e2, hD, hL, nL, hLD, rfl⟩ := iv2
    have hf := fnd_len ok hs i
    generalize hfe : fnd R s0 i = fi at hi hD hL hf
    by_cases hlt : fi.length ≤ i
    · have e3 : fi.drop i = [] := List.drop_eq_nil_iff.mpr hlt
      refine ⟨false, .inl ⟨_, .inl (.inl hL), by rw [e3]; rfl⟩, ?_⟩
      have em : fi = met R s0 := by rw [← hfe]; exact fnd_met ok hs (by rw [hfe]; exact hlt)
      rw [em] at hD
      show (if false = true then _ else _)
      rw [if_neg Bool.false_ne_true]
      exact q _ _ e2 nD hD
    have e3 : (!(iv (fi.drop i)).isEmpty) = true := by
      have : fi.drop i ≠ [] := fun z => hlt (List.drop_eq_nil_iff.mp z)
      cases h : fi.drop i with
      | nil => exact absurd h this
      | cons _ _ => rfl
    refine ⟨true, .inl ⟨_, .inl (.inl hL), e3.symm⟩, ?_⟩
    show (if true = true then _ else _)
    rw [if_pos rfl]
    refine ⟨by show 0 ≤ sizeLine; omega, fun B nB => ?_⟩
    have hBD : B ≠ D := fun e => by rw [e, hD] at nB; cases nB
    have hBL : B ≠ L := fun e => by rw [e, hL] at nB; cases nB
    have nBH : H B = none := Same.free e2 nB
    dsimp only [tNext, tSeq]
    refine for_list (K := K) (a := L) (xs := iv (fi.drop i)) (H1 := upd H2 B (.lst [])) (by exact fun _ h => h) (.inl (.inl (by rw [upd_ne hBL.symm]; exact hL))) (fun pre σ H3 => ∃ j y5 y6, pre = iv ((fi.drop i).take j) ∧ j ≤ (fi.drop i).length ∧ Same H H3 ∧
        H3 D = some (.dK (kmp (nums (fnd R s0 (i + j))))) ∧ H3 L = some (.lst (iv (fi.drop i))) ∧ H3 B = some (.lst (iv ((fnd R s0 (i + j)).drop fi.length))) ∧ σ = [some (.ref r), some (.int s0), some (.ref D), some (.ref L), some (.ref B), y5, y6])
      (fun pre σ H3 h => ?_) ⟨0, y5, y6, rfl, Nat.zero_le _, same_upd2 e2 nBH, ?_, ?_, ?_, rfl⟩ (fun pre x suf σ H3 ex h => ?_) (fun σ H3 h => ?_)
    · obtain ⟨_, _, _, _, _, _, _, h, _⟩ := h; exact .inl (.inl h)
    · rw [upd_ne hBD.symm]; show _ = some (HO.dK (kmp (nums (fnd R s0 (i + 0))))); rw [Nat.add_zero, hfe]; exact hD
    · rw [upd_ne hBL.symm]; exact hL
    · rw [upd_same, Nat.add_zero, hfe, List.drop_length]; rfl
    · obtain ⟨j, y5, y6, rfl, hj, e4, hD4, hL4, hB4, rfl⟩ := h
      have lj : (iv ((fi.drop i).take j)).length = j := by rw [List.length_map, List.length_take]; omega
      have hj2 : j < (fi.drop i).length := by
        have := congrArg List.length ex
        rw [List.length_append, lj, List.length_map, List.length_cons] at this
        omega
      have hx : (iv (fi.drop i))[j]? = some x := by
        rw [ex, List.getElem?_append_right (by omega), lj, Nat.sub_self]; rfl
      rw [List.getElem?_map, List.getElem?_eq_getElem hj2] at hx
      have hx := (Option.some.inj hx).symm
      subst hx
      have hp0 : fi[i + j]? = some (fi.drop i)[j] := by rw [← List.getElem?_drop]; exact List.getElem?_eq_getElem hj2
      generalize (fi.drop i)[j] = p at hp0 ex ⊢
      have hp : (fnd R s0 (i + j))[i + j]? = some p := by
        obtain ⟨t, et⟩ := fnd_pre (R := R) (s := s0) (i := i) (j := i + j) (by omega)
        rw [← et, hfe, List.getElem?_append_left (List.getElem?_eq_some_iff.mp hp0).1]; exact hp0
      have plt : p < R.length := fnd_lt ok hs (i + j) p (List.mem_of_getElem? hp)
      have hqa : rs[p]? = some rs[p] := List.getElem?_eq_getElem (by omega)
      generalize rs[p] = qa at hqa
      obtain ⟨t2, hq⟩ := hrow' p qa hqa
      have fl : fi.length ≤ (fnd R s0 (i + j)).length := by
        have := (fnd_pre (R := R) (s := s0) (i := i) (j := i + j) (by omega)).length_le
        rw [hfe] at this; exact this
      show tFor (iSq K (tOp (ixU K) (uVar 0) (uVar 5))) _ _ _ _ _
      refine for_sq (K := K) (tp := t2) (a := qa) (xs := iv (gls R p)) (H1 := H3) (fun R' hR' => ⟨rs.map V.ref, .ref qa, (hs'.ext e4).or, atI_nat (by rw [List.getElem?_map, hqa]; rfl), hR'⟩) (hq.ext e4)
        (fun pre2 σ H4 => ∃ gs rest y6, gls R p = gs ++ rest ∧ pre2 = iv gs ∧ Same H H4 ∧ H4 D = some (.dK (kmp (nums (adds (fnd R s0 (i + j)) gs)))) ∧ H4 L = some (.lst (iv (fi.drop i))) ∧ H4 B = some (.lst (iv ((adds (fnd R s0 (i + j)) gs).drop fi.length))) ∧
          σ = [some (.ref r), some (.int s0), some (.ref D), some (.ref L), some (.ref B), some (.int p), y6])
        (fun pre2 σ H4 h => by obtain ⟨_, _, _, _, _, h, _⟩ := h; exact hq.ext h) ⟨[], gls R p, y6, rfl, rfl, e4, hD4, hL4, hB4, rfl⟩ (fun pre2 x2 suf2 σ H4 ex2 h => ?_) (fun σ H4 h => ?_)
      · obtain ⟨gs, rest, y6, eg, rfl, e5, hD5, hL5, hB5, rfl⟩ := h
        have er : iv rest = x2 :: suf2 := by
          have e7 : iv gs ++ iv rest = iv gs ++ x2 :: suf2 := by rw [← ex2, eg, iv_app]
          exact List.append_cancel_left e7
        obtain ⟨g, rest', rfl, rfl, rfl⟩ := List.map_eq_cons_iff.mp er
        have cl := adds_len (i := i + j) ok hs eg
        have cl2 : fi.length ≤ (adds (fnd R s0 (i + j)) gs).length := Nat.le_trans fl adds_pre.length_le
        have eg2 : gls R p = (gs ++ [g]) ++ rest' := by rw [eg]; simp
        have ea := adds_app (f := fnd R s0 (i + j)) (gs := gs) (g := g)
        generalize adds (fnd R s0 (i + j)) gs = cur at hD5 hB5 cl cl2 ea
        refine ⟨D, _, rfl, DGet.k (k := kI g) hD5, _, rfl, ?_⟩
        rw [val_kmp, look_isSome, nums_keys]
        refine .nd (fun hg => ?_) (fun hg => ?_)
        · have ec : add1 cur g = cur ++ [g] := if_neg hg
          have lk : (kmp (nums cur)).length = cur.length := by rw [List.length_map, nums_len]
          have ep : putK (kmp (nums cur)) (kI g) (.int ((kmp (nums cur)).length : Nat)) = kmp (nums (cur ++ [g])) := by
            rw [put_kmp _ (by rw [nums_keys]; exact hg), nums_app, lk]
          refine .inr ⟨_, hD5, D, _, rfl, DPut.k (k := kI g) hD5 (by rw [lk]; omega), ?_⟩
          rw [ep]
          have hB6 : (upd H4 D (.dK (kmp (nums (cur ++ [g]))))) B = some (.lst (iv (cur.drop fi.length))) := by rw [upd_ne hBD]; exact hB5
          refine ⟨.inl ⟨rfl, _, .inl (.inl hB6)⟩, B, _, _, rfl, rfl, hB6, by rw [List.length_map, List.length_drop]; omega, ?_⟩
          refine ⟨gs ++ [g], rest', _, eg2, by rw [iv_app]; rfl, same_upd2 (same_upd2 e5 nD) nBH, ?_, ?_, ?_, rfl⟩
          · rw [upd_ne hBD.symm, upd_same, ea, ec]
          · rw [upd_ne hBL.symm, upd_ne hLD]; exact hL5
          · rw [upd_same, ea, ec, List.drop_append_of_le_length cl2, iv_app]; rfl
        · have ec : add1 cur g = cur := if_pos hg
          exact ⟨gs ++ [g], rest', _, eg2, by rw [iv_app]; rfl, e5, by rw [ea, ec]; exact hD5, hL5, by rw [ea, ec]; exact hB5, rfl⟩
      · obtain ⟨gs, rest, y6, eg, e6, e5, hD5, hL5, hB5, rfl⟩ := h
        obtain rfl := iv_inj e6
        have es := fnd_step hp
        rw [← es] at hD5 hB5
        refine ⟨j + 1, _, _, ?_, hj2, e5, hD5, hL5, hB5, rfl⟩
        have : (fi.drop i).take (j + 1) = (fi.drop i).take j ++ [p] := by
          rw [List.take_add_one, show (fi.drop i)[j]? = some p by rw [List.getElem?_drop]; exact hp0]; rfl
        rw [this, iv_app]; rfl
    · obtain ⟨j, y5, y6, ej, hj, e4, hD4, hL4, hB4, rfl⟩ := h
      have ej := iv_inj ej
      have lj : j = (fi.drop i).length := by
        have := congrArg List.length ej
        rw [List.length_take] at this
        omega
      have ij : i + j = fi.length := by rw [lj, List.length_drop]; omega
      rw [ij] at hD4 hB4
      have fl : fi.length ≤ (fnd R s0 fi.length).length := by
        have := (fnd_pre (R := R) (s := s0) (i := i) (j := fi.length) (by omega)).length_le
        rw [hfe] at this; exact this
      exact ⟨R.length - fi.length, by omega, fi.length, B, _, _, _, rfl, fl, e4, hD4, hB4, nBH, hBD, rfl⟩
end
end LK

/-! comprehensions with if -/
namespace LK
open PySem PySem.Spec PyProof.Rows L2 LamX
open scoped List
theorem lc_wkF {J : It} {xs : List V} {P : Hp → Prop} (W : Wk J xs P) {g : TG} {tt : TT} {te : TE} {σ : L2.St} {H : Hp} {vs : List Nat} {Q : VK} {D : Addr} (R : List V → List V → Hp → Prop)
    (hP : ∀ pre acc H, R pre acc H → P H) (h0 : R [] [] (upd H D (.lst [])))
    (hs : ∀ pre acc x suf H, xs = pre ++ x :: suf → R pre acc H → g x (wipe σ vs) H fun σ2 H2 => wipe σ2 vs = wipe σ vs ∧ tt σ2 H2 fun b H3 => if b = true then te σ2 H3 fun y H4 =>
      ∃ acc, H4 D = some (.lst acc) ∧ acc.length < sizeLine ∧ ∃ a, R (pre ++ [x]) a (upd H4 D (.lst (acc ++ [y]))) else ∃ a, R (pre ++ [x]) a H3)
    (he : ∀ acc H, R xs acc H → Q (.ref D) H) :
    ∃ W : Nat → Nat → Hp → Prop, (∃ m, W 0 m (upd H D (.lst []))) ∧ ∀ i m H, W i m H →
  (J.stop i H ∧ Q (.ref D) H) ∨ (J.go i H ∧ ∃ Nx : Hp → Prop, (∀ H', Nx H' → ∃ m', m' < m ∧ W (i + 1) m' H') ∧ ∀ x H', J.yld i H x H' → g x (wipe σ vs) H' fun σ2 H2 => wipe σ2 vs = wipe σ vs ∧ tt σ2 H2 fun b H3 =>
    if b = true then te σ2 H3 fun y H4 => ∃ acc, H4 D = some (.lst acc) ∧ acc.length < sizeLine ∧ Nx (upd H4 D (.lst (acc ++ [y]))) else Nx H3) := by
  refine ⟨fun i m H => i + m = xs.length ∧ ∃ acc, R (xs.take i) acc H, ⟨xs.length, by omega, [], h0⟩, fun i m H h => ?_⟩
  obtain ⟨em, acc, iv⟩ := h
  by_cases hi : i < xs.length
  · have hx := List.getElem?_eq_getElem hi
    obtain ⟨e1, e2⟩ := split_at hx
    refine .inr ⟨W.go i H (hP _ _ _ iv) hi, fun H' => ∃ acc, R (xs.take i ++ [xs[i]]) acc H', fun H' n => ?_, fun x H' y => ?_⟩
    · obtain ⟨acc, n⟩ := n
      exact ⟨m - 1, by omega, by omega, acc, by rw [e2]; exact n⟩
    · obtain ⟨rfl, hx2⟩ := W.yld i H x H' (hP _ _ _ iv) hi y
      rw [hx] at hx2
      cases hx2
      exact hs _ _ _ _ _ e1 iv
  · have e : xs.take i = xs := List.take_of_length_le (by omega)
    rw [e] at iv
    exact .inl ⟨W.stop i H (hP _ _ _ iv) (by omega), he _ _ iv⟩
section
variable {K : PySem.W.Frag} {g : TG} {tt : TT} {te : TE} {σ : L2.St} {H H1 : Hp} {vs : List Nat} {Q : VK} {t : TA}
theorem lc_rngF {n : Nat} (h : ∀ R : List V → Hp → Prop, R [.int n] H1 → t σ H R) (hn : n < 1000000) (R : Addr → Nat → List V → Hp → Prop)
    (h0 : ∀ D, H1 D = none → R D 0 [] (upd H1 D (.lst [])))
    (hs : ∀ D, H1 D = none → ∀ i acc H, i < n → R D i acc H → g (.int i) (wipe σ vs) H fun σ2 H2 => wipe σ2 vs = wipe σ vs ∧ tt σ2 H2 fun b H3 => if b = true then te σ2 H3 fun y H4 =>
      ∃ acc, H4 D = some (.lst acc) ∧ acc.length < sizeLine ∧ ∃ a, R D (i + 1) a (upd H4 D (.lst (acc ++ [y]))) else ∃ a, R D (i + 1) a H3)
    (he : ∀ D, H1 D = none → ∀ acc H, R D n acc H → Q (.ref D) H) : tLc (iRng1 t) g tt te vs σ H Q := by
  refine h _ ⟨n, rfl, by omega, by omega, fun D nD => ?_⟩
  refine lc_wkF (wk_rng 0 n) (fun pre acc H => R D pre.length acc H) (fun _ _ _ _ => trivial) (h0 D nD) (fun pre acc x suf H2 e r => ?_) (fun acc H r => he D nD acc H ?_)
  · have hl : pre.length < n := by
      have := congrArg List.length e
      simp at this; omega
    have hx : (rng 0 n)[pre.length]? = some x := by rw [e]; simp
    rw [List.getElem?_map, List.getElem?_range hl] at hx
    have hx := Option.some.inj hx
    simp only [Int.zero_add] at hx
    subst hx
    have z := hs D nD pre.length acc H2 hl r
    rw [List.length_append]
    exact z
  · rw [List.length_map, List.length_range] at r; exact r
end
end LK

namespace LK
open PySem PySem.Spec PyProof.Rows L2 LamX ClX
open scoped List
/-- what is kept of the class: its fields are its own -/
structure ClsM (K : PySem.W.Frag) (C : Addr) : Prop where
  cls : Cls K C
  nL : NoAttr K C "_letters"
  nR : NoAttr K C "_rows"
  nK : NoAttr K C "_kinds"
abbrev mf1 (S : List Nat) : List (Str × V) := [("_letters", .str (T S))]
abbrev mf2 (S : List Nat) (r : Addr) : List (Str × V) := [("_letters", .str (T S)), ("_rows", .ref r)]
abbrev mf3 (S : List Nat) (r k : Addr) : List (Str × V) := [("_letters", .str (T S)), ("_rows", .ref r), ("_kinds", .ref k)]
/-- a: a machine with these letters, rows, kinds, in lists of its own -/
def Mach (C : Addr) (H : Hp) (a : Addr) (S : List Nat) (R : Rows) (Kd : List Bool) : Prop := ∃ (dx r k : Addr) (rs : List Addr), H a = some (.ins C dx (mf3 S r k)) ∧
  H r = some (.lst (rs.map V.ref)) ∧ rs.length = R.length ∧ (∀ i p, rs[i]? = some p → H p = some (.lst (iv (gls R i)))) ∧ H k = some (.lst (Kd.map V.bl))
theorem Mach.ext {C : Addr} {H H' : Hp} {a : Addr} {S : List Nat} {R : Rows} {Kd : List Bool} (h : Mach C H a S R Kd) (e : Same H H') : Mach C H' a S R Kd := by
  obtain ⟨dx, r, k, rs, h1, h2, h3, h4, h5⟩ := h
  exact ⟨dx, r, k, rs, e _ _ h1, e _ _ h2, h3, fun i p hp => e _ _ (h4 i p hp), e _ _ h5⟩
/-- .. in lists that are new beside H0 -/
def MachN (C : Addr) (H0 H : Hp) (a : Addr) (S : List Nat) (R : Rows) (Kd : List Bool) : Prop := ∃ (dx r k : Addr) (rs : List Addr), H a = some (.ins C dx (mf3 S r k)) ∧
  H r = some (.lst (rs.map V.ref)) ∧ rs.length = R.length ∧ (∀ i p, rs[i]? = some p → H p = some (.lst (iv (gls R i))) ∧ H0 p = none) ∧ H k = some (.lst (Kd.map V.bl)) ∧ H0 r = none ∧ H0 k = none
theorem MachN.m {C : Addr} {H0 H : Hp} {a : Addr} {S : List Nat} {R : Rows} {Kd : List Bool} (h : MachN C H0 H a S R Kd) : Mach C H a S R Kd := by
  obtain ⟨dx, r, k, rs, h1, h2, h3, h4, h5, _⟩ := h
  exact ⟨dx, r, k, rs, h1, h2, h3, fun i p hp => (h4 i p hp).1, h5⟩
theorem MachN.of {C : Addr} {H0 H1 H : Hp} {a : Addr} {S : List Nat} {R : Rows} {Kd : List Bool} (h : MachN C H1 H a S R Kd) (e : Same H0 H1) : MachN C H0 H a S R Kd := by
  obtain ⟨dx, r, k, rs, h1, h2, h3, h4, h5, h6, h7⟩ := h
  have fr : ∀ b, H1 b = none → H0 b = none := fun b n => by
    cases hb : H0 b with
    | none => rfl
    | some o => rw [e b o hb] at n; cases n
  exact ⟨dx, r, k, rs, h1, h2, h3, fun i p hp => ⟨(h4 i p hp).1, fr _ (h4 i p hp).2⟩, h5, fr _ h6, fr _ h7⟩
/-- all stays but what stands at a -/
def But (a : Addr) (H H' : Hp) : Prop := ∀ b o, b ≠ a → H b = some o → H' b = some o
theorem But.of {a : Addr} {H H' : Hp} (e : Same H H') : But a H H' := fun b o _ h => e b o h
theorem But.trans {a : Addr} {H H' H'' : Hp} (e : But a H H') (e2 : But a H' H'') : But a H H'' := fun b o n h => e2 b o n (e b o n h)
theorem But.at {a : Addr} {H : Hp} {o : HO} : But a H (upd H a o) := fun b u n h => by rw [upd_ne n]; exact h
theorem But.new {a p : Addr} {H : Hp} {o : HO} (n : H p = none) : But a H (upd H p o) := .of (same_upd n)
theorem But.put {a p : Addr} {H H' : Hp} {o : HO} (e : But a H H') (n : H p = none) : But a H (upd H' p o) := fun b u nb h => by
  rw [upd_ne (ne_of_none h n)]; exact e b u nb h
theorem SqB.but {K : PySem.W.Frag} {tp : Bool} {a C dx x : Addr} {fs : List (Str × V)} {H H' : Hp} {xs : List V} (h : SqB K tp H x xs) (e : But a H H') (ha : H a = some (.ins C dx fs)) : SqB K tp H' x xs := by
  have ne : ∀ o, H x = some o → (∀ C dx fs, o ≠ .ins C dx fs) → x ≠ a := fun o ho n z => by
    rw [z, ha] at ho; exact n _ _ _ (Option.some.inj ho).symm
  cases tp
  · rcases h with (h | ⟨o, h⟩) | h
    · exact .inl (.inl (e _ _ (ne _ h fun _ _ _ z => nomatch z) h))
    · exact .inl (.inr ⟨o, e _ _ (ne _ h fun _ _ _ z => nomatch z) h⟩)
    · exact .inr h
  · rcases h with (h | ⟨o, h⟩) | h
    · exact .inl (.inl (e _ _ (ne _ h fun _ _ _ z => nomatch z) h))
    · exact .inl (.inr ⟨o, e _ _ (ne _ h fun _ _ _ z => nomatch z) h⟩)
    · exact .inr h
section
variable {P : Program} {w : World} {K : PySem.W.Frag} {mg : Str → Option Value} {base : Heap}
theorem scInit : FnScope ["self", "letters", "rows", "kinds", "met", "missing", "place", "row"] ["self", "letters", "rows", "kinds"] (defScope sInit) := ⟨rfl, rfl, rfl, by decide +kernel, rfl, by decide +kernel, by decide +kernel⟩
def spInit (K : PySem.W.Frag) (C : Addr) : Sp := fun vs H Q _ => ∃ (a dx r k : Addr) (S : List Nat) (R : Rows) (Kd : List Bool), vs = [.ref a, .str (T S), .ref r, .ref k] ∧ ShOk S R Kd ∧ Whole R ∧ RowsAt K H r R ∧ KindsAt K H k Kd ∧ H a = some (.ins C dx []) ∧
  ∀ H', (∀ b o, b ≠ a → H b = some o → H' b = some o) → MachN C H H' a S R Kd → Q .non H'
theorem ok_init {f C : Addr} {fd : FuncData} {k : Nat} (F : Fun K "__init__" "Machine.__init__" sInit f fd) (M : Mx mg) (cM : ClsM K C) (HN : Has P w K mg base k "_need_parts" ["letters", "rows", "kinds"] (spNeedParts K))
    (HM : Has P w K mg base k "_met_from" ["rows", "start"] (spMetFrom K)) : FnG P w K mg base CX0 (k + 1) f fd ["self", "letters", "rows", "kinds"] (spInit K C) := by
  refine okG F scInit (fun vs H Q E h => ?_) (fun cdv A hA outer s H vs Q E hr h => ?_)
  · obtain ⟨a, dx, r, k, S, R, Kd, rfl, _⟩ := h; rfl
  · obtain ⟨a, dx, r, k, S, R, Kd, rfl, ok, wh, hR, hK, ha, q⟩ := h
    have nd := scInit.nd
    have sl := sizeLine_eq
    have hi := ok.hi
    refine ⟨_, pss_cons (ps_expr (pe_callH HN hA hr (by rfl) (pa_cons (uv 1) (pa_cons (uv 2) (pa_cons (uv 3) pa_nil)))))
      (pss_cons (ps_set (i := 4) nd rfl (.inr rfl) (pe_callH HM hA hr (by rfl) (pa_cons (uv 2) (pa_cons pe_int pa_nil))))
      (pss_cons (ps_setLc (i := 5) (own := [("place", 6)]) (g := gName 6) (by rfl) nd rfl rfl (sw_true rfl rfl rfl (by decide +kernel)) (pi_range1 (by rfl) M.range (pa_cons (pe_callB c_len (by rfl) M.len b_len (pa_cons (uv 2) pa_nil)) pa_nil))
        (blkOk_by (N := ["self", "letters", "rows", "kinds", "met", "missing", "place", "row"]) (sc := defScope sInit) (by decide +kernel))
        (fun _ _ _ _ _ => pg_name (i := 6) nd rfl (Or.inl rfl)) (fun _ _ _ _ _ => pts_one (pt_cmp (pc_dnotin (Room.u1 hr) (uv 6) (uv 4)))) (fun _ _ _ _ _ => uv 6))
      (pss_cons (ps_ifU (pt_truth (uv 5) (by intro _; rfl)) (pss_one ps_never) pss_nil)
      (pss_cons (ps_fld (uv 0) (uv 1) (by rfl))
      (pss_cons (ps_fld (uv 0) (pe_lc (own := [("row", 7)]) (g := gName 7) (tt := tYes) rfl nd (pi_sq (uv 2)) (blkOk_by (N := ["self", "letters", "rows", "kinds", "met", "missing", "place", "row"]) (sc := defScope sInit) (by decide +kernel))
        (fun _ _ _ _ _ => pg_name (i := 7) nd rfl (Or.inl rfl)) (fun _ _ _ _ _ => pts_nil) (fun _ _ _ _ _ => pe_callTy (r := listU K) (c_list rfl) (by rfl) M.list b_list (pa_cons (uv 7) pa_nil))) (by rfl))
      (pss_one (ps_fld (uv 0) (pe_callTy (c_list rfl) (by rfl) M.list b_list (pa_cons (uv 3) pa_nil)) (by rfl)))))))), ?_⟩
    refine ⟨r, k, S, R, Kd, rfl, ok, hR, hK, fun H1 e1 => ?_⟩
    refine ⟨r, 0, S.length, R, rfl, hR.ext e1, ok.rows, by have := ok.lo; omega, by omega, fun H2 D e2 nD hD => ?_⟩
    have e3 := e1.trans e2
    obtain ⟨tp, rs, hs', hl', hrow'⟩ := hR
    obtain ⟨tk, hk'⟩ := hK
    have lr : (rs.map V.ref).length = R.length := by rw [List.length_map, hl']
    dsimp only [tSeq, tAsg, gName]
    refine lc_rngF (n := (rs.map V.ref).length) (H1 := H2) (fun R' h => .inl ⟨rs.map V.ref, (hs'.ext e3).or, h⟩) (by omega) (fun D2 i acc H3 => H3 = upd H2 D2 (.lst []) ∧ acc = ([] : List V)) (fun D2 n2 => ⟨rfl, rfl⟩) (fun D2 n2 i acc H3 hi2 h => ?_) (fun D2 n2 acc H3 h => ?_)
    · obtain ⟨rfl, rfl⟩ := h
      have ne : D ≠ D2 := ne_of_none hD n2
      refine ⟨rfl, D, _, rfl, DGet.k (k := kI i) (by rw [upd_ne ne]; exact hD), _, rfl, ?_⟩
      rw [val_kmp, look_isSome, nums_keys, decide_eq_true (wh i (by omega))]
      simp only [Bool.not_true, Bool.false_eq_true, if_false]
      exact ⟨[], trivial, rfl⟩
    obtain ⟨rfl, rfl⟩ := h
    refine ⟨false, .inl ⟨[], .inl (.inl upd_same), rfl⟩, .no ?_⟩
    have e4 : Same H (upd H2 D2 (.lst [])) := same_upd2 e3 (Same.free e3 n2)
    generalize upd H2 D2 (.lst []) = H3 at e4
    refine ⟨a, C, dx, [], rfl, e4 _ _ ha, cM.cls, cM.nL, by show 0 < 1000; omega, ?_⟩
    have b4 : But a H (upd H3 a (.ins C dx (putF "_letters" (.str (T S)) []))) := (But.of e4).trans .at
    have h4 : (upd H3 a (.ins C dx (putF "_letters" (.str (T S)) []))) a = some (.ins C dx (mf1 S)) := upd_same
    have ex : ∀ b, H b ≠ none → (upd H3 a (.ins C dx (putF "_letters" (.str (T S)) []))) b ≠ none := fun b hb z => by
      by_cases e : b = a
      · subst e; rw [h4] at z; cases z
      · cases h : H b with
        | none => exact hb h
        | some o => rw [b4 b o e h] at z; cases z
    generalize upd H3 a (.ins C dx (putF "_letters" (.str (T S)) [])) = H4 at b4 h4 ex
    have fr : ∀ b, H4 b = none → H b = none := fun b z => Classical.byContradiction fun n => ex b n z
    dsimp only [tSeq, sFld]
    refine lc_sq (K := K) (tp := tp) (a := r) (xs := rs.map V.ref) (H1 := H4) (by exact fun _ h => h) (hs'.but b4 ha) (fun D3 pre acc H5 => ∃ ls : List Addr, pre = (rs.take ls.length).map V.ref ∧ ls.length ≤ rs.length ∧ acc = ls.map V.ref ∧ But a H H5 ∧
        H5 a = some (.ins C dx (mf1 S)) ∧ H5 D3 = some (.lst (ls.map V.ref)) ∧ ∀ i p, ls[i]? = some p → H5 p = some (.lst (iv (gls R i))) ∧ p ≠ D3 ∧ p ≠ a ∧ H p = none)
      (fun D3 pre acc H5 h => by obtain ⟨_, _, _, _, h, _⟩ := h; exact hs'.but h ha) (fun D3 n3 => ⟨[], rfl, Nat.zero_le _, rfl, b4.put (fr _ n3), by rw [upd_ne (ne_of_none h4 n3)]; exact h4, upd_same, fun i p z => nomatch z⟩)
      (fun D3 n3 pre acc x suf H5 ex2 h => ?_) (fun D3 n3 acc H5 h => ?_)
    · obtain ⟨ls, rfl, ll, rfl, b5, h5, hd5, hl5⟩ := h
      have l1 : ((rs.take ls.length).map V.ref).length = ls.length := by rw [List.length_map, List.length_take]; omega
      have l2 : ls.length < rs.length := by
        have := congrArg List.length ex2
        rw [List.length_append, l1, List.length_map, List.length_cons] at this
        omega
      have hx : (rs.map V.ref)[ls.length]? = some x := by rw [ex2, List.getElem?_append_right (by omega), l1, Nat.sub_self]; rfl
      rw [List.getElem?_map] at hx
      obtain ⟨qa, hqa, rfl⟩ := Option.map_eq_some_iff.mp hx
      obtain ⟨t2, hq⟩ := hrow' _ qa hqa
      refine ⟨rfl, .inl ⟨iv (gls R ls.length), (hq.but b5 ha).or, fun l nl => ?_⟩⟩
      have n1 : l ≠ a := fun z => by rw [z, h5] at nl; cases nl
      have n2 : l ≠ D3 := fun z => by rw [z, hd5] at nl; cases nl
      have nlH : H l = none := Classical.byContradiction fun n => by
        cases h : H l with
        | none => exact n h
        | some o => rw [b5 l o n1 h] at nl; cases nl
      refine ⟨ls.map V.ref, by rw [upd_ne n2.symm]; exact hd5, by rw [List.length_map]; omega, _, ls ++ [l], ?_, by rw [List.length_append]; exact l2, rfl, (b5.put nlH).put (fr _ n3), ?_, by rw [upd_same, List.map_append]; rfl, fun i p hp => ?_⟩
      · rw [List.length_append]
        show _ = (rs.take (ls.length + 1)).map V.ref
        rw [List.take_add_one, hqa, List.map_append]; rfl
      · have n3' : a ≠ D3 := ne_of_none h4 n3
        rw [upd_ne n3', upd_ne n1.symm]; exact h5
      · rcases Nat.lt_or_ge i ls.length with hlt | hge
        · rw [List.getElem?_append_left hlt] at hp
          obtain ⟨g1, g2, g3, g0⟩ := hl5 i p hp
          have n4 : p ≠ l := fun z => by rw [z, nl] at g1; cases g1
          exact ⟨by rw [upd_ne g2, upd_ne n4]; exact g1, g2, g3, g0⟩
        · rw [List.getElem?_append_right hge] at hp
          have e6 : i - ls.length = 0 := by
            have := (List.getElem?_eq_some_iff.mp hp).1
            simp at this; omega
          rw [e6] at hp
          have : l = p := by simpa using hp
          subst this
          have : i = ls.length := by omega
          subst this
          exact ⟨by rw [upd_ne n2]; exact upd_same, n2, n1, nlH⟩
    obtain ⟨ls, el, ll, rfl, b5, h5, hd5, hl5⟩ := h
    have lls : ls.length = rs.length := by
      have := congrArg List.length el
      rw [List.length_map, List.length_map, List.length_take] at this
      omega
    refine ⟨a, C, dx, (mf1 S), rfl, h5, cM.cls, cM.nR, by show 1 < 1000; omega, ?_⟩
    have e6 : putF "_rows" (.ref D3) (mf1 S) = (mf2 S D3) := rfl
    rw [e6]
    have b6 : But a H (upd H5 a (.ins C dx (mf2 S D3))) := b5.trans .at
    refine .inl ⟨Kd.map V.bl, (hk'.but b6 ha).or, fun l nl => ?_⟩
    have n3' : D3 ≠ a := fun z => by rw [z, h5] at hd5; cases hd5
    have nla : l ≠ a := fun z => by rw [z, upd_same] at nl; cases nl
    have nld : l ≠ D3 := fun z => by rw [z, upd_ne n3', hd5] at nl; cases nl
    refine ⟨a, C, dx, (mf2 S D3), rfl, by rw [upd_ne nla.symm]; exact upd_same, cM.cls, cM.nK, by show 2 < 1000; omega, ?_⟩
    have e7 : putF "_kinds" (.ref l) (mf2 S D3) = (mf3 S D3 l) := rfl
    rw [e7]
    have nlH : H l = none := Classical.byContradiction fun n => by
      cases h : H l with
      | none => exact n h
      | some o => rw [b6 l o nla h] at nl; cases nl
    refine q _ ((b6.put nlH).trans .at) ⟨dx, D3, l, ls, upd_same, ?_, by omega, fun i p hp => ?_, ?_, fr _ n3, nlH⟩
    · rw [upd_ne n3', upd_ne nld.symm, upd_ne n3']; exact hd5
    · obtain ⟨g1, g2, g3, g0⟩ := hl5 i p hp
      have n4 : p ≠ l := fun z => by rw [z] at g1 g3; rw [upd_ne g3, g1] at nl; cases nl
      exact ⟨by rw [upd_ne g3, upd_ne n4, upd_ne g3]; exact g1, g0⟩
    · rw [upd_ne nla]; exact upd_same
end
end LK

namespace LK
open PySem PySem.Spec PyProof.Rows L2 LamX ClX
open scoped List
theorem occ_idx {S : List Nat} {c : Nat} (nd : S.Nodup) (h : c ∈ S) : ∃ rest, Builtin.Str.occurrences (T S) (T [c]) 0 (T S).length 1 = S.idxOf c :: rest := by
  have f := PySem.StrLaws.found_one (T S) c
  cases e : Builtin.Str.occurrences (T S) (T [c]) 0 (T S).length 1 with
  | nil =>
    have e' : Builtin.Str.occurrences (T S) ⟨#[c]⟩ 0 (T S).length 1 = [] := e
    rw [e', show decide (c ∈ (T S).cps.toList) = true from decide_eq_true h] at f
    cases f
  | cons i rest =>
    refine ⟨rest, ?_⟩
    have g := (PySem.StrLaws.subAt_one (T S) c i).mp (PySem.StrLaws.occ_spec (T S) (T [c]) 0 (T S).length 1 i (by rw [e]; simp))
    have g : S[i]? = some c := g
    obtain ⟨hi, hc⟩ := List.getElem?_eq_some_iff.mp g
    rw [← hc, nd.idxOf_getElem]
/-- where a text leads -/
def led (S : List Nat) (R : Rows) (p : Nat) (l : List Nat) : Nat := l.foldl (fun p c => (gls R p).getD (S.idxOf c) 0) p
theorem led_snoc {S : List Nat} {R : Rows} {p c : Nat} {l : List Nat} : led S R p (l ++ [c]) = (gls R (led S R p l)).getD (S.idxOf c) 0 := by unfold led; rw [List.foldl_append]; rfl
theorem led_lt {S : List Nat} {R : Rows} {p : Nat} (ok : RowsOk R S.length) (hp : p < R.length) : ∀ l : List Nat, (∀ c ∈ l, c ∈ S) → led S R p l < R.length := by
  intro l
  induction l generalizing p with
  | nil => exact fun _ => hp
  | cons c l ih =>
    intro h
    have lt : S.idxOf c < (gls R p).length := by rw [gls_len ok hp]; exact List.idxOf_lt_length_iff.mpr (h c (by simp))
    refine ih (p := (gls R p).getD (S.idxOf c) 0) ?_ fun d hd => h d (by simp [hd])
    rw [List.getD_eq_getElem?_getD, List.getElem?_eq_getElem lt]
    exact gls_lt ok (List.getElem_mem lt)
theorem Ris1.nodup {S : List Nat} (h : Ris1 S) : S.Nodup := h.imp fun z => Nat.ne_of_lt z
section
variable {P : Program} {w : World} {K : PySem.W.Frag} {mg : Str → Option Value} {base : Heap} {C : Addr}
theorem scNeedPlace : FnScope ["self", "value"] ["self", "value"] (defScope sNeedPlace) := ⟨rfl, rfl, rfl, by decide +kernel, rfl, by decide +kernel, by decide +kernel⟩
def spNeedPlace (C : Addr) : Sp := fun vs H Q _ => ∃ (a : Addr) (g : Nat) (S : List Nat) (R : Rows) (Kd : List Bool), vs = [.ref a, .int g] ∧ Mach C H a S R Kd ∧ g < R.length ∧ Q .non H
theorem ok_needPlace {f : Addr} {fd : FuncData} {k : Nat} (F : Fun K "_need_place" "Machine._need_place" sNeedPlace f fd) (M : Mx mg) (cM : ClsM K C) (HP : Has P w K mg base k "is_place" ["value", "many"] spIsPlace) :
    FnG P w K mg base CX0 (k + 1) f fd ["self", "value"] (spNeedPlace C) := by
  refine okG F scNeedPlace (fun vs H Q E h => ?_) (fun cdv A hA outer s H vs Q E hr h => ?_)
  · obtain ⟨a, g, S, R, Kd, rfl, _⟩ := h; rfl
  · obtain ⟨a, g, S, R, Kd, rfl, ⟨dx, r, kk, rs, h1, h2, h3, h4, h5⟩, hg, q⟩ := h
    refine ⟨_, pss_one (ps_ifU (pt_not (pt_u (pe_callH HP hA hr (by rfl) (pa_cons (uv 1) (pa_cons (pe_callB c_len (by rfl) M.len b_len (pa_cons (pe_fldU (uv 0)) pa_nil)) pa_nil))))) (pss_one ps_never) pss_nil), ?_⟩
    refine ⟨C, dx, _, .ref r, h1, cM.cls, cM.nR, rfl, ?_⟩
    refine .inl ⟨rs.map V.ref, .inl (.inl (.inl h2)), ?_⟩
    exact ⟨g, (rs.map V.ref).length, rfl, by rw [List.length_map]; omega, .no q⟩
theorem scKinds : FnScope ["self"] ["self"] (defScope sKinds) := ⟨rfl, rfl, rfl, by decide +kernel, rfl, by decide +kernel, by decide +kernel⟩
def spKinds (C : Addr) : Sp := fun vs H Q _ => ∃ (a : Addr) (S : List Nat) (R : Rows) (Kd : List Bool), vs = [.ref a] ∧ Mach C H a S R Kd ∧ ∀ p, H p = none → Q (.ref p) (upd H p (.lst (Kd.map V.bl)))
theorem ok_kinds {f : Addr} {fd : FuncData} {k : Nat} (F : Fun K "kinds" "Machine.kinds" sKinds f fd) (M : Mx mg) (cM : ClsM K C) : FnG P w K mg base CX0 (k + 1) f fd ["self"] (spKinds C) := by
  refine okG F scKinds (fun vs H Q E h => ?_) (fun cdv A hA outer s H vs Q E hr h => ?_)
  · obtain ⟨a, S, R, Kd, rfl, _⟩ := h; rfl
  · obtain ⟨a, S, R, Kd, rfl, ⟨dx, r, kk, rs, h1, h2, h3, h4, h5⟩, q⟩ := h
    refine ⟨_, pss_one (ps_ret (pe_callTy (c_list rfl) (by rfl) M.list b_list (pa_cons (pe_fldU (uv 0)) pa_nil))), ?_⟩
    exact ⟨C, dx, _, .ref kk, h1, cM.cls, cM.nK, rfl, .inl ⟨Kd.map V.bl, .inl (.inl (.inl h5)), q⟩⟩
theorem scLen : FnScope ["self"] ["self"] (defScope sLen) := ⟨rfl, rfl, rfl, by decide +kernel, rfl, by decide +kernel, by decide +kernel⟩
def spLen (C : Addr) : Sp := fun vs H Q _ => ∃ (a : Addr) (S : List Nat) (R : Rows) (Kd : List Bool), vs = [.ref a] ∧ Mach C H a S R Kd ∧ Q (.int (R.length : Nat)) H
theorem ok_len {f : Addr} {fd : FuncData} {k : Nat} (F : Fun K "__len__" "Machine.__len__" sLen f fd) (M : Mx mg) (cM : ClsM K C) : FnG P w K mg base CX0 (k + 1) f fd ["self"] (spLen C) := by
  refine okG F scLen (fun vs H Q E h => ?_) (fun cdv A hA outer s H vs Q E hr h => ?_)
  · obtain ⟨a, S, R, Kd, rfl, _⟩ := h; rfl
  · obtain ⟨a, S, R, Kd, rfl, ⟨dx, r, kk, rs, h1, h2, h3, h4, h5⟩, q⟩ := h
    refine ⟨_, pss_one (ps_ret (pe_callB c_len (by rfl) M.len b_len (pa_cons (pe_fldU (uv 0)) pa_nil))), ?_⟩
    refine ⟨C, dx, _, .ref r, h1, cM.cls, cM.nR, rfl, .inl ⟨rs.map V.ref, .inl (.inl (.inl h2)), ?_⟩⟩
    rw [List.length_map, h3]; exact q
theorem scLed : FnScope ["self", "place", "text", "letter"] ["self", "place", "text"] (defScope sLed) := ⟨rfl, rfl, rfl, by decide +kernel, rfl, by decide +kernel, by decide +kernel⟩
def spLed (C : Addr) : Sp := fun vs H Q _ => ∃ (a : Addr) (p : Nat) (l S : List Nat) (R : Rows) (Kd : List Bool), vs = [.ref a, .int p, .str (T l)] ∧ Mach C H a S R Kd ∧ S.Nodup ∧ RowsOk R S.length ∧ p < R.length ∧ (∀ c ∈ l, c ∈ S) ∧ Q (.int (led S R p l : Nat)) H
theorem ok_led {f : Addr} {fd : FuncData} {k : Nat} (F : Fun K "_led" "Machine._led" sLed f fd) (M : Mx mg) (cM : ClsM K C) : FnG P w K mg base CX0 (k + 1) f fd ["self", "place", "text"] (spLed C) := by
  refine okG F scLed (fun vs H Q E h => ?_) (fun cdv A hA outer s H vs Q E hr h => ?_)
  · obtain ⟨a, p, l, S, R, Kd, rfl, _⟩ := h; rfl
  · obtain ⟨a, p, l, S, R, Kd, rfl, ⟨dx, r, kk, rs, h1, h2, h3, h4, h5⟩, ndS, ok, hp, hl, q⟩ := h
    have nd := scLed.nd
    refine ⟨_, pss_cons (ps_for PassesOwn.never rfl (pi_str (uv 2)) (pg_name (i := 3) nd rfl (.inl rfl))
        (pss_one (ps_set (i := 1) nd rfl (.inl rfl) (pe_ixU (pe_ixU (pe_fldU (uv 0)) (uv 1)) (pe_bm PySem.F.plainAttrs_str PySem.F.slot_str_index PySem.F.type_str_index mt_sindex (pe_fldU (uv 0)) (pa_cons (uv 3) pa_nil))))))
      (pss_one (ps_ret (uv 1))), ?_⟩
    dsimp only [tSeq, tAsg, gName]
    refine for_str (l := l) (H1 := H) (by exact fun _ h => h) (fun pre σ H2 => H2 = H ∧ ∃ y3, σ = [some (.ref a), some (.int (led S R p pre : Nat)), some (.str (T l)), y3]) ⟨rfl, none, rfl⟩ (fun pre c suf σ H2 e iv => ?_) (fun σ H2 iv => ?_)
    · obtain ⟨rfl, y3, rfl⟩ := iv
      have hpre : ∀ d ∈ pre, d ∈ S := fun d hd => hl d (by rw [e]; simp [hd])
      have hc : c ∈ S := hl c (by rw [e]; simp)
      have lt := led_lt ok hp pre hpre
      obtain ⟨rest, ho⟩ := occ_idx ndS hc
      have lt2 : S.idxOf c < (gls R (led S R p pre)).length := by rw [gls_len ok lt]; exact List.idxOf_lt_length_iff.mpr hc
      have hq : rs[led S R p pre]? = some rs[led S R p pre] := List.getElem?_eq_getElem (by omega)
      have hrow := h4 _ _ hq
      refine ⟨C, dx, _, .ref r, h1, cM.cls, cM.nR, rfl, rs.map V.ref, .ref rs[led S R p pre], .inl (.inl (.inl h2)), atI_nat (by rw [List.getElem?_map, hq]; rfl), ?_⟩
      refine ⟨C, dx, _, .str (T S), h1, cM.cls, cM.nL, rfl, rfl, T S, T [c], S.idxOf c, rest, rfl, rfl, ho, ?_⟩
      refine ⟨iv (gls R (led S R p pre)), .int ((gls R (led S R p pre)).getD (S.idxOf c) 0 : Nat), .inl (.inl (.inl hrow)), atI_nat (by rw [List.getElem?_map, List.getElem?_eq_getElem lt2, List.getD_eq_getElem?_getD, List.getElem?_eq_getElem lt2]; rfl), ?_⟩
      exact ⟨rfl, _, by rw [led_snoc]; rfl⟩
    · obtain ⟨rfl, y3, rfl⟩ := iv
      exact q
end
end LK

namespace LK
open PySem PySem.Spec PyProof.Rows L2 LamX ClX
open scoped List
/-- no field of a machine has the name of a method -/
theorem mf_none {S : List Nat} {r k : Addr} {m : Str} (h1 : (m == ("_letters" : Str)) = false) (h2 : (m == ("_rows" : Str)) = false) (h3 : (m == ("_kinds" : Str)) = false) : (mf3 S r k).lookup m = none := by
  show List.lookup m [_, _, _] = none
  rw [List.lookup_cons, h1]
  show List.lookup m [_, _] = none
  rw [List.lookup_cons, h2]
  show List.lookup m [_] = none
  rw [List.lookup_cons, h3]; rfl
section
variable {P : Program} {w : World} {K : PySem.W.Frag} {mg : Str → Option Value} {base : Heap} {C : Addr}
theorem scGoal : FnScope ["self", "place", "letter"] ["self", "place", "letter"] (defScope sGoal) := ⟨rfl, rfl, rfl, by decide +kernel, rfl, by decide +kernel, by decide +kernel⟩
/-- the letters are unlike, the rows lead to places that are there -/
structure MOk (S : List Nat) (R : Rows) (Kd : List Bool) : Prop where
  nd : S.Nodup
  rows : RowsOk R S.length
  kinds : Kd.length = R.length
  lo : 1 ≤ R.length
def spGoal (C : Addr) : Sp := fun vs H Q _ => ∃ (a : Addr) (p c : Nat) (S : List Nat) (R : Rows) (Kd : List Bool), vs = [.ref a, .int p, .str (T [c])] ∧ Mach C H a S R Kd ∧ MOk S R Kd ∧ p < R.length ∧ c ∈ S ∧ Q (.int ((gls R p).getD (S.idxOf c) 0 : Nat)) H
theorem ok_goal {f : Addr} {fd : FuncData} {k : Nat} (F : Fun K "goal" "Machine.goal" sGoal f fd) (M : Mx mg) (cM : ClsM K C) (HP : HasM P w K mg base k C "_need_place" ["value"] (spNeedPlace C)) :
    FnG P w K mg base CX0 (k + 1) f fd ["self", "place", "letter"] (spGoal C) := by
  refine okG F scGoal (fun vs H Q E h => ?_) (fun cdv A hA outer s H vs Q E hr h => ?_)
  · obtain ⟨a, p, c, S, R, Kd, rfl, _⟩ := h; rfl
  · obtain ⟨a, p, c, S, R, Kd, rfl, mm, ok, hp, hc, q⟩ := h
    refine ⟨_, pss_cons (ps_expr (pe_mH HP cM.cls hA hr (uv 0) (pa_cons (uv 1) pa_nil)))
      (pss_cons (ps_ifU (PW.pt (pw_orU (pt_not (pt_u (pe_callB call_isi (by rfl) M.isi b_isi (pa_cons (uv 2) (pa_cons (pe_bltn (by rfl) M.str b_str (v := .ty "str") (by rfl)) pa_nil)))))
          (pw_orU (pt_cu (o_ne hr.units) (pe_callB c_len (by rfl) M.len b_len (pa_cons (uv 2) pa_nil)) pe_int) (pw_or1 (pt_cu op_notIn_sign (uv 2) (pe_fldU (uv 0)) (by rfl)))))) (pss_one ps_never) pss_nil)
      (pss_one (ps_ret (pe_ixU (pe_ixU (pe_fldU (uv 0)) (uv 1)) (pe_bm PySem.F.plainAttrs_str PySem.F.slot_str_index PySem.F.type_str_index mt_sindex (pe_fldU (uv 0)) (pa_cons (uv 2) pa_nil)))))), ?_⟩
    obtain ⟨dx, r, kk, rs, h1, h2, h3, h4, h5⟩ := id mm
    refine ⟨dx, _, h1, mf_none (by decide +kernel) (by decide +kernel) (by decide +kernel), a, p, S, R, Kd, rfl, mm, hp, ?_⟩
    refine ⟨_, _, _, _, true, rfl, .ty _, .base (.str _), rfl, .no ?_⟩
    refine ⟨by show 1 ≤ sizeLine; rw [sizeLine_eq]; omega, .no ?_⟩
    refine ⟨C, dx, _, .str (T S), h1, cM.cls, cM.nL, rfl, c, T S, rfl, rfl, ?_⟩
    have e : (!decide (c ∈ (T S).cps.toList)) = false := by rw [decide_eq_true (show c ∈ (T S).cps.toList from hc)]; rfl
    rw [e]
    refine .no ?_
    obtain ⟨rest, ho⟩ := occ_idx ok.nd hc
    have lt2 : S.idxOf c < (gls R p).length := by rw [gls_len ok.rows hp]; exact List.idxOf_lt_length_iff.mpr hc
    have hq : rs[p]? = some rs[p] := List.getElem?_eq_getElem (by omega)
    have hrow := h4 _ _ hq
    refine ⟨C, dx, _, .ref r, h1, cM.cls, cM.nR, rfl, rs.map V.ref, .ref rs[p], .inl (.inl (.inl h2)), atI_nat (by rw [List.getElem?_map, hq]; rfl), ?_⟩
    refine ⟨C, dx, _, .str (T S), h1, cM.cls, cM.nL, rfl, rfl, T S, T [c], S.idxOf c, rest, rfl, rfl, ho, ?_⟩
    exact ⟨iv (gls R p), .int ((gls R p).getD (S.idxOf c) 0 : Nat), .inl (.inl (.inl hrow)), atI_nat (by rw [List.getElem?_map, List.getElem?_eq_getElem lt2, List.getD_eq_getElem?_getD, List.getElem?_eq_getElem lt2]; rfl), q⟩
theorem scGoes : FnScope ["self", "place", "text"] ["self", "place", "text"] (defScope sGoes) := ⟨rfl, rfl, rfl, by decide +kernel, rfl, by decide +kernel, by decide +kernel⟩
def spGoes (C : Addr) : Sp := fun vs H Q _ => ∃ (a : Addr) (p : Nat) (l S : List Nat) (R : Rows) (Kd : List Bool), vs = [.ref a, .int p, .str (T l)] ∧ Mach C H a S R Kd ∧ MOk S R Kd ∧ p < R.length ∧ (∀ c ∈ l, c ∈ S) ∧ l.length ≤ 1000000 ∧ ∀ H', Same H H' → Q (.int (led S R p l : Nat)) H'
theorem ok_goes {f : Addr} {fd : FuncData} {k : Nat} (F : Fun K "goes" "Machine.goes" sGoes f fd) (M : Mx mg) (cM : ClsM K C) (HP : HasM P w K mg base k C "_need_place" ["value"] (spNeedPlace C)) (HL : HasM P w K mg base k C "_led" ["place", "text"] (spLed C))
    (HT : Has P w K mg base k "need_text" ["value", "letters"] spNeedText) : FnG P w K mg base CX0 (k + 1) f fd ["self", "place", "text"] (spGoes C) := by
  refine okG F scGoes (fun vs H Q E h => ?_) (fun cdv A hA outer s H vs Q E hr h => ?_)
  · obtain ⟨a, p, c, S, R, Kd, rfl, _⟩ := h; rfl
  · obtain ⟨a, p, l, S, R, Kd, rfl, mm, ok, hp, hl, hz, q⟩ := h
    refine ⟨_, pss_cons (ps_expr (pe_mH HP cM.cls hA hr (uv 0) (pa_cons (uv 1) pa_nil)))
      (pss_cons (ps_expr (pe_callH HT hA hr (by rfl) (pa_cons (uv 2) (pa_cons (pe_fldU (uv 0)) pa_nil))))
      (pss_one (ps_ret (pe_mH HL cM.cls hA hr (uv 0) (pa_cons (uv 1) (pa_cons (uv 2) pa_nil)))))), ?_⟩
    obtain ⟨dx, r, kk, rs, h1, h2, h3, h4, h5⟩ := id mm
    refine ⟨dx, _, h1, mf_none (by decide +kernel) (by decide +kernel) (by decide +kernel), a, p, S, R, Kd, rfl, mm, hp, ?_⟩
    refine ⟨C, dx, _, .str (T S), h1, cM.cls, cM.nL, rfl, S, l, rfl, hl, hz, fun H1 e1 => ?_⟩
    exact ⟨dx, _, e1 _ _ h1, mf_none (by decide +kernel) (by decide +kernel) (by decide +kernel), a, p, l, S, R, Kd, rfl, mm.ext e1, ok.nd, ok.rows, hp, hl, q H1 e1⟩
theorem scTakes : FnScope ["self", "text"] ["self", "text"] (defScope sTakes) := ⟨rfl, rfl, rfl, by decide +kernel, rfl, by decide +kernel, by decide +kernel⟩
def spTakes (C : Addr) : Sp := fun vs H Q _ => ∃ (a : Addr) (l S : List Nat) (R : Rows) (Kd : List Bool), vs = [.ref a, .str (T l)] ∧ Mach C H a S R Kd ∧ MOk S R Kd ∧ (∀ c ∈ l, c ∈ S) ∧ l.length ≤ 1000000 ∧ ∀ H', Same H H' → Q (.bl (Kd.getD (led S R 0 l) false)) H'
theorem ok_takes {f : Addr} {fd : FuncData} {k : Nat} (F : Fun K "takes" "Machine.takes" sTakes f fd) (M : Mx mg) (cM : ClsM K C) (HL : HasM P w K mg base k C "_led" ["place", "text"] (spLed C))
    (HT : Has P w K mg base k "need_text" ["value", "letters"] spNeedText) : FnG P w K mg base CX0 (k + 1) f fd ["self", "text"] (spTakes C) := by
  refine okG F scTakes (fun vs H Q E h => ?_) (fun cdv A hA outer s H vs Q E hr h => ?_)
  · obtain ⟨a, c, S, R, Kd, rfl, _⟩ := h; rfl
  · obtain ⟨a, l, S, R, Kd, rfl, mm, ok, hl, hz, q⟩ := h
    refine ⟨_, pss_cons (ps_expr (pe_callH HT hA hr (by rfl) (pa_cons (uv 1) (pa_cons (pe_fldU (uv 0)) pa_nil))))
      (pss_one (ps_ret (pe_ixU (pe_fldU (uv 0)) (pe_mH HL cM.cls hA hr (uv 0) (pa_cons pe_int (pa_cons (uv 1) pa_nil)))))), ?_⟩
    obtain ⟨dx, r, kk, rs, h1, h2, h3, h4, h5⟩ := id mm
    refine ⟨C, dx, _, .str (T S), h1, cM.cls, cM.nL, rfl, S, l, rfl, hl, hz, fun H1 e1 => ?_⟩
    refine ⟨C, dx, _, .ref kk, e1 _ _ h1, cM.cls, cM.nK, rfl, ?_⟩
    have lo := ok.lo
    have lt := led_lt (p := 0) ok.rows (by omega) l hl
    have hk : Kd[led S R 0 l]? = some (Kd.getD (led S R 0 l) false) := by
      rw [List.getD_eq_getElem?_getD, List.getElem?_eq_getElem (by rw [ok.kinds]; exact lt)]; rfl
    refine ⟨dx, _, e1 _ _ h1, mf_none (by decide +kernel) (by decide +kernel) (by decide +kernel), a, 0, l, S, R, Kd, rfl, mm.ext e1, ok.nd, ok.rows, by omega, hl, ?_⟩
    exact ⟨Kd.map V.bl, .bl (Kd.getD (led S R 0 l) false), .inl (.inl (.inl (e1 _ _ h5))), atI_nat (by rw [List.getElem?_map, hk]; rfl), q H1 e1⟩
theorem scRows : FnScope ["self", "row"] ["self"] (defScope sRows) := ⟨rfl, rfl, rfl, by decide +kernel, rfl, by decide +kernel, by decide +kernel⟩
/-- new lists all through -/
def spRows (C : Addr) : Sp := fun vs H Q _ => ∃ (a : Addr) (S : List Nat) (R : Rows) (Kd : List Bool), vs = [.ref a] ∧ Mach C H a S R Kd ∧ R.length ≤ 1000 ∧ ∀ (H' : Hp) (p : Addr) (ls : List Addr), Same H H' → H p = none → H' p = some (.lst (ls.map V.ref)) → ls.length = R.length →
  (∀ i q, ls[i]? = some q → H q = none ∧ q ≠ p ∧ H' q = some (.lst (iv (gls R i)))) → ls.Nodup → Q (.ref p) H'
theorem ok_rows {f : Addr} {fd : FuncData} {k : Nat} (F : Fun K "rows" "Machine.rows" sRows f fd) (M : Mx mg) (cM : ClsM K C) : FnG P w K mg base CX0 (k + 1) f fd ["self"] (spRows C) := by
  refine okG F scRows (fun vs H Q E h => ?_) (fun cdv A hA outer s H vs Q E hr h => ?_)
  · obtain ⟨a, S, R, Kd, rfl, _⟩ := h; rfl
  · obtain ⟨a, S, R, Kd, rfl, ⟨dx, r, kk, rs, h1, h2, h3, h4, h5⟩, hz, q⟩ := h
    have nd := scRows.nd
    have sl := sizeLine_eq
    refine ⟨_, pss_one (ps_ret (pe_lc (own := [("row", 1)]) (g := gName 1) (tt := tYes) rfl nd (pi_list (pe_fldU (uv 0))) (blkOk_by (N := ["self", "row"]) (sc := defScope sRows) (by decide +kernel))
        (fun _ _ _ _ _ => pg_name (i := 1) nd rfl (Or.inl rfl)) (fun _ _ _ _ _ => pts_nil) (fun _ _ _ _ _ => pe_callTy (r := listU K) (c_list rfl) (by rfl) M.list b_list (pa_cons (uv 1) pa_nil)))), ?_⟩
    dsimp only [tRet]
    refine lc_list (K := K) (t := uFld K "_rows" (uVar 0)) (a := r) (xs := rs.map V.ref) (H1 := H) (fun R' h => ⟨C, dx, _, .ref r, h1, cM.cls, cM.nR, rfl, h⟩) (.inl (.inl h2)) (fun D pre acc H5 => ∃ ls : List Addr, pre = (rs.take ls.length).map V.ref ∧ ls.length ≤ rs.length ∧ acc = ls.map V.ref ∧ Same H H5 ∧
        H5 D = some (.lst (ls.map V.ref)) ∧ (∀ i p, ls[i]? = some p → H p = none ∧ p ≠ D ∧ H5 p = some (.lst (iv (gls R i)))) ∧ ls.Nodup)
      (fun D pre acc H5 h => by obtain ⟨_, _, _, _, h, _⟩ := h; exact .inl (.inl (h _ _ h2))) (fun D nD => ⟨[], rfl, Nat.zero_le _, rfl, same_upd nD, upd_same, (fun i p z => nomatch z), List.Pairwise.nil⟩)
      (fun D nD pre acc x suf H5 ex2 h => ?_) (fun D nD acc H5 h => ?_)
    · obtain ⟨ls, rfl, ll, rfl, b5, hd5, hl5, ndl⟩ := h
      have l1 : ((rs.take ls.length).map V.ref).length = ls.length := by rw [List.length_map, List.length_take]; omega
      have l2 : ls.length < rs.length := by
        have := congrArg List.length ex2
        rw [List.length_append, l1, List.length_map, List.length_cons] at this
        omega
      have hx : (rs.map V.ref)[ls.length]? = some x := by rw [ex2, List.getElem?_append_right (by omega), l1, Nat.sub_self]; rfl
      rw [List.getElem?_map] at hx
      obtain ⟨qa, hqa, rfl⟩ := Option.map_eq_some_iff.mp hx
      refine ⟨rfl, .inl ⟨iv (gls R ls.length), .inl (.inl (.inl (b5 _ _ (h4 _ _ hqa)))), fun l nl => ?_⟩⟩
      have n2 : l ≠ D := fun z => by rw [z, hd5] at nl; cases nl
      have nlH := Same.free b5 nl
      refine ⟨ls.map V.ref, by rw [upd_ne n2.symm]; exact hd5, by rw [List.length_map]; omega, _, ls ++ [l], ?_, by rw [List.length_append]; exact l2, rfl, same_upd2 (same_upd2 b5 nlH) nD, by rw [upd_same, List.map_append]; rfl, fun i p hp => ?_, ?_⟩
      · rw [List.length_append]
        show _ = (rs.take (ls.length + 1)).map V.ref
        rw [List.take_add_one, hqa, List.map_append]; rfl
      · rcases Nat.lt_or_ge i ls.length with hlt | hge
        · rw [List.getElem?_append_left hlt] at hp
          obtain ⟨g1, g2, g3⟩ := hl5 i p hp
          have n4 : p ≠ l := fun z => by rw [z, nl] at g3; cases g3
          exact ⟨g1, g2, by rw [upd_ne g2, upd_ne n4]; exact g3⟩
        · rw [List.getElem?_append_right hge] at hp
          have e6 : i - ls.length = 0 := by
            have := (List.getElem?_eq_some_iff.mp hp).1
            simp at this; omega
          rw [e6] at hp
          have : l = p := by simpa using hp
          subst this
          have : i = ls.length := by omega
          subst this
          exact ⟨nlH, n2, by rw [upd_ne n2]; exact upd_same⟩
      · refine List.nodup_append.mpr ⟨ndl, by simp, fun x hx y hy e => ?_⟩
        simp at hy; subst hy; subst e
        obtain ⟨i, hi⟩ := List.mem_iff_getElem?.mp hx
        have := (hl5 i x hi).2.2
        rw [nl] at this; cases this
    · obtain ⟨ls, el, ll, rfl, b5, hd5, hl5, ndl⟩ := h
      have lls : ls.length = rs.length := by
        have := congrArg List.length el
        rw [List.length_map, List.length_map, List.length_take] at this
        omega
      exact q _ D ls b5 nD hd5 (by omega) hl5 ndl
end
end LK

/-! least texts: lengths, look-ups -/
namespace LK
open PySem PySem.Spec PyProof.Rows L2 LamX
open scoped List
def txs (f : Ents) : List (Nat × V) := f.map fun e => (e.1, V.str (T e.2))
theorem txs_keys (f : Ents) : (txs f).map (·.1) = f.map (·.1) := by unfold txs; rw [List.map_map]; rfl
theorem txs_app (f : Ents) (e : Nat × List Nat) : txs (f ++ [e]) = txs f ++ [(e.1, V.str (T e.2))] := by unfold txs; rw [List.map_append]; rfl
theorem txs_look : ∀ {f : Ents} {p : Nat} {t : List Nat}, (f.map (·.1)).Nodup → (p, t) ∈ f → (txs f).lookup p = some (.str (T t))
  | [], _, _, _, h => nomatch h
  | (a, x) :: f, p, t, nd, h => by
    obtain ⟨n1, n2⟩ := List.nodup_cons.mp nd
    show List.lookup p ((a, V.str (T x)) :: txs f) = _
    rcases List.mem_cons.mp h with e | h
    · cases e; exact List.lookup_cons_self
    · have ne : p ≠ a := fun e => n1 (e ▸ List.mem_map.mpr ⟨(p, t), h, rfl⟩)
      rw [List.lookup_cons]
      have : (p == a) = false := by simpa using ne
      rw [this]
      exact txs_look n2 h
theorem add1T_pre {t : List Nat} {f : Ents} {cg : Nat × Nat} : f <+: add1T t f cg := by
  unfold add1T; split
  · exact List.prefix_refl _
  · exact List.prefix_append _ _
theorem addsT_pre {t : List Nat} : ∀ {cs : List (Nat × Nat)} {f : Ents}, f <+: addsT t f cs
  | [], _ => List.prefix_refl _
  | cg :: cs, f => add1T_pre.trans (addsT_pre (cs := cs) (f := add1T t f cg))
theorem addsT_app {t : List Nat} {f : Ents} {cs : List (Nat × Nat)} {cg : Nat × Nat} : addsT t f (cs ++ [cg]) = add1T t (addsT t f cs) cg := by unfold addsT; rw [List.foldl_append]; rfl
theorem addsT_nd {t : List Nat} {f : Ents} {cs : List (Nat × Nat)} (h : (f.map (·.1)).Nodup) : ((addsT t f cs).map (·.1)).Nodup := by rw [addsT_keys]; exact nd_adds h
theorem addsT_len {t : List Nat} {n : Nat} (ht : t.length < n) : ∀ {cs : List (Nat × Nat)} {f : Ents}, (∀ e ∈ f, e.2.length ≤ n) → ∀ e ∈ addsT t f cs, e.2.length ≤ n
  | [], f, h => h
  | cg :: cs, f, h => by
    refine addsT_len ht (cs := cs) (f := add1T t f cg) fun e he => ?_
    unfold add1T at he
    split at he
    · exact h e he
    · rcases List.mem_append.mp he with he | he
      · exact h e he
      · simp at he; rw [he]; simp; omega
section
variable {R : Rows} {s : Nat} {S : List Nat}
theorem fndT_len : ∀ i, ∀ e ∈ fndT S R s i, e.2.length ≤ i
  | 0, e, h => by simp [fndT] at h; rw [h]; simp
  | i + 1, e, h => by
    have ih := fndT_len i
    cases hp : (fndT S R s i)[i]? with
    | none =>
      have e1 : fndT S R s (i + 1) = fndT S R s i := by
        show (match (fndT S R s i)[i]? with | some e => addsT e.2 (fndT S R s i) (S.zip (gls R e.1)) | none => fndT S R s i) = _
        rw [hp]
      rw [e1] at h
      exact Nat.le_succ_of_le (ih e h)
    | some p =>
      rw [fndT_step hp] at h
      exact addsT_len (Nat.lt_succ_of_le (ih p (List.mem_of_getElem? hp))) (fun e he => Nat.le_succ_of_le (ih e he)) e h
theorem fndT_pre1 (i : Nat) : fndT S R s i <+: fndT S R s (i + 1) := by
  show _ <+: (match (fndT S R s i)[i]? with | some e => addsT e.2 (fndT S R s i) (S.zip (gls R e.1)) | none => fndT S R s i)
  split
  · exact addsT_pre
  · exact List.prefix_refl _
theorem fndT_pre {i j : Nat} (h : i ≤ j) : fndT S R s i <+: fndT S R s j := by
  induction j with
  | zero => obtain rfl : i = 0 := by omega
            exact List.prefix_refl _
  | succ j ih =>
    by_cases e : i = j + 1
    · rw [e]; exact List.prefix_refl _
    · exact (ih (by omega)).trans (fndT_pre1 j)
theorem fndT_nd (ok : RowsOk R S.length) (hs : s < R.length) (i : Nat) : ((fndT S R s i).map (·.1)).Nodup := by rw [fndT_keys ok hs]; exact fnd_nd i
theorem fndT_le (ok : RowsOk R S.length) (hs : s < R.length) (i : Nat) : (fndT S R s i).length ≤ R.length := by
  rw [← List.length_map (f := (·.1)), fndT_keys ok hs]; exact fnd_len ok hs i
end
end LK

namespace LK
open PySem PySem.Spec PyProof.Rows L2 LamX ClX
open scoped List
/-- the machine's own rows: lists of a list -/
def RowsL (H : Hp) (r : Addr) (R : Rows) : Prop := ∃ rs : List Addr, H r = some (.lst (rs.map V.ref)) ∧ rs.length = R.length ∧ ∀ i p, rs[i]? = some p → H p = some (.lst (iv (gls R i)))
theorem RowsL.ext {H H' : Hp} {r : Addr} {R : Rows} (h : RowsL H r R) (e : Same H H') : RowsL H' r R := by
  obtain ⟨rs, h1, h2, h3⟩ := h
  exact ⟨rs, e _ _ h1, h2, fun i p hp => e _ _ (h3 i p hp)⟩
section
variable {P : Program} {w : World} {K : PySem.W.Frag} {mg : Str → Option Value} {base : Heap} {C : Addr}
theorem scFirst : FnScope ["letters", "rows", "start", "texts", "row", "longer", "place", "letter", "goal"] ["letters", "rows", "start"] (defScope sFirstTexts) := ⟨rfl, rfl, rfl, by decide +kernel, rfl, by decide +kernel, by decide +kernel⟩
def spFirst : Sp := fun vs H Q _ => ∃ (r : Addr) (s : Nat) (S : List Nat) (R : Rows), vs = [.str (T S), .ref r, .int s] ∧ RowsL H r R ∧ RowsOk R S.length ∧ (∀ c ∈ S, c < 128) ∧ s < R.length ∧ R.length ≤ 1000 ∧
  ∀ H' D, Same H H' → H D = none → H' D = some (.dK (kmp (txs (metT S R s)))) → Q (.ref D) H'
theorem ok_first {f : Addr} {fd : FuncData} {k : Nat} (F : Fun K "first_texts" "first_texts" sFirstTexts f fd) (M : Mx mg) : FnG P w K mg base CX0 (k + 1) f fd ["letters", "rows", "start"] spFirst := by
  refine okG F scFirst (fun vs H Q E h => ?_) (fun cdv A hA outer s H vs Q E hr h => ?_)
  · obtain ⟨r, s0, S, R, rfl, _⟩ := h; rfl
  · obtain ⟨r, s0, S, R, rfl, ⟨rs, hs', hl', hrow'⟩, ok, hasc, hs, hn, q⟩ := h
    have nd := scFirst.nd
    have sl := sizeLine_eq
    refine ⟨_, pss_cons (ps_set (i := 3) nd rfl (.inl rfl) (pe_disp (pps_cons (uv 2) (ustr []) pps_nil) (by rfl) (by rfl) (fun z => by cases z) (by decide)))
      (pss_cons (ps_set (i := 4) nd rfl (.inl rfl) (pe_lst (pa_cons (uv 2) pa_nil)))
      (pss_cons (ps_while PassesOwn.never (pt_truth (uv 4) (by intro _; rfl))
        (pss_cons (ps_set (i := 5) nd rfl (.inl rfl) (pe_lst pa_nil))
        (pss_cons (ps_for PassesOwn.never rfl (pi_list (uv 4)) (pg_name (i := 6) nd rfl (.inl rfl))
          (pss_one (ps_for PassesOwn.never rfl (pi_zipSL (by rfl) M.zip (pa_cons (uv 0) (pa_cons (pe_ixU (uv 1) (uv 6)) pa_nil))) (pg_tup rfl (pgs_cons (pg_name (i := 7) nd rfl (.inl rfl)) (pgs_cons (pg_name (i := 8) nd rfl (.inl rfl)) pgs_nil)))
            (pss_one (ps_ifU (pt_cmp (pc_dnotin (Room.u1 hr) (uv 8) (uv 3)))
              (pss_cons (ps_dput (Room.u1 hr) (uv 3) (uv 8) (pe_op o_add (pe_dget (Room.u1 hr) (uv 3) (uv 6) (fun _ _ => rfl)) (uv 7)) rfl)
              (pss_one (ps_expr (pe_bm PySem.F.plainAttrs_list PySem.F.slot_list_append PySem.F.type_list_append mt_append (uv 5) (pa_cons (uv 8) pa_nil))))) pss_nil)))))
        (pss_one (ps_set (i := 4) nd rfl (.inl rfl) (uv 5))))))
      (pss_one (ps_ret (uv 3))))), ?_⟩
    intro D nD
    refine ⟨upd_same, [(kI s0, .str (T []))], rfl, by show 1 ≤ 15; omega, ?_⟩
    refine ⟨by show 1 ≤ sizeLine; omega, fun L nL => ?_⟩
    have eD : upd (upd H D (.dK [])) D (.dK (mergeK [] [(kI s0, V.str (T []))])) = upd H D (.dK (kmp (txs (fndT S R s0 0)))) := by rw [upd_upd]; rfl
    rw [eD] at nL ⊢
    have hLD : L ≠ D := fun e => by rw [e, upd_same] at nL; cases nL
    have sD : Same H (upd H D (.dK (kmp (txs (fndT S R s0 0))))) := same_upd nD
    have nLH : H L = none := Same.free sD nL
    dsimp only [tSeq, tAsg, gName]
    show tWhile _ _ _ _ _
    refine wh (m0 := R.length) (fun mm σ H2 => ∃ i L y5 y6 y7 y8, mm = R.length - i ∧ i ≤ (fndT S R s0 i).length ∧ Same H H2 ∧ H2 D = some (.dK (kmp (txs (fndT S R s0 i)))) ∧ H2 L = some (.lst (iv (((fndT S R s0 i).map (·.1)).drop i))) ∧ H L = none ∧ L ≠ D ∧
      σ = [some (.str (T S)), some (.ref r), some (.int s0), some (.ref D), some (.ref L), y5, y6, y7, y8]) ⟨0, L, none, none, none, none, rfl, Nat.zero_le _, same_upd2 sD nLH, by rw [upd_ne hLD.symm]; exact upd_same, upd_same, nLH, hLD, rfl⟩ (fun mm σ H2 iv2 => ?_) (fun σ H Q Q' hm h => ?_)
    case refine_2 =>
      simp only [uVar] at h ⊢
      split at h
      · obtain ⟨kk, a, b⟩ := h; exact ⟨kk, a, hm _ _ b⟩
      · exact h.elim
    clear nL hLD sD nLH eD L
    obtain ⟨i, L, y5, y6, y7, y8, rfl, hi, e2, hD, hL, nL, hLD, rfl⟩ := iv2
    have hf := fndT_le ok hs i
    generalize hfe : fndT S R s0 i = fi at hi hD hL hf
    have kl : (fi.map (·.1)).length = fi.length := List.length_map _
    by_cases hlt : fi.length ≤ i
    · have e3 : (fi.map (·.1)).drop i = [] := List.drop_eq_nil_iff.mpr (by omega)
      refine ⟨false, .inl ⟨_, .inl (.inl hL), by rw [e3]; rfl⟩, ?_⟩
      have em : fi = metT S R s0 := by rw [← hfe]; exact fndT_met ok hs (by rw [hfe]; exact hlt)
      rw [em] at hD
      show (if false = true then _ else _)
      rw [if_neg Bool.false_ne_true]
      exact q _ _ e2 nD hD
    generalize hke : fi.map (·.1) = ki at hL kl
    have e3 : (!(iv (ki.drop i)).isEmpty) = true := by
      have : ki.drop i ≠ [] := fun z => hlt (by have := List.drop_eq_nil_iff.mp z; omega)
      cases h : ki.drop i with
      | nil => exact absurd h this
      | cons _ _ => rfl
    refine ⟨true, .inl ⟨_, .inl (.inl hL), e3.symm⟩, ?_⟩
    show (if true = true then _ else _)
    rw [if_pos rfl]
    refine ⟨by show 0 ≤ sizeLine; omega, fun B nB => ?_⟩
    have hBD : B ≠ D := fun e => by rw [e, hD] at nB; cases nB
    have hBL : B ≠ L := fun e => by rw [e, hL] at nB; cases nB
    have nBH : H B = none := Same.free e2 nB
    dsimp only [tNext, tSeq]
    refine for_list (K := K) (a := L) (xs := iv (ki.drop i)) (H1 := upd H2 B (.lst [])) (by exact fun _ h => h) (.inl (.inl (by rw [upd_ne hBL.symm]; exact hL))) (fun pre σ H3 => ∃ j y6 y7 y8, pre = iv ((ki.drop i).take j) ∧ j ≤ (ki.drop i).length ∧ Same H H3 ∧
        H3 D = some (.dK (kmp (txs (fndT S R s0 (i + j))))) ∧ H3 L = some (.lst (iv (ki.drop i))) ∧ H3 B = some (.lst (iv (((fndT S R s0 (i + j)).map (·.1)).drop fi.length))) ∧ σ = [some (.str (T S)), some (.ref r), some (.int s0), some (.ref D), some (.ref L), some (.ref B), y6, y7, y8])
      (fun pre σ H3 h => ?_) ⟨0, y6, y7, y8, rfl, Nat.zero_le _, same_upd2 e2 nBH, ?_, ?_, ?_, rfl⟩ (fun pre x suf σ H3 ex h => ?_) (fun σ H3 h => ?_)
    · obtain ⟨_, _, _, _, _, _, _, _, h, _⟩ := h; exact .inl (.inl h)
    · rw [upd_ne hBD.symm]; show _ = some (HO.dK (kmp (txs (fndT S R s0 (i + 0))))); rw [Nat.add_zero, hfe]; exact hD
    · rw [upd_ne hBL.symm]; exact hL
    · rw [upd_same, Nat.add_zero, hfe, hke, ← kl, List.drop_length]; rfl
    · obtain ⟨j, y6, y7, y8, rfl, hj, e4, hD4, hL4, hB4, rfl⟩ := h
      have lj : (iv ((ki.drop i).take j)).length = j := by rw [List.length_map, List.length_take]; omega
      have hj2 : j < (ki.drop i).length := by
        have := congrArg List.length ex
        rw [List.length_append, lj, List.length_map, List.length_cons] at this
        omega
      have hx : (iv (ki.drop i))[j]? = some x := by rw [ex, List.getElem?_append_right (by omega), lj, Nat.sub_self]; rfl
      rw [List.getElem?_map, List.getElem?_eq_getElem hj2] at hx
      have hx := (Option.some.inj hx).symm
      subst hx
      have hp0 : ki[i + j]? = some (ki.drop i)[j] := by rw [← List.getElem?_drop]; exact List.getElem?_eq_getElem hj2
      generalize (ki.drop i)[j] = p at hp0 ex ⊢
      have hp1 := hp0
      rw [← hke, List.getElem?_map] at hp1
      obtain ⟨⟨p', t⟩, he0, rfl⟩ := Option.map_eq_some_iff.mp hp1
      have hp : (fndT S R s0 (i + j))[i + j]? = some (p', t) := by
        obtain ⟨u, et⟩ := fndT_pre (R := R) (s := s0) (S := S) (i := i) (j := i + j) (by omega)
        rw [← et, hfe]; exact (List.getElem?_append_left (List.getElem?_eq_some_iff.mp he0).1).trans he0
      have lij : i + j < fi.length := (List.getElem?_eq_some_iff.mp he0).1
      have tl : t.length ≤ 1000 := by
        have := fndT_len (i + j) (p', t) (List.mem_of_getElem? hp)
        have : t.length ≤ i + j := this
        omega
      have plt : p' < R.length := fnd_lt ok hs (i + j) p' (by rw [← fndT_keys ok hs]; exact List.mem_map.mpr ⟨(p', t), List.mem_of_getElem? hp, rfl⟩)
      have hqa : rs[p']? = some rs[p'] := List.getElem?_eq_getElem (by omega)
      generalize rs[p'] = qa at hqa
      have hq := hrow' p' qa hqa
      have ndf := fndT_nd (S := S) ok hs (i + j)
      have final := fndT_step hp
      have fl : fi.length ≤ (fndT S R s0 (i + j)).length := by
        have := (fndT_pre (R := R) (s := s0) (S := S) (i := i) (j := i + j) (by omega)).length_le
        rw [hfe] at this; exact this
      have mem0 := List.mem_of_getElem? hp
      have le1 := fndT_le (S := S) ok hs (i + j + 1)
      rw [final] at le1
      generalize hf0 : fndT S R s0 (i + j) = f0 at hD4 hB4 ndf final fl mem0 le1
      show tFor (iZipSL K (tCons (uVar 0) (tCons (tOp (ixU K) (uVar 1) (uVar 6)) tNil))) _ _ _ _ _
      have lz : (S.zip (gls R p')).length = S.length := by rw [List.length_zip, gls_len ok plt, Nat.min_self]
      refine for_zipSL (K := K) (l := S) (b := qa) (ys := iv (gls R p')) (H1 := H3) (fun R' hR' => ⟨rs.map V.ref, .ref qa, .inl (.inl (.inl (e4 _ _ hs'))), atI_nat (by rw [List.getElem?_map, hqa]; rfl), hR'⟩) hasc (by rw [List.length_map, gls_len ok plt])
        (fun n σ H4 => ∃ y7 y8, Same H H4 ∧ H4 D = some (.dK (kmp (txs (addsT t f0 ((S.zip (gls R p')).take n))))) ∧ H4 L = some (.lst (iv (ki.drop i))) ∧ H4 B = some (.lst (iv (((addsT t f0 ((S.zip (gls R p')).take n)).map (·.1)).drop fi.length))) ∧
          σ = [some (.str (T S)), some (.ref r), some (.int s0), some (.ref D), some (.ref L), some (.ref B), some (.int p'), y7, y8])
        ⟨y7, y8, e4, hD4, hL4, hB4, rfl⟩ (fun n σ H4 h => by obtain ⟨_, _, h, _⟩ := h; exact .inl (.inl (h _ _ hq))) (fun n c y pr σ H4 hc hy h npr => ?_) (fun σ H4 h => ?_)
      · obtain ⟨y7, y8, e5, hD5, hL5, hB5, rfl⟩ := h
        rw [List.getElem?_map] at hy
        obtain ⟨g, hg, rfl⟩ := Option.map_eq_some_iff.mp hy
        have hz : (S.zip (gls R p'))[n]? = some (c, g) := by rw [List.getElem?_zip_eq_some]; exact ⟨hc, hg⟩
        have et : (S.zip (gls R p')).take (n + 1) = (S.zip (gls R p')).take n ++ [(c, g)] := by rw [List.take_add_one, hz]; rfl
        have cl : (addsT t f0 ((S.zip (gls R p')).take n)).length ≤ R.length := by
          refine Nat.le_trans ?_ le1
          have : addsT t f0 (S.zip (gls R p')) = addsT t (addsT t f0 ((S.zip (gls R p')).take n)) ((S.zip (gls R p')).drop n) := by
            unfold addsT; rw [← List.foldl_append, List.take_append_drop]
          show _ ≤ (addsT t f0 (S.zip (gls R p'))).length
          rw [this]
          exact addsT_pre.length_le
        have cl2 : fi.length ≤ (addsT t f0 ((S.zip (gls R p')).take n)).length := Nat.le_trans fl addsT_pre.length_le
        have ea : addsT t f0 ((S.zip (gls R p')).take (n + 1)) = add1T t (addsT t f0 ((S.zip (gls R p')).take n)) (c, g) := by rw [et, addsT_app]
        have ndc := addsT_nd (t := t) (cs := (S.zip (gls R p')).take n) ndf
        have memc : (p', t) ∈ addsT t f0 ((S.zip (gls R p')).take n) := addsT_pre.subset mem0
        rw [ea]
        generalize addsT t f0 ((S.zip (gls R p')).take n) = cur at hD5 hB5 cl cl2 ndc memc ⊢
        have nD5 : D ≠ pr := ne_of_none hD5 npr
        have nB5 : B ≠ pr := ne_of_none hB5 npr
        have nL5 : L ≠ pr := ne_of_none hL5 npr
        have npH : H pr = none := Same.free e5 npr
        refine ⟨pr, _, rfl, .inl (.inl upd_same), rfl, _, _, rfl, _, _, rfl, rfl, ?_⟩
        have e6 : Same H (upd H4 pr (.tup [.str (T [c]), .int (g : Nat)])) := same_upd2 e5 npH
        have hD6 : (upd H4 pr (.tup [.str (T [c]), .int (g : Nat)])) D = some (.dK (kmp (txs cur))) := by rw [upd_ne nD5]; exact hD5
        have hL6 : (upd H4 pr (.tup [.str (T [c]), .int (g : Nat)])) L = some (.lst (iv (ki.drop i))) := by rw [upd_ne nL5]; exact hL5
        have hB6 : (upd H4 pr (.tup [.str (T [c]), .int (g : Nat)])) B = some (.lst (iv ((cur.map (·.1)).drop fi.length))) := by rw [upd_ne nB5]; exact hB5
        generalize upd H4 pr (.tup [.str (T [c]), .int (g : Nat)]) = H6 at e6 hD6 hL6 hB6
        refine ⟨D, _, rfl, DGet.k (k := kI g) hD6, _, rfl, ?_⟩
        rw [val_kmp, look_isSome, txs_keys]
        refine .nd (fun hg => ?_) (fun hg => ?_)
        · have ec : add1T t cur (c, g) = cur ++ [(g, t ++ [c])] := if_neg hg
          have lk : (kmp (txs cur)).length = cur.length := by rw [List.length_map]; exact List.length_map _
          have ep : putK (kmp (txs cur)) (kI g) (.str (T (t ++ [c]))) = kmp (txs (cur ++ [(g, t ++ [c])])) := by
            rw [put_kmp _ (by rw [txs_keys]; exact hg), txs_app]
          have dg : DGet H6 D (.int p') (some (.str (T t))) := by
            have := DGet.k (k := kI p') hD6
            rw [val_kmp, txs_look ndc memc] at this
            exact this
          refine ⟨D, .str (T t), rfl, dg, by show t.length + 1 ≤ sizeLine; omega, D, _, rfl, DPut.k (k := kI g) hD6 (by rw [lk]; omega), ?_⟩
          rw [show putK (kmp (txs cur)) (kI g) (.str (T (cs (T t) ++ cs (T [c])))) = kmp (txs (cur ++ [(g, t ++ [c])])) from ep]
          have hB7 : (upd H6 D (.dK (kmp (txs (cur ++ [(g, t ++ [c])]))))) B = some (.lst (iv ((cur.map (·.1)).drop fi.length))) := by rw [upd_ne hBD]; exact hB6
          have kc : (cur.map (·.1)).length = cur.length := List.length_map _
          refine ⟨.inl ⟨rfl, _, .inl (.inl hB7)⟩, B, _, _, rfl, rfl, hB7, by rw [List.length_map, List.length_drop]; omega, ?_⟩
          refine ⟨_, _, same_upd2 (same_upd2 e6 nD) nBH, ?_, ?_, ?_, rfl⟩
          · rw [upd_ne hBD.symm, upd_same, ec]
          · rw [upd_ne hBL.symm, upd_ne hLD]; exact hL6
          · rw [upd_same, ec, List.map_append, List.drop_append_of_le_length (by omega), iv_app]; rfl
        · have ec : add1T t cur (c, g) = cur := if_pos hg
          rw [ec]
          exact ⟨_, _, e6, hD6, hL6, hB6, rfl⟩
      · obtain ⟨y7, y8, e5, hD5, hL5, hB5, rfl⟩ := h
        have ez : (S.zip (gls R p')).take S.length = S.zip (gls R p') := List.take_of_length_le (by omega)
        rw [ez] at hD5 hB5
        have es : addsT t f0 (S.zip (gls R p')) = fndT S R s0 (i + (j + 1)) := final.symm
        rw [es] at hD5 hB5
        refine ⟨j + 1, _, _, _, ?_, hj2, e5, hD5, hL5, hB5, rfl⟩
        have : (ki.drop i).take (j + 1) = (ki.drop i).take j ++ [p'] := by
          rw [List.take_add_one, show (ki.drop i)[j]? = some p' by rw [List.getElem?_drop]; exact hp0]; rfl
        rw [this, iv_app]; rfl
    · obtain ⟨j, y6, y7, y8, ej, hj, e4, hD4, hL4, hB4, rfl⟩ := h
      have ej := iv_inj ej
      have lj : j = (ki.drop i).length := by
        have := congrArg List.length ej
        rw [List.length_take] at this
        omega
      have ij : i + j = fi.length := by rw [lj, List.length_drop]; omega
      rw [ij] at hD4 hB4
      have fl : fi.length ≤ (fndT S R s0 fi.length).length := by
        have := (fndT_pre (R := R) (s := s0) (S := S) (i := i) (j := fi.length) (by omega)).length_le
        rw [hfe] at this; exact this
      exact ⟨R.length - fi.length, by omega, fi.length, B, _, _, _, _, rfl, fl, e4, hD4, hB4, nBH, hBD, rfl⟩
end
end LK

/-! walks over a dict's keys in a comprehension; what comes of known values -/
namespace LK
open PySem PySem.Spec PyProof.Rows L2 LamX
open scoped List
theorem wk_keys {d : Addr} {o : Obj} {kvs : List (Key × V)} : Wk (Itk d o kvs) (kvs.map fun kv => kV kv.1) (fun H => H d = some (.frz o (.dK kvs))) := by
  refine ⟨fun i H h l => ⟨h, by rw [List.length_map] at l; exact l⟩, fun i H x H' h _ y => ?_, fun i H h l => ⟨h, by rw [List.length_map] at l; exact l⟩⟩
  obtain ⟨e, k, v, hk, rfl⟩ := y
  exact ⟨e, by rw [List.getElem?_map, hk]; rfl⟩
/-! the same rules, K said by itself: within a comprehension -/
section
variable {X : Cx} {K : PySem.W.Frag} {a b e tg : Expr} {ta tb te : TE} {pos : Pos}
theorem pe_ixK (hK : X.K = K) (ha : PE X a ta) (hb : PE X b tb) (hs : PlainIx b := by exact fun _ _ => rfl) : PE X (.Subscript a b pos) (tOp (ixU K) ta tb) := hK ▸ pe_ixU ha hb hs
theorem pi_sqK (hK : X.K = K) (he : PE X e te) : PI X tg e (iSq K te) := hK ▸ pi_sq he
theorem pi_listK (hK : X.K = K) (he : PE X e te) : PI X tg e (iList K te) := hK ▸ pi_list he
end
/-- a comprehension within a comprehension: its free names are cells or free names of the outer one -/
theorem relook {env : Env} {x : Str} : ∀ {names : List (Str × NameKind)}, (names.lookup x = some .cell ∨ names.lookup x = some .free) →
    ((names.map fun (n, k) => if (k == NameKind.free && env.scope.kind == .function && env.kindOf n == some .cell) then (n, NameKind.cell) else (n, k)).lookup x = some .cell ∨
      (names.map fun (n, k) => if (k == NameKind.free && env.scope.kind == .function && env.kindOf n == some .cell) then (n, NameKind.cell) else (n, k)).lookup x = some .free)
  | [], h => by rcases h with h | h <;> cases h
  | (n, k) :: r, h => by
    have ih := relook (env := env) (names := r) (x := x)
    simp only [List.map_cons]
    by_cases e : x = n
    · subst e
      rw [List.lookup_cons_self] at h
      by_cases c : (k == NameKind.free && env.scope.kind == .function && env.kindOf x == some .cell) = true
      · rw [if_pos c, List.lookup_cons_self]; exact .inl rfl
      · rw [if_neg c, List.lookup_cons_self]; exact h
    · have ne : (x == n) = false := by simpa using e
      rw [List.lookup_cons, ne] at h
      by_cases c : (k == NameKind.free && env.scope.kind == .function && env.kindOf n == some .cell) = true
      · rw [if_pos c, List.lookup_cons, ne]; exact ih h
      · rw [if_neg c, List.lookup_cons, ne]; exact ih h
theorem blkOk_in {env : Env} {N : List Str} {sc scope : Scope} {own : List (Str × Nat)} (h : blkC N sc scope own = true) : BlkOk N (relabel sc env) scope own :=
  let b := blkOk_by h
  ⟨b.kind, b.uniq, b.ix, fun y hy e => relook (b.free y hy e), b.own⟩
/-- the scope of a list comprehension -/
def lcScope : Expr → Scope
  | .ListComp _ _ sc _ => sc
  | _ => defScope (.Pass ⟨0, 0, 0, 0⟩)
/-- what the i-th statement of a def assigns or returns -/
def bodyVal (st : Stmt) (i : Nat) : Expr := match (defBody st).getD i (.Pass ⟨0, 0, 0, 0⟩) with
  | .Assign _ e _ => e
  | .Return (some e) _ => e
  | _ => .Name "" ⟨0, 0, 0, 0⟩
section
variable {K : PySem.W.Frag} {g : TG} {te : TE} {σ : L2.St} {H H1 : Hp} {vs : List Nat} {Q : VK} {t : TE}
/-- a comprehension over the keys of a locked dict: y i comes of the i-th key; all else stays -/
theorem lc_keys {d : Addr} {o : Obj} {kvs : List (Key × V)} (h : At t σ H (.ref d) H1) (hd : H1 d = some (.frz o (.dK kvs))) (R : Addr → List V → List V → Hp → Prop)
    (hP : ∀ D pre acc H, R D pre acc H → H d = some (.frz o (.dK kvs))) (h0 : ∀ D, H1 D = none → R D [] [] (upd H1 D (.lst [])))
    (hs : ∀ D, H1 D = none → ∀ pre acc x suf H, (kvs.map fun kv => kV kv.1) = pre ++ x :: suf → R D pre acc H → g x (wipe σ vs) H fun σ2 H2 => wipe σ2 vs = wipe σ vs ∧ te σ2 H2 fun y H4 =>
      ∃ acc, H4 D = some (.lst acc) ∧ acc.length < sizeLine ∧ ∃ a, R D (pre ++ [x]) a (upd H4 D (.lst (acc ++ [y]))))
    (he : ∀ D, H1 D = none → ∀ acc H, R D (kvs.map fun kv => kV kv.1) acc H → Q (.ref D) H) : tLc (iKeys t) g tYes te vs σ H Q :=
  h _ ⟨d, o, rfl, .inl ⟨kvs, hd, fun D nD => lc_wk wk_keys (fun pre acc H => R D pre acc H) (hP D) (h0 D nD) (hs D nD) (he D nD)⟩⟩
end
theorem keys_nums (f : List Nat) : ((kmp (nums f)).map fun kv => kV kv.1) = iv f := by
  unfold kmp
  rw [List.map_map]
  have : ((fun kv : Key × V => kV kv.1) ∘ fun p : Nat × V => (kI p.1, p.2)) = (fun g : Nat => V.int (g : Int)) ∘ Prod.fst := rfl
  rw [this, ← List.map_map, nums_keys]
theorem split_iv {f : List Nat} {pre suf : List V} {x : V} (h : iv f = pre ++ x :: suf) : ∃ p g q, f = p ++ g :: q ∧ pre = iv p ∧ x = .int (g : Nat) := by
  obtain ⟨p, q, e1, e2, e3⟩ := List.map_eq_append_iff.mp h
  obtain ⟨g, q', rfl, rfl, _⟩ := List.map_eq_cons_iff.mp e3
  exact ⟨p, g, q', e1, e2.symm, rfl⟩
end LK

namespace LK
open PySem PySem.Spec PyProof.Rows L2 LamX ClX
open scoped List
theorem nil_none {α : Type} {i : Nat} {q : α} (h : ([] : List α)[i]? = some q) : False := by rw [List.getElem?_nil] at h; cases h
section
variable {P : Program} {w : World} {K : PySem.W.Frag} {mg : Str → Option Value} {base : Heap} {C : Addr}
abbrev scN1 : Scope := { kind := .function, names := [(".0", .local), ("place", .local), ("numbers", .free), ("rows", .free)], isGenerator := false, isCoroutine := false }
theorem scNumFrom : FnScope ["letters", "rows", "kinds", "start", "numbers", "made", "place", "goal"] ["letters", "rows", "kinds", "start"] (defScope sNumFrom) := ⟨rfl, rfl, rfl, by decide +kernel, rfl, by decide +kernel, by decide +kernel⟩
/-- a new machine: the places that are come to from s, numbered as come to -/
def spNumFrom (C : Addr) : Sp := fun vs H Q _ => ∃ (r k : Addr) (s : Nat) (S : List Nat) (R : Rows) (Kd : List Bool), vs = [.str (T S), .ref r, .ref k, .int s] ∧ ShOk S R Kd ∧ s < R.length ∧ RowsL H r R ∧ H k = some (.lst (Kd.map V.bl)) ∧
  ∀ H' a, Same H H' → H a = none → Mach C H' a S (rn R (met R s)) ((met R s).map fun p => Kd.getD p false) → Q (.ref a) H'
theorem ok_numFrom {f : Addr} {fd : FuncData} {k : Nat} (F : Fun K "_numbered_from" "_numbered_from" sNumFrom f fd) (M : Mx mg) (HM : Has P w K mg base (k + 1) "_met_from" ["rows", "start"] (spMetFrom K))
    (HI : HasI P w K mg base k "Machine" C ["letters", "rows", "kinds"] (spInit K C)) : FnG P w K mg base CX0 (k + 2) f fd ["letters", "rows", "kinds", "start"] (spNumFrom C) := by
  refine okG F scNumFrom (fun vs H Q E h => ?_) (fun cdv A hA outer s H vs Q E hr h => ?_)
  · obtain ⟨r, k, s0, S, R, Kd, rfl, _⟩ := h; rfl
  · obtain ⟨r, k, s0, S, R, Kd, rfl, ok, hs, ⟨rs, hs', hl', hrow'⟩, hk, q⟩ := h
    have nd := scNumFrom.nd
    have sl := sizeLine_eq
    refine ⟨_, pss_cons (ps_set (i := 4) nd rfl (.inr rfl) (pe_callH HM hA hr (by rfl) (pa_cons (uv 1) (pa_cons (uv 3) pa_nil))))
      (pss_cons (ps_lock (ps_setLc (i := 5) (own := [("place", 6)]) (g := gName 6) (by rfl) nd rfl rfl (sw_true rfl rfl rfl (by decide +kernel)) (pi_keys (uv 4))
        (blkOk_by (N := ["letters", "rows", "kinds", "start", "numbers", "made", "place", "goal"]) (sc := defScope sNumFrom) (by decide +kernel))
        (fun _ _ _ _ _ => pg_name (i := 6) nd rfl (Or.inl rfl)) (fun _ _ _ _ _ => pts_nil)
        (fun _ _ _ _ _ => pe_lc (own := [("goal", 7)]) (g := gName 7) (tt := tYes) rfl nd (pi_sqK (K := K) rfl (pe_ixK (K := K) rfl (uv 1) (uv 6))) (blkOk_in (N := ["letters", "rows", "kinds", "start", "numbers", "made", "place", "goal"]) (sc := scN1) (by decide +kernel))
          (fun _ _ _ _ _ => pg_name (i := 7) nd rfl (Or.inl rfl)) (fun _ _ _ _ _ => pts_nil)
          (fun _ _ _ _ _ => pe_dget (Room.u1 hr) (uv 4) (uv 7) (fun _ _ => rfl)))))
      (pss_one (ps_ret (pe_mkI HI hA hr (by rfl) (pa_cons (uv 0) (pa_cons (uv 5) (pa_cons (pe_lock (pe_lc (own := [("place", 6)]) (g := gName 6) (tt := tYes) rfl nd (pi_keys (uv 4)) (blkOk_by (N := ["letters", "rows", "kinds", "start", "numbers", "made", "place", "goal"]) (sc := defScope sNumFrom) (by decide +kernel))
          (fun _ _ _ _ _ => pg_name (i := 6) nd rfl (Or.inl rfl)) (fun _ _ _ _ _ => pts_nil)
          (fun _ _ _ _ _ => pe_ixK (K := K) rfl (uv 2) (uv 6)))) pa_nil))))))), ?_⟩
    have hi := ok.hi
    refine ⟨r, s0, S.length, R, rfl, ⟨false, rs, .inl (.inl hs'), hl', fun i p hp => ⟨false, .inl (.inl (hrow' i p hp))⟩⟩, ok.rows, hs, by omega, fun H1 D e1 nD hD => ?_⟩
    have hclo := fun (p g : Nat) => met_closed (p := p) (g := g) ok.rows hs
    have hltL : ∀ x ∈ met R s0, x < R.length := fnd_lt ok.rows hs _
    have ndL : (met R s0).Nodup := met_nd
    have lenL : (met R s0).length ≤ R.length := fnd_len ok.rows hs _
    have rnok := rn_ok (L := met R s0) ok.rows hs (fun x => Iff.rfl)
    have rnwh := rn_whole (L := met R s0) ok.rows hs ndL (fun x => Iff.rfl) met_zero
    have s0L : s0 ∈ met R s0 := fnd_head _
    generalize met R s0 = L at hD hclo hltL ndL lenL rnok rnwh s0L q
    refine ⟨D, _, hD, trivial, fun od => ?_⟩
    have e2 : Same H (upd H1 D (.frz od (.dK (kmp (nums L))))) := same_upd2 e1 nD
    have hD2 : (upd H1 D (.frz od (.dK (kmp (nums L))))) D = some (.frz od (.dK (kmp (nums L)))) := upd_same
    generalize upd H1 D (.frz od (.dK (kmp (nums L)))) = H2 at e2 hD2
    dsimp only [tAsg]
    refine lc_keys (d := D) (o := od) (kvs := kmp (nums L)) (H1 := H2) (by exact fun _ h => h) hD2 (fun B pre acc H3 => ∃ (ps : List Nat) (ls : List Addr), pre = iv ps ∧ ps.length = ls.length ∧ acc = ls.map V.ref ∧ Same H H3 ∧ H3 D = some (.frz od (.dK (kmp (nums L)))) ∧ H3 B = some (.lst (ls.map V.ref)) ∧ ls.length ≤ L.length ∧
        ∀ i q p, ls[i]? = some q → ps[i]? = some p → q ≠ B ∧ q ≠ D ∧ H3 q = some (.lst (iv ((gls R p).map fun g => L.idxOf g))))
      (fun B pre acc H3 h => by obtain ⟨_, _, _, _, _, _, h, _⟩ := h; exact h) (fun B nB => ⟨[], [], rfl, rfl, rfl, same_upd2 e2 (Same.free e2 nB), by rw [upd_ne (ne_of_none hD2 nB)]; exact hD2, upd_same, Nat.zero_le _, fun i q p z _ => (nil_none z).elim⟩)
      (fun B nB pre acc x suf H3 ex h => ?_) (fun B nB acc H3 h => ?_)
    · obtain ⟨ps, ls, rfl, lps, rfl, e3, hD3, hB3, ll, hls⟩ := h
      rw [keys_nums] at ex
      obtain ⟨p0, g, q0, eL, ep, rfl⟩ := split_iv ex
      obtain rfl := iv_inj ep
      have nBH : H B = none := Same.free e2 nB
      have hBD : B ≠ D := fun z => by rw [z, hD3] at hB3; cases hB3
      have gL : g ∈ L := by rw [eL]; simp
      have lps2 : ps.length + 1 ≤ L.length := by rw [eL]; simp
      obtain ⟨qa, hqa⟩ : ∃ qa, rs[g]? = some qa := ⟨_, List.getElem?_eq_getElem (by rw [hl']; exact hltL g gL)⟩
      have hrq := e3 _ _ (hrow' g qa hqa)
      refine ⟨rfl, ?_⟩
      refine lc_sq (K := K) (tp := false) (a := qa) (xs := iv (gls R g)) (H1 := H3) (fun R' hR' => ⟨rs.map V.ref, .ref qa, .inl (.inl (.inl (e3 _ _ hs'))), atI_nat (by rw [List.getElem?_map, hqa]; rfl), hR'⟩) (.inl (.inl hrq))
        (fun B2 pre2 acc2 H4 => H3 B2 = none ∧ H4 = upd H3 B2 (.lst acc2) ∧ ∃ gs, pre2 = iv gs ∧ acc2 = iv (gs.map fun g => L.idxOf g)) (fun B2 pre2 acc2 H4 h => ?_) (fun B2 nB2 => ⟨nB2, rfl, [], rfl, rfl⟩) (fun B2 nB2 pre2 acc2 x2 suf2 H4 ex2 h => ?_) (fun B2 nB2 acc2 H4 h => ?_)
      · obtain ⟨n, rfl, _⟩ := h
        exact .inl (.inl (by rw [upd_ne (ne_of_none hrq n)]; exact hrq))
      · obtain ⟨_, rfl, gs, rfl, rfl⟩ := h
        obtain ⟨p1, g2, q1, eg, ep1, rfl⟩ := split_iv ex2
        obtain rfl := iv_inj ep1
        have g2L : g2 ∈ L := hclo g g2 gL (by rw [eg]; simp)
        have lg := gls_len ok.rows (hltL g gL)
        have l3 := ok.let_.hi
        have lg2 : gs.length ≤ 3 := by
          have := congrArg List.length eg
          rw [List.length_append, List.length_cons] at this
          omega
        have nDB : D ≠ B2 := ne_of_none hD3 nB2
        have dg : DGet (upd H3 B2 (.lst (iv (gs.map fun g => L.idxOf g)))) D (.int g2) (some (.int (L.idxOf g2 : Nat))) :=
          .inl ⟨kmp (nums L), kI g2, .inr ⟨od, by rw [upd_ne nDB]; exact hD3⟩, rfl, by rw [val_kmp, nums_look ndL g2L]⟩
        refine ⟨rfl, D, .int (L.idxOf g2 : Nat), rfl, dg, _, upd_same, by rw [List.length_map, List.length_map]; omega, _, nB2, upd_upd, gs ++ [g2], by rw [iv_app]; rfl, by rw [List.map_append, iv_app]; rfl⟩
      · obtain ⟨_, rfl, gs, eg, rfl⟩ := h
        obtain rfl := iv_inj eg
        have nB2B : B ≠ B2 := ne_of_none hB3 nB2
        have nDB : D ≠ B2 := ne_of_none hD3 nB2
        have nB2H : H B2 = none := Same.free e3 nB2
        refine ⟨ls.map V.ref, by rw [upd_ne nB2B]; exact hB3, by rw [List.length_map]; omega, _, ps ++ [g], ls ++ [B2], by rw [iv_app]; rfl, by rw [List.length_append, List.length_append, lps]; rfl, rfl, same_upd2 (same_upd2 e3 nB2H) nBH, ?_, by rw [upd_same, List.map_append]; rfl, by rw [List.length_append, ← lps]; exact lps2, fun i q p hq hp => ?_⟩
        · rw [upd_ne hBD.symm, upd_ne nDB]; exact hD3
        · rcases Nat.lt_or_ge i ls.length with hlt | hge
          · rw [List.getElem?_append_left hlt] at hq
            rw [List.getElem?_append_left (by omega)] at hp
            obtain ⟨a1, a2, a3⟩ := hls i q p hq hp
            exact ⟨a1, a2, by rw [upd_ne a1, upd_ne (ne_of_none a3 nB2)]; exact a3⟩
          · rw [List.getElem?_append_right hge] at hq
            rw [List.getElem?_append_right (by omega)] at hp
            have e6 : i - ls.length = 0 := by
              have := (List.getElem?_eq_some_iff.mp hq).1
              simp at this; omega
            rw [e6] at hq
            rw [show i - ps.length = 0 by omega] at hp
            have : B2 = q := by simpa using hq
            subst this
            have : g = p := by simpa using hp
            subst this
            exact ⟨nB2B.symm, nDB.symm, by rw [upd_ne nB2B.symm]; exact upd_same⟩
    · obtain ⟨ps, ls, ep, lps, rfl, e3, hD3, hB3, ll, hls⟩ := h
      rw [keys_nums] at ep
      obtain rfl := iv_inj ep
      refine ⟨hD3, ?_⟩
      have nBH : H B = none := Same.free e2 nB
      have hBD : B ≠ D := fun z => by rw [z, hD3] at hB3; cases hB3
      -- the dict is free again
      have e4 : Same H (upd H3 D (.dK (kmp (nums L)))) := same_upd2 e3 nD
      have hD4 : (upd H3 D (.dK (kmp (nums L)))) D = some (.dK (kmp (nums L))) := upd_same
      have hB4 : (upd H3 D (.dK (kmp (nums L)))) B = some (.lst (ls.map V.ref)) := by rw [upd_ne hBD]; exact hB3
      have hls4 : ∀ i q p, ls[i]? = some q → L[i]? = some p → (upd H3 D (.dK (kmp (nums L)))) q = some (.lst (iv ((gls R p).map fun g => L.idxOf g))) := fun i q p hq hp => by
        obtain ⟨a1, a2, a3⟩ := hls i q p hq hp
        rw [upd_ne a2]; exact a3
      generalize upd H3 D (.dK (kmp (nums L))) = H4 at e4 hD4 hB4 hls4
      refine ⟨D, _, hD4, trivial, fun od2 => ?_⟩
      have e5 : Same H (upd H4 D (.frz od2 (.dK (kmp (nums L))))) := same_upd2 e4 nD
      have hD5 : (upd H4 D (.frz od2 (.dK (kmp (nums L))))) D = some (.frz od2 (.dK (kmp (nums L)))) := upd_same
      refine lc_keys (d := D) (o := od2) (kvs := kmp (nums L)) (H1 := upd H4 D (.frz od2 (.dK (kmp (nums L))))) (by exact fun _ h => h) hD5
        (fun B2 pre acc H6 => (upd H4 D (.frz od2 (.dK (kmp (nums L))))) B2 = none ∧ H6 = upd (upd H4 D (.frz od2 (.dK (kmp (nums L))))) B2 (.lst acc) ∧ ∃ ps, pre = iv ps ∧ acc = (ps.map fun p => Kd.getD p false).map V.bl)
        (fun B2 pre acc H6 h => ?_) (fun B2 nB2 => ⟨nB2, rfl, [], rfl, rfl⟩) (fun B2 nB2 pre acc x suf H6 ex h => ?_) (fun B2 nB2 acc H6 h => ?_)
      · obtain ⟨n, rfl, _⟩ := h
        rw [upd_ne (ne_of_none hD5 n)]; exact hD5
      · obtain ⟨_, rfl, ps, rfl, rfl⟩ := h
        rw [keys_nums] at ex
        obtain ⟨p0, g, q0, eL, ep, rfl⟩ := split_iv ex
        obtain rfl := iv_inj ep
        have gL : g ∈ L := by rw [eL]; simp
        have lps2 : ps.length + 1 ≤ L.length := by rw [eL]; simp
        have hk6 : (upd (upd H4 D (.frz od2 (.dK (kmp (nums L))))) B2 (.lst ((ps.map fun p => Kd.getD p false).map V.bl))) k = some (.lst (Kd.map V.bl)) := same_upd2 e5 (Same.free e5 nB2) _ _ hk
        have hkd : Kd[g]? = some (Kd.getD g false) := by
          rw [List.getD_eq_getElem?_getD, List.getElem?_eq_getElem (by rw [ok.kinds]; exact hltL g gL)]; rfl
        refine ⟨rfl, Kd.map V.bl, .bl (Kd.getD g false), .inl (.inl (.inl hk6)), atI_nat (by rw [List.getElem?_map, hkd]; rfl), ?_⟩
        exact ⟨_, upd_same, by rw [List.length_map, List.length_map]; omega, _, nB2, upd_upd, ps ++ [g], by rw [iv_app]; rfl, by rw [List.map_append, List.map_append]; rfl⟩
      · obtain ⟨_, rfl, ps, ep2, rfl⟩ := h
        rw [keys_nums] at ep2
        obtain rfl := iv_inj ep2
        have nDB2 : D ≠ B2 := ne_of_none hD5 nB2
        have nB2H : H B2 = none := Same.free e5 nB2
        have h4B2 : H4 B2 = none := by rw [upd_ne nDB2.symm] at nB2; exact nB2
        have nBB2 : B ≠ B2 := ne_of_none hB4 h4B2
        refine ⟨by rw [upd_ne nDB2]; exact hD5, rfl, ?_⟩
        have e7 : Same H (upd (upd (upd H4 D (.frz od2 (.dK (kmp (nums L))))) B2 (.lst ((L.map fun p => Kd.getD p false).map V.bl))) D (.dK (kmp (nums L)))) := same_upd2 (same_upd2 e5 nB2H) nD
        have hB7 : (upd (upd (upd H4 D (.frz od2 (.dK (kmp (nums L))))) B2 (.lst ((L.map fun p => Kd.getD p false).map V.bl))) D (.dK (kmp (nums L)))) B = some (.lst (ls.map V.ref)) := by
          rw [upd_ne hBD, upd_ne nBB2, upd_ne hBD]; exact hB4
        have hB27 : (upd (upd (upd H4 D (.frz od2 (.dK (kmp (nums L))))) B2 (.lst ((L.map fun p => Kd.getD p false).map V.bl))) D (.dK (kmp (nums L)))) B2 = some (.lst ((L.map fun p => Kd.getD p false).map V.bl)) := by
          rw [upd_ne nDB2.symm]; exact upd_same
        have hls7 : ∀ i q p, ls[i]? = some q → L[i]? = some p → (upd (upd (upd H4 D (.frz od2 (.dK (kmp (nums L))))) B2 (.lst ((L.map fun p => Kd.getD p false).map V.bl))) D (.dK (kmp (nums L)))) q = some (.lst (iv ((gls R p).map fun g => L.idxOf g))) := fun i q p hq hp => by
          have a := hls4 i q p hq hp
          have a2 : q ≠ D := fun z => by rw [z, hD4] at a; cases a
          rw [upd_ne a2, upd_ne (ne_of_none a h4B2), upd_ne a2]; exact a
        generalize upd (upd (upd H4 D (.frz od2 (.dK (kmp (nums L))))) B2 (.lst ((L.map fun p => Kd.getD p false).map V.bl))) D (.dK (kmp (nums L))) = H8 at e7 hB7 hB27 hls7
        intro a d na nd2 nad
        have naH := Same.free e7 na
        have e9 : Same H8 (upd (upd H8 d (.own a)) a (.ins C d [])) := (same_upd nd2).trans (same_upd (by rw [upd_ne nad.symm]; exact na))
        have l0 : 1 ≤ L.length := by
          cases L with
          | nil => cases s0L
          | cons _ _ => simp
        refine ⟨a, d, B, B2, S, rn R L, L.map fun p => Kd.getD p false, rfl, ⟨ok.let_, rnok, by rw [rn_len]; exact l0, by rw [rn_len]; omega, by rw [List.length_map, rn_len]⟩, rnwh, ⟨false, ls, .inl (.inl (e9 _ _ hB7)), by rw [rn_len]; exact lps.symm, fun i q hq => ?_⟩, ⟨false, .inl (.inl (e9 _ _ hB27))⟩, upd_same, fun H' but mach => ?_⟩
        · have li : i < L.length := by
            have := (List.getElem?_eq_some_iff.mp hq).1
            omega
          have hp : L[i]? = some L[i] := List.getElem?_eq_getElem li
          refine ⟨false, .inl (.inl ?_)⟩
          rw [rn_gls hp]
          exact e9 _ _ (hls7 i q _ hq hp)
        · refine ⟨rfl, q H' a (fun b o hb => ?_) naH mach.m⟩
          have nba : b ≠ a := ne_of_none hb naH
          exact but b o nba (e9 _ _ (e7 _ _ hb))
end
end LK

namespace LK
open PySem PySem.Spec PyProof.Rows L2 LamX ClX
open scoped List
/-- a value that is locked as soon as it is there, for the walk over it -/
def tLockV (te : TE) : TE := fun σ H Q => te σ H fun x H1 => match x with
  | .ref d => ∃ u, H1 d = some u ∧ Mut (some u) ∧ ∀ o, Q (.ref d) (upd H1 d (.frz o u))
  | _ => False
theorem pe_lockV {X : Cx} {e : Expr} {te : TE} (he : PE X e te) : PE X e (tLockV te) := by
  refine ⟨fun pins s σ H Q I h => thn (he.run pins s σ H _ I h) fun v s1 z => ?_⟩
  obtain ⟨x, H1, I1, r1, q⟩ := z
  cases x with
  | ref d =>
    obtain ⟨u, hd, mu, q⟩ := q
    obtain ⟨od, I2⟩ := I1.lock hd mu
    exact ⟨.ref d, _, I2, r1, q od⟩
  | _ => exact q.elim
theorem wk_items {d : Addr} {o : Obj} {kvs : List (Key × V)} {g : TG} {tb : TS} {D : Ends} {σ : L2.St} {H : Hp} (Iv : Nat → L2.St → Hp → Prop) (hP : ∀ i σ H, Iv i σ H → H d = some (.frz o (.dK kvs))) (h0 : Iv 0 σ H)
    (hs : ∀ (i : Nat) (k : Key) (v : V) p σ H, kvs[i]? = some (k, v) → Iv i σ H → H p = none → g (.ref p) σ (upd H p (.tup [kV k, v])) fun σ2 H2 => tb { D with nx := Iv (i + 1), ct := Iv (i + 1), bk := D.nx } σ2 H2)
    (he : ∀ σ H, Iv kvs.length σ H → D.nx σ H) :
    ∃ W : Nat → Nat → L2.St → Hp → Prop, (∃ m, W 0 m σ H) ∧ ∀ i m σ H, W i m σ H → ((Iti d o kvs).stop i H ∧ D.nx σ H) ∨ ((Iti d o kvs).go i H ∧ ∃ N : L2.St → Hp → Prop, (∀ σ' H', N σ' H' → ∃ m', m' < m ∧ W (i + 1) m' σ' H') ∧
      ∀ x H', (Iti d o kvs).yld i H x H' → g x σ H' fun σ2 H2 => tb { D with nx := N, ct := N, bk := D.nx } σ2 H2) := by
  refine ⟨fun i m σ H => i + m = kvs.length ∧ Iv i σ H, ⟨kvs.length, by omega, h0⟩, fun i m σ H ⟨e, iv⟩ => ?_⟩
  have q := hP i σ H iv
  by_cases l : i < kvs.length
  · refine .inr ⟨⟨q, l⟩, Iv (i + 1), fun σ' H' z => ⟨m - 1, by omega, by omega, z⟩, fun x H' y => ?_⟩
    obtain ⟨T, k, v, hk, rfl, nT, rfl⟩ := y
    exact hs i k v T σ H hk iv nT
  · obtain rfl : i = kvs.length := by omega
    exact .inl ⟨⟨q, Nat.le_refl _⟩, he σ H iv⟩
/-- the least text to a place; the least one that is taken -/
def ft (S : List Nat) (R : Rows) (p : Nat) : List Nat := ((metT S R 0).lookup p).getD []
def ftk (S : List Nat) (R : Rows) (Kd : List Bool) : Option (List Nat) := ((metT S R 0).find? fun e => Kd.getD e.1 false).map (·.2)
def oV : Option (List Nat) → V
  | some t => .str (T t)
  | none => .non
theorem look_ents : ∀ {f : Ents} {p : Nat}, p ∈ f.map (·.1) → (txs f).lookup p = some (.str (T ((f.lookup p).getD [])))
  | [], _, h => nomatch h
  | (a, x) :: f, p, h => by
    show List.lookup p ((a, V.str (T x)) :: txs f) = some (.str (T ((List.lookup p ((a, x) :: f)).getD [])))
    by_cases e : p = a
    · subst e; rw [List.lookup_cons_self, List.lookup_cons_self]; rfl
    · have ne : (p == a) = false := by simpa using e
      rw [List.lookup_cons, List.lookup_cons, ne]
      exact look_ents ((List.mem_cons.mp h).resolve_left e)
theorem metT_keys {S : List Nat} {R : Rows} {s : Nat} (ok : RowsOk R S.length) (hs : s < R.length) : (metT S R s).map (·.1) = met R s := fndT_keys ok hs _
section
variable {P : Program} {w : World} {K : PySem.W.Frag} {mg : Str → Option Value} {base : Heap} {C : Addr}
theorem ShOk.mok {S : List Nat} {R : Rows} {Kd : List Bool} (h : ShOk S R Kd) : MOk S R Kd := ⟨h.let_.up.nodup, h.rows, h.kinds, h.lo⟩
theorem Mach.rowsL {H : Hp} {a dx r k : Addr} {S : List Nat} {R : Rows} {Kd : List Bool} {rs : List Addr} (h2 : H r = some (.lst (rs.map V.ref))) (h3 : rs.length = R.length) (h4 : ∀ i p, rs[i]? = some p → H p = some (.lst (iv (gls R i)))) : RowsL H r R := ⟨rs, h2, h3, h4⟩
theorem scAt : FnScope ["self", "place"] ["self", "place"] (defScope sAt) := ⟨rfl, rfl, rfl, by decide +kernel, rfl, by decide +kernel, by decide +kernel⟩
/-- the machine from p on -/
def spAt (C : Addr) : Sp := fun vs H Q _ => ∃ (a : Addr) (p : Nat) (S : List Nat) (R : Rows) (Kd : List Bool), vs = [.ref a, .int p] ∧ Mach C H a S R Kd ∧ ShOk S R Kd ∧ p < R.length ∧
  ∀ H' b, Same H H' → H b = none → Mach C H' b S (rn R (met R p)) ((met R p).map fun p => Kd.getD p false) → Q (.ref b) H'
theorem ok_at {f : Addr} {fd : FuncData} {k : Nat} (F : Fun K "at" "Machine.at" sAt f fd) (M : Mx mg) (cM : ClsM K C) (HP : HasM P w K mg base k C "_need_place" ["value"] (spNeedPlace C)) (HN : Has P w K mg base k "_numbered_from" ["letters", "rows", "kinds", "start"] (spNumFrom C)) :
    FnG P w K mg base CX0 (k + 1) f fd ["self", "place"] (spAt C) := by
  refine okG F scAt (fun vs H Q E h => ?_) (fun cdv A hA outer s H vs Q E hr h => ?_)
  · obtain ⟨a, p, S, R, Kd, rfl, _⟩ := h; rfl
  · obtain ⟨a, p, S, R, Kd, rfl, mm, ok, hp, q⟩ := h
    refine ⟨_, pss_cons (ps_expr (pe_mH HP cM.cls hA hr (uv 0) (pa_cons (uv 1) pa_nil)))
      (pss_one (ps_ret (pe_callH HN hA hr (by rfl) (pa_cons (pe_fldU (uv 0)) (pa_cons (pe_fldU (uv 0)) (pa_cons (pe_fldU (uv 0)) (pa_cons (uv 1) pa_nil))))))), ?_⟩
    obtain ⟨dx, r, kk, rs, h1, h2, h3, h4, h5⟩ := id mm
    refine ⟨dx, _, h1, mf_none (by decide +kernel) (by decide +kernel) (by decide +kernel), a, p, S, R, Kd, rfl, mm, hp, ?_⟩
    exact ⟨C, dx, _, .str (T S), h1, cM.cls, cM.nL, rfl, C, dx, _, .ref r, h1, cM.cls, cM.nR, rfl, C, dx, _, .ref kk, h1, cM.cls, cM.nK, rfl, r, kk, p, S, R, Kd, rfl, ok, hp, ⟨rs, h2, h3, h4⟩, h5, q⟩
theorem scNumbered : FnScope ["self"] ["self"] (defScope sNumbered) := ⟨rfl, rfl, rfl, by decide +kernel, rfl, by decide +kernel, by decide +kernel⟩
def spNumbered (C : Addr) : Sp := fun vs H Q _ => ∃ (a : Addr) (S : List Nat) (R : Rows) (Kd : List Bool), vs = [.ref a] ∧ Mach C H a S R Kd ∧ ShOk S R Kd ∧
  ∀ H' b, Same H H' → H b = none → Mach C H' b S (rn R (met R 0)) ((met R 0).map fun p => Kd.getD p false) → Q (.ref b) H'
theorem ok_numbered {f : Addr} {fd : FuncData} {k : Nat} (F : Fun K "numbered" "Machine.numbered" sNumbered f fd) (M : Mx mg) (cM : ClsM K C) (HN : Has P w K mg base k "_numbered_from" ["letters", "rows", "kinds", "start"] (spNumFrom C)) :
    FnG P w K mg base CX0 (k + 1) f fd ["self"] (spNumbered C) := by
  refine okG F scNumbered (fun vs H Q E h => ?_) (fun cdv A hA outer s H vs Q E hr h => ?_)
  · obtain ⟨a, S, R, Kd, rfl, _⟩ := h; rfl
  · obtain ⟨a, S, R, Kd, rfl, mm, ok, q⟩ := h
    refine ⟨_, pss_one (ps_ret (pe_callH HN hA hr (by rfl) (pa_cons (pe_fldU (uv 0)) (pa_cons (pe_fldU (uv 0)) (pa_cons (pe_fldU (uv 0)) (pa_cons pe_int pa_nil)))))), ?_⟩
    obtain ⟨dx, r, kk, rs, h1, h2, h3, h4, h5⟩ := id mm
    exact ⟨C, dx, _, .str (T S), h1, cM.cls, cM.nL, rfl, C, dx, _, .ref r, h1, cM.cls, cM.nR, rfl, C, dx, _, .ref kk, h1, cM.cls, cM.nK, rfl, r, kk, 0, S, R, Kd, rfl, ok, by have := ok.lo; omega, ⟨rs, h2, h3, h4⟩, h5, q⟩
theorem scFirstText : FnScope ["self", "place"] ["self", "place"] (defScope sFirstText) := ⟨rfl, rfl, rfl, by decide +kernel, rfl, by decide +kernel, by decide +kernel⟩
def spFirstText (C : Addr) : Sp := fun vs H Q _ => ∃ (a : Addr) (p : Nat) (S : List Nat) (R : Rows) (Kd : List Bool), vs = [.ref a, .int p] ∧ Mach C H a S R Kd ∧ ShOk S R Kd ∧ Whole R ∧ p < R.length ∧ ∀ H', Same H H' → Q (.str (T (ft S R p))) H'
theorem ok_firstText {f : Addr} {fd : FuncData} {k : Nat} (F : Fun K "first_text" "Machine.first_text" sFirstText f fd) (M : Mx mg) (cM : ClsM K C) (HP : HasM P w K mg base k C "_need_place" ["value"] (spNeedPlace C)) (HF : Has P w K mg base k "first_texts" ["letters", "rows", "start"] spFirst) :
    FnG P w K mg base CX0 (k + 1) f fd ["self", "place"] (spFirstText C) := by
  refine okG F scFirstText (fun vs H Q E h => ?_) (fun cdv A hA outer s H vs Q E hr h => ?_)
  · obtain ⟨a, p, S, R, Kd, rfl, _⟩ := h; rfl
  · obtain ⟨a, p, S, R, Kd, rfl, mm, ok, wh, hp, q⟩ := h
    refine ⟨_, pss_cons (ps_expr (pe_mH HP cM.cls hA hr (uv 0) (pa_cons (uv 1) pa_nil)))
      (pss_one (ps_ret (pe_dget (Room.u1 hr) (pe_callH HF hA hr (by rfl) (pa_cons (pe_fldU (uv 0)) (pa_cons (pe_fldU (uv 0)) (pa_cons pe_int pa_nil)))) (uv 1) (fun _ _ => rfl)))), ?_⟩
    obtain ⟨dx, r, kk, rs, h1, h2, h3, h4, h5⟩ := id mm
    refine ⟨dx, _, h1, mf_none (by decide +kernel) (by decide +kernel) (by decide +kernel), a, p, S, R, Kd, rfl, mm, hp, ?_⟩
    refine ⟨C, dx, _, .str (T S), h1, cM.cls, cM.nL, rfl, C, dx, _, .ref r, h1, cM.cls, cM.nR, rfl, r, 0, S, R, rfl, ⟨rs, h2, h3, h4⟩, ok.rows, ok.let_.sm.asc, by have := ok.lo; omega, by have := ok.hi; omega, fun H1 D e1 nD hD => ?_⟩
    refine ⟨D, .str (T (ft S R p)), rfl, ?_, q H1 e1⟩
    have := DGet.k (k := kI p) hD
    rw [val_kmp, look_ents (by rw [metT_keys ok.rows (by have := ok.lo; omega)]; exact wh p hp)] at this
    exact this
theorem scFirstTaken : FnScope ["self", "place", "text"] ["self"] (defScope sFirstTaken) := ⟨rfl, rfl, rfl, by decide +kernel, rfl, by decide +kernel, by decide +kernel⟩
def spFirstTaken (C : Addr) : Sp := fun vs H Q _ => ∃ (a : Addr) (S : List Nat) (R : Rows) (Kd : List Bool), vs = [.ref a] ∧ Mach C H a S R Kd ∧ ShOk S R Kd ∧ ∀ H', Same H H' → Q (oV (ftk S R Kd)) H'
theorem ok_firstTaken {f : Addr} {fd : FuncData} {k : Nat} (F : Fun K "first_taken" "Machine.first_taken" sFirstTaken f fd) (M : Mx mg) (cM : ClsM K C) (HF : Has P w K mg base k "first_texts" ["letters", "rows", "start"] spFirst) :
    FnG P w K mg base CX0 (k + 1) f fd ["self"] (spFirstTaken C) := by
  refine okG F scFirstTaken (fun vs H Q E h => ?_) (fun cdv A hA outer s H vs Q E hr h => ?_)
  · obtain ⟨a, S, R, Kd, rfl, _⟩ := h; rfl
  · obtain ⟨a, S, R, Kd, rfl, mm, ok, q⟩ := h
    have nd := scFirstTaken.nd
    refine ⟨_, pss_cons (ps_for PassesOwn.never rfl (pi_items (pe_lockV (pe_callH HF hA hr (by rfl) (pa_cons (pe_fldU (uv 0)) (pa_cons (pe_fldU (uv 0)) (pa_cons pe_int pa_nil)))))) (pg_tup rfl (pgs_cons (pg_name (i := 1) nd rfl (.inl rfl)) (pgs_cons (pg_name (i := 2) nd rfl (.inl rfl)) pgs_nil)))
        (pss_one (ps_ifU (pt_u (pe_ixU (pe_fldU (uv 0)) (uv 1))) (pss_one (ps_ret (uv 2))) pss_nil)))
      (pss_one (ps_ret pe_non)), ?_⟩
    obtain ⟨dx, r, kk, rs, h1, h2, h3, h4, h5⟩ := id mm
    have lo := ok.lo
    refine ⟨C, dx, _, .str (T S), h1, cM.cls, cM.nL, rfl, C, dx, _, .ref r, h1, cM.cls, cM.nR, rfl, r, 0, S, R, rfl, ⟨rs, h2, h3, h4⟩, ok.rows, ok.let_.sm.asc, by omega, by have := ok.hi; omega, fun H1 D e1 nD hD => ?_⟩
    refine ⟨_, hD, trivial, fun o => ⟨D, o, _, rfl, upd_same, ?_⟩⟩
    have e2 : Same H (upd H1 D (.frz o (.dK (kmp (txs (metT S R 0)))))) := same_upd2 e1 nD
    have hkeys := metT_keys (S := S) (s := 0) ok.rows (by omega)
    have hlt : ∀ e ∈ metT S R 0, e.1 < R.length := fun e he => by
      have : e.1 ∈ met R 0 := by rw [← hkeys]; exact List.mem_map.mpr ⟨e, he, rfl⟩
      exact fnd_lt (s := 0) ok.rows (by omega) R.length e.1 this
    refine wk_items (kvs := kmp (txs (metT S R 0))) (fun i σ H2 => Same H H2 ∧ H2 D = some (.frz o (.dK (kmp (txs (metT S R 0))))) ∧ (∀ e ∈ (metT S R 0).take i, Kd.getD e.1 false = false) ∧ ∃ y1 y2, σ = [some (.ref a), y1, y2]) (fun i σ H2 h => h.2.1) ⟨e2, upd_same, by simp, none, none, rfl⟩ (fun i kq v p σ H2 hk h np => ?_) (fun σ H2 h => ?_)
    · obtain ⟨e3, hD3, hno, y1, y2, rfl⟩ := h
      rw [List.getElem?_map] at hk
      obtain ⟨⟨g, v2⟩, hg, e4⟩ := Option.map_eq_some_iff.mp hk
      cases e4
      unfold txs at hg
      rw [List.getElem?_map] at hg
      obtain ⟨⟨g', t⟩, he, e5⟩ := Option.map_eq_some_iff.mp hg
      cases e5
      have glt := hlt _ (List.mem_of_getElem? he)
      have hkd : Kd[g']? = some (Kd.getD g' false) := by
        rw [List.getD_eq_getElem?_getD, List.getElem?_eq_getElem (by rw [ok.kinds]; exact glt)]; rfl
      have npH := Same.free e3 np
      have e6 : Same H (upd H2 p (.tup [kV (kI g'), .str (T t)])) := same_upd2 e3 npH
      refine ⟨p, _, rfl, .inl (.inl upd_same), rfl, _, _, rfl, _, _, rfl, rfl, ?_⟩
      refine ⟨C, dx, _, .ref kk, e6 _ _ h1, cM.cls, cM.nK, rfl, Kd.map V.bl, .bl (Kd.getD g' false), .inl (.inl (.inl (e6 _ _ h5))), atI_nat (by rw [List.getElem?_map, hkd]; rfl), ?_⟩
      have et : (metT S R 0).take (i + 1) = (metT S R 0).take i ++ [(g', t)] := by rw [List.take_add_one, he]; rfl
      refine ⟨fun hy => ?_, fun hy => ?_⟩
      · have ef : ftk S R Kd = some t := by
          unfold ftk
          have es : metT S R 0 = (metT S R 0).take i ++ (g', t) :: (metT S R 0).drop (i + 1) := (split_at he).1
          rw [es, List.find?_append, List.find?_eq_none.mpr (fun e he => by rw [hno e he]; simp), Option.none_or, List.find?_cons_of_pos (by exact hy)]; rfl
        have := q _ e6
        rw [ef] at this
        exact this
      · exact ⟨e6, by rw [upd_ne (ne_of_none hD3 np)]; exact hD3, fun e he => by
          rw [et] at he
          rcases List.mem_append.mp he with he | he
          · exact hno e he
          · simp at he; rw [he]; exact hy, _, _, rfl⟩
    · obtain ⟨e3, _, hno, y1, y2, rfl⟩ := h
      have ef : ftk S R Kd = none := by
        unfold ftk
        have el : (kmp (txs (metT S R 0))).length = (metT S R 0).length := by rw [List.length_map]; exact List.length_map _
        rw [el, List.take_length] at hno
        rw [List.find?_eq_none.mpr (fun e he => by rw [hno e he]; simp)]; rfl
      have := q _ e3
      rw [ef] at this
      exact this
end
end LK

namespace LK
open PySem PySem.Spec PyProof.Rows L2 LamX ClX
open scoped List
/-- what isinstance asks of the class -/
structure IsM (K : PySem.W.Frag) (C : Addr) : Prop where
  ty : ∀ (H : Hp) (a dx : Addr) (fs : List (Str × V)), H a = some (.ins C dx fs) → fs.lookup ("__class__" : Str) = none → TyX K H (.ref a) (.ref C)
  yes : PySem.W.kitOne K (.ref C) (.ref C) = some true
/-- a property and its promise -/
structure HasP (P : Program) (w : World) (K : PySem.W.Frag) (mg : Str → Option Value) (base : Heap) (k : Nat) (C : Addr) (f : Str) (sp : Sp) : Prop where
  ex : ∃ p g fd, PropOf K C f p g ∧ FnOk P w K mg base CX0 k g fd ["self"] sp ∧ Binds K fd ["self"] []
theorem HasP.up {P : Program} {w : World} {K : PySem.W.Frag} {mg : Str → Option Value} {base : Heap} {j k : Nat} {C : Addr} {f : Str} {sp : Sp} (F : HasP P w K mg base j C f sp) (h : j ≤ k) : HasP P w K mg base k C f sp := by
  obtain ⟨p, g, fd, a, b, c⟩ := F.ex
  exact ⟨p, g, fd, a, ⟨b.len, fun A outer s H args us vs Q E r => b.run A outer s H args us vs Q E (r.mono h)⟩, c⟩
theorem pe_propH {X : Cx} {k : Nat} {C : Addr} {f : Str} {sp : Sp} {e : Expr} {ta : TE} {pos : Pos} (F : HasP X.prog X.w X.K X.mg X.base k C f sp) (c : Cls X.K C) (hr : Room (k + 1) X.A) (he : PE X e ta)
    (hab : attributeBase e f X.env (eval e X.env) = eval e X.env := by rfl) : PE X (.Attribute e f pos) (tProp C sp [] E0 ta) := by
  obtain ⟨p, g, fd, hp, F, hb⟩ := F.ex
  exact pe_prop he c hp F hr hb .nil pass0 hab
theorem dpAll_rows {K : PySem.W.Frag} {H : Hp} : ∀ {rs : List Addr} {R : Rows}, rs.length = R.length → (∀ i p, rs[i]? = some p → H p = some (.lst (iv (gls R i)))) → DpAll K H (rs.map V.ref) (R.map encR)
  | [], [], _, _ => .nil
  | [], _ :: _, h, _ => by cases h
  | _ :: _, [], h, _ => by cases h
  | p :: rs, r :: R, h, hr => by
    refine .cons (.lst (.inl (.inl (hr 0 p rfl))) ?_) (dpAll_rows (by simpa using h) fun i q hq => hr (i + 1) q hq)
    show DpAll K H (iv r) (r.map fun (g : Nat) => .int (g : Int))
    induction r with
    | nil => exact .nil
    | cons g r ih => exact .cons (.int _) (dpAll_ints r)
where dpAll_ints {K : PySem.W.Frag} {H : Hp} : ∀ r : List Nat, DpAll K H (iv r) (r.map fun (g : Nat) => .int (g : Int))
  | [] => .nil
  | g :: r => .cons (.int _) (dpAll_ints r)
theorem dp_rows {K : PySem.W.Frag} {H : Hp} {r : Addr} {R : Rows} (h : RowsL H r R) : Dp K H (.ref r) (encRs R) := by
  obtain ⟨rs, h1, h2, h3⟩ := h
  exact .lst (.inl (.inl h1)) (dpAll_rows h2 h3)
theorem dp_kinds {K : PySem.W.Frag} {H : Hp} {k : Addr} {Kd : List Bool} (h : H k = some (.lst (Kd.map V.bl))) : Dp K H (.ref k) (encB Kd) := .lst (.inl (.inl h)) (dpAll_bl Kd)
theorem eqv_rowsB {a b : Rows} : PyData.eqv (encRs a) (encRs b) = decide (a = b) := by rw [Bool.eq_iff_iff, eqv_rows, decide_eq_true_eq]
theorem eqv_kindsB {a b : List Bool} : PyData.eqv (encB a) (encB b) = decide (a = b) := by rw [Bool.eq_iff_iff, eqv_kinds, decide_eq_true_eq]
section
variable {P : Program} {w : World} {K : PySem.W.Frag} {mg : Str → Option Value} {base : Heap} {C : Addr}
theorem scHas : FnScope ["self", "value"] ["self", "value"] (defScope sHas) := ⟨rfl, rfl, rfl, by decide +kernel, rfl, by decide +kernel, by decide +kernel⟩
def spHas (K : PySem.W.Frag) (C : Addr) : Sp := fun vs H Q _ => ∃ (a : Addr) (x : V) (S : List Nat) (R : Rows) (Kd : List Bool), vs = [.ref a, x] ∧ Mach C H a S R Kd ∧ MOk S R Kd ∧
  ((∃ l, x = .str (T l) ∧ l.length ≤ 1000000 ∧ ∀ H', Same H H' → Q (.bl (decide (∀ c ∈ l, c ∈ S) && Kd.getD (led S R 0 l) false)) H') ∨ ∃ t, TyX K H x t ∧ PySem.W.kitOne K t (.type "str") = some false ∧ Q (.bl false) H)
theorem ok_has {f : Addr} {fd : FuncData} {k : Nat} (F : Fun K "__contains__" "Machine.__contains__" sHas f fd) (M : Mx mg) (cM : ClsM K C) (HO : Has P w K mg base k "is_over" ["value", "letters"] (spIsOver K)) (HL : HasM P w K mg base k C "_led" ["place", "text"] (spLed C)) :
    FnG P w K mg base CX0 (k + 1) f fd ["self", "value"] (spHas K C) := by
  refine okG F scHas (fun vs H Q E h => ?_) (fun cdv A hA outer s H vs Q E hr h => ?_)
  · obtain ⟨a, x, S, R, Kd, rfl, _⟩ := h; rfl
  · obtain ⟨a, x, S, R, Kd, rfl, mm, ok, q⟩ := h
    refine ⟨_, pss_one (ps_ret (pe_andU (pe_callH HO hA hr (by rfl) (pa_cons (uv 1) (pa_cons (pe_fldU (uv 0)) pa_nil))) (pe_one (pe_ixU (pe_fldU (uv 0)) (pe_mH HL cM.cls hA hr (uv 0) (pa_cons pe_int (pa_cons (uv 1) pa_nil))))))), ?_⟩
    obtain ⟨dx, r, kk, rs, h1, h2, h3, h4, h5⟩ := id mm
    refine ⟨C, dx, _, .str (T S), h1, cM.cls, cM.nL, rfl, S, x, rfl, ?_⟩
    rcases q with ⟨l, rfl, hl, q⟩ | ⟨t, ty, hk, q⟩
    · refine .inl ⟨l, rfl, hl, fun H1 e1 => .d (fun hc => ?_) (fun hc => ?_)⟩
      · have lo := ok.lo
        have lt := led_lt (p := 0) ok.rows (by omega) l hc
        have hkd : Kd[led S R 0 l]? = some (Kd.getD (led S R 0 l) false) := by
          rw [List.getD_eq_getElem?_getD, List.getElem?_eq_getElem (by rw [ok.kinds]; exact lt)]; rfl
        refine ⟨C, dx, _, .ref kk, e1 _ _ h1, cM.cls, cM.nK, rfl, dx, _, e1 _ _ h1, mf_none (by decide +kernel) (by decide +kernel) (by decide +kernel), a, 0, l, S, R, Kd, rfl, mm.ext e1, ok.nd, ok.rows, by omega, hc, ?_⟩
        refine ⟨Kd.map V.bl, .bl (Kd.getD (led S R 0 l) false), .inl (.inl (.inl (e1 _ _ h5))), atI_nat (by rw [List.getElem?_map, hkd]; rfl), ?_⟩
        have := q H1 e1
        rw [decide_eq_true hc, Bool.true_and] at this
        exact this
      · have := q H1 e1
        rw [decide_eq_false hc, Bool.false_and] at this
        exact this
    · exact .inr ⟨t, ty, hk, .no q⟩
theorem scEq : FnScope ["self", "other"] ["self", "other"] (defScope sEq) := ⟨rfl, rfl, rfl, by decide +kernel, rfl, by decide +kernel, by decide +kernel⟩
/-- is it a machine with the same parts -/
def spEq (K : PySem.W.Frag) (C : Addr) : Sp := fun vs H Q _ => ∃ (a : Addr) (y : V) (S : List Nat) (R : Rows) (Kd : List Bool), vs = [.ref a, y] ∧ Mach C H a S R Kd ∧ R.length ≤ 1000 ∧
  ((∃ (b : Addr) (S' : List Nat) (R' : Rows) (Kd' : List Bool), y = .ref b ∧ Mach C H b S' R' Kd' ∧ R'.length ≤ 1000 ∧ ∀ H', Same H H' → Q (.bl (decide (S = S' ∧ R = R' ∧ Kd = Kd'))) H') ∨
    ∃ t, TyX K H y t ∧ PySem.W.kitOne K t (.ref C) = some false ∧ Q (.bl false) H)
theorem ok_eq {f : Addr} {fd : FuncData} {k : Nat} (F : Fun K "__eq__" "Machine.__eq__" sEq f fd) (M : Mx mg) (cM : ClsM K C) (iM : IsM K C) (gM : mg "Machine" = some (.ref C)) (HL : HasP P w K mg base k C "letters" (getSp C "_letters")) (HR : HasM P w K mg base (k + 1) C "rows" [] (spRows C)) (HK : HasM P w K mg base (k + 1) C "kinds" [] (spKinds C)) :
    FnG P w K mg base CX0 (k + 2) f fd ["self", "other"] (spEq K C) := by
  refine okG F scEq (fun vs H Q E h => ?_) (fun cdv A hA outer s H vs Q E hr h => ?_)
  · obtain ⟨a, x, S, R, Kd, rfl, _⟩ := h; rfl
  · obtain ⟨a, y, S, R, Kd, rfl, mm, hz, q⟩ := h
    refine ⟨_, pss_one (ps_ret (pe_andU (pe_callB call_isi (by rfl) M.isi b_isi (pa_cons (uv 1) (pa_cons (pe_glob (v := .ref C) (by rfl) gM rfl) pa_nil)))
      (pe_andU (pe_cu (o_eq hr.units) (pe_fldU (uv 0)) (pe_propH HL cM.cls hr (uv 1)))
      (pe_andU (pe_cu (o_eq hr.units) (pe_fldU (uv 0)) (pe_mH0 HR cM.cls hA hr (uv 1)))
      (pe_one (pe_cu (o_eq hr.units) (pe_fldU (uv 0)) (pe_mH0 HK cM.cls hA hr (uv 1)))))))), ?_⟩
    obtain ⟨dx, r, kk, rs, h1, h2, h3, h4, h5⟩ := id mm
    rcases q with ⟨b, S', R', Kd', rfl, mb, hz', q⟩ | ⟨t, ty, hk, q⟩
    · obtain ⟨dx', r', kk', rs', g1, g2, g3, g4, g5⟩ := id mb
      refine ⟨_, _, _, _, true, rfl, .own C, iM.ty _ _ _ _ g1 (mf_none (by decide +kernel) (by decide +kernel) (by decide +kernel)), iM.yes, .yes ?_⟩
      refine ⟨C, dx, _, .str (T S), h1, cM.cls, cM.nL, rfl, b, dx', _, rfl, g1, b, dx', _, .str (T S'), rfl, g1, rfl, ?_⟩
      refine Br.d (p := cs (T S) = cs (T S')) (fun eS => ?_) (fun nS => ?_)
      · have eS : S = S' := eS
        refine ⟨C, dx, _, .ref r, h1, cM.cls, cM.nR, rfl, dx', _, g1, mf_none (by decide +kernel) (by decide +kernel) (by decide +kernel), b, S', R', Kd', rfl, mb, hz', fun H1 p ls e1 np hp hl hls _ => ?_⟩
        refine ⟨encRs R, encRs R', dp_rows ⟨rs, e1 _ _ h2, h3, fun i p hp => e1 _ _ (h4 i p hp)⟩, dp_rows ⟨ls, hp, hl, fun i p hp => (hls i p hp).2.2⟩, (flat_rows R).shaped (by decide), (flat_rows R').shaped (by decide), ?_⟩
        show Br (PyData.eqv (encRs R) (encRs R')) _ _
        rw [eqv_rowsB]
        refine Br.d (fun eR => ?_) (fun nR => ?_)
        · refine ⟨C, dx, _, .ref kk, e1 _ _ h1, cM.cls, cM.nK, rfl, dx', _, e1 _ _ g1, mf_none (by decide +kernel) (by decide +kernel) (by decide +kernel), b, S', R', Kd', rfl, mb.ext e1, fun p2 np2 => ?_⟩
          refine ⟨encB Kd, encB Kd', dp_kinds (same_upd np2 _ _ (e1 _ _ h5)), dp_kinds upd_same, (flat_kinds Kd).shaped (by decide), (flat_kinds Kd').shaped (by decide), ?_⟩
          have := q _ (e1.trans (same_upd (o := .lst (Kd'.map V.bl)) np2))
          show Q (.bl (PyData.eqv (encB Kd) (encB Kd'))) _
          rw [eqv_kindsB]
          have e : decide (S = S' ∧ R = R' ∧ Kd = Kd') = decide (Kd = Kd') := decide_eq_decide.mpr ⟨fun z => z.2.2, fun z => ⟨eS, eR, z⟩⟩
          rw [e] at this
          exact this
        · have := q H1 e1
          rw [decide_eq_false (fun z => nR z.2.1)] at this
          exact this
      · have := q H (Same.refl _)
        rw [decide_eq_false (fun z => nS (by rw [z.1]))] at this
        exact this
    · exact ⟨_, _, _, _, false, rfl, .own C, ty, hk, .no q⟩
end
end LK

namespace LK
open PySem PySem.Spec PyProof.Rows L2 LamX ClX
open scoped List
/-! a sheet's rows and kinds as they are shown -/
structure Shn (n m : Nat) (d : PyData) : Prop where
  sh : d.showable = true
  nd : d.hasDict = false
  dp : d.depth ≤ n
  lf : d.leavesShort 13 = true
  wt : d.weight ≤ m
theorem shn_int {g : Nat} (h : g < 64) : Shn 0 6 (.int g) := by
  have key : ∀ g : Nat, g < 64 → (PyData.int (g : Int)).showable = true ∧ (PyData.int (g : Int)).leavesShort 13 = true ∧ (PyData.int (g : Int)).weight ≤ 6 := by decide +kernel
  obtain ⟨a, b, c⟩ := key g h
  exact ⟨a, rfl, Nat.le_refl _, b, c⟩
theorem shn_bl (b : Bool) : Shn 0 6 (.bool b) := ⟨rfl, rfl, Nat.le_refl _, rfl, by show 0 ≤ 6; omega⟩
theorem shn_list {n m : Nat} {ds : List PyData} (h : ∀ d ∈ ds, Shn n m d) : Shn (n + 1) ((m + 1) * ds.length) (.list ds) := by
  have key : PyData.showableAll ds = true ∧ PyData.hasDictAll ds = false ∧ PyData.depthAll ds ≤ n ∧ PyData.leavesShortAll 13 ds = true ∧ PyData.weightAll ds ≤ (m + 1) * ds.length := by
    induction ds with
    | nil => exact ⟨rfl, rfl, Nat.zero_le _, rfl, Nat.zero_le _⟩
    | cons d ds ih =>
      obtain ⟨a, b, c, e, f⟩ := ih fun x hx => h x (List.mem_cons_of_mem _ hx)
      obtain ⟨a1, b1, c1, e1, f1⟩ := h d (by simp)
      refine ⟨by rw [PyData.showableAll, a1, a]; rfl, by rw [PyData.hasDictAll, b1, b]; rfl, by rw [PyData.depthAll]; exact Nat.max_le.mpr ⟨c1, c⟩, by rw [PyData.leavesShortAll, e1, e]; rfl, ?_⟩
      rw [PyData.weightAll, List.length_cons, Nat.mul_succ]; omega
  obtain ⟨a, b, c, e, f⟩ := key
  exact ⟨by rw [PyData.showable]; exact a, by rw [PyData.hasDict]; exact b, by rw [PyData.depth]; omega, by rw [PyData.leavesShort]; exact e, by rw [PyData.weight]; exact f⟩
theorem Shn.mono {n m m' : Nat} {d : PyData} (h : Shn n m d) (l : m ≤ m') : Shn n m' d := ⟨h.sh, h.nd, h.dp, h.lf, Nat.le_trans h.wt l⟩
theorem Shn.shw {n m : Nat} {d : PyData} (h : Shn n m d) (hn : n ≤ 3) (hm : m ≤ 2 ^ 20) : Shw d := ⟨h.sh, (fun z => by rw [h.nd] at z; cases z), Nat.le_trans h.dp hn, h.lf, Nat.le_trans h.wt hm⟩
theorem Shn.len {n m : Nat} {d : PyData} (h : Shn n m d) : d.shown.length ≤ 15 * m + 13 := by
  have a := PyData.shown_le 13 (by omega) d h.lf
  have b := Nat.mul_le_mul_left 15 h.wt
  omega
theorem shn_rows {S : List Nat} {R : Rows} {Kd : List Bool} (ok : ShOk S R Kd) : Shn 2 880 (encRs R) := by
  have hi := ok.hi
  have l3 := ok.let_.hi
  have : Shn 2 ((21 + 1) * (R.map encR).length) (encRs R) := shn_list fun d hd => by
    obtain ⟨r, hr, rfl⟩ := List.mem_map.mp hd
    have lr := ok.rows.len r hr
    refine (shn_list (m := 6) fun d hd => ?_).mono (by rw [List.length_map]; omega)
    obtain ⟨g, hg, rfl⟩ := List.mem_map.mp hd
    exact shn_int (by have := ok.rows.lt r hr g hg; omega)
  exact this.mono (by rw [List.length_map]; omega)
theorem shn_kinds {S : List Nat} {R : Rows} {Kd : List Bool} (ok : ShOk S R Kd) : Shn 1 280 (encB Kd) := by
  have hi := ok.hi
  have hk := ok.kinds
  exact (shn_list (m := 6) fun d hd => by
    obtain ⟨g, _, rfl⟩ := List.mem_map.mp hd
    exact shn_bl _).mono (by rw [List.length_map]; omega)
theorem rep_let {S : List Nat} (ok : LetOk S) : (reprText (T S)).length ≤ 32 := by
  have a := PySem.StrLaws.reprText_len (T S) fun c hc => by
    have := ok.sm.asc c hc
    have : (128 : Nat) < 16 ^ 8 := by decide
    omega
  have b : (T S).length = S.length := rfl
  have := ok.hi
  omega
/-- a machine as it is shown -/
def spk (S : List Nat) (R : Rows) (Kd : List Bool) : Str := Str.empty ++ "Machine(" ++ reprText (T S) ++ ", " ++ (encRs R).shown ++ ", " ++ (encB Kd).shown ++ ")"
section
variable {P : Program} {w : World} {K : PySem.W.Frag} {mg : Str → Option Value} {base : Heap} {C : Addr}
theorem scRepr : FnScope ["self"] ["self"] (defScope sRepr) := ⟨rfl, rfl, rfl, by decide +kernel, rfl, by decide +kernel, by decide +kernel⟩
def spRepr (C : Addr) : Sp := fun vs H Q _ => ∃ (a : Addr) (S : List Nat) (R : Rows) (Kd : List Bool), vs = [.ref a] ∧ Mach C H a S R Kd ∧ ShOk S R Kd ∧ Q (.str (spk S R Kd)) H
theorem ok_repr {f : Addr} {fd : FuncData} {k : Nat} (F : Fun K "__repr__" "Machine.__repr__" sRepr f fd) (cM : ClsM K C) : FnG P w K mg base CX0 (k + 1) f fd ["self"] (spRepr C) := by
  refine okG F scRepr (fun vs H Q E h => ?_) (fun cdv A hA outer s H vs Q E hr h => ?_)
  · obtain ⟨a, S, R, Kd, rfl, _⟩ := h; rfl
  · obtain ⟨a, S, R, Kd, rfl, mm, ok, q⟩ := h
    refine ⟨_, pss_one (ps_ret (pe_joined (.cons pe_str (.cons (pe_fmtD hA hr.units (pe_fldU (uv 0))) (.cons pe_str (.cons (pe_fmtD hA hr.units (pe_fldU (uv 0))) (.cons pe_str (.cons (pe_fmtD hA hr.units (pe_fldU (uv 0))) (.cons pe_str .nil))))))))), ?_⟩
    obtain ⟨dx, r, kk, rs, h1, h2, h3, h4, h5⟩ := id mm
    have sl := sizeLine_eq
    have r1 := rep_let ok.let_
    have r2 := (shn_rows ok).len
    have r3 := (shn_kinds ok).len
    have k1 : (Str.empty ++ Str.ofString "Machine(").length = 8 := by decide +kernel
    have k2 : (Str.ofString ", ").length = 2 := by decide +kernel
    have k3 : (Str.ofString ")").length = 1 := by decide +kernel
    have ad : ∀ x y : Str, (x ++ y).length = x.length + y.length := fun x y => PySem.strLen_append x y
    refine ⟨_, rfl, by rw [k1]; omega, C, dx, _, .str (T S), h1, cM.cls, cM.nL, rfl, ⟨by omega, _, rfl, by rw [ad, k1]; omega, ?_⟩⟩
    refine ⟨_, rfl, by rw [ad, ad, k1, k2]; omega, C, dx, _, .ref r, h1, cM.cls, cM.nR, rfl, encRs R, dp_rows ⟨rs, h2, h3, h4⟩, (shn_rows ok).shw (by omega) (by decide), by omega, _, rfl, by rw [ad, ad, ad, k1, k2]; omega, ?_⟩
    refine ⟨_, rfl, by rw [ad, ad, ad, ad, k1, k2]; omega, C, dx, _, .ref kk, h1, cM.cls, cM.nK, rfl, encB Kd, dp_kinds h5, (shn_kinds ok).shw (by omega) (by decide), by omega, _, rfl, by rw [ad, ad, ad, ad, ad, k1, k2]; omega, ?_⟩
    exact ⟨_, rfl, by rw [ad, ad, ad, ad, ad, ad, k1, k2, k3]; omega, q⟩
end
end LK

namespace LK
open PySem PySem.Spec PyProof.Rows L2 LamX
/-! k14: _law_pot, _law_draw -/
open scoped List
section
variable {P : Program} {w : World} {K : PySem.W.Frag} {mg : Str → Option Value} {base : Heap} (TT : List (Addr × Str))
/-! ### _law_pot -/
theorem scPot : FnScope ["_law_script", "_law_k", "_law_cell"] ["_law_script", "_law_k"] (defScope sPot) := ⟨rfl, rfl, rfl, by decide +kernel, rfl, by decide +kernel, by decide +kernel⟩
def spPot (K : PySem.W.Frag) : Sp := fun vs H Q _ => ∃ (a : Addr) (ns : List Int) (k : Nat), vs = [.ref a, .int k] ∧ SqL K H a (ns.map V.int) ∧ k ≤ 10 ∧ ∀ H' p, Same H H' → H p = none → Pot H' p → Q (.ref p) H'
theorem atI_nat' {α : Type} {xs : List α} {k : Nat} {x : α} (h : xs[k]? = some x) : atI xs (k : Int) = some x := atI_nat h
theorem ok_pot {f : Addr} {fd : FuncData} {k : Nat} (F : Fun K "_law_pot" "_law_pot" sPot f fd) (M : Mx mg) : FnG P w K mg base CX0 (k + 1) f fd ["_law_script", "_law_k"] (spPot K) := by
  refine okG F scPot (fun vs H Q E h => ?_) (fun cdv A hA outer s H vs Q E hr h => ?_)
  · obtain ⟨a, ns, k, rfl, _⟩ := h; rfl
  · obtain ⟨a, ns, k, rfl, hs, hk, q⟩ := h
    have nd := scPot.nd
    refine ⟨_, pss_cons (ps_set (i := 2) nd rfl (.inl rfl) (pe_op o_add (pe_op o_mul pe_int (uv 1)) pe_int))
      (pss_cons (ps_ifU (pt_cu o_lt (uv 1) (pe_callB c_len (by rfl) M.len b_len (pa_cons (uv 0) pa_nil)))
        (pss_one (ps_set (i := 2) nd rfl (.inl rfl) (pe_callB c_abs (by rfl) M.abs b_abs (pa_cons (pe_ixU (uv 0) (uv 1)) pa_nil)))) pss_nil)
      (pss_one (ps_ret (pe_lst (pa_cons (pe_callB (c_max2 rfl) (by rfl) M.max b_max (pa_cons pe_int (pa_cons (pe_op o_sub (uv 2) (pe_op o_pow pe_int pe_int)) pa_nil)))
        (pa_cons (pe_op o_add (pe_op o_mod (pe_callTy c_int (by rfl) M.int b_int (pa_cons (pe_op o_add (pe_op o_add (pe_op o_mul (pe_op o_mod (pe_callTy c_int (by rfl) M.int b_int (pa_cons (uv 2) pa_nil)) pe_int) pe_int) (pe_op o_mul pe_int (uv 1))) pe_int) pa_nil)) pe_int) pe_int) pa_nil)))))), ?_⟩
    refine ⟨.inl ⟨by decide, by decide⟩, ?_⟩
    have fin : ∀ cell : Int, 0 ≤ cell → (tRet (tLst (tCons (tCB (mm2U max) (tCons (tC (.int 0)) (tCons (tOp rSubU (uVar 2) (tOp rPowU (tC (.int 10)) (tC (.int 18)))) tNil)))
        (tCons (tOp rAddU (tOp rModU (tCB intU (tCons (tOp rAddU (tOp rAddU (tOp rMulU (tOp rModU (tCB intU (tCons (uVar 2) tNil)) (tC (.int 2147483549))) (tC (.int 41077))) (tOp rMulU (tC (.int 5039)) (uVar 1))) (tC (.int 19))) tNil)) (tC (.int 2147483579))) (tC (.int 1))) tNil))))
        { nx := fun x H' => Q V.non H', rt := Q } [some (.ref a), some (.int k), some (.int cell)] H := by
      intro cell hc
      refine ⟨⟨by decide, by decide, by decide⟩, ?_⟩
      refine ⟨by decide, .inr ⟨by decide, by decide⟩, .inl ⟨by decide, by decide⟩, by decide, ?_⟩
      refine ⟨by show 2 ≤ sizeLine; decide, fun p np => ?_⟩
      refine q _ p (same_upd np) np ⟨_, _, ?_, ?_, ?_, upd_same⟩
      · exact Int.le_max_left _ _
      · have := Int.emod_nonneg (cell % 2147483549 * 41077 + 5039 * (k : Int) + 19) (b := 2147483579) (by decide)
        omega
      · have := Int.emod_lt_of_pos (cell % 2147483549 * 41077 + 5039 * (k : Int) + 19) (b := 2147483579) (by decide)
        omega
    refine .inl ⟨_, .inl hs, ?_⟩
    refine .d (fun hlt => ?_) (fun _ => ?_)
    · rw [List.length_map] at hlt
      have hk : k < ns.length := by omega
      have hx : (ns.map V.int)[k]? = some (.int ns[k]) := by rw [List.getElem?_map, List.getElem?_eq_getElem hk]; rfl
      exact ⟨_, _, .inl hs, atI_nat hx, fin _ (by omega)⟩
    · exact fin _ (by omega)
/-! ### _law_draw -/
theorem scDraw : FnScope ["_law_pot_here", "_law_sides", "_law_digit"] ["_law_pot_here", "_law_sides"] (defScope sDraw) := ⟨rfl, rfl, rfl, by decide +kernel, rfl, by decide +kernel, by decide +kernel⟩
def spDraw : Sp := fun vs H Q _ => ∃ (p : Addr) (n : Nat), vs = [.ref p, .int n] ∧ 0 < n ∧ n ≤ 1000 ∧ Pot H p ∧ ∀ H' (d : Nat), Ex TT (at1 p) H H' → Pot H' p → d < n → Q (.int d) H'
theorem Pot.sq {H : Hp} {p : Addr} {i j : Int} (h : H p = some (.lst [.int i, .int j])) : SqL K H p [V.int i, V.int j] := .inl (.inl h)
theorem ok_draw {f : Addr} {fd : FuncData} {k : Nat} (F : Fun K "_law_draw" "_law_draw" sDraw f fd) (M : Mx mg) : FnG P w K mg base CX0 (k + 1) f fd ["_law_pot_here", "_law_sides"] (spDraw TT) := by
  refine okG F scDraw (fun vs H Q E h => ?_) (fun cdv A hA outer s H vs Q E hr h => ?_)
  · obtain ⟨p, n, rfl, _⟩ := h; rfl
  · obtain ⟨p, n, rfl, h0, h1, hp, q⟩ := h
    have nd := scDraw.nd
    refine ⟨_, pss_cons (ps_ifU (pt_cu o_gt (pe_ixU (uv 0) pe_int) pe_int)
        (pss_cons (ps_asg (pe_callB c_divmod (by rfl) M.divmod b_divmod (pa_cons (pe_ixU (uv 0) pe_int) (pa_cons (uv 1) pa_nil))) (pg_tup rfl (pgs_cons (pg_sub (uv 0) pe_int set_list) (pgs_cons (pg_name (i := 2) nd rfl (.inl rfl)) pgs_nil))) rfl)
          (pss_one (ps_ret (uv 2)))) pss_nil)
      (pss_cons (ps_asg (pe_op o_mod (pe_callTy c_int (by rfl) M.int b_int (pa_cons (pe_op o_add (pe_op o_mul (pe_ixU (uv 0) pe_int) pe_int) pe_int) pa_nil)) pe_int) (pg_sub (uv 0) pe_int set_list) rfl)
      (pss_one (ps_ret (pe_op o_mod (pe_callTy c_int (by rfl) M.int b_int (pa_cons (pe_op o_fdiv (pe_op o_mod (pe_callTy c_int (by rfl) M.int b_int (pa_cons (pe_op o_mul (pe_ixU (uv 0) pe_int) (pe_ixU (uv 0) pe_int)) pa_nil)) pe_int) pe_int) pa_nil)) (uv 1))))), ?_⟩
    obtain ⟨i, j, hi, hj, hj2, hp⟩ := hp
    have hsq : SqL K H p [V.int i, V.int j] := .inl (.inl hp)
    have cd : CDiv i (n : Int) := ⟨by omega, by omega⟩
    refine ⟨_, V.int i, .inl hsq, rfl, ?_⟩
    refine .d (fun hlt => ?_) (fun _ => ?_)
    · refine ⟨_, V.int i, .inl hsq, rfl, cd, fun p' np => ?_⟩
      have ne : p ≠ p' := ne_of_none hp np
      have hp2 : (upd H p' (.tup [V.int (i / n), V.int (i % n)])) p = some (.lst [.int i, .int j]) := by rw [upd_ne ne]; exact hp
      refine ⟨p', _, rfl, .inl (.inl upd_same), rfl, _, _, rfl, p, _, 0, 0, rfl, rfl, hp2, rfl, ?_⟩
      refine ⟨_, _, rfl, rfl, ?_⟩
      have m0 := Int.emod_nonneg i (b := (n : Int)) (by omega)
      have m1 := Int.emod_lt_of_pos i (b := (n : Int)) (by omega)
      have e : i % (n : Int) = ((i % (n : Int)).toNat : Int) := by omega
      have r := q (upd (upd H p' (.tup [V.int (i / n), V.int (i % n)])) p (.lst ([V.int i, V.int j].set 0 (V.int (i / n))))) (i % (n : Int)).toNat
        ((Ex.new np).trans (Ex.write rfl hp2 (fun _ z => nomatch z) (fun _ _ z => nomatch z))) ⟨i / n, j, Int.ediv_nonneg hi (by omega), hj, hj2, upd_same⟩ (by omega)
      rw [← e] at r
      exact r
    · refine ⟨_, V.int j, .inl hsq, rfl, .inr ⟨by decide, by decide⟩, by decide, ?_⟩
      have m0 := Int.emod_nonneg (j * 40009 + 1047) (b := 2147483563) (by decide)
      have m1 := Int.emod_lt_of_pos (j * 40009 + 1047) (b := 2147483563) (by decide)
      refine ⟨p, _, 1, 1, rfl, rfl, hp, rfl, ?_⟩
      generalize (j * 40009 + 1047) % 2147483563 = g at m0 m1
      have hp2 : (upd H p (.lst ([V.int i, V.int j].set 1 (V.int g)))) p = some (.lst [.int i, .int g]) := upd_same
      refine ⟨_, V.int g, .inl (.inl (.inl hp2)), rfl, _, V.int g, .inl (.inl (.inl hp2)), rfl, .inl ⟨by omega, by omega⟩, by decide, ⟨by decide, by decide⟩, by omega, ?_⟩
      generalize g * g % 2147483543 / 17 = y
      have m2 := Int.emod_nonneg y (b := (n : Int)) (by omega)
      have m3 := Int.emod_lt_of_pos y (b := (n : Int)) (by omega)
      have e : y % (n : Int) = ((y % (n : Int)).toNat : Int) := by omega
      have r := q _ (y % (n : Int)).toNat (Ex.write rfl hp (fun _ z => nomatch z) (fun _ _ z => nomatch z)) ⟨i, g, hi, m0, by omega, hp2⟩ (by omega)
      rw [← e] at r
      exact r
end
end LK

namespace LK
open PySem PySem.Spec PyProof.Rows L2 LamX
open scoped List
section
variable {P : Program} {w : World} {K : PySem.W.Frag} {mg : Str → Option Value} {base : Heap} (TT : List (Addr × Str))
theorem scPick : FnScope ["_law_pot_here", "_law_some"] ["_law_pot_here", "_law_some"] (defScope sPick) := ⟨rfl, rfl, rfl, by decide +kernel, rfl, by decide +kernel, by decide +kernel⟩
/-- one of a list -/
def spPick : Sp := fun vs H Q _ => ∃ (p a : Addr) (xs : List V), vs = [.ref p, .ref a] ∧ Pot H p ∧ a ≠ p ∧ H a = some (.lst xs) ∧ 0 < xs.length ∧ xs.length ≤ 1000 ∧ ∀ H' x, Ex TT (at1 p) H H' → Pot H' p → x ∈ xs → Q x H'
theorem ok_pick {f : Addr} {fd : FuncData} {k : Nat} (F : Fun K "_law_pick" "_law_pick" sPick f fd) (M : Mx mg) (HD : Has P w K mg base k "_law_draw" ["_law_pot_here", "_law_sides"] (spDraw TT)) : FnG P w K mg base CX0 (k + 1) f fd ["_law_pot_here", "_law_some"] (spPick TT) := by
  refine okG F scPick (fun vs H Q E h => ?_) (fun cdv A hA outer s H vs Q E hr h => ?_)
  · obtain ⟨p, a, xs, rfl, _⟩ := h; rfl
  · obtain ⟨p, a, xs, rfl, hp, ne, ha, h0, h1, q⟩ := h
    refine ⟨_, pss_one (ps_ret (pe_ixU (uv 1) (pe_callH HD hA hr (by rfl) (pa_cons (uv 0) (pa_cons (pe_callB c_len (by rfl) M.len b_len (pa_cons (uv 1) pa_nil)) pa_nil))))), ?_⟩
    refine .inl ⟨xs, .inl (.inl (.inl ha)), p, xs.length, rfl, h0, h1, hp, fun H' d e hp' hd => ?_⟩
    exact ⟨xs, xs[d], .inl (.inl (.inl (e.keep _ _ ne ha fun _ z => nomatch z))), atI_nat (List.getElem?_eq_getElem hd), q H' _ e hp' (List.getElem_mem hd)⟩
theorem scLMet : FnScope ["_law_rows", "_law_start", "_law_found", "_law_at", "_law_goal"] ["_law_rows", "_law_start"] (defScope sLMet) := ⟨rfl, rfl, rfl, by decide +kernel, rfl, by decide +kernel, by decide +kernel⟩
/-- what the law finds is what is met -/
def spLMet : Sp := fun vs H Q _ => ∃ (r : Addr) (s m : Nat) (R : Rows), vs = [.ref r, .int s] ∧ RowsL H r R ∧ RowsOk R m ∧ s < R.length ∧ R.length ≤ 1000 ∧ ∀ H' p, Same H H' → H p = none → H' p = some (.lst (iv (met R s))) → Q (.ref p) H'
end
end LK

namespace LK
open PySem PySem.Spec PyProof.Rows L2 LamX
open scoped List
theorem flat_iv (f : List Nat) : (iv f).all flatV = true := by
  rw [List.all_eq_true]
  intro x hx
  obtain ⟨g, _, rfl⟩ := List.mem_map.mp hx
  rfl
theorem in_iv (g : Nat) (f : List Nat) : inV (.int g) (iv f) = decide (g ∈ f) := by
  unfold inV
  rw [List.any_map, Bool.eq_iff_iff, List.any_eq_true, decide_eq_true_eq]
  constructor
  · rintro ⟨x, hx, e⟩
    have e : ((x : Int) == (g : Int)) = true := e
    have : (x : Int) = g := beq_iff_eq.mp e
    have : x = g := by omega
    exact this ▸ hx
  · intro h
    exact ⟨g, h, by show ((g : Int) == (g : Int)) = true; simp⟩
section
variable {P : Program} {w : World} {K : PySem.W.Frag} {mg : Str → Option Value} {base : Heap}
theorem ok_lmet {f : Addr} {fd : FuncData} {k : Nat} (F : Fun K "_law_met" "_law_met" sLMet f fd) (M : Mx mg) : FnG P w K mg base CX0 (k + 1) f fd ["_law_rows", "_law_start"] spLMet := by
  refine okG F scLMet (fun vs H Q E h => ?_) (fun cdv A hA outer s H vs Q E hr h => ?_)
  · obtain ⟨r, s0, m, R, rfl, _⟩ := h; rfl
  · obtain ⟨r, s0, m, R, rfl, ⟨rs, hs', hl', hrow'⟩, ok, hs, hn, q⟩ := h
    have nd := scLMet.nd
    have sl := sizeLine_eq
    refine ⟨_, pss_cons (ps_par (i := 2) (j := 3) (by rfl) nd rfl rfl (by decide) rfl rfl (pa_cons (pe_lst (pa_cons (uv 1) pa_nil)) (pa_cons pe_int pa_nil)) (by rfl))
      (pss_cons (ps_while PassesOwn.never (pt_cl (pt_cu o_lt (uv 3) (pe_callB c_len (by rfl) M.len b_len (pa_cons (uv 2) pa_nil))))
        (pss_cons (ps_for PassesOwn.never rfl (pi_list (pe_ixU (uv 0) (pe_ixU (uv 2) (uv 3)))) (pg_name (i := 4) nd rfl (.inl rfl))
          (pss_one (ps_ifU (pt_cu op_notIn_seq (uv 4) (uv 2) (by rfl))
            (pss_one (ps_expr (pe_bm PySem.F.plainAttrs_list PySem.F.slot_list_append PySem.F.type_list_append mt_append (uv 2) (pa_cons (uv 4) pa_nil)))) pss_nil)))
        (pss_one (ps_set (i := 3) nd rfl (.inl rfl) (pe_op o_add (uv 3) pe_int)))))
      (pss_one (ps_ret (uv 2)))), ?_⟩
    refine ⟨by show 1 ≤ sizeLine; omega, fun B nB => ⟨_, _, rfl, ?_⟩⟩
    show tWhile _ _ _ _ _
    refine wh (m0 := R.length) (fun mm σ H2 => ∃ i y4, mm = R.length - i ∧ i ≤ (fnd R s0 i).length ∧ Same H H2 ∧ H2 B = some (.lst (iv (fnd R s0 i))) ∧ σ = [some (.ref r), some (.int s0), some (.ref B), some (.int (i : Nat)), y4])
      ⟨0, none, rfl, Nat.zero_le _, same_upd nB, upd_same, rfl⟩ (fun mm σ H2 iv2 => ?_) (fun σ H Q Q' hm h => ?_)
    case refine_2 =>
      obtain ⟨Q0, h0, m0⟩ := h
      exact ⟨Q0, h0, fun v H' z => hm _ _ (m0 v H' z)⟩
    obtain ⟨i, y4, rfl, hi, e2, hB, rfl⟩ := iv2
    have hf := fnd_len ok hs i
    generalize hfe : fnd R s0 i = fi at hi hB hf
    have li : (iv fi).length = fi.length := List.length_map _
    refine ⟨fun b H' => b = decide ((i : Int) < ((iv fi).length : Int)) ∧ H' = H2, .inl ⟨iv fi, .inl (.inl (.inl hB)), rfl, rfl⟩, fun b H' z => ?_⟩
    obtain ⟨rfl, rfl⟩ := z
    by_cases hlt : i < fi.length
    · rw [if_pos (decide_eq_true (by rw [li]; omega))]
      obtain ⟨p, hp0⟩ : ∃ p, fi[i]? = some p := ⟨_, List.getElem?_eq_getElem hlt⟩
      have hp : (fnd R s0 i)[i]? = some p := by rw [hfe]; exact hp0
      have plt : p < R.length := fnd_lt ok hs i p (List.mem_of_getElem? hp)
      obtain ⟨qa, hqa⟩ : ∃ qa, rs[p]? = some qa := ⟨_, List.getElem?_eq_getElem (by omega)⟩
      have hq := hrow' p qa hqa
      dsimp only [tSeq]
      refine for_list (K := K) (t := tOp (ixU K) (uVar 0) (tOp (ixU K) (uVar 2) (uVar 3))) (a := qa) (xs := iv (gls R p)) (H1 := H')
        (fun R' hR' => ⟨iv fi, .int (p : Nat), .inl (.inl (.inl hB)), atI_nat (by rw [List.getElem?_map, hp0]; rfl), rs.map V.ref, .ref qa, .inl (.inl (.inl (e2 _ _ hs'))), atI_nat (by rw [List.getElem?_map, hqa]; rfl), hR'⟩) (.inl (.inl (e2 _ _ hq)))
        (fun pre σ H4 => ∃ gs rest y4, gls R p = gs ++ rest ∧ pre = iv gs ∧ Same H H4 ∧ H4 B = some (.lst (iv (adds fi gs))) ∧ σ = [some (.ref r), some (.int s0), some (.ref B), some (.int (i : Nat)), y4])
        (fun pre σ H4 h => by obtain ⟨_, _, _, _, _, h, _⟩ := h; exact .inl (.inl (h _ _ hq))) ⟨[], gls R p, y4, rfl, rfl, e2, hB, rfl⟩ (fun pre x suf σ H4 ex h => ?_) (fun σ H4 h => ?_)
      · obtain ⟨gs, rest, y4, eg, rfl, e5, hB5, rfl⟩ := h
        have er : iv rest = x :: suf := by
          have e7 : iv gs ++ iv rest = iv gs ++ x :: suf := by rw [← ex, eg, iv_app]
          exact List.append_cancel_left e7
        obtain ⟨g, rest', rfl, rfl, rfl⟩ := List.map_eq_cons_iff.mp er
        have cl := adds_len (i := i) ok hs eg
        rw [hfe] at cl
        have eg2 : gls R p = (gs ++ [g]) ++ rest' := by rw [eg]; simp
        have ea := adds_app (f := fi) (gs := gs) (g := g)
        generalize adds fi gs = cur at hB5 cl ea
        refine ⟨B, iv cur, rfl, .inl (.inl (.inl hB5)), rfl, flat_iv _, ?_⟩
        show Br (!inV (.int g) (iv cur)) _ _
        rw [in_iv]
        refine .nd (fun hg => ?_) (fun hg => ?_)
        · have ec : add1 cur g = cur ++ [g] := if_neg hg
          refine ⟨.inl ⟨rfl, _, .inl (.inl hB5)⟩, B, _, _, rfl, rfl, hB5, by rw [List.length_map]; omega, ?_⟩
          exact ⟨gs ++ [g], rest', _, eg2, by rw [iv_app]; rfl, same_upd2 e5 nB, by rw [upd_same, ea, ec, iv_app]; rfl, rfl⟩
        · have ec : add1 cur g = cur := if_pos hg
          exact ⟨gs ++ [g], rest', _, eg2, by rw [iv_app]; rfl, e5, by rw [ea, ec]; exact hB5, rfl⟩
      · obtain ⟨gs, rest, y4, eg, e6, e5, hB5, rfl⟩ := h
        obtain rfl := iv_inj e6
        have es := fnd_step hp
        rw [hfe] at es
        rw [← es] at hB5
        have l2 := (fnd_pre (R := R) (s := s0) (i := i) (j := i + 1) (by omega)).length_le
        rw [hfe] at l2
        exact ⟨R.length - (i + 1), by omega, i + 1, _, rfl, by omega, e5, hB5, rfl⟩
    · rw [if_neg (by rw [decide_eq_false (by rw [li]; omega)]; decide)]
      have em : fi = met R s0 := by rw [← hfe]; exact fnd_met ok hs (by rw [hfe]; omega)
      rw [em] at hB
      exact q _ B e2 nB hB
end
end LK

namespace LK
open PySem PySem.Spec PyProof.Rows L2 LamX
open scoped List
theorem seqIx {d n : Nat} (h : d < n) : seqIndex? (d : Int) n = some d := by
  unfold seqIndex?
  simp only
  split <;> (try split) <;> first | omega | (simp; omega) | simp_all
theorem erase_iv : ∀ (l : List Nat) (d : Nat), (iv l).eraseIdx d = iv (l.eraseIdx d)
  | [], _ => rfl
  | _ :: _, 0 => rfl
  | c :: l, d + 1 => by
    show V.int (c : Int) :: (iv l).eraseIdx d = V.int (c : Int) :: iv (l.eraseIdx d)
    rw [erase_iv l d]
section
variable {P : Program} {w : World} {K : PySem.W.Frag} {mg : Str → Option Value} {base : Heap} (TT : List (Addr × Str))
theorem scMixed : FnScope ["_law_pot_here", "_law_some", "_law_left", "_law_found", "_law_turn"] ["_law_pot_here", "_law_some"] (defScope sMixed) := ⟨rfl, rfl, rfl, by decide +kernel, rfl, by decide +kernel, by decide +kernel⟩
/-- a new list of the same numbers, in some sequence -/
def spMixed : Sp := fun vs H Q _ => ∃ (p a : Addr) (xs : List Nat), vs = [.ref p, .ref a] ∧ Pot H p ∧ H a = some (.lst (iv xs)) ∧ xs.length ≤ 1000 ∧
  ∀ H' q ys, Ex TT (at1 p) H H' → Pot H' p → New H q → q ≠ p → H' q = some (.lst (iv ys)) → ys ~ xs → Q (.ref q) H'
theorem ok_mixed {f : Addr} {fd : FuncData} {k : Nat} (F : Fun K "_law_mixed" "_law_mixed" sMixed f fd) (M : Mx mg) (HD : Has P w K mg base k "_law_draw" ["_law_pot_here", "_law_sides"] (spDraw TT)) :
    FnG P w K mg base CX0 (k + 1) f fd ["_law_pot_here", "_law_some"] (spMixed TT) := by
  refine okG F scMixed (fun vs H Q E h => ?_) (fun cdv A hA outer s H vs Q E hr h => ?_)
  · obtain ⟨p, a, xs, rfl, _⟩ := h; rfl
  · obtain ⟨p, a, xs, rfl, hp, ha, hn, q⟩ := h
    have nd := scMixed.nd
    have sl := sizeLine_eq
    refine ⟨_, pss_cons (ps_par (i := 2) (j := 3) (by rfl) nd rfl rfl (by decide) rfl rfl (pa_cons (pe_callTy (c_list rfl) (by rfl) M.list b_list (pa_cons (uv 1) pa_nil)) (pa_cons (pe_lst pa_nil) pa_nil)) (by rfl))
      (pss_cons (ps_for PassesOwn.never rfl (pi_range1 (by rfl) M.range (pa_cons (pe_callB c_len (by rfl) M.len b_len (pa_cons (uv 1) pa_nil)) pa_nil)) (pg_name (i := 4) nd rfl (.inl rfl))
        (pss_one (ps_expr (pe_bm PySem.F.plainAttrs_list PySem.F.slot_list_append PySem.F.type_list_append mt_append (uv 3)
          (pa_cons (pe_bm PySem.F.plainAttrs_list PySem.F.slot_list_pop PySem.F.type_list_pop mt_popAt (uv 2) (pa_cons (pe_callH HD hA hr (by rfl) (pa_cons (uv 0) (pa_cons (pe_callB c_len (by rfl) M.len b_len (pa_cons (uv 2) pa_nil)) pa_nil))) pa_nil)) pa_nil)))))
      (pss_one (ps_ret (uv 3)))), ?_⟩
    refine .inl ⟨iv xs, .inl (.inl (.inl ha)), fun L nL => ⟨by show 0 ≤ sizeLine; omega, fun B nB => ⟨_, _, rfl, ?_⟩⟩⟩
    have nLB : L ≠ B := ne_of_none upd_same nB
    have npL : p ≠ L := hp.ne nL
    have nBH : H B = none := Same.free (same_upd nL) nB
    have npB : p ≠ B := hp.ne nBH
    have newL : New H L := fun b o hb _ e => by rw [e, nL] at hb; cases hb
    have newB : New H B := fun b o hb _ e => by rw [e, nBH] at hb; cases hb
    have e0 : Same H (upd (upd H L (.lst (iv xs))) B (.lst [])) := same_upd2 (same_upd nL) nBH
    have hL0 : (upd (upd H L (.lst (iv xs))) B (.lst [])) L = some (.lst (iv xs)) := by rw [upd_ne nLB]; exact upd_same
    have hB0 : (upd (upd H L (.lst (iv xs))) B (.lst [])) B = some (.lst (iv [])) := upd_same
    have hp0 : Pot (upd (upd H L (.lst (iv xs))) B (.lst [])) p := (hp.put npL).put npB
    generalize upd (upd H L (.lst (iv xs))) B (.lst []) = H0 at e0 hL0 hB0 hp0
    dsimp only [tSeq]
    have ln : (iv xs).length = xs.length := List.length_map _
    refine for_rng (n := (iv xs).length) (H1 := H0) (fun R' h => .inl ⟨iv xs, .inl (.inl (.inl (e0 _ _ ha))), h⟩) (by omega) (fun i σ H2 => ∃ (lf fd : List Nat) (y4 : Option V), σ = [some (.ref p), some (.ref a), some (.ref L), some (.ref B), y4] ∧ Ex TT (at1 p) H H2 ∧ Pot H2 p ∧ H2 L = some (.lst (iv lf)) ∧ H2 B = some (.lst (iv fd)) ∧ (fd ++ lf) ~ xs ∧ fd.length = i)
      ⟨xs, [], none, rfl, .same e0, hp0, hL0, hB0, by simp, rfl⟩ (fun i σ H2 hi2 h => ?_) (fun σ H2 h => ?_)
    · obtain ⟨lf, fd, y4, rfl, e2, hp2, hL2, hB2, pm, rfl⟩ := h
      have lens := pm.length_eq
      rw [List.length_append] at lens
      have ll : (iv lf).length = lf.length := List.length_map _
      refine ⟨.inl ⟨rfl, _, .inl (.inl hB2)⟩, .inl ⟨rfl, _, .inl (.inl hL2)⟩, .inl ⟨iv lf, .inl (.inl (.inl hL2)), p, (iv lf).length, rfl, by omega, by omega, hp2, fun H3 d e3 hp3 hd => ?_⟩⟩
      have hL3 : H3 L = some (.lst (iv lf)) := e3.keep _ _ npL.symm hL2 fun _ z => nomatch z
      have hB3 : H3 B = some (.lst (iv fd)) := e3.keep _ _ npB.symm hB2 fun _ z => nomatch z
      obtain ⟨g, hg⟩ : ∃ g, lf[d]? = some g := ⟨_, List.getElem?_eq_getElem (by omega)⟩
      refine ⟨L, iv lf, d, d, .int (g : Nat), rfl, rfl, hL3, by omega, by omega, seqIx hd, by rw [List.getElem?_map, hg]; rfl, ?_⟩
      have hB4 : (upd H3 L (.lst ((iv lf).eraseIdx d))) B = some (.lst (iv fd)) := by rw [upd_ne nLB.symm]; exact hB3
      refine ⟨B, iv fd, .int (g : Nat), rfl, rfl, hB4, by rw [List.length_map]; omega, ?_⟩
      have e4 : Ex TT (at1 p) H (upd (upd H3 L (.lst ((iv lf).eraseIdx d))) B (.lst (iv fd ++ [.int (g : Nat)]))) :=
        ((e2.trans e3).putN newL hL3 (fun _ z => nomatch z) (fun _ _ z => nomatch z)).putN newB hB4 (fun _ z => nomatch z) (fun _ _ z => nomatch z)
      have er : (iv lf).eraseIdx d = iv (lf.eraseIdx d) := erase_iv lf d
      refine ⟨lf.eraseIdx d, fd ++ [g], _, rfl, e4, (hp3.put npL).put npB, ?_, ?_, ?_, by simp⟩
      · rw [upd_ne nLB, upd_same, er]
      · rw [upd_same, iv_app]; rfl
      · refine List.Perm.trans ?_ pm
        rw [List.append_assoc]
        refine List.Perm.append_left fd ?_
        have := erase_perm lf d g hg
        exact this
    · obtain ⟨lf, fd, y4, rfl, e2, hp2, hL2, hB2, pm, hl⟩ := h
      have lens := pm.length_eq
      rw [List.length_append] at lens
      have : lf = [] := List.length_eq_zero_iff.mp (by omega)
      subst this
      rw [List.append_nil] at pm
      exact q H2 B fd e2 hp2 newB npB.symm hB2 pm
end
end LK

namespace LK
open PySem PySem.Spec PyProof.Rows L2 LamX
open scoped List
section
variable {P : Program} {w : World} {K : PySem.W.Frag} {mg : Str → Option Value} {base : Heap} {C : Addr}
/-- a sheet: a pair of rows and kinds -/
def SheetAt (H : Hp) (t : Addr) (R : Rows) (Kd : List Bool) : Prop := ∃ r k : Addr, H t = some (.tup [.ref r, .ref k]) ∧ RowsL H r R ∧ H k = some (.lst (Kd.map V.bl))
theorem SheetAt.ext {H H' : Hp} {t : Addr} {R : Rows} {Kd : List Bool} (h : SheetAt H t R Kd) (e : Same H H') : SheetAt H' t R Kd := by
  obtain ⟨r, k, h1, h2, h3⟩ := h
  exact ⟨r, k, e _ _ h1, h2.ext e, e _ _ h3⟩
theorem scRig : FnScope ["_law_signs", "_law_sheet_here"] ["_law_signs", "_law_sheet_here"] (defScope sRig) := ⟨rfl, rfl, rfl, by decide +kernel, rfl, by decide +kernel, by decide +kernel⟩
def spRig (C : Addr) : Sp := fun vs H Q _ => ∃ (t : Addr) (S : List Nat) (R : Rows) (Kd : List Bool), vs = [.str (T S), .ref t] ∧ SheetAt H t R Kd ∧ ShOk S R Kd ∧ Whole R ∧ ∀ H' a, Same H H' → H a = none → MachN C H H' a S R Kd → Q (.ref a) H'
theorem mach_newN {K : PySem.W.Frag} {C : Addr} {H : Hp} {Q : VK} {S : List Nat} {R : Rows} {Kd : List Bool} {r k : Addr} (ok : ShOk S R Kd) (wh : Whole R) (hr : RowsAt K H r R) (hk : KindsAt K H k Kd)
    (q : ∀ H' a, Same H H' → H a = none → MachN C H H' a S R Kd → Q (.ref a) H') : mkSp C (spInit K C) [.str (T S), .ref r, .ref k] H Q := by
  intro a d na nd nad
  have e9 : Same H (upd (upd H d (.own a)) a (.ins C d [])) := (same_upd nd).trans (same_upd (by rw [upd_ne nad.symm]; exact na))
  refine ⟨a, d, r, k, S, R, Kd, rfl, ok, wh, hr.ext e9, hk.ext e9, upd_same, fun H' but mach => ⟨rfl, q H' a (fun b o hb => ?_) na (mach.of e9)⟩⟩
  exact but b o (ne_of_none hb na) (e9 _ _ hb)
theorem mach_new {K : PySem.W.Frag} {C : Addr} {H : Hp} {Q : VK} {S : List Nat} {R : Rows} {Kd : List Bool} {r k : Addr} (ok : ShOk S R Kd) (wh : Whole R) (hr : RowsAt K H r R) (hk : KindsAt K H k Kd)
    (q : ∀ H' a, Same H H' → H a = none → Mach C H' a S R Kd → Q (.ref a) H') : mkSp C (spInit K C) [.str (T S), .ref r, .ref k] H Q :=
   mach_newN ok wh hr hk fun H' a e n m => q H' a e n m.m
theorem RowsL.at {K : PySem.W.Frag} {H : Hp} {r : Addr} {R : Rows} (h : RowsL H r R) : RowsAt K H r R := by
  obtain ⟨rs, h1, h2, h3⟩ := h
  exact ⟨false, rs, .inl (.inl h1), h2, fun i p hp => ⟨false, .inl (.inl (h3 i p hp))⟩⟩
theorem ok_rig {f : Addr} {fd : FuncData} {k : Nat} (F : Fun K "_law_rig" "_law_rig" sRig f fd) (HI : HasI P w K mg base k "Machine" C ["letters", "rows", "kinds"] (spInit K C)) : FnG P w K mg base CX0 (k + 2) f fd ["_law_signs", "_law_sheet_here"] (spRig C) := by
  refine okG F scRig (fun vs H Q E h => ?_) (fun cdv A hA outer s H vs Q E hr h => ?_)
  · obtain ⟨t, S, R, Kd, rfl, _⟩ := h; rfl
  · obtain ⟨t, S, R, Kd, rfl, ⟨r, kk, h1, h2, h3⟩, ok, wh, q⟩ := h
    refine ⟨_, pss_one (ps_ret (pe_mkI HI hA hr (by rfl) (pa_cons (uv 0) (pa_cons (pe_ixU (uv 1) pe_int) (pa_cons (pe_ixU (uv 1) pe_int) pa_nil))))), ?_⟩
    refine ⟨[.ref r, .ref kk], .ref r, .inr (.inl (.inl h1)), rfl, [.ref r, .ref kk], .ref kk, .inr (.inl (.inl h1)), rfl, rfl, ?_⟩
    exact mach_newN ok wh h2.at ⟨false, .inl (.inl h3)⟩ q
theorem scLLed : FnScope ["_law_signs", "_law_rows", "_law_place", "_law_text", "_law_sign"] ["_law_signs", "_law_rows", "_law_place", "_law_text"] (defScope sLLed) := ⟨rfl, rfl, rfl, by decide +kernel, rfl, by decide +kernel, by decide +kernel⟩
def spLLed : Sp := fun vs H Q _ => ∃ (r : Addr) (p : Nat) (l S : List Nat) (R : Rows), vs = [.str (T S), .ref r, .int p, .str (T l)] ∧ RowsL H r R ∧ S.Nodup ∧ RowsOk R S.length ∧ p < R.length ∧ (∀ c ∈ l, c ∈ S) ∧ Q (.int (led S R p l : Nat)) H
theorem ok_lled {f : Addr} {fd : FuncData} {k : Nat} (F : Fun K "_law_led" "_law_led" sLLed f fd) : FnG P w K mg base CX0 (k + 1) f fd ["_law_signs", "_law_rows", "_law_place", "_law_text"] spLLed := by
  refine okG F scLLed (fun vs H Q E h => ?_) (fun cdv A hA outer s H vs Q E hr h => ?_)
  · obtain ⟨r, p, l, S, R, rfl, _⟩ := h; rfl
  · obtain ⟨r, p, l, S, R, rfl, ⟨rs, h2, h3, h4⟩, ndS, ok, hp, hl, q⟩ := h
    have nd := scLLed.nd
    refine ⟨_, pss_cons (ps_for PassesOwn.never rfl (pi_str (uv 3)) (pg_name (i := 4) nd rfl (.inl rfl))
        (pss_one (ps_set (i := 2) nd rfl (.inl rfl) (pe_ixU (pe_ixU (uv 1) (uv 2)) (pe_bm PySem.F.plainAttrs_str PySem.F.slot_str_index PySem.F.type_str_index mt_sindex (uv 0) (pa_cons (uv 4) pa_nil))))))
      (pss_one (ps_ret (uv 2))), ?_⟩
    dsimp only [tSeq, tAsg, gName]
    refine for_str (l := l) (H1 := H) (by exact fun _ h => h) (fun pre σ H2 => H2 = H ∧ ∃ y3, σ = [some (.str (T S)), some (.ref r), some (.int (led S R p pre : Nat)), some (.str (T l)), y3]) ⟨rfl, none, rfl⟩ (fun pre c suf σ H2 e iv => ?_) (fun σ H2 iv => ?_)
    · obtain ⟨rfl, y3, rfl⟩ := iv
      have hpre : ∀ d ∈ pre, d ∈ S := fun d hd => hl d (by rw [e]; simp [hd])
      have hc : c ∈ S := hl c (by rw [e]; simp)
      have lt := led_lt ok hp pre hpre
      obtain ⟨rest, ho⟩ := occ_idx ndS hc
      have lt2 : S.idxOf c < (gls R (led S R p pre)).length := by rw [gls_len ok lt]; exact List.idxOf_lt_length_iff.mpr hc
      obtain ⟨qa, hq⟩ : ∃ qa, rs[led S R p pre]? = some qa := ⟨_, List.getElem?_eq_getElem (by omega)⟩
      have hrow := h4 _ _ hq
      refine ⟨rs.map V.ref, .ref qa, .inl (.inl (.inl h2)), atI_nat (by rw [List.getElem?_map, hq]; rfl), ?_⟩
      refine ⟨rfl, T S, T [c], S.idxOf c, rest, rfl, rfl, ho, ?_⟩
      refine ⟨iv (gls R (led S R p pre)), .int ((gls R (led S R p pre)).getD (S.idxOf c) 0 : Nat), .inl (.inl (.inl hrow)), atI_nat (by rw [List.getElem?_map, List.getElem?_eq_getElem lt2, List.getD_eq_getElem?_getD, List.getElem?_eq_getElem lt2]; rfl), ?_⟩
      exact ⟨rfl, _, by rw [led_snoc]; rfl⟩
    · obtain ⟨rfl, y3, rfl⟩ := iv
      exact q
end
end LK

/-! list.index, slices, methods within a comprehension -/
namespace LK
open PySem PySem.Spec PyProof.Rows L2 LamX
open scoped List
section
variable {X : Cx} {K : PySem.W.Frag} {o e : Expr} {es : List Expr} {to : TE} {t : TA} {name : Str} {apos cpos : Pos} {T id : String} {r : V → List V → Hp → VK → Prop}
theorem pe_bmK (hK : X.K = K) (pa : PlainAttrs T) (slot : Slot T name id) (hty : typeOf (.builtin id) = pure (.type "method_descriptor")) (hm : MtR X id r) (ho : PE X o to) (ha : PA X (e :: es) t)
    (hbase : attributeBase o name X.env (eval o X.env) = eval o X.env := by rfl)
    (hfew : ((backTo cpos (starEach (e :: es) X.env)).all (fun x => !x.1) && (backToKw cpos (keywordEach [] X.env)).all (fun x => x.1.isSome)
      && decide ((e :: es).length + ([] : List Keyword).length + (if ([] : List Keyword).isEmpty then 0 else 1) < 30)) = true := by rfl)
    (hline : (apos.endLine == cpos.line) = true := by rfl) (hs : starEach (e :: es) X.env = (false, eval e X.env) :: starEach es X.env := by rfl) (hplain : (backTo cpos (starEach es X.env)).any (·.1) = false := by rfl) :
    PE X (.Call (.Attribute o name apos) (e :: es) [] cpos) (tBM K T r to t) := hK ▸ pe_bm pa slot hty hm ho ha hbase hfew hline hs hplain
theorem mt_indexK (hK : X.K = K) : MtR X "list.index" (rIndex K) := hK ▸ mt_index
end
theorem eq_iv (a b : Nat) : eqV (.int (a : Int)) (.int (b : Int)) = decide (a = b) := by
  show ((a : Int) == (b : Int)) = _
  rw [Bool.eq_iff_iff, beq_iff_eq, decide_eq_true_eq]
  omega
theorem idx_le : ∀ {f : List Nat} {m y : Nat}, f[m]? = some y → f.idxOf y ≤ m
  | [], m, y, h => by simp at h
  | a :: f, 0, y, h => by
    have : a = y := by simpa using h
    subst this; simp
  | a :: f, m + 1, y, h => by
    have h : f[m]? = some y := by simpa using h
    rw [List.idxOf_cons]
    cases e : a == y with
    | true => show 0 ≤ _; omega
    | false => have := idx_le h; show f.idxOf y + 1 ≤ _; omega
/-- the place of g in a list -/
theorem idx_ok {f : List Nat} {g : Nat} (h : g ∈ f) : (iv f)[f.idxOf g]? = some (.int (g : Nat)) ∧ ∀ (m : Nat) (z : V), m < f.idxOf g → (iv f)[m]? = some z → eqV z (.int (g : Nat)) = false := by
  refine ⟨by rw [List.getElem?_map, idx_get h]; rfl, fun m z hm hz => ?_⟩
  rw [List.getElem?_map] at hz
  obtain ⟨y, hy, rfl⟩ := Option.map_eq_some_iff.mp hz
  rw [eq_iv, decide_eq_false_iff_not]
  intro e
  subst e
  have := idx_le hy
  omega
section
variable {P : Program} {w : World} {K : PySem.W.Frag} {mg : Str → Option Value} {base : Heap} (TT : List (Addr × Str))
theorem scSheet : FnScope ["_law_pot_here", "_law_signs", "_law_most", "_law_many", "_law_rows", "_law_near", "_law_order", "_law_kinds", "_law_sign", "_law_place", "_law_goal"] ["_law_pot_here", "_law_signs", "_law_most"] (defScope sSheet) := ⟨rfl, rfl, rfl, by decide +kernel, rfl, by decide +kernel, by decide +kernel⟩
abbrev nSheet : List Str := ["_law_pot_here", "_law_signs", "_law_most", "_law_many", "_law_rows", "_law_near", "_law_order", "_law_kinds", "_law_sign", "_law_place", "_law_goal"]
abbrev scS1 : Scope := { kind := .function, names := [(".0", .local), ("_law_place", .local), ("_law_many", .free), ("_law_pot_here", .free), ("_law_signs", .free)], isGenerator := false, isCoroutine := false }
abbrev scS2 : Scope := { kind := .function, names := [(".0", .local), ("_law_place", .local), ("_law_order", .free), ("_law_rows", .free)], isGenerator := false, isCoroutine := false }
end
end LK

/-! k14: _law_sheet -/
namespace LK
open PySem PySem.Spec PyProof.Rows L2 LamX
open scoped List
/-- rows whose lists lie apart from p -/
def RowsP (p : Addr) (H : Hp) (r : Addr) (R : Rows) : Prop := ∃ rs : List Addr, r ≠ p ∧ H r = some (.lst (rs.map V.ref)) ∧ rs.length = R.length ∧ ∀ i q, rs[i]? = some q → q ≠ p ∧ H q = some (.lst (iv (gls R i)))
theorem RowsP.l {p : Addr} {H : Hp} {r : Addr} {R : Rows} (h : RowsP p H r R) : RowsL H r R := by
  obtain ⟨rs, _, h1, h2, h3⟩ := h
  exact ⟨rs, h1, h2, fun i q hq => (h3 i q hq).2⟩
theorem RowsP.ex {TT : List (Addr × Str)} {p : Addr} {H H' : Hp} {r : Addr} {R : Rows} (h : RowsP p H r R) (e : Ex TT (at1 p) H H') : RowsP p H' r R := by
  obtain ⟨rs, h0, h1, h2, h3⟩ := h
  exact ⟨rs, h0, e.keep _ _ h0 h1 (fun _ z => nomatch z), h2, fun i q hq => ⟨(h3 i q hq).1, e.keep _ _ (h3 i q hq).1 (h3 i q hq).2 (fun _ z => nomatch z)⟩⟩
def SheetP (p : Addr) (H : Hp) (t : Addr) (R : Rows) (Kd : List Bool) : Prop := ∃ r k : Addr, t ≠ p ∧ k ≠ p ∧ H t = some (.tup [.ref r, .ref k]) ∧ RowsP p H r R ∧ H k = some (.lst (Kd.map V.bl))
theorem SheetP.s {p : Addr} {H : Hp} {t : Addr} {R : Rows} {Kd : List Bool} (h : SheetP p H t R Kd) : SheetAt H t R Kd := by
  obtain ⟨r, k, _, _, h1, h2, h3⟩ := h
  exact ⟨r, k, h1, h2.l, h3⟩
theorem SheetP.ex {TT : List (Addr × Str)} {p : Addr} {H H' : Hp} {t : Addr} {R : Rows} {Kd : List Bool} (h : SheetP p H t R Kd) (e : Ex TT (at1 p) H H') : SheetP p H' t R Kd := by
  obtain ⟨r, k, n1, n2, h1, h2, h3⟩ := h
  exact ⟨r, k, n1, n2, e.keep _ _ n1 h1 (fun _ z => nomatch z), h2.ex e, e.keep _ _ n2 h3 (fun _ z => nomatch z)⟩
theorem gls_app_lt {R R' : Rows} {i : Nat} (h : i < R.length) : gls (R ++ R') i = gls R i := by
  unfold gls; rw [List.getD_eq_getElem?_getD, List.getD_eq_getElem?_getD, List.getElem?_append_left h]
theorem gls_app_at {R : Rows} {r : List Nat} : gls (R ++ [r]) R.length = r := by
  unfold gls; rw [List.getD_eq_getElem?_getD, List.getElem?_append_right (Nat.le_refl _), Nat.sub_self]; rfl
theorem cut1 (x : V) (xs : List V) : cutV (x :: xs) none (some 1) = [x] := by
  unfold cutV HT.sIx
  simp
theorem cut2 (x : V) (xs : List V) : cutV (x :: xs) (some 1) none = xs := by
  unfold cutV HT.sIx
  simp
theorem lets_inj {a b : List Nat} (h : lets a = lets b) : a = b := (List.map_inj_right fun x y z => by
  have z1 := T_inj (V.str.inj z)
  exact (List.cons.inj z1).1).mp h
section
variable {P : Program} {w : World} {K : PySem.W.Frag} {mg : Str → Option Value} {base : Heap} (TT : List (Addr × Str))
def spSheet : Sp := fun vs H Q _ => ∃ (p : Addr) (S : List Nat) (most : Nat), vs = [.ref p, .str (T S), .int most] ∧ LetOk S ∧ Pot H p ∧ 1 ≤ most ∧ most ≤ 7 ∧
  ∀ H' t R Kd, Ex TT (at1 p) H H' → Pot H' p → SheetP p H' t R Kd → ShOk S R Kd → Whole R → Q (.ref t) H'
theorem ok_sheet {f : Addr} {fd : FuncData} {k : Nat} (F : Fun K "_law_sheet" "_law_sheet" sSheet f fd) (M : Mx mg) (HD : Has P w K mg base k "_law_draw" ["_law_pot_here", "_law_sides"] (spDraw TT)) (HM : Has P w K mg base k "_law_met" ["_law_rows", "_law_start"] spLMet)
    (HX : Has P w K mg base k "_law_mixed" ["_law_pot_here", "_law_some"] (spMixed TT)) : FnG P w K mg base CX0 (k + 1) f fd ["_law_pot_here", "_law_signs", "_law_most"] (spSheet TT) := by
  refine okG F scSheet (fun vs H Q E h => ?_) (fun cdv A hA outer s H vs Q E hr h => ?_)
  · obtain ⟨p, S, most, rfl, _⟩ := h; rfl
  · obtain ⟨p, S, most, rfl, lt, hp, hm1, hm7, q⟩ := h
    have nd := scSheet.nd
    have sl := sizeLine_eq
    have l3 := lt.hi
    refine ⟨_, pss_cons (ps_set (i := 3) nd rfl (.inr rfl) (pe_op o_add pe_int (pe_callH HD hA hr (by rfl) (pa_cons (uv 0) (pa_cons (uv 2) pa_nil)))))
      (pss_cons (ps_set (i := 4) nd rfl (.inr rfl) (pe_lc (own := [("_law_place", 9)]) (g := gName 9) (tt := tYes) rfl nd (pi_range1 (by rfl) M.range (pa_cons (uv 3) pa_nil)) (blkOk_by (N := nSheet) (sc := defScope sSheet) (by decide +kernel))
        (fun _ _ _ _ _ => pg_name (i := 9) nd rfl (Or.inl rfl)) (fun _ _ _ _ _ => pts_nil)
        (fun _ _ _ _ _ => pe_lc (own := [("_law_sign", 8)]) (g := gName 8) (tt := tYes) rfl nd (pi_str (uv 1)) (blkOk_in (N := nSheet) (sc := scS1) (by decide +kernel))
          (fun _ _ _ _ _ => pg_name (i := 8) nd rfl (Or.inl rfl)) (fun _ _ _ _ _ => pts_nil) (fun _ _ _ _ _ => pe_callH HD hA hr (by rfl) (pa_cons (uv 0) (pa_cons (uv 3) pa_nil))))))
      (pss_cons (ps_set (i := 5) nd rfl (.inl rfl) (pe_callH HM hA hr (by rfl) (pa_cons (uv 4) (pa_cons pe_int pa_nil))))
      (pss_cons (ps_set (i := 6) nd rfl (.inr rfl) (pe_op o_add (pe_slice sl_u (uv 5) po_none (po_u pe_int)) (pe_callH HX hA hr (by rfl) (pa_cons (uv 0) (pa_cons (pe_slice sl_u (uv 5) (po_u pe_int) po_none) pa_nil)))))
      (pss_cons (ps_setLc (i := 7) (own := [("_law_place", 9)]) (g := gName 9) (by rfl) nd rfl rfl (sw_true rfl rfl rfl (by decide +kernel)) (pi_list (uv 6)) (blkOk_by (N := nSheet) (sc := defScope sSheet) (by decide +kernel))
        (fun _ _ _ _ _ => pg_name (i := 9) nd rfl (Or.inl rfl)) (fun _ _ _ _ _ => pts_nil) (fun _ _ _ _ _ => pe_cu (r := eqU K false) (o_eq hr.units) (pe_callH HD hA hr (by rfl) (pa_cons (uv 0) (pa_cons pe_int pa_nil))) pe_int))
      (pss_one (ps_ret (pe_tup (pa_cons (pe_lc (own := [("_law_place", 9)]) (g := gName 9) (tt := tYes) rfl nd (pi_list (uv 6)) (blkOk_by (N := nSheet) (sc := defScope sSheet) (by decide +kernel))
        (fun _ _ _ _ _ => pg_name (i := 9) nd rfl (Or.inl rfl)) (fun _ _ _ _ _ => pts_nil)
        (fun _ _ _ _ _ => pe_lc (own := [("_law_goal", 10)]) (g := gName 10) (tt := tYes) rfl nd (pi_listK (K := K) rfl (pe_ixK (K := K) rfl (uv 4) (uv 9))) (blkOk_in (N := nSheet) (sc := scS2) (by decide +kernel))
          (fun _ _ _ _ _ => pg_name (i := 10) nd rfl (Or.inl rfl)) (fun _ _ _ _ _ => pts_nil)
          (fun _ _ _ _ _ => pe_bmK (K := K) rfl PySem.F.plainAttrs_list PySem.F.slot_list_index PySem.F.type_list_index (mt_indexK (K := K) rfl) (uv 6) (pa_cons (uv 10) pa_nil)))) (pa_cons (uv 7) pa_nil))))))))), ?_⟩
    refine ⟨p, most, rfl, by omega, by omega, hp, fun H1 d e1 hp1 hd => ?_⟩
    obtain ⟨n, hn, hn1, hn7⟩ : ∃ n : Nat, (1 + (d : Int)) = (n : Int) ∧ 1 ≤ n ∧ n ≤ 7 := ⟨d + 1, by omega, by omega, by omega⟩
    dsimp only [rAddU, gName, tSeq, tAsg]
    rw [hn]
    refine lc_rng (n := n) (H1 := H1) (fun R' h => h) (by omega) (fun D i acc H2 => ∃ (rws : List (List Nat)) (as : List Addr), acc = as.map V.ref ∧ as.length = i ∧ rws.length = i ∧ Ex TT (at1 p) H1 H2 ∧ Pot H2 p ∧ D ≠ p ∧ H2 D = some (.lst (as.map V.ref)) ∧
        (∀ j q, as[j]? = some q → q ≠ p ∧ q ≠ D ∧ H2 q = some (.lst (iv (gls rws j)))) ∧ ∀ r' ∈ rws, r'.length = S.length ∧ ∀ g ∈ r', g < n)
      (fun D nD => ⟨[], [], rfl, rfl, rfl, .new nD, hp1.put (hp1.ne nD), (hp1.ne nD).symm, upd_same, (fun j q z => (nil_none z).elim), (fun r' z => by cases z)⟩)
      (fun D nD i acc H2 hi2 r => ?_) (fun D nD acc H2 r => ?_)
    · obtain ⟨rws, as, rfl, la, lr, e2, hp2, nDp, hD, has, hrw⟩ := r
      have newD : New H1 D := fun b o hb _ e => by rw [e, nD] at hb; cases hb
      refine ⟨rfl, ?_⟩
      refine lc_str (l := S) (H1 := H2) (by exact fun _ h => h) (fun B L acc H3 => ∃ (pp row : List Nat), L = lets pp ∧ row.length = pp.length ∧ acc = iv row ∧ (∀ g ∈ row, g < n) ∧ Ex TT (at1 p) H2 H3 ∧ Pot H3 p ∧ B ≠ p ∧ H3 B = some (.lst (iv row)))
        (fun B nB => ⟨[], [], rfl, rfl, rfl, (fun g z => by cases z), .new nB, hp2.put (hp2.ne nB), (hp2.ne nB).symm, upd_same⟩) (fun B nB pre acc3 c suf H3 e r => ?_) (fun B nB acc3 H3 r => ?_)
      · obtain ⟨pp, row, ep, lrow, rfl, hg, e3, hp3, nBp, hB⟩ := r
        have newB : New H2 B := fun b o hb _ e => by rw [e, nB] at hb; cases hb
        obtain rfl := lets_inj ep
        have l4 : pre.length < 3 := by
          have := congrArg List.length e
          rw [List.length_append, List.length_cons] at this
          omega
        refine ⟨rfl, p, n, rfl, by omega, by omega, hp3, fun H4 g e4 hp4 hgn => ?_⟩
        have hB4 : H4 B = some (.lst (iv row)) := e4.keep _ _ nBp hB fun _ z => nomatch z
        refine ⟨iv row, hB4, by rw [List.length_map]; omega, _, pre ++ [c], row ++ [g], rfl, by rw [List.length_append, List.length_append, lrow]; rfl, by rw [iv_app], fun g' hg' => ?_, (e3.trans e4).putN newB hB4 (fun _ z => nomatch z) (fun _ _ z => nomatch z), hp4.put nBp.symm, nBp, by rw [upd_same, iv_app]; rfl⟩
        rcases List.mem_append.mp hg' with h | h
        · exact hg g' h
        · simp at h; omega
      · obtain ⟨pp, row, ep, lrow, rfl, hg, e3, hp3, nBp, hB⟩ := r
        obtain rfl := lets_inj ep
        have hD3 : H3 D = some (.lst (as.map V.ref)) := e3.keep _ _ nDp hD fun _ z => nomatch z
        have nBD : B ≠ D := fun z => by rw [z, hD] at nB; cases nB
        refine ⟨as.map V.ref, hD3, by rw [List.length_map]; omega, _, rws ++ [row], as ++ [B], by first | rw [List.map_append] | (rw [List.map_append]; rfl), by rw [List.length_append, la]; rfl, by rw [List.length_append, lr]; rfl, (e2.trans e3).putN newD hD3 (fun _ z => nomatch z) (fun _ _ z => nomatch z), hp3.put nDp.symm, nDp, by rw [upd_same, List.map_append]; rfl, fun j q' hq' => ?_, fun r' hr' => ?_⟩
        · rcases Nat.lt_or_ge j as.length with hlt | hge
          · rw [List.getElem?_append_left hlt] at hq'
            obtain ⟨g1, g2, g3⟩ := has j q' hq'
            rw [gls_app_lt (by omega)]
            exact ⟨g1, g2, by rw [upd_ne g2]; exact e3.keep _ _ g1 g3 fun _ z => nomatch z⟩
          · rw [List.getElem?_append_right hge] at hq'
            have e6 : j - as.length = 0 := by
              have := (List.getElem?_eq_some_iff.mp hq').1
              simp at this; omega
            rw [e6] at hq'
            have : B = q' := by simpa using hq'
            subst this
            have : j = rws.length := by omega
            subst this
            rw [gls_app_at]
            exact ⟨nBp, nBD, by rw [upd_ne nBD]; exact hB⟩
        · rcases List.mem_append.mp hr' with h | h
          · exact hrw r' h
          · simp at h; subst h
            exact ⟨lrow, hg⟩
    obtain ⟨rws, as, rfl, la, lr, e2, hp2, nDp, hD, has, hrw⟩ := r
    have ok : RowsOk rws S.length := ⟨fun r' h => (hrw r' h).1, fun r' h g hg => by rw [lr]; exact (hrw r' h).2 g hg⟩
    have rowsP : RowsP p H2 D rws := ⟨as, nDp, hD, by omega, fun i q' hq' => ⟨(has i q' hq').1, (has i q' hq').2.2⟩⟩
    refine ⟨D, 0, S.length, rws, rfl, rowsP.l, ok, by omega, by omega, fun H3 N e3 nN hN => ?_⟩
    have hp3 : Pot H3 p := hp2.ex (TT := TT) (.same e3)
    have nNp : N ≠ p := (hp2.ne nN).symm
    have rows3 : RowsP p H3 D rws := rowsP.ex (.same e3 : Ex TT (at1 p) H2 H3)
    have e13 : Ex TT (at1 p) H H3 := (e1.trans e2).trans (.same e3)
    have lenL : (met rws 0).length ≤ rws.length := fnd_len ok (by omega) _
    have ndL : (met rws 0).Nodup := met_nd
    obtain ⟨tl, eL⟩ : ∃ tl, met rws 0 = 0 :: tl := by
      have zL := met_zero (R := rws) (s := 0)
      cases h : met rws 0 with
      | nil => rw [h] at zL; cases zL
      | cons a tl => rw [h] at zL; exact ⟨tl, by rw [show a = 0 by simpa using zL]⟩
    rw [eL] at hN lenL ndL
    refine ⟨iv (0 :: tl), .inl (.inl hN), fun A1 n1 => ?_⟩
    rw [show cutV (iv (0 :: tl)) none (some 1) = [.int ((0 : Nat) : Int)] from cut1 _ _]
    have hN4 : (upd H3 A1 (.lst [.int ((0 : Nat) : Int)])) N = some (.lst (iv (0 :: tl))) := same_upd n1 _ _ hN
    refine ⟨iv (0 :: tl), .inl (.inl hN4), fun A2 n2 => ?_⟩
    rw [show cutV (iv (0 :: tl)) (some 1) none = iv tl from cut2 _ _]
    have e5 : Same H3 (upd (upd H3 A1 (.lst [.int ((0 : Nat) : Int)])) A2 (.lst (iv tl))) := (same_upd n1).trans (same_upd n2)
    have hA1 : (upd (upd H3 A1 (.lst [.int ((0 : Nat) : Int)])) A2 (.lst (iv tl))) A1 = some (.lst [.int ((0 : Nat) : Int)]) := same_upd n2 _ _ upd_same
    have hA2 : (upd (upd H3 A1 (.lst [.int ((0 : Nat) : Int)])) A2 (.lst (iv tl))) A2 = some (.lst (iv tl)) := upd_same
    have nA1p : A1 ≠ p := (hp3.ne n1).symm
    generalize upd (upd H3 A1 (.lst [.int ((0 : Nat) : Int)])) A2 (.lst (iv tl)) = H5 at e5 hA1 hA2
    have hp5 : Pot H5 p := hp3.ex (TT := TT) (.same e5)
    have ltl : tl.length ≤ 7 := by rw [List.length_cons] at lenL; omega
    refine ⟨p, A2, tl, rfl, hp5, hA2, by omega, fun H6 A3 ys e6 hp6 newA3 nA3p hA3 pm => ?_⟩
    have hA16 : H6 A1 = some (.lst [.int ((0 : Nat) : Int)]) := e6.keep _ _ nA1p hA1 fun _ z => nomatch z
    have lys := pm.length_eq
    refine ⟨[.int ((0 : Nat) : Int)], iv ys, hA16, hA3, by rw [List.length_map, List.length_singleton]; omega, fun OA nO => ?_⟩
    have hOA : (upd H6 OA (.lst ([.int ((0 : Nat) : Int)] ++ iv ys))) OA = some (.lst (iv (0 :: ys))) := upd_same
    have e7 : Ex TT (at1 p) H (upd H6 OA (.lst ([.int ((0 : Nat) : Int)] ++ iv ys))) := ((e13.trans (.same e5)).trans e6).trans (.new nO)
    have rows7 : RowsP p (upd H6 OA (.lst ([.int ((0 : Nat) : Int)] ++ iv ys))) D rws := ((rows3.ex (TT := TT) (.same e5)).ex e6).ex (TT := TT) (.new nO)
    have hp7 : Pot (upd H6 OA (.lst ([.int ((0 : Nat) : Int)] ++ iv ys))) p := hp6.put (hp6.ne nO)
    have nOp : OA ≠ p := (hp6.ne nO).symm
    generalize upd H6 OA (.lst ([.int ((0 : Nat) : Int)] ++ iv ys)) = H7 at hOA e7 rows7 hp7
    have pmO : (0 :: ys) ~ (0 :: tl) := pm.cons 0
    have hmem : ∀ x, x ∈ (0 :: ys) ↔ x ∈ met rws 0 := fun x => by rw [eL]; exact pmO.mem_iff
    have ndO : (0 :: ys).Nodup := pmO.nodup_iff.mpr ndL
    have rnok := rn_ok (L := 0 :: ys) ok (by omega) hmem
    have rnwh := rn_whole (L := 0 :: ys) ok (by omega) ndO hmem rfl
    have hclo := fun (g g2 : Nat) (h : g ∈ (0 :: ys)) (h2 : g2 ∈ gls rws g) => (hmem g2).mpr (met_closed ok (by omega) ((hmem g).mp h) h2)
    have hltO : ∀ g ∈ (0 :: ys), g < rws.length := fun g h => fnd_lt (s := 0) ok (by omega) rws.length g ((hmem g).mp h)
    have lenO : (0 :: ys).length ≤ 8 := by rw [List.length_cons]; omega
    have lenO1 : 1 ≤ (0 :: ys).length := by simp
    have lenO7 : (0 :: ys).length ≤ 7 := by rw [List.length_cons, lys, ← List.length_cons (a := 0)]; omega
    clear hmem ndO pmO
    generalize hOe : (0 :: ys) = O at hOA rnok rnwh hclo hltO lenO lenO1 lenO7
    refine lc_list (K := K) (a := OA) (xs := iv O) (H1 := H7) (by exact fun _ h => h) (.inl (.inl hOA)) (fun B pre acc H8 => ∃ ks : List Bool, acc = ks.map V.bl ∧ ks.length = pre.length ∧ Ex TT (at1 p) H7 H8 ∧ Pot H8 p ∧ B ≠ p ∧ H8 B = some (.lst (ks.map V.bl)))
      (fun B pre acc H8 h => by obtain ⟨_, _, _, e, _⟩ := h; exact .inl (.inl (e.keep _ _ nOp hOA fun _ z => nomatch z))) (fun B nB => ⟨[], rfl, rfl, .new nB, hp7.put (hp7.ne nB), (hp7.ne nB).symm, upd_same⟩)
      (fun B nB pre acc x suf H8 ex h => ?_) (fun KA nKA acc H8 h => ?_)
    · obtain ⟨ks, rfl, lk, e8, hp8, nBp, hB⟩ := h
      have newB : New H7 B := fun b o hb _ e => by rw [e, nB] at hb; cases hb
      have lp : pre.length < (iv O).length := by rw [ex]; simp
      rw [List.length_map] at lp
      refine ⟨rfl, p, 2, rfl, by omega, by omega, hp8, fun H9 b e9 hp9 hb => ?_⟩
      have hB9 : H9 B = some (.lst (ks.map V.bl)) := e9.keep _ _ nBp hB fun _ z => nomatch z
      refine ⟨ks.map V.bl, hB9, by rw [List.length_map]; omega, _, ks ++ [decide ((b : Int) = 0)], by first | rw [List.map_append] | (rw [List.map_append]; rfl), by rw [List.length_append, List.length_append, lk]; rfl, (e8.trans e9).putN newB hB9 (fun _ z => nomatch z) (fun _ _ z => nomatch z), hp9.put nBp.symm, nBp, by rw [upd_same, List.map_append]; rfl⟩
    obtain ⟨ks, rfl, lk, e8, hp8, nKp, hK⟩ := h
    rw [List.length_map] at lk
    have hO8 : H8 OA = some (.lst (iv O)) := e8.keep _ _ nOp hOA fun _ z => nomatch z
    obtain ⟨rs, nDp8, hD8, lrs, hrs⟩ := rows7.ex e8
    have e78 := e7.trans e8
    dsimp only [gName, tRet, tTup, tCons]
    refine lc_list (K := K) (a := OA) (xs := iv O) (H1 := H8) (by exact fun _ h => h) (.inl (.inl hO8)) (fun B pre acc H9 => ∃ (ps : List Nat) (ls : List Addr), pre = iv ps ∧ ps.length = ls.length ∧ acc = ls.map V.ref ∧ Same H8 H9 ∧ B ≠ p ∧ H9 B = some (.lst (ls.map V.ref)) ∧
        ∀ i q g, ls[i]? = some q → ps[i]? = some g → q ≠ p ∧ q ≠ B ∧ H9 q = some (.lst (iv ((gls rws g).map fun x => O.idxOf x))))
      (fun B pre acc H9 h => by obtain ⟨_, _, _, _, _, e, _⟩ := h; exact .inl (.inl (e _ _ hO8))) (fun B nB => ⟨[], [], rfl, rfl, rfl, same_upd nB, (hp8.ne nB).symm, upd_same, fun i q g z => (nil_none z).elim⟩)
      (fun B nB pre acc x suf H9 ex h => ?_) (fun B nB acc H9 h => ?_)
    · obtain ⟨ps, ls, rfl, lps, rfl, e9, nBp, hB, hls⟩ := h
      obtain ⟨p0, g, q0, eO, ep, rfl⟩ := split_iv ex
      obtain rfl := iv_inj ep
      have gO : g ∈ O := by rw [eO]; simp
      have lps2 : ps.length + 1 ≤ O.length := by rw [eO]; simp
      obtain ⟨qa, hqa⟩ : ∃ qa, rs[g]? = some qa := ⟨_, List.getElem?_eq_getElem (by rw [lrs]; exact hltO g gO)⟩
      have hrq := e9 _ _ (hrs g qa hqa).2
      have lg := gls_len ok (hltO g gO)
      refine ⟨rfl, ?_⟩
      refine lc_list (K := K) (t := tOp (ixU K) (uVar 4) (uVar 9)) (a := qa) (xs := iv (gls rws g)) (H1 := H9) (fun R' hR' => ⟨rs.map V.ref, .ref qa, .inl (.inl (.inl (e9 _ _ hD8))), atI_nat (by rw [List.getElem?_map, hqa]; rfl), hR'⟩) (.inl (.inl hrq))
        (fun B2 pre2 acc2 H4 => H9 B2 = none ∧ H4 = upd H9 B2 (.lst acc2) ∧ ∃ gs, pre2 = iv gs ∧ acc2 = iv (gs.map fun x => O.idxOf x)) (fun B2 pre2 acc2 H4 h => ?_) (fun B2 nB2 => ⟨nB2, rfl, [], rfl, rfl⟩) (fun B2 nB2 pre2 acc2 x2 suf2 H4 ex2 h => ?_) (fun B2 nB2 acc2 H4 h => ?_)
      · obtain ⟨n', rfl, _⟩ := h
        exact .inl (.inl (same_upd n' _ _ hrq))
      · obtain ⟨_, rfl, gs, rfl, rfl⟩ := h
        obtain ⟨p1, g2, q1, eg, ep1, rfl⟩ := split_iv ex2
        obtain rfl := iv_inj ep1
        have g2O : g2 ∈ O := hclo g g2 gO (by rw [eg]; simp)
        have lg2 : gs.length ≤ 3 := by
          have := congrArg List.length eg
          rw [List.length_append, List.length_cons] at this
          omega
        have hO10 : (upd H9 B2 (.lst (iv (gs.map fun x => O.idxOf x)))) OA = some (.lst (iv O)) := same_upd nB2 _ _ (e9 _ _ hO8)
        obtain ⟨i1, i2⟩ := idx_ok g2O
        refine ⟨rfl, .inl ⟨rfl, _, .inl (.inl hO10)⟩, OA, iv O, .int (g2 : Nat), O.idxOf g2, .int (g2 : Nat), rfl, rfl, .inl (.inl hO10), rfl, flat_iv _, i1, by rw [eq_iv]; simp, i2, ?_⟩
        exact ⟨_, upd_same, by rw [List.length_map, List.length_map]; omega, _, nB2, upd_upd, gs ++ [g2], by rw [iv_app]; rfl, by rw [List.map_append, iv_app]; rfl⟩
      · obtain ⟨_, rfl, gs, eg, rfl⟩ := h
        obtain rfl := iv_inj eg
        have nB2B : B ≠ B2 := ne_of_none hB nB2
        have n8B : H8 B = none := nB
        have n8B2 : H8 B2 = none := Same.free e9 nB2
        have nB2p : B2 ≠ p := (hp8.ne n8B2).symm
        refine ⟨ls.map V.ref, by rw [upd_ne nB2B]; exact hB, by rw [List.length_map]; omega, _, ps ++ [g], ls ++ [B2], by rw [iv_app]; rfl, by rw [List.length_append, List.length_append, lps]; rfl, rfl, same_upd2 (same_upd2 e9 n8B2) n8B, nBp, by rw [upd_same, List.map_append]; rfl, fun i q' g' hq' hg' => ?_⟩
        rcases Nat.lt_or_ge i ls.length with hlt | hge
        · rw [List.getElem?_append_left hlt] at hq'
          rw [List.getElem?_append_left (by omega)] at hg'
          obtain ⟨a1, a2, a3⟩ := hls i q' g' hq' hg'
          exact ⟨a1, a2, by rw [upd_ne a2, upd_ne (ne_of_none a3 nB2)]; exact a3⟩
        · rw [List.getElem?_append_right hge] at hq'
          rw [List.getElem?_append_right (by omega)] at hg'
          have e6 : i - ls.length = 0 := by
            have := (List.getElem?_eq_some_iff.mp hq').1
            simp at this; omega
          rw [e6] at hq'
          rw [show i - ps.length = 0 by omega] at hg'
          have : B2 = q' := by simpa using hq'
          subst this
          have : g = g' := by simpa using hg'
          subst this
          exact ⟨nB2p, nB2B.symm, by rw [upd_ne nB2B.symm]; exact upd_same⟩
    obtain ⟨ps, ls, ep, lps, rfl, e9, nBp, hB, hls⟩ := h
    obtain rfl := iv_inj ep
    refine ⟨by show 2 ≤ sizeLine; omega, fun t nt => ?_⟩
    have hp9 : Pot H9 p := hp8.ex (TT := TT) (.same e9)
    refine q _ t (rn rws O) ks (e78.trans (.same (e9.trans (same_upd nt)))) (hp9.put (hp9.ne nt)) ⟨B, KA, (hp9.ne nt).symm, nKp, upd_same, ⟨ls, nBp, same_upd nt _ _ hB, by rw [rn_len]; exact lps.symm, fun i q' hq' => ?_⟩, same_upd nt _ _ (e9 _ _ hK)⟩ ⟨lt, rnok, by rw [rn_len]; exact lenO1, by rw [rn_len]; omega, by rw [rn_len]; exact lk⟩ rnwh
    have li : i < O.length := by
      have := (List.getElem?_eq_some_iff.mp hq').1
      omega
    have hg : O[i]? = some O[i] := List.getElem?_eq_getElem li
    obtain ⟨a1, a2, a3⟩ := hls i q' _ hq' hg
    rw [rn_gls hg]
    exact ⟨a1, same_upd nt _ _ a3⟩
end
end LK

/-! k14: _law_from -/
namespace LK
open PySem PySem.Spec PyProof.Rows L2 LamX
open scoped List
theorem uv_go {σ : L2.St} {i : Nat} {v : V} {H : Hp} {Q : VK} (h : σ[i]? = some (some v)) (q : Q v H) : uVar i σ H Q := by
  unfold uVar; rw [h]; exact q
section
variable {P : Program} {w : World} {K : PySem.W.Frag} {mg : Str → Option Value} {base : Heap}
abbrev nFrom : List Str := ["_law_sheet_here", "_law_start", "_law_near", "_law_rows", "_law_goal", "_law_place"]
theorem scFrom : FnScope nFrom ["_law_sheet_here", "_law_start"] (defScope sFrom) := ⟨rfl, rfl, rfl, by decide +kernel, rfl, by decide +kernel, by decide +kernel⟩
abbrev scF1 : Scope := { kind := .function, names := [(".0", .local), ("_law_place", .local), ("_law_near", .free), ("_law_sheet_here", .free)], isGenerator := false, isCoroutine := false }
/-- the sheet from s on, numbered as come to -/
def spFrom : Sp := fun vs H Q _ => ∃ (t : Addr) (s m : Nat) (R : Rows) (Kd : List Bool), vs = [.ref t, .int s] ∧ SheetAt H t R Kd ∧ RowsOk R m ∧ m ≤ 3 ∧ s < R.length ∧ R.length ≤ 40 ∧ Kd.length = R.length ∧
  ∀ H' t2, Same H H' → H t2 = none → SheetAt H' t2 (rn R (met R s)) ((met R s).map fun p => Kd.getD p false) → Q (.ref t2) H'
theorem ok_from {f : Addr} {fd : FuncData} {k : Nat} (F : Fun K "_law_from" "_law_from" sFrom f fd) (M : Mx mg) (HM : Has P w K mg base k "_law_met" ["_law_rows", "_law_start"] spLMet) : FnG P w K mg base CX0 (k + 1) f fd ["_law_sheet_here", "_law_start"] spFrom := by
  refine okG F scFrom (fun vs H Q E h => ?_) (fun cdv A hA outer s H vs Q E hr h => ?_)
  · obtain ⟨t, s0, m, R, Kd, rfl, _⟩ := h; rfl
  · obtain ⟨t, s0, m, R, Kd, rfl, ⟨r, kk, ht, hrw, hk⟩, ok, hm, hs, hn, hkl, q⟩ := h
    have nd := scFrom.nd
    have sl := sizeLine_eq
    refine ⟨_, pss_cons (ps_set (i := 2) nd rfl (.inr rfl) (pe_callH HM hA hr (by rfl) (pa_cons (pe_ixU (uv 0) pe_int) (pa_cons (uv 1) pa_nil))))
      (pss_cons (ps_setLc (i := 3) (own := [("_law_place", 5)]) (g := gName 5) (by rfl) nd rfl rfl (sw_true rfl rfl rfl (by decide +kernel)) (pi_list (uv 2)) (blkOk_by (N := nFrom) (sc := defScope sFrom) (by decide +kernel))
        (fun _ _ _ _ _ => pg_name (i := 5) nd rfl (Or.inl rfl)) (fun _ _ _ _ _ => pts_nil)
        (fun _ _ _ _ _ => pe_lc (own := [("_law_goal", 4)]) (g := gName 4) (tt := tYes) rfl nd (pi_listK (K := K) rfl (pe_ixK (K := K) rfl (pe_ixK (K := K) rfl (uv 0) pe_int) (uv 5))) (blkOk_in (N := nFrom) (sc := scF1) (by decide +kernel))
          (fun _ _ _ _ _ => pg_name (i := 4) nd rfl (Or.inl rfl)) (fun _ _ _ _ _ => pts_nil)
          (fun _ _ _ _ _ => pe_bmK (K := K) rfl PySem.F.plainAttrs_list PySem.F.slot_list_index PySem.F.type_list_index (mt_indexK (K := K) rfl) (uv 2) (pa_cons (uv 4) pa_nil))))
      (pss_one (ps_ret (pe_tup (pa_cons (uv 3) (pa_cons (pe_lc (own := [("_law_place", 5)]) (g := gName 5) (tt := tYes) rfl nd (pi_list (uv 2)) (blkOk_by (N := nFrom) (sc := defScope sFrom) (by decide +kernel))
        (fun _ _ _ _ _ => pg_name (i := 5) nd rfl (Or.inl rfl)) (fun _ _ _ _ _ => pts_nil)
        (fun _ _ _ _ _ => pe_ixK (K := K) rfl (pe_ixK (K := K) rfl (uv 0) pe_int) (uv 5))) pa_nil)))))), ?_⟩
    refine ⟨[.ref r, .ref kk], .ref r, .inr (.inl (.inl ht)), rfl, r, s0, m, R, rfl, hrw, ok, hs, by omega, fun H1 N e1 nN hN => ?_⟩
    have hclo := fun (p g : Nat) => met_closed (p := p) (g := g) ok hs
    have hltL : ∀ x ∈ met R s0, x < R.length := fnd_lt ok hs _
    have lenL : (met R s0).length ≤ R.length := fnd_len ok hs _
    generalize met R s0 = L at hN hclo hltL lenL q
    obtain ⟨rs, hs', hl', hrow'⟩ := hrw
    dsimp only [tSeq, tAsg, gName]
    refine lc_list (K := K) (a := N) (xs := iv L) (H1 := H1) (by exact fun _ h => h) (.inl (.inl hN)) (fun B pre acc H9 => ∃ (ps : List Nat) (ls : List Addr), pre = iv ps ∧ ps.length = ls.length ∧ acc = ls.map V.ref ∧ Same H1 H9 ∧ H9 B = some (.lst (ls.map V.ref)) ∧
        ∀ i q g, ls[i]? = some q → ps[i]? = some g → q ≠ B ∧ H9 q = some (.lst (iv ((gls R g).map fun x => L.idxOf x))))
      (fun B pre acc H9 h => by obtain ⟨_, _, _, _, _, e, _⟩ := h; exact .inl (.inl (e _ _ hN))) (fun B nB => ⟨[], [], rfl, rfl, rfl, same_upd nB, upd_same, fun i q g z => (nil_none z).elim⟩)
      (fun B nB pre acc x suf H9 ex h => ?_) (fun B nB acc H9 h => ?_)
    · obtain ⟨ps, ls, rfl, lps, rfl, e9, hB, hls⟩ := h
      obtain ⟨p0, g, q0, eO, ep, rfl⟩ := split_iv ex
      obtain rfl := iv_inj ep
      have gO : g ∈ L := by rw [eO]; simp
      have lps2 : ps.length + 1 ≤ L.length := by rw [eO]; simp
      obtain ⟨qa, hqa⟩ : ∃ qa, rs[g]? = some qa := ⟨_, List.getElem?_eq_getElem (by rw [hl']; exact hltL g gO)⟩
      have e19 := e1.trans e9
      have hrq := e19 _ _ (hrow' g qa hqa)
      have lg := gls_len ok (hltL g gO)
      refine ⟨rfl, ?_⟩
      refine lc_list (K := K) (t := tOp (ixU K) (tOp (ixU K) (uVar 0) (tC (.int 0))) (uVar 5)) (a := qa) (xs := iv (gls R g)) (H1 := H9) (fun R' hR' => ⟨[.ref r, .ref kk], .ref r, .inr (.inl (.inl (e19 _ _ ht))), rfl, rs.map V.ref, .ref qa, .inl (.inl (.inl (e19 _ _ hs'))), atI_nat (by rw [List.getElem?_map, hqa]; rfl), hR'⟩) (.inl (.inl hrq))
        (fun B2 pre2 acc2 H4 => H9 B2 = none ∧ H4 = upd H9 B2 (.lst acc2) ∧ ∃ gs, pre2 = iv gs ∧ acc2 = iv (gs.map fun x => L.idxOf x)) (fun B2 pre2 acc2 H4 h => ?_) (fun B2 nB2 => ⟨nB2, rfl, [], rfl, rfl⟩) (fun B2 nB2 pre2 acc2 x2 suf2 H4 ex2 h => ?_) (fun B2 nB2 acc2 H4 h => ?_)
      · obtain ⟨n', rfl, _⟩ := h
        exact .inl (.inl (same_upd n' _ _ hrq))
      · obtain ⟨_, rfl, gs, rfl, rfl⟩ := h
        obtain ⟨p1, g2, q1, eg, ep1, rfl⟩ := split_iv ex2
        obtain rfl := iv_inj ep1
        have g2O : g2 ∈ L := hclo g g2 gO (by rw [eg]; simp)
        have lg2 : gs.length ≤ 3 := by
          have := congrArg List.length eg
          rw [List.length_append, List.length_cons] at this
          omega
        have hO10 : (upd H9 B2 (.lst (iv (gs.map fun x => L.idxOf x)))) N = some (.lst (iv L)) := same_upd nB2 _ _ (e9 _ _ hN)
        obtain ⟨i1, i2⟩ := idx_ok g2O
        refine ⟨rfl, .inl ⟨rfl, _, .inl (.inl hO10)⟩, N, iv L, .int (g2 : Nat), L.idxOf g2, .int (g2 : Nat), rfl, rfl, .inl (.inl hO10), rfl, flat_iv _, i1, by rw [eq_iv]; simp, i2, ?_⟩
        exact ⟨_, upd_same, by rw [List.length_map, List.length_map]; omega, _, nB2, upd_upd, gs ++ [g2], by rw [iv_app]; rfl, by rw [List.map_append, iv_app]; rfl⟩
      · obtain ⟨_, rfl, gs, eg, rfl⟩ := h
        obtain rfl := iv_inj eg
        have nB2B : B ≠ B2 := ne_of_none hB nB2
        have n8B2 : H1 B2 = none := Same.free e9 nB2
        refine ⟨ls.map V.ref, by rw [upd_ne nB2B]; exact hB, by rw [List.length_map]; omega, _, ps ++ [g], ls ++ [B2], by rw [iv_app]; rfl, by rw [List.length_append, List.length_append, lps]; rfl, rfl, same_upd2 (same_upd2 e9 n8B2) nB, by rw [upd_same, List.map_append]; rfl, fun i q' g' hq' hg' => ?_⟩
        rcases Nat.lt_or_ge i ls.length with hlt | hge
        · rw [List.getElem?_append_left hlt] at hq'
          rw [List.getElem?_append_left (by omega)] at hg'
          obtain ⟨a2, a3⟩ := hls i q' g' hq' hg'
          exact ⟨a2, by rw [upd_ne a2, upd_ne (ne_of_none a3 nB2)]; exact a3⟩
        · rw [List.getElem?_append_right hge] at hq'
          rw [List.getElem?_append_right (by omega)] at hg'
          have e6 : i - ls.length = 0 := by
            have := (List.getElem?_eq_some_iff.mp hq').1
            simp at this; omega
          rw [e6] at hq'
          rw [show i - ps.length = 0 by omega] at hg'
          have : B2 = q' := by simpa using hq'
          subst this
          have : g = g' := by simpa using hg'
          subst this
          exact ⟨nB2B.symm, by rw [upd_ne nB2B.symm]; exact upd_same⟩
    obtain ⟨ps, ls, ep, lps, rfl, e9, hB, hls⟩ := h
    obtain rfl := iv_inj ep
    have e19 := e1.trans e9
    dsimp only [gName, tRet, tTup, tCons]
    refine uv_go (v := .ref B) rfl ?_
    refine lc_list (K := K) (a := N) (xs := iv L) (H1 := H9) (by exact fun _ h => h) (.inl (.inl (e9 _ _ hN))) (fun B2 pre acc H6 => H9 B2 = none ∧ H6 = upd H9 B2 (.lst acc) ∧ ∃ ps, pre = iv ps ∧ acc = (ps.map fun p => Kd.getD p false).map V.bl)
      (fun B2 pre acc H6 h => ?_) (fun B2 nB2 => ⟨nB2, rfl, [], rfl, rfl⟩) (fun B2 nB2 pre acc x suf H6 ex h => ?_) (fun B2 nB2 acc H6 h => ?_)
    · obtain ⟨n, rfl, _⟩ := h
      exact .inl (.inl (same_upd n _ _ (e9 _ _ hN)))
    · obtain ⟨_, rfl, ps, rfl, rfl⟩ := h
      obtain ⟨p0, g, q0, eL, ep, rfl⟩ := split_iv ex
      obtain rfl := iv_inj ep
      have gL : g ∈ L := by rw [eL]; simp
      have lps2 : ps.length + 1 ≤ L.length := by rw [eL]; simp
      have e20 := e19.trans (same_upd (o := .lst ((ps.map fun p => Kd.getD p false).map V.bl)) nB2)
      have hkd : Kd[g]? = some (Kd.getD g false) := by
        rw [List.getD_eq_getElem?_getD, List.getElem?_eq_getElem (by rw [hkl]; exact hltL g gL)]; rfl
      refine ⟨rfl, [.ref r, .ref kk], .ref kk, .inr (.inl (.inl (e20 _ _ ht))), rfl, Kd.map V.bl, .bl (Kd.getD g false), .inl (.inl (.inl (e20 _ _ hk))), atI_nat (by rw [List.getElem?_map, hkd]; rfl), ?_⟩
      exact ⟨_, upd_same, by rw [List.length_map, List.length_map]; omega, _, nB2, upd_upd, ps ++ [g], by rw [iv_app]; rfl, by rw [List.map_append, List.map_append]; rfl⟩
    obtain ⟨_, rfl, ps, ep, rfl⟩ := h
    obtain rfl := iv_inj ep
    refine ⟨by show 2 ≤ sizeLine; omega, fun t2 nt => ?_⟩
    have e30 : Same H9 (upd (upd H9 B2 (.lst ((L.map fun p => Kd.getD p false).map V.bl))) t2 (.tup [.ref B, .ref B2])) := (same_upd nB2).trans (same_upd nt)
    refine q _ t2 (e19.trans e30) (Same.free (e19.trans (same_upd nB2)) nt) ⟨B, B2, upd_same, ⟨ls, e30 _ _ hB, by rw [rn_len]; exact lps.symm, fun i q' hq' => ?_⟩, same_upd nt _ _ upd_same⟩
    have li : i < L.length := by
      have := (List.getElem?_eq_some_iff.mp hq').1
      omega
    have hg : L[i]? = some L[i] := List.getElem?_eq_getElem li
    rw [rn_gls hg]
    exact e30 _ _ (hls i q' _ hq' hg).2
end
end LK

/-! k14: _law_texts -/
namespace LK
open PySem PySem.Spec PyProof.Rows L2 LamX
open scoped List
/-- the texts of i letters, the texts of at most i letters -/
def lvl (S : List Nat) : Nat → List (List Nat)
  | 0 => [[]]
  | i + 1 => (lvl S i).flatMap fun t => S.map fun c => t ++ [c]
def txl (S : List Nat) : Nat → List (List Nat)
  | 0 => [[]]
  | i + 1 => txl S i ++ lvl S (i + 1)
abbrev lts (l : List (List Nat)) : List V := l.map fun t => V.str (T t)
theorem lvl_mem {S : List Nat} : ∀ {i : Nat} {t : List Nat}, t ∈ lvl S i → t.length = i ∧ ∀ c ∈ t, c ∈ S
  | 0, t, h => by
    have : t = [] := by simpa [lvl] using h
    subst this; exact ⟨rfl, fun c z => nomatch z⟩
  | i + 1, t, h => by
    obtain ⟨u, hu, h2⟩ := List.mem_flatMap.mp h
    obtain ⟨c, hc, rfl⟩ := List.mem_map.mp h2
    obtain ⟨a, b⟩ := lvl_mem hu
    refine ⟨by simp [a], fun d hd => ?_⟩
    rcases List.mem_append.mp hd with h | h
    · exact b d h
    · simp at h; rw [h]; exact hc
theorem txl_mem {S : List Nat} : ∀ {i : Nat} {t : List Nat}, t ∈ txl S i → t.length ≤ i ∧ ∀ c ∈ t, c ∈ S
  | 0, t, h => by
    have : t = [] := by simpa [txl] using h
    subst this; exact ⟨Nat.le_refl _, fun c z => nomatch z⟩
  | i + 1, t, h => by
    rcases List.mem_append.mp h with h | h
    · obtain ⟨a, b⟩ := txl_mem h
      exact ⟨by omega, b⟩
    · obtain ⟨a, b⟩ := lvl_mem h
      exact ⟨by omega, b⟩
theorem lvl_len (S : List Nat) : ∀ i, (lvl S i).length = S.length ^ i
  | 0 => rfl
  | i + 1 => by
    have key : ∀ l : List (List Nat), (l.flatMap fun t => S.map fun c => t ++ [c]).length = l.length * S.length := by
      intro l
      induction l with
      | nil => simp
      | cons t l ih => rw [List.flatMap_cons, List.length_append, ih, List.length_map, List.length_cons, Nat.succ_mul]; omega
    show ((lvl S i).flatMap _).length = _
    rw [key, lvl_len S i, Nat.pow_succ]
theorem lvl_le {S : List Nat} (h : S.length ≤ 3) {i : Nat} (hi : i ≤ 5) : (lvl S i).length ≤ 243 := by
  rw [lvl_len]
  calc S.length ^ i ≤ 3 ^ i := Nat.pow_le_pow_left h i
    _ ≤ 3 ^ 5 := Nat.pow_le_pow_right (by omega) hi
    _ = 243 := by decide
theorem txl_le {S : List Nat} (h : S.length ≤ 3) : ∀ {i : Nat}, i ≤ 5 → (txl S i).length ≤ 1 + 243 * i
  | 0, _ => by simp [txl]
  | i + 1, hi => by
    have a := txl_le h (i := i) (by omega)
    have b := lvl_le h hi
    show (txl S i ++ lvl S (i + 1)).length ≤ _
    rw [List.length_append]; omega
section
variable {P : Program} {w : World} {K : PySem.W.Frag} {mg : Str → Option Value} {base : Heap}
abbrev nTexts : List Str := ["_law_signs", "_law_most", "_law_found", "_law_last", "_law_turn", "_law_longer", "_law_text", "_law_sign"]
theorem scTexts : FnScope nTexts ["_law_signs", "_law_most"] (defScope sTexts) := ⟨rfl, rfl, rfl, by decide +kernel, rfl, by decide +kernel, by decide +kernel⟩
def spTexts : Sp := fun vs H Q _ => ∃ (S : List Nat) (n : Nat), vs = [.str (T S), .int n] ∧ S.length ≤ 3 ∧ n ≤ 5 ∧ ∀ H' p, Same H H' → H p = none → H' p = some (.lst (lts (txl S n))) → Q (.ref p) H'
theorem ok_texts {f : Addr} {fd : FuncData} {k : Nat} (F : Fun K "_law_texts" "_law_texts" sTexts f fd) (M : Mx mg) : FnG P w K mg base CX0 (k + 1) f fd ["_law_signs", "_law_most"] spTexts := by
  refine okG F scTexts (fun vs H Q E h => ?_) (fun cdv A hA outer s H vs Q E hr h => ?_)
  · obtain ⟨S, n, rfl, _⟩ := h; rfl
  · obtain ⟨S, n, rfl, l3, hn, q⟩ := h
    have nd := scTexts.nd
    have sl := sizeLine_eq
    refine ⟨_, pss_cons (ps_par (i := 2) (j := 3) (by rfl) nd rfl rfl (by decide) rfl rfl (pa_cons (pe_lst (pa_cons (ustr []) pa_nil)) (pa_cons (pe_lst (pa_cons (ustr []) pa_nil)) pa_nil)) (by rfl))
      (pss_cons (ps_for PassesOwn.never rfl (pi_range1 (by rfl) M.range (pa_cons (uv 1) pa_nil)) (pg_name (i := 4) nd rfl (.inl rfl))
        (pss_cons (ps_set (i := 5) nd rfl (.inl rfl) (pe_lst pa_nil))
        (pss_cons (ps_for PassesOwn.never rfl (pi_list (uv 3)) (pg_name (i := 6) nd rfl (.inr rfl))
          (pss_one (ps_expr (pe_bm PySem.F.plainAttrs_list PySem.F.slot_list_extend PySem.F.type_list_extend mt_extend (uv 5)
            (pa_cons (pe_cl (pe_lc (own := [("_law_sign", 7)]) (g := gName 7) (tt := tYes) rfl nd (pi_str (uv 0)) (blkOk_by (N := nTexts) (sc := defScope sTexts) (by decide +kernel))
              (fun _ _ _ _ _ => pg_name (i := 7) nd rfl (Or.inl rfl)) (fun _ _ _ _ _ => pts_nil) (fun _ _ _ _ _ => pe_op o_add (uv 6) (uv 7)))) pa_nil)))))
        (pss_cons (ps_set (i := 3) nd rfl (.inl rfl) (uv 5))
        (pss_one (ps_set (i := 2) nd rfl (.inl rfl) (pe_op o_add (uv 2) (uv 5))))))))
      (pss_one (ps_ret (uv 2)))), ?_⟩
    refine ⟨by show 1 ≤ sizeLine; omega, fun F0 nF => ⟨by show 1 ≤ sizeLine; omega, fun L0 nL => ⟨_, _, rfl, ?_⟩⟩⟩
    have nLH : H L0 = none := Same.free (same_upd nF) nL
    have eF : (upd (upd H F0 (.lst [.str (T [])])) L0 (.lst [.str (T [])])) F0 = some (.lst (lts (txl S 0))) := same_upd nL _ _ upd_same
    have eL : (upd (upd H F0 (.lst [.str (T [])])) L0 (.lst [.str (T [])])) L0 = some (.lst (lts (lvl S 0))) := upd_same
    have e0 : Same H (upd (upd H F0 (.lst [.str (T [])])) L0 (.lst [.str (T [])])) := (same_upd nF).trans (same_upd nL)
    generalize upd (upd H F0 (.lst [.str (T [])])) L0 (.lst [.str (T [])]) = H0 at eF eL e0
    dsimp only [tSeq]
    refine for_rng (n := n) (H1 := H0) (fun R' h => h) (by omega) (fun i σ H2 => ∃ (F L : Addr) (y4 y5 y6 y7 : Option V), σ = [some (.str (T S)), some (.int (n : Nat)), some (.ref F), some (.ref L), y4, y5, y6, y7] ∧ Same H H2 ∧ H F = none ∧ H2 F = some (.lst (lts (txl S i))) ∧ H2 L = some (.lst (lts (lvl S i))))
      ⟨F0, L0, none, none, none, none, rfl, e0, nF, eF, eL⟩ (fun i σ H2 hi h => ?_) (fun σ H2 h => ?_)
    · obtain ⟨F, L, y4, y5, y6, y7, rfl, e2, nF2, hF, hL⟩ := h
      refine ⟨by show 0 ≤ sizeLine; omega, fun B nB => ?_⟩
      have nBH : H B = none := Same.free e2 nB
      have hF3 := same_upd (o := .lst []) nB _ _ hF
      have hL3 := same_upd (o := .lst []) nB _ _ hL
      have hB3 : (upd H2 B (.lst [])) B = some (.lst (lts ((([] : List (List Nat))).flatMap fun t => S.map fun c => t ++ [c]))) := upd_same
      have e3 : Same H (upd H2 B (.lst [])) := same_upd2 e2 nBH
      have nFB : F ≠ B := ne_of_none hF nB
      have nLB : L ≠ B := ne_of_none hL nB
      generalize upd H2 B (.lst []) = H3 at hF3 hL3 hB3 e3
      have ll := lvl_le l3 (i := i) (by omega)
      dsimp only [tSeq, tAsg, gName]
      refine for_list (K := K) (a := L) (xs := lts (lvl S i)) (H1 := H3) (by exact fun _ h => h) (.inl (.inl hL3)) (fun pre σ H4 => ∃ (us rest : List (List Nat)) (y6 y7 : Option V), lvl S i = us ++ rest ∧ pre = lts us ∧ Same H H4 ∧ H4 F = some (.lst (lts (txl S i))) ∧ H4 L = some (.lst (lts (lvl S i))) ∧
          H4 B = some (.lst (lts (us.flatMap fun t => S.map fun c => t ++ [c]))) ∧ σ = [some (.str (T S)), some (.int (n : Nat)), some (.ref F), some (.ref L), some (.int (i : Nat)), some (.ref B), y6, y7])
        (fun pre σ H4 h => by obtain ⟨_, _, _, _, _, _, _, _, h, _⟩ := h; exact .inl (.inl h)) ⟨[], lvl S i, _, _, rfl, rfl, e3, hF3, hL3, hB3, rfl⟩ (fun pre x suf σ H4 ex h => ?_) (fun σ H4 h => ?_)
      · obtain ⟨us, rest, y6, y7, eu, rfl, e4, hF4, hL4, hB4, rfl⟩ := h
        have er : lts rest = x :: suf := by
          have e7 : lts us ++ lts rest = lts us ++ x :: suf := by rw [← ex, eu]; exact List.map_append.symm
          exact List.append_cancel_left e7
        obtain ⟨t, rest', rfl, rfl, rfl⟩ := List.map_eq_cons_iff.mp er
        have tm : t ∈ lvl S i := by rw [eu]; simp
        have tlen := (lvl_mem tm).1
        have lu : us.length ≤ 243 := by
          have := congrArg List.length eu
          rw [List.length_append] at this
          omega
        have lfm : ∀ us : List (List Nat), (us.flatMap fun t => S.map fun c => t ++ [c]).length = us.length * S.length := by
          intro us
          induction us with
          | nil => simp
          | cons t l ih => rw [List.flatMap_cons, List.length_append, ih, List.length_map, List.length_cons, Nat.succ_mul]; omega
        refine ⟨.inl ⟨rfl, _, .inl (.inl hB4)⟩, fun v H' => ∃ B2, v = .ref B2 ∧ H4 B2 = none ∧ H' = upd H4 B2 (.lst (lts (S.map fun c => t ++ [c]))), ?_, fun v H' z => ?_⟩
        · refine lc_str (l := S) (H1 := H4) (by exact fun _ h => h) (fun D2 L2 acc H5 => H5 = upd H4 D2 (.lst acc) ∧ ∃ pp, L2 = lets pp ∧ acc = lts (pp.map fun c => t ++ [c])) (fun D2 n2 => ⟨rfl, [], rfl, rfl⟩) (fun D2 n2 pre2 acc c suf2 H5 e r => ?_) (fun D2 n2 acc H5 r => ?_)
          · obtain ⟨rfl, pp, ep, rfl⟩ := r
            obtain rfl := lets_inj ep
            have l4 : pre2.length < 3 := by
              have := congrArg List.length e
              rw [List.length_append, List.length_cons] at this
              omega
            refine ⟨rfl, by show t.length + 1 ≤ sizeLine; omega, _, upd_same, by rw [List.length_map, List.length_map]; omega, _, upd_upd, pre2 ++ [c], rfl, ?_⟩
            rw [List.map_append]; exact (List.map_append (f := fun t => V.str (T t)) (l₁ := pre2.map fun c => t ++ [c]) (l₂ := [t ++ [c]])).symm
          · obtain ⟨rfl, pp, ep, rfl⟩ := r
            obtain rfl := lets_inj ep
            exact ⟨D2, rfl, n2, rfl⟩
        · obtain ⟨B2, rfl, n2, rfl⟩ := z
          have hB5 := same_upd (o := .lst (lts (S.map fun c => t ++ [c]))) n2 _ _ hB4
          refine ⟨B, B2, _, _, rfl, rfl, hB5, upd_same, by rw [List.length_map, List.length_map, List.length_map, lfm]; have := Nat.mul_le_mul lu l3; omega, ?_⟩
          have e5 : Same H (upd H4 B2 (.lst (lts (S.map fun c => t ++ [c])))) := same_upd2 e4 (Same.free e4 n2)
          refine ⟨us ++ [t], rest', _, _, by rw [eu]; simp, (List.map_append (f := fun t => V.str (T t)) (l₁ := us) (l₂ := [t])).symm, same_upd2 e5 nBH, ?_, ?_, ?_, rfl⟩
          · rw [upd_ne nFB]; exact same_upd n2 _ _ hF4
          · rw [upd_ne nLB]; exact same_upd n2 _ _ hL4
          · rw [upd_same, List.flatMap_append, ← List.map_append]; simp
      · obtain ⟨us, rest, y6, y7, eu, e6, e4, hF4, hL4, hB4, rfl⟩ := h
        have eus : lvl S i = us := (List.map_inj_right fun x y z => T_inj (V.str.inj z)).mp e6
        subst eus
        have hB5 : H4 B = some (.lst (lts (lvl S (i + 1)))) := hB4
        have lx := txl_le l3 (i := i) (by omega)
        have ly := lvl_le l3 (i := i + 1) (by omega)
        refine ⟨lts (txl S i), lts (lvl S (i + 1)), hF4, hB5, by rw [List.length_map, List.length_map]; omega, fun G nG => ?_⟩
        have nGH : H G = none := Same.free e4 nG
        exact ⟨G, B, _, _, _, _, rfl, same_upd2 e4 nGH, nGH, by rw [upd_same, ← List.map_append]; rfl, same_upd nG _ _ hB5⟩
    · obtain ⟨F, L, y4, y5, y6, y7, rfl, e2, nF2, hF, hL⟩ := h
      exact q H2 F e2 nF2 hF
end
end LK

/-! k14: _law_firsts -/
namespace LK
open PySem PySem.Spec PyProof.Rows L2 LamX ClX
open scoped List
theorem addsT_chr {t : List Nat} {m : Nat} (ht : ∀ c ∈ t, c < m) : ∀ {cs : List (Nat × Nat)} {f : Ents}, (∀ cg ∈ cs, cg.1 < m) → (∀ e ∈ f, ∀ c ∈ e.2, c < m) → ∀ e ∈ addsT t f cs, ∀ c ∈ e.2, c < m
  | [], f, _, h => h
  | cg :: cs, f, hc, h => by
    refine addsT_chr ht (cs := cs) (f := add1T t f cg) (fun x hx => hc x (by simp [hx])) fun e he => ?_
    unfold add1T at he
    split at he
    · exact h e he
    · rcases List.mem_append.mp he with he | he
      · exact h e he
      · simp at he; subst he
        intro c hc2
        rcases List.mem_append.mp hc2 with z | z
        · exact ht c z
        · simp at z; subst z; exact hc cg (by simp)
theorem fndT_chr {R : Rows} {s : Nat} {S : List Nat} {m : Nat} (hS : ∀ c ∈ S, c < m) : ∀ i, ∀ e ∈ fndT S R s i, ∀ c ∈ e.2, c < m
  | 0, e, h => by simp [fndT] at h; rw [h]; exact fun c z => nomatch z
  | i + 1, e, h => by
    have ih := fndT_chr (R := R) (s := s) hS i
    cases hp : (fndT S R s i)[i]? with
    | none =>
      have e1 : fndT S R s (i + 1) = fndT S R s i := by
        show (match (fndT S R s i)[i]? with | some e => addsT e.2 (fndT S R s i) (S.zip (gls R e.1)) | none => fndT S R s i) = _
        rw [hp]
      rw [e1] at h
      exact ih e h
    | some p =>
      rw [fndT_step hp] at h
      exact addsT_chr (ih p (List.mem_of_getElem? hp)) (fun x hx => hS _ (List.of_mem_zip hx).1) ih e h
/-- what stands at the addresses: pairs of a text and a place -/
def PAt (H : Hp) (ps : List Addr) (es : Ents) : Prop := ps.length = es.length ∧ ∀ (n : Nat) (p : Addr) (e : Nat × List Nat), ps[n]? = some p → es[n]? = some e → H p = some (.tup [.str (T e.2), .int (e.1 : Nat)])
theorem PAt.put {H : Hp} {ps : List Addr} {es : Ents} {X : Addr} {o : HO} (h : PAt H ps es) (hx : ∀ vs, H X ≠ some (.tup vs)) : PAt (upd H X o) ps es := by
  refine ⟨h.1, fun n p e a b => ?_⟩
  have := h.2 n p e a b
  rw [upd_ne (fun z => hx _ (z ▸ this))]
  exact this
theorem PAt.new {H : Hp} {ps : List Addr} {es : Ents} {X : Addr} {o : HO} (h : PAt H ps es) (n : H X = none) : PAt (upd H X o) ps es := h.put (fun vs z => by rw [n] at z; cases z)
theorem PAt.snoc {H : Hp} {ps : List Addr} {es : Ents} {t : Addr} {e : Nat × List Nat} (h : PAt H ps es) (ht : H t = some (.tup [.str (T e.2), .int (e.1 : Nat)])) : PAt H (ps ++ [t]) (es ++ [e]) := by
  refine ⟨by simp [h.1], fun n p e' a b => ?_⟩
  by_cases hn : n < ps.length
  · rw [List.getElem?_append_left hn] at a
    rw [List.getElem?_append_left (by rw [← h.1]; exact hn)] at b
    exact h.2 n p e' a b
  · have hl := h.1
    rw [List.getElem?_append_right (by omega)] at a
    rw [List.getElem?_append_right (by omega)] at b
    have n0 : n - ps.length = 0 := by
      have := (List.getElem?_eq_some_iff.mp a).1
      simp at this; omega
    rw [n0] at a
    rw [← hl, n0] at b
    simp at a b
    subst a; subst b; exact ht
def encPT (e : Nat × List Nat) : PyData := .tuple [.str (T e.2), .int (e.1 : Nat)]
theorem PAt.dp {K : PySem.W.Frag} {H : Hp} : ∀ {ps : List Addr} {es : Ents}, PAt H ps es → DpAll K H (ps.map V.ref) (es.map encPT)
  | [], [], _ => .nil
  | [], _ :: _, h => nomatch h.1
  | _ :: _, [], h => nomatch h.1
  | p :: ps, e :: es, h => .cons (.tup (.inl (.inl (h.2 0 p e rfl rfl))) (.cons (.str _) (.cons (.int _) .nil))) (PAt.dp (ps := ps) (es := es) ⟨by have := h.1; simpa using this, fun n p e a b => h.2 (n + 1) p e a b⟩)
theorem flat_pairs {es : Ents} (h : ∀ e ∈ es, ∀ c ∈ e.2, c < 128) : Flat 2 (.list (es.map encPT)) := flat_list fun d hd => by
  obtain ⟨e, he, rfl⟩ := List.mem_map.mp hd
  refine flat_tup (n := 0) fun d hd => ?_
  simp at hd
  rcases hd with rfl | rfl
  · exact flat_str fun c hc => Nat.lt_trans (h e he c hc) (by decide)
  · exact flat_int _
section
variable {P : Program} {w : World} {K : PySem.W.Frag} {mg : Str → Option Value} {base : Heap}
abbrev nFirsts : List Str := ["_law_signs", "_law_rows", "_law_found", "_law_last", "_law_longer", "_law_text", "_law_place", "_law_sign", "_law_goal"]
theorem scFirsts : FnScope nFirsts ["_law_signs", "_law_rows"] (defScope sFirsts) := ⟨rfl, rfl, rfl, by decide +kernel, rfl, by decide +kernel, by decide +kernel⟩
def spFirsts : Sp := fun vs H Q _ => ∃ (r : Addr) (S : List Nat) (R : Rows), vs = [.str (T S), .ref r] ∧ RowsL H r R ∧ RowsOk R S.length ∧ (∀ c ∈ S, c < 128) ∧ 0 < R.length ∧ R.length ≤ 1000 ∧ (∀ p, p < R.length → p ∈ met R 0) ∧
  ∀ H' D, Same H H' → H D = none → H' D = some (.lst ((List.range R.length).map fun p => V.str (T (ft S R p)))) → Q (.ref D) H'
theorem ok_firsts {f : Addr} {fd : FuncData} {k : Nat} (F : Fun K "_law_firsts" "_law_firsts" sFirsts f fd) (M : Mx mg) : FnG P w K mg base CX0 (k + 1) f fd ["_law_signs", "_law_rows"] spFirsts := by
  refine okG F scFirsts (fun vs H Q E h => ?_) (fun cdv A hA outer s H vs Q E hr h => ?_)
  · obtain ⟨r, S, R, rfl, _⟩ := h; rfl
  · obtain ⟨r, S, R, rfl, ⟨rs, hs', hl', hrow'⟩, ok, hasc, hs, hn, hall, q⟩ := h
    have nd := scFirsts.nd
    have sl := sizeLine_eq
    have hu := Room.u64 hr
    refine ⟨_, pss_cons (ps_asg (pe_tup (pa_cons (pe_disp (pps_cons pe_int (ustr []) pps_nil) (by rfl) (by rfl) (fun z => by cases z) (by decide)) (pa_cons (pe_lst (pa_cons (pe_tup (pa_cons (ustr []) (pa_cons pe_int pa_nil))) pa_nil)) pa_nil)))
        (pg_tup rfl (pgs_cons (pg_name (i := 2) nd rfl (.inr rfl)) (pgs_cons (pg_name (i := 3) nd rfl (.inl rfl)) pgs_nil))) rfl)
      (pss_cons (ps_while PassesOwn.never (pt_cl (pt_cu (o_ne hu) (uv 3) (pe_lst pa_nil)))
        (pss_cons (ps_set (i := 4) nd rfl (.inl rfl) (pe_lst pa_nil))
        (pss_cons (ps_for PassesOwn.never rfl (pi_list (uv 3)) (pg_tup rfl (pgs_cons (pg_name (i := 5) nd rfl (.inl rfl)) (pgs_cons (pg_name (i := 6) nd rfl (.inl rfl)) pgs_nil)))
          (pss_one (ps_for PassesOwn.never rfl (pi_zipSL (by rfl) M.zip (pa_cons (uv 0) (pa_cons (pe_ixU (uv 1) (uv 6)) pa_nil))) (pg_tup rfl (pgs_cons (pg_name (i := 7) nd rfl (.inl rfl)) (pgs_cons (pg_name (i := 8) nd rfl (.inl rfl)) pgs_nil)))
            (pss_one (ps_ifU (pt_cmp (pc_dnotin (Room.u1 hr) (uv 8) (uv 2)))
              (pss_cons (ps_dput (Room.u1 hr) (uv 2) (uv 8) (pe_op o_add (uv 5) (uv 7)) rfl)
              (pss_one (ps_expr (pe_bm PySem.F.plainAttrs_list PySem.F.slot_list_append PySem.F.type_list_append mt_append (uv 4) (pa_cons (pe_tup (pa_cons (pe_op o_add (uv 5) (uv 7)) (pa_cons (uv 8) pa_nil))) pa_nil))))) pss_nil)))))
        (pss_one (ps_set (i := 3) nd rfl (.inl rfl) (uv 4)))))) 
      (pss_one (ps_ret (pe_lc (own := [("_law_place", 6)]) (g := gName 6) (tt := tYes) rfl nd (pi_range1 (by rfl) M.range (pa_cons (pe_callB c_len (by rfl) M.len b_len (pa_cons (uv 1) pa_nil)) pa_nil)) (blkOk_by (N := nFirsts) (sc := defScope sFirsts) (by decide +kernel))
        (fun _ _ _ _ _ => pg_name (i := 6) nd rfl (Or.inl rfl)) (fun _ _ _ _ _ => pts_nil)
        (fun _ _ _ _ _ => pe_dget (Room.u1 hr) (uv 2) (uv 6) (fun _ _ => rfl)))))), ?_⟩
    intro D nD
    refine ⟨upd_same, [(kI 0, .str (T []))], rfl, by show 1 ≤ 15; omega, ?_⟩
    refine ⟨by show 2 ≤ sizeLine; omega, fun t0 nt => ⟨by show 1 ≤ sizeLine; omega, fun L nL => ⟨by show 2 ≤ sizeLine; omega, fun tt ntt => ?_⟩⟩⟩
    refine ⟨tt, _, rfl, .inl (.inl upd_same), rfl, _, _, rfl, _, _, rfl, rfl, ?_⟩
    have sD : Same H (upd H D (.dK (kmp (txs (fndT S R 0 0))))) := same_upd nD
    have eD : upd (upd H D (.dK [])) D (.dK (mergeK [] [(kI 0, V.str (T []))])) = upd H D (.dK (kmp (txs (fndT S R 0 0)))) := by rw [upd_upd]; rfl
    rw [eD] at nt nL ntt ⊢
    have hD0 : (upd H D (.dK (kmp (txs (fndT S R 0 0))))) D = some (.dK (kmp (txs (fndT S R 0 0)))) := upd_same
    generalize upd H D (.dK (kmp (txs (fndT S R 0 0)))) = H1 at nt nL ntt sD hD0 ⊢
    have sT := same_upd (o := .tup [.str (T []), .int 0]) nt
    have hD1 := sT _ _ hD0
    have pT : (upd H1 t0 (.tup [.str (T []), .int 0])) t0 = some (.tup [.str (T []), .int 0]) := upd_same
    generalize upd H1 t0 (.tup [.str (T []), .int 0]) = H2 at nL ntt sT hD1 pT ⊢
    have sL := same_upd (o := .lst [.ref t0]) nL
    have hL1 : (upd H2 L (.lst [.ref t0])) L = some (.lst [.ref t0]) := upd_same
    have hD2 := sL _ _ hD1
    have pT2 := sL _ _ pT
    generalize upd H2 L (.lst [.ref t0]) = H3 at ntt sL hL1 hD2 pT2 ⊢
    have sS := same_upd (o := .tup [.ref D, .ref L]) ntt
    have hL2 := sS _ _ hL1
    have hD3 := sS _ _ hD2
    have pT3 := sS _ _ pT2
    have sA := ((sD.trans sT).trans sL).trans sS
    generalize upd H3 tt (.tup [.ref D, .ref L]) = H4 at sS hL2 hD3 pT3 sA ⊢
    have nLH : H L = none := Same.free (sD.trans sT) nL
    clear sS sL sT sD eD hD0 hD1 hD2 hL1 pT pT2 nt nL ntt
    dsimp only [tSeq, tAsg, gName]
    show tWhile _ _ _ _ _
    refine wh (m0 := R.length) (fun mm σ H2 => ∃ i L ps y4 y5 y6 y7 y8, mm = R.length - i ∧ i ≤ (fndT S R 0 i).length ∧ Same H H2 ∧ H2 D = some (.dK (kmp (txs (fndT S R 0 i)))) ∧ H2 L = some (.lst (ps.map V.ref)) ∧ PAt H2 ps ((fndT S R 0 i).drop i) ∧
      σ = [some (.str (T S)), some (.ref r), some (.ref D), some (.ref L), y4, y5, y6, y7, y8]) ⟨0, L, [t0], none, none, none, none, none, rfl, Nat.zero_le _, sA, hD3, hL2, ?_, rfl⟩ (fun mm σ H2 iv2 => ?_) (fun σ H Q Q' hm h => ?_)
    case refine_1 => exact PAt.snoc (ps := []) (es := []) ⟨rfl, fun n p e a => nomatch a⟩ pT3
    case refine_3 =>
      obtain ⟨Q0, h0, m0⟩ := h
      exact ⟨Q0, h0, fun v H' z => hm _ _ (m0 v H' z)⟩
    clear sA hD3 hL2 pT3 nLH L
    obtain ⟨i, L, ps, y4, y5, y6, y7, y8, rfl, hi, e2, hD, hL, hP, rfl⟩ := iv2
    have hf := fndT_le ok hs i
    have chr := fndT_chr (R := R) (s := 0) hasc i
    refine ⟨fun b H' => b = !((fndT S R 0 i).drop i).isEmpty ∧ ∃ Z, H2 Z = none ∧ H' = upd H2 Z (.lst []), ?_, fun b H' z => ?_⟩
    · refine ⟨by show 0 ≤ sizeLine; omega, fun Z nZ => ?_⟩
      show eqU _ true (.ref L) (.ref Z) _ _
      refine ⟨.list (((fndT S R 0 i).drop i).map encPT), .list [], .lst (.inl (.inl (same_upd nZ _ _ hL))) (hP.new nZ).dp, .lst (.inl (.inl upd_same)) .nil, (flat_pairs fun e he => chr e (List.mem_of_mem_drop he)).shaped (by omega), by decide, ?_, Z, nZ, rfl⟩
      cases (fndT S R 0 i).drop i <;> rfl
    obtain ⟨rfl, Z, nZ, rfl⟩ := z
    have nZH : H Z = none := Same.free e2 nZ
    have hD := same_upd (o := .lst []) nZ _ _ hD
    have hL := same_upd (o := .lst []) nZ _ _ hL
    have hP := hP.new (o := .lst []) nZ
    have e2 := same_upd2 (o := .lst []) e2 nZH
    generalize upd H2 Z (.lst []) = H5 at hD hL hP e2 ⊢
    clear nZ nZH
    by_cases hlt : (fndT S R 0 i).length ≤ i
    · have e3 : (fndT S R 0 i).drop i = [] := List.drop_eq_nil_iff.mpr hlt
      rw [if_neg (by rw [e3]; exact Bool.false_ne_true)]
      have em : fndT S R 0 i = metT S R 0 := fndT_met ok hs hlt
      rw [em] at hD
      have hlen : (rs.map V.ref).length = R.length := by rw [List.length_map, hl']
      dsimp only [tRet]
      refine lc_rng (n := (rs.map V.ref).length) (H1 := H5) (fun R' h => .inl ⟨rs.map V.ref, .inl (.inl (.inl (e2 _ _ hs'))), h⟩) (by omega) (fun B i acc H6 => H6 = upd H5 B (.lst acc) ∧ acc = (List.range i).map fun p => V.str (T (ft S R p))) (fun B nB => ⟨rfl, rfl⟩) (fun B nB i acc H6 hi6 h => ?_) (fun B nB acc H6 h => ?_)
      · obtain ⟨rfl, rfl⟩ := h
        have dg := DGet.k (k := kI i) (same_upd (o := .lst ((List.range i).map fun p => V.str (T (ft S R p)))) nB _ _ hD)
        rw [val_kmp, look_ents (by rw [metT_keys ok hs]; exact hall i (by omega))] at dg
        refine ⟨rfl, D, .str (T (ft S R i)), rfl, dg, ?_⟩
        exact ⟨_, upd_same, by rw [List.length_map, List.length_range]; omega, _, upd_upd, by rw [List.range_succ, List.map_append]; rfl⟩
      · obtain ⟨rfl, rfl⟩ := h
        exact q _ _ (same_upd2 e2 (Same.free e2 nB)) (Same.free e2 nB) (by rw [upd_same, hlen])
    have e3 : (!((fndT S R 0 i).drop i).isEmpty) = true := by
      have : (fndT S R 0 i).drop i ≠ [] := fun z => hlt (List.drop_eq_nil_iff.mp z)
      cases h : (fndT S R 0 i).drop i with
      | nil => exact absurd h this
      | cons _ _ => rfl
    rw [if_pos e3]
    generalize hfe : fndT S R 0 i = fi at hi hD hP hf hlt
    refine ⟨by show 0 ≤ sizeLine; omega, fun B nB => ?_⟩
    have nBH : H B = none := Same.free e2 nB
    have hBD : B ≠ D := (ne_of_none hD nB).symm
    have hBL : B ≠ L := (ne_of_none hL nB).symm
    have hD := same_upd (o := .lst []) nB _ _ hD
    have hL := same_upd (o := .lst []) nB _ _ hL
    have hP := hP.new (o := .lst []) nB
    have e2 := same_upd2 (o := .lst []) e2 nBH
    have hB : (upd H5 B (.lst [])) B = some (.lst (([] : List Addr).map V.ref)) := upd_same
    generalize upd H5 B (.lst []) = H6 at hD hL hP e2 hB ⊢
    clear nB
    dsimp only [tNext, tSeq]
    refine for_list (K := K) (a := L) (xs := ps.map V.ref) (H1 := _) (by exact fun _ h => h) (.inl (.inl hL)) (fun pre σ H3 => ∃ (j : Nat) (qs : List Addr) (y5 y6 y7 y8 : Option V), pre = (ps.take j).map V.ref ∧ j ≤ ps.length ∧ Same H H3 ∧
        H3 D = some (.dK (kmp (txs (fndT S R 0 (i + j))))) ∧ H3 L = some (.lst (ps.map V.ref)) ∧ PAt H3 ps (fi.drop i) ∧ H3 B = some (.lst (qs.map V.ref)) ∧ PAt H3 qs ((fndT S R 0 (i + j)).drop fi.length) ∧
        σ = [some (.str (T S)), some (.ref r), some (.ref D), some (.ref L), some (.ref B), y5, y6, y7, y8])
      (fun pre σ H3 h => ?_) ⟨0, [], y5, y6, y7, y8, rfl, Nat.zero_le _, e2, ?_, hL, hP, hB, ?_, rfl⟩ (fun pre x suf σ H3 ex h => ?_) (fun σ H3 h => ?_)
    · obtain ⟨_, _, _, _, _, _, _, _, _, _, h, _⟩ := h; exact .inl (.inl h)
    · rw [Nat.add_zero, hfe]; exact hD
    · rw [Nat.add_zero, hfe, List.drop_length]; exact ⟨rfl, fun n p e a => nomatch a⟩
    · clear hD hL hP hB e2
      obtain ⟨j, qs, y5, y6, y7, y8, rfl, hj, e4, hD4, hL4, hP4, hB4, hQ4, rfl⟩ := h
      have lj : ((ps.take j).map V.ref).length = j := by rw [List.length_map, List.length_take]; omega
      have hj2 : j < ps.length := by
        have := congrArg List.length ex
        rw [List.length_append, lj, List.length_map, List.length_cons] at this
        omega
      have hx : (ps.map V.ref)[j]? = some x := by rw [ex, List.getElem?_append_right (by omega), lj, Nat.sub_self]; rfl
      rw [List.getElem?_map, List.getElem?_eq_getElem hj2] at hx
      have hx := (Option.some.inj hx).symm
      subst hx
      have hpa : ps[j]? = some ps[j] := List.getElem?_eq_getElem hj2
      generalize ps[j] = pa at hpa ex ⊢
      have lp := hP4.1
      have hij : j < (fi.drop i).length := by omega
      have hed : (fi.drop i)[j]? = some (fi.drop i)[j] := List.getElem?_eq_getElem hij
      generalize (fi.drop i)[j] = e0 at hed
      obtain ⟨p', t⟩ := e0
      have hpt := hP4.2 j pa (p', t) hpa hed
      have he0 : fi[i + j]? = some (p', t) := by rw [← List.getElem?_drop]; exact hed
      have hp : (fndT S R 0 (i + j))[i + j]? = some (p', t) := by
        obtain ⟨u, et⟩ := fndT_pre (R := R) (s := 0) (S := S) (i := i) (j := i + j) (by omega)
        rw [← et, hfe]; exact (List.getElem?_append_left (List.getElem?_eq_some_iff.mp he0).1).trans he0
      have tl : t.length ≤ 1000 := by
        have h1 := fndT_len (i + j) (p', t) (List.mem_of_getElem? hp)
        have h2 : t.length ≤ i + j := h1
        rw [List.length_drop] at hij
        omega
      have plt : p' < R.length := fnd_lt ok hs (i + j) p' (by rw [← fndT_keys ok hs]; exact List.mem_map.mpr ⟨(p', t), List.mem_of_getElem? hp, rfl⟩)
      have hqa : rs[p']? = some rs[p'] := List.getElem?_eq_getElem (by omega)
      generalize rs[p'] = qa at hqa
      have hq := hrow' p' qa hqa
      have final := fndT_step hp
      have fl : fi.length ≤ (fndT S R 0 (i + j)).length := by
        have := (fndT_pre (R := R) (s := 0) (S := S) (i := i) (j := i + j) (by omega)).length_le
        rw [hfe] at this; exact this
      have le1 := fndT_le (S := S) ok hs (i + j + 1)
      rw [final] at le1
      generalize hf0 : fndT S R 0 (i + j) = f0 at hD4 hQ4 final fl le1
      refine ⟨pa, _, rfl, .inl (.inl hpt), rfl, _, _, rfl, _, _, rfl, rfl, ?_⟩
      show tFor (iZipSL K (tCons (uVar 0) (tCons (tOp (ixU K) (uVar 1) (uVar 6)) tNil))) _ _ _ _ _
      have lz : (S.zip (gls R p')).length = S.length := by rw [List.length_zip, gls_len ok plt, Nat.min_self]
      refine for_zipSL (K := K) (l := S) (b := qa) (ys := iv (gls R p')) (H1 := H3) (fun R' hR' => ⟨rs.map V.ref, .ref qa, .inl (.inl (.inl (e4 _ _ hs'))), atI_nat (by rw [List.getElem?_map, hqa]; rfl), hR'⟩) hasc (by rw [List.length_map, gls_len ok plt])
        (fun n σ H4 => ∃ (qs : List Addr) (y7 y8 : Option V), Same H H4 ∧ H4 D = some (.dK (kmp (txs (addsT t f0 ((S.zip (gls R p')).take n))))) ∧ H4 L = some (.lst (ps.map V.ref)) ∧ PAt H4 ps (fi.drop i) ∧ H4 B = some (.lst (qs.map V.ref)) ∧ PAt H4 qs ((addsT t f0 ((S.zip (gls R p')).take n)).drop fi.length) ∧
          σ = [some (.str (T S)), some (.ref r), some (.ref D), some (.ref L), some (.ref B), some (.str (T t)), some (.int p'), y7, y8])
        ⟨qs, y7, y8, e4, hD4, hL4, hP4, hB4, hQ4, rfl⟩ (fun n σ H4 h => by obtain ⟨_, _, _, h, _⟩ := h; exact .inl (.inl (h _ _ hq))) (fun n c y pr σ H4 hc hy h npr => ?_) (fun σ H4 h => ?_)
      · clear hD4 hL4 hP4 hB4 hQ4
        obtain ⟨qs, y7, y8, e5, hD5, hL5, hP5, hB5, hQ5, rfl⟩ := h
        rw [List.getElem?_map] at hy
        obtain ⟨g, hg, rfl⟩ := Option.map_eq_some_iff.mp hy
        have hz : (S.zip (gls R p'))[n]? = some (c, g) := by rw [List.getElem?_zip_eq_some]; exact ⟨hc, hg⟩
        have et : (S.zip (gls R p')).take (n + 1) = (S.zip (gls R p')).take n ++ [(c, g)] := by rw [List.take_add_one, hz]; rfl
        have cl : (addsT t f0 ((S.zip (gls R p')).take n)).length ≤ R.length := by
          refine Nat.le_trans ?_ le1
          have : addsT t f0 (S.zip (gls R p')) = addsT t (addsT t f0 ((S.zip (gls R p')).take n)) ((S.zip (gls R p')).drop n) := by
            unfold addsT; rw [← List.foldl_append, List.take_append_drop]
          show _ ≤ (addsT t f0 (S.zip (gls R p'))).length
          rw [this]
          exact addsT_pre.length_le
        have cl2 : fi.length ≤ (addsT t f0 ((S.zip (gls R p')).take n)).length := Nat.le_trans fl addsT_pre.length_le
        have ea : addsT t f0 ((S.zip (gls R p')).take (n + 1)) = add1T t (addsT t f0 ((S.zip (gls R p')).take n)) (c, g) := by rw [et, addsT_app]
        rw [ea]
        generalize addsT t f0 ((S.zip (gls R p')).take n) = cur at hD5 hQ5 cl cl2 ⊢
        have npH : H pr = none := Same.free e5 npr
        refine ⟨pr, _, rfl, .inl (.inl upd_same), rfl, _, _, rfl, _, _, rfl, rfl, ?_⟩
        have e6 : Same H (upd H4 pr (.tup [.str (T [c]), .int (g : Nat)])) := same_upd2 e5 npH
        have hD6 := same_upd (o := .tup [.str (T [c]), .int (g : Nat)]) npr _ _ hD5
        have hL6 := same_upd (o := .tup [.str (T [c]), .int (g : Nat)]) npr _ _ hL5
        have hB6 := same_upd (o := .tup [.str (T [c]), .int (g : Nat)]) npr _ _ hB5
        have hP6 := hP5.new (o := .tup [.str (T [c]), .int (g : Nat)]) npr
        have hQ6 := hQ5.new (o := .tup [.str (T [c]), .int (g : Nat)]) npr
        generalize upd H4 pr (.tup [.str (T [c]), .int (g : Nat)]) = H6 at e6 hD6 hL6 hB6 hP6 hQ6
        refine ⟨D, _, rfl, DGet.k (k := kI g) hD6, _, rfl, ?_⟩
        rw [val_kmp, look_isSome, txs_keys]
        refine .nd (fun hg => ?_) (fun hg => ?_)
        · have ec : add1T t cur (c, g) = cur ++ [(g, t ++ [c])] := if_neg hg
          have lk : (kmp (txs cur)).length = cur.length := by rw [List.length_map]; exact List.length_map _
          have ep : putK (kmp (txs cur)) (kI g) (.str (T (t ++ [c]))) = kmp (txs (cur ++ [(g, t ++ [c])])) := by
            rw [put_kmp _ (by rw [txs_keys]; exact hg), txs_app]
          refine ⟨by show t.length + 1 ≤ sizeLine; omega, D, _, rfl, DPut.k (k := kI g) hD6 (by rw [lk]; omega), ?_⟩
          rw [show putK (kmp (txs cur)) (kI g) (.str (T (cs (T t) ++ cs (T [c])))) = kmp (txs (cur ++ [(g, t ++ [c])])) from ep]
          have e7 := same_upd2 (o := .dK (kmp (txs (cur ++ [(g, t ++ [c])])))) e6 nD
          have hLD : L ≠ D := fun z => by rw [z, hD6] at hL6; cases hL6
          have hBD : B ≠ D := fun z => by rw [z, hD6] at hB6; cases hB6
          have hD7 : (upd H6 D (.dK (kmp (txs (cur ++ [(g, t ++ [c])]))))) D = some (.dK (kmp (txs (cur ++ [(g, t ++ [c])])))) := upd_same
          have hL7 : (upd H6 D (.dK (kmp (txs (cur ++ [(g, t ++ [c])]))))) L = some (.lst (ps.map V.ref)) := by rw [upd_ne hLD]; exact hL6
          have hB7 : (upd H6 D (.dK (kmp (txs (cur ++ [(g, t ++ [c])]))))) B = some (.lst (qs.map V.ref)) := by rw [upd_ne hBD]; exact hB6
          have hP7 := hP6.put (X := D) (o := .dK (kmp (txs (cur ++ [(g, t ++ [c])])))) (fun vs z => by rw [hD6] at z; cases z)
          have hQ7 := hQ6.put (X := D) (o := .dK (kmp (txs (cur ++ [(g, t ++ [c])])))) (fun vs z => by rw [hD6] at z; cases z)
          generalize upd H6 D (.dK (kmp (txs (cur ++ [(g, t ++ [c])])))) = H7 at e7 hD7 hL7 hB7 hP7 hQ7
          have lq := hQ7.1
          rw [List.length_drop] at lq
          refine ⟨.inl ⟨rfl, _, .inl (.inl hB7)⟩, by show t.length + 1 ≤ sizeLine; omega, by show 2 ≤ sizeLine; omega, fun tn ntn => ?_⟩
          have e8 := same_upd2 (o := .tup [.str (T (t ++ [c])), .int (g : Nat)]) e7 (Same.free e7 ntn)
          have hD8 := same_upd (o := .tup [.str (T (t ++ [c])), .int (g : Nat)]) ntn _ _ hD7
          have hL8 := same_upd (o := .tup [.str (T (t ++ [c])), .int (g : Nat)]) ntn _ _ hL7
          have hB8 := same_upd (o := .tup [.str (T (t ++ [c])), .int (g : Nat)]) ntn _ _ hB7
          have hP8 := hP7.new (o := .tup [.str (T (t ++ [c])), .int (g : Nat)]) ntn
          have hQ8 := hQ7.new (o := .tup [.str (T (t ++ [c])), .int (g : Nat)]) ntn
          have hT8 : (upd H7 tn (.tup [.str (T (t ++ [c])), .int (g : Nat)])) tn = some (.tup [.str (T (t ++ [c])), .int (g : Nat)]) := upd_same
          have hQ9 := hQ8.snoc (e := (g, t ++ [c])) hT8
          refine ⟨B, _, _, rfl, rfl, hB8, by rw [List.length_map]; omega, ?_⟩
          have nb : ∀ vs, (upd H7 tn (.tup [.str (T (t ++ [c])), .int (g : Nat)])) B ≠ some (HO.tup vs) := fun vs z => by rw [hB8] at z; cases z
          have hLB : L ≠ B := hBL.symm
          refine ⟨qs ++ [tn], _, _, same_upd2 e8 nBH, ?_, ?_, hP8.put nb, ?_, ?_, rfl⟩
          · rw [upd_ne hBD.symm, ec]; exact hD8
          · rw [upd_ne hLB]; exact hL8
          · rw [upd_same, List.map_append]; rfl
          · rw [ec, List.drop_append_of_le_length cl2]; exact hQ9.put nb
        · have ec : add1T t cur (c, g) = cur := if_pos hg
          rw [ec]
          exact ⟨_, _, _, e6, hD6, hL6, hP6, hB6, hQ6, rfl⟩
      · obtain ⟨qs, y7, y8, e5, hD5, hL5, hP5, hB5, hQ5, rfl⟩ := h
        have ez : (S.zip (gls R p')).take S.length = S.zip (gls R p') := List.take_of_length_le (by omega)
        rw [ez] at hD5 hQ5
        have es : addsT t f0 (S.zip (gls R p')) = fndT S R 0 (i + (j + 1)) := final.symm
        rw [es] at hD5 hQ5
        refine ⟨j + 1, qs, _, _, _, _, ?_, hj2, e5, hD5, hL5, hP5, hB5, hQ5, rfl⟩
        rw [List.take_add_one, hpa, List.map_append]; rfl
    · obtain ⟨j, qs, y5, y6, y7, y8, ej, hj, e4, hD4, hL4, hP4, hB4, hQ4, rfl⟩ := h
      have lj : j = ps.length := by
        have := congrArg List.length ej
        rw [List.length_map, List.length_map, List.length_take] at this
        omega
      have ij : i + j = fi.length := by rw [lj, hP4.1, List.length_drop]; omega
      rw [ij] at hD4 hQ4
      have fl : fi.length ≤ (fndT S R 0 fi.length).length := by
        have := (fndT_pre (R := R) (s := 0) (S := S) (i := i) (j := fi.length) (by omega)).length_le
        rw [hfe] at this; exact this
      exact ⟨R.length - fi.length, by omega, fi.length, B, qs, _, _, _, _, _, rfl, fl, e4, hD4, hB4, hQ4, rfl⟩
end
end LK

/-! defs with a lambda; the end of a law with guards and one table -/
namespace LK
open PySem PySem.Spec PyProof.Rows L2 LamX
open scoped List
/-- a def whose code object is known -/
structure FunC (K : PySem.W.Frag) (x qual : Str) (st : Stmt) (f : Addr) (fd : FuncData) (c : Addr) : Prop where
  ex : ∃ (oc : Value) (od : Option Addr) (kV doc pm : Value) (an : Option Addr) (ct : Value) (osl : Array (Option Value)),
    fd = PySem.W.fnOf x qual (defArgs st) (defBody st) (defScope st) .none kV doc pm an (.ref c) ct ∧ K.lookup f = some ⟨oc, od, .func fd, osl⟩ ∧ PySem.W.codeIn K (.ref c) qual = true
  kp : PySem.W.keepIn K (.ref f) = true
theorem FunC.fn {K : PySem.W.Frag} {x qual : Str} {st : Stmt} {f : Addr} {fd : FuncData} {c : Addr} (F : FunC K x qual st f fd c) : Fun K x qual st f fd := by
  obtain ⟨oc, od, kV, dc, pm, an, ct, sl, e1, e2, e3⟩ := F.ex
  exact ⟨⟨oc, od, kV, dc, pm, an, .ref c, ct, sl, e1, e2, e3⟩, F.kp⟩
section
variable {P : Program} {w : World} {K : PySem.W.Frag} {mg : Str → Option Value} {base : Heap}
theorem okGC {x q : Str} {st : Stmt} {f : Addr} {fd : FuncData} {c : Addr} {N ps : List Str} {k : Nat} {sp : Sp} (F : FunC K x q st f fd c)
    (S : FnScope N ps (defScope st)) (len : ∀ vs H Q E, sp vs H Q E → vs.length = ps.length)
    (hb : ∀ (A : Around), A.guards = some [] → ∀ (outer : List Env) (s : Shared) (H : Hp) (vs : List V) (Q : VK) (E : XK),
      Room k (A.deeper (envOfC q (defScope st) s.heap.objs.size f (.ref c))) → sp vs H Q E →
      ∃ t, PSs (cxOf CX0 P w K mg base N q (defScope st) f (.ref c) A outer s H E).nox (defBody st) t ∧
        t { nx := fun _ H' => Q .non H', rt := Q } (L2.start N vs) H) : FnG P w K mg base CX0 (k + 1) f fd ps sp := by
  obtain ⟨oc, od, kV, dc, pm, an, ct, sl, rfl, lk, hc⟩ := F.ex
  refine fnG_of lk hc S len ?_
  intro A hA outer s H vs Q E hr hs
  obtain ⟨t, h, z⟩ := hb A hA outer s H vs Q E hr hs
  exact ⟨t, h.nox, z⟩
end
/-! ### the law's own call: guards, and the one table that is written -/
theorem lawGT {P : Program} {w : World} {K : PySem.W.Frag} {mg mb : Str → Option Value} {k : Nat} {fa a c Pt : Addr} {fd : FuncData} {x : Str} {sp : Sp} {s1 : Shared} {vs : List Value} {ns : List Int}
    (KX : K.In s1.heap) (g1 : s1.heap.Ns mainGlobals mg) (g2 : s1.heap.Ns builtinsNs mb) (g3 : ∀ x : Str, x ≠ "__name__" → mb x = bootBuiltins x)
    (lim : s1.heap.NoLimit) (gens : s1.gens = #[]) (tP : s1.heap.get? Pt = some { cls := .none, data := .fields #[] }) (nP : K.lookup Pt = none) (C : PySem.W.CodeHd s1.heap c Pt)
    (bmA : ∃ (bm : Addr) (ob : Obj), mg "__builtins__" = some (.ref bm) ∧ bm ≠ builtinsNs ∧ s1.heap.get? bm = some ob ∧ ob.cls = .type "module" ∧ ob.dict = some builtinsNs ∧ ob.data = .plain)
    (ha : s1.heap.get? a = some { cls := .type "list", data := .seq vs.toArray }) (hi : IntsAre vs ns) (hl : ns.length ≤ sizeLine) (hr : Room k callerA)
    (F : ∀ base : Heap, K.In base → base.Ns mainGlobals mg → TabB base mg c Pt → FnG P w K mg base CX0 k fa fd [x] sp)
    (bnd : ∀ (s : Shared) (u : Value), BindsTo s fd ⟨[u], []⟩ [(x, u)])
    (hsp : ∀ H : Hp, H Pt = some (.tbl #[]) → SqL K H a (ns.map V.int) → sp [.ref a] H (fun v _ => v = .bl true) E0) :
    codeAny (model P w) callerA (.call (.ref fa) ⟨[.ref a], []⟩)
      (fun r s' => r = .ok (.ret (.bool true)) ∧ PySem.OldK s1.heap s'.heap ∧ s'.os = s1.os ∧ AllBare s'.gens) s1 := by
  have rv : L2.Vals (ns.map V.int) vs := vals_ints hi
  let scr : HO := .frz { cls := .type "list", data := .seq vs.toArray } (.lst (ns.map V.int))
  have aP : a ≠ Pt := fun e => by rw [e, tP] at ha; cases ha
  let H : Hp := fun b => if b = Pt then some (.tbl #[]) else if b = a ∧ K.lookup a = none then some scr else none
  have HP : H Pt = some (.tbl #[]) := if_pos rfl
  have hH : ∀ b u, H b = some u → (b = Pt ∧ u = .tbl #[]) ∨ (b = a ∧ K.lookup a = none ∧ u = scr) := by
    intro b u e
    by_cases cP : b = Pt
    · have e2 : some (HO.tbl #[]) = some u := (if_pos cP).symm.trans e
      exact .inl ⟨cP, (Option.some.inj e2).symm⟩
    · by_cases cA : b = a ∧ K.lookup a = none
      · have e2 : some scr = some u := ((if_neg cP).trans (if_pos cA)).symm.trans e
        exact .inr ⟨cA.1, cA.2, (Option.some.inj e2).symm⟩
      · have e2 : (none : Option HO) = some u := ((if_neg cP).trans (if_neg cA)).symm.trans e
        cases e2
  have sizes : (ns.map V.int).length ≤ sizeLine := by rw [List.length_map]; exact hl
  have okH : HOk P w H s1.heap := by
    intro b u e
    rcases hH b u e with ⟨rfl, rfl⟩ | ⟨rfl, _, rfl⟩
    · exact tP
    · exact ⟨ha, sizes, vs, _, rv, ha⟩
  have sq : SqL K H a (ns.map V.int) := by
    cases e : K.lookup a with
    | none => exact .inl (.inr ⟨_, (if_neg aP).trans (if_pos ⟨rfl, e⟩)⟩)
    | some o =>
      have z := KX a o e
      rw [ha] at z; cases z
      exact .inr ⟨_, vs.toArray, _, e, rfl, rfl, rfl, by rw [List.size_toArray, ← rv.length]; exact sizes, by simpa using rv⟩
  -- what is no list and no table of its own is not tracked
  have off : ∀ (b : Addr) (o : Obj), s1.heap.get? b = some o → (∀ xs n, o.data ≠ .seq xs n) → o.data ≠ .fields #[] → H b = none := by
    intro b o e h1 h2
    cases q : H b with
    | none => rfl
    | some u =>
      rcases hH b u q with ⟨rfl, _⟩ | ⟨rfl, _, _⟩
      · rw [tP] at e; cases e; exact (h2 rfl).elim
      · rw [ha] at e; cases e; exact (h1 _ _ rfl).elim
  have free : ∀ (b : Addr) (o : Obj), s1.heap.get? b = some o → (∀ es ep, o.data = .dict es ep → H b = none) := fun b o e es ep d =>
    off b o e (fun xs n z => by rw [d] at z; cases z) (fun z => by rw [d] at z; cases z)
  have ns_ : ∀ {b : Addr} {m : Str → Option Value}, s1.heap.Ns b m → (hidT s1.heap H).Ns b m := by
    intro b m z
    obtain ⟨o, es, ep, e, d, r⟩ := z
    exact ⟨o, es, ep, hidT_get e (free b o e es ep d), d, r⟩
  have kin : K.In (hidT s1.heap H) := by
    intro b o e
    refine hidT_get (KX b o e) ?_
    cases q : H b with
    | none => rfl
    | some u =>
      rcases hH b u q with ⟨rfl, _⟩ | ⟨rfl, n, _⟩
      · rw [nP] at e; cases e
      · rw [n] at e; cases e
  have tb : TabB (hidT s1.heap H) mg c Pt := by
    constructor
    · obtain ⟨o, us, file, tf, flags, tg, inF, text, tt, q0, q1, q2, q3, rest⟩ := C
      have nC : H c = none := off c o q0 (fun xs n z => by rw [q2] at z; cases z) (fun z => by rw [q2] at z; cases z; simp at q3)
      exact ⟨o, us, file, tf, flags, tg, inF, text, tt, hidT_get q0 nC, q1, q2, q3, rest⟩
    · obtain ⟨bm, ob, q1, q2, q3, q4, q5, q6⟩ := bmA
      have n1 : bm ≠ mainGlobals := fun z => by
        obtain ⟨o, es, ep, e, d, _⟩ := g1
        rw [z, e] at q3; cases q3; rw [d] at q6; cases q6
      have n2 : bm ≠ Pt := fun z => by rw [z, tP] at q3; cases q3; cases q6
      exact ⟨bm, ob, q1, q2, n1, n2, hidT_get q3 (off bm ob q3 (fun xs n z => by rw [q6] at z; cases z) (fun z => by rw [q6] at z; cases z)), q4, q5, q6⟩
    · intro z
      obtain ⟨o, es, ep, e, d, _⟩ := g1
      rw [z, tP] at e; cases e; cases d
  have e0 : Env0 P w K mg (hidT s1.heap H) callerA [] s1 H :=
    ⟨rfl, ⟨kin, ns_ g1, ⟨mb, ns_ g2, g3⟩, (by obtain ⟨mc, p, q⟩ := lim; exact ⟨mc, ns_ p, q⟩)⟩, fun b o e => of_hidT e,
      Nat.le_of_eq (hidT_size _ _), trivial, (fun b hb => absurd (show b ∈ ([] : List Addr) from hb) (fun y => nomatch y)), okH, .of_eq gens⟩
  refine codeAny_mono ((F _ kin (ns_ g1) tb).run callerA rfl [] s1 H ⟨[.ref a], []⟩ [.ref a] [.ref a] _ _ hr e0 (bnd s1 (.ref a)) (.cons rfl .nil) (hsp H HP sq)) ?_
  intro r s' z
  match r, z with
  | .error _, z => exact z.elim
  | .ok .next, z => exact z.elim
  | .ok .brk, z => exact z.elim
  | .ok .cont, z => exact z.elim
  | .ok (.ret u), z =>
    obtain ⟨v, H', os, bare, un, ok', rv', q⟩ := z
    obtain rfl : v = .bl true := q
    obtain rfl : u = Value.bool true := rv'
    obtain ⟨more, gm⟩ := un.tbls Pt #[] HP
    have grown : s'.heap.get? Pt = some { cls := .none, data := .fields (#[] ++ more) } := ok' Pt _ gm
    rw [Array.empty_append] at grown
    have old : ∀ b o, b ≠ Pt → s1.heap.get? b = some o → s'.heap.get? b = some o := fun b o nb e => by
      cases y : H b with
      | none => exact un.keep b o e y (fun y => absurd (show b ∈ ([] : List Addr) from y) (fun y => nomatch y)) (fun y => nomatch y)
      | some yv =>
        have y2 := y
        rcases hH b yv y with ⟨rfl, _⟩ | ⟨rfl, _, rfl⟩
        · exact (nb rfl).elim
        · have z2 := un.frzs _ _ _ y2
          rw [ha] at e; cases e
          exact (ok' _ _ z2).1
    refine ⟨rfl, ⟨fun b o e => ?_, fun b o e => ?_⟩, os, bare⟩
    · by_cases hb : b = Pt
      · subst hb
        rw [tP] at e; cases e
        exact .inr (.inl ⟨(C.tab tP).isCodeTable, rfl, #[], more, rfl, by rw [Array.empty_append]; exact grown⟩)
      · exact .inl (old b o hb e)
    · by_cases hb : b = Pt
      · subst hb; exact ⟨_, grown⟩
      · exact ⟨o, old b o hb e⟩

/-- what is to be known at the head's heap: the law's promise, and where the table that is written lies -/
def LawG (l : PySem.W.OpenLaw) (w : World) (K : PySem.W.Frag) (k n : Nat) (x : Str) (mg : Str → Option Value) (fa : Addr) (h : Heap) : Prop :=
  ∃ (fd : FuncData) (c Pt : Addr) (sp : Sp), h.get? Pt = some { cls := .none, data := .fields #[] } ∧ K.lookup Pt = none ∧ PySem.W.CodeHd h c Pt ∧ (∀ (s : Shared) (u : Value), BindsTo s fd ⟨[u], []⟩ [(x, u)]) ∧
    (∀ (H : Hp) (a : Addr) (ns : List Int), ns.length ≤ n → H Pt = some (.tbl #[]) → SqL K H a (ns.map V.int) → sp [.ref a] H (fun v _ => v = .bl true) E0) ∧
    ∀ base : Heap, K.In base → base.Ns mainGlobals mg → TabB base mg c Pt → FnG l.prog w K mg base CX0 k fa fd [x] sp
theorem walkGT {l : PySem.W.OpenLaw} {n k : Nat} {q : Program} {loose : List Str} {XP : (Str → Option Value) → Heap → Prop} {YP : World → Heap → Prop} {d : DefRec} {K : Params → PySem.W.Frag} {x : Str}
    (hn : l.most = some n) (hn2 : n ≤ sizeLine) (hdf : d.params.defaults = []) (hr : Room k callerA) (hY : ∀ (w : World) (h : Heap), YP w h → (K w.params).In h)
    (F : ∀ (w : World) (mg : Str → Option Value) (fa : Addr) (h : Heap), YP w h → (K w.params).In h → h.Ns mainGlobals mg → mg d.name = some (.ref fa) → LawG l w (K w.params) k n x mg fa h) :
    PySem.W.WalkO q loose XP YP l.row.toRowW d [] (fun f vs => PySem.call f vs) := by
  refine Att.attach_call hn hdf ?_
  intro w s0 s1 mg mb fa o pm cd doc a vs ns G Y ho hd hcd hmg hobj hints hlen hg
  have kin := hY w _ Y
  obtain ⟨fd, c, Pt, sp, hP, nP, hC, hb, hsp, hF⟩ := F w mg fa _ Y kin G.T.g hmg
  exact lawGT kin G.T.g G.T.b G.T.builtins G.T.nolimit hg hP nP hC G.T.bmain hobj hints (Nat.le_trans hlen hn2) hr hF hb (fun H hH hS => hsp H a ns hlen hH hS)
end LK

/-! k14: the least taken text is the first one of the sorted ones -/
namespace LK
open PySem PySem.Spec PyProof.Rows L2 LamX
open PySem.W (dataLe)
open scoped List
theorem lt2_le {a b : List Nat} (h : Lt2 a b) : dataLe false encP a b = true := by
  rw [leP_iff]
  rcases h with h | ⟨l, h⟩
  · exact .inl h
  · refine .inr ⟨l, ?_⟩
    rw [leT_eq]
    show (!decide (b < a)) = true
    rw [decide_eq_false (List.lt_asymm h)]; rfl
theorem leP_refl (a : List Nat) : dataLe false encP a a = true := by
  rw [leP_iff]
  refine .inr ⟨rfl, ?_⟩
  rw [leT_eq]
  show (!decide (a < a)) = true
  rw [decide_eq_false (List.lt_irrefl _)]; rfl
/-- the least texts to places that take -/
def smt (S : List Nat) (R : Rows) (Kd : List Bool) (n : Nat) : List (List Nat) := ((List.range n).filter fun p => Kd.getD p false).map (ft S R)
theorem smt_succ {S : List Nat} {R : Rows} {Kd : List Bool} {n : Nat} : smt S R Kd (n + 1) = if Kd.getD n false = true then smt S R Kd n ++ [ft S R n] else smt S R Kd n := by
  unfold smt
  rw [List.range_succ, List.filter_append, List.map_append]
  by_cases h : Kd.getD n false = true
  · rw [if_pos h, show (List.filter (fun p => Kd.getD p false) [n]) = [n] from List.filter_cons_of_pos (p := fun p => Kd.getD p false) h]; rfl
  · rw [if_neg h, show (List.filter (fun p => Kd.getD p false) [n]) = [] from List.filter_cons_of_neg (p := fun p => Kd.getD p false) h]; simp
theorem smt_len {S : List Nat} {R : Rows} {Kd : List Bool} {n : Nat} : (smt S R Kd n).length ≤ n := by
  unfold smt
  rw [List.length_map]
  refine Nat.le_trans (List.length_filter_le _ _) ?_
  rw [List.length_range]; exact Nat.le_refl _
theorem ft_of {S : List Nat} {R : Rows} {p : Nat} {t : List Nat} (ok : RowsOk R S.length) (h0 : 0 < R.length) (h : (p, t) ∈ metT S R 0) : ft S R p = t := by
  have nd := fndT_nd (S := S) ok h0 R.length
  unfold ft
  have l : ∀ {f : Ents}, (f.map (·.1)).Nodup → (p, t) ∈ f → f.lookup p = some t := by
    intro f nd h
    induction f with
    | nil => cases h
    | cons e f ih =>
      obtain ⟨a, x⟩ := e
      obtain ⟨n1, n2⟩ := List.nodup_cons.mp nd
      rcases List.mem_cons.mp h with e | h
      · cases e; exact List.lookup_cons_self
      · have ne : p ≠ a := fun e => n1 (e ▸ List.mem_map.mpr ⟨(p, t), h, rfl⟩)
        have nb : (p == a) = false := by simpa using ne
        rw [List.lookup_cons, nb]
        exact ih n2 h
  rw [l (f := metT S R 0) nd h]; rfl
theorem ft_mem {S : List Nat} {R : Rows} {p : Nat} (ok : RowsOk R S.length) (h0 : 0 < R.length) (h : p ∈ met R 0) : (p, ft S R p) ∈ metT S R 0 := by
  rw [← metT_keys ok h0] at h
  obtain ⟨⟨p', t⟩, h1, rfl⟩ := List.mem_map.mp h
  rw [ft_of ok h0 h1]; exact h1
theorem smt_mem {S : List Nat} {R : Rows} {Kd : List Bool} {x : List Nat} (ok : RowsOk R S.length) (h0 : 0 < R.length) (wh : Whole R) : x ∈ smt S R Kd R.length ↔ ∃ e ∈ metT S R 0, Kd.getD e.1 false = true ∧ e.2 = x := by
  unfold smt
  rw [List.mem_map]
  constructor
  · rintro ⟨p, hp, rfl⟩
    obtain ⟨h1, h2⟩ := List.mem_filter.mp hp
    have lt : p < R.length := List.mem_range.mp h1
    exact ⟨(p, ft S R p), ft_mem ok h0 (wh p lt), h2, rfl⟩
  · rintro ⟨⟨p, t⟩, he, hk, rfl⟩
    have hm : p ∈ met R 0 := by rw [← metT_keys ok h0]; exact List.mem_map.mpr ⟨_, he, rfl⟩
    exact ⟨p, List.mem_filter.mpr ⟨List.mem_range.mpr (fnd_lt ok h0 _ p hm), hk⟩, ft_of ok h0 he⟩
theorem smt_head {S : List Nat} {R : Rows} {Kd : List Bool} (hS : S.Pairwise (· < ·)) (ok : RowsOk R S.length) (h0 : 0 < R.length) (wh : Whole R) : ((smt S R Kd R.length).mergeSort (dataLe false encP))[0]? = ftk S R Kd := by
  have rise : (metT S R 0).Pairwise fun a b => Lt2 a.2 b.2 := (fndT_rise hS R.length).up
  have mem := fun x => smt_mem (Kd := Kd) (x := x) ok h0 wh
  have pm := List.mergeSort_perm (smt S R Kd R.length) (dataLe false encP)
  have so := srt encP (smt S R Kd R.length)
  unfold ftk
  cases h : (metT S R 0).find? fun e => Kd.getD e.1 false with
  | none =>
    have no : smt S R Kd R.length = [] := by
      refine List.eq_nil_iff_forall_not_mem.mpr fun x hx => ?_
      obtain ⟨e, he, hk, _⟩ := (mem x).mp hx
      exact List.find?_eq_none.mp h e he hk
    rw [no]; simp
  | some e =>
    obtain ⟨hk, as, bs, eE, hn⟩ := List.find?_eq_some_iff_append.mp h
    have hin : e.2 ∈ smt S R Kd R.length := (mem _).mpr ⟨e, by rw [eE]; simp, hk, rfl⟩
    have least : ∀ x ∈ smt S R Kd R.length, dataLe false encP e.2 x = true := by
      intro x hx
      obtain ⟨e', he', hk', rfl⟩ := (mem x).mp hx
      rw [eE] at he' rise
      rcases List.mem_append.mp he' with h1 | h1
      · have := hn e' h1
        rw [hk'] at this; cases this
      · rcases List.mem_cons.mp h1 with rfl | h1
        · exact leP_refl _
        · obtain ⟨_, r2, _⟩ := List.pairwise_append.mp rise
          exact lt2_le ((List.pairwise_cons.mp r2).1 e' h1)
    generalize (smt S R Kd R.length).mergeSort (dataLe false encP) = L at pm so
    cases L with
    | nil => rw [← pm.nil_eq] at hin; cases hin
    | cons h0 tl =>
      have a1 := least h0 (pm.mem_iff.mp (by simp))
      have a2 : dataLe false encP h0 e.2 = true := by
        rcases List.mem_cons.mp (pm.mem_iff.mpr hin) with r | r
        · rw [r]; exact leP_refl _
        · exact (List.pairwise_cons.mp so).1 _ r
      show some h0 = some e.2
      rw [leP_anti a2 a1]
end LK

/-! k14: _law_due -/
namespace LK
open PySem PySem.Spec PyProof.Rows L2 LamX
open PySem.W (dataLe)
open scoped List
theorem br_of {b c : Bool} {A B : Prop} (e : b = c) (h : Br c A B) : Br b A B := e ▸ h
theorem lts_inj {a b : List (List Nat)} (h : lts a = lts b) : a = b := (List.map_inj_right fun x y z => T_inj (V.str.inj z)).mp h
theorem lts_app (a : List (List Nat)) (t : List Nat) : lts (a ++ [t]) = lts a ++ [V.str (T t)] := List.map_append
theorem split_lts {f : List (List Nat)} {pre suf : List V} {x : V} (h : lts f = pre ++ x :: suf) : ∃ p g q, f = p ++ g :: q ∧ pre = lts p ∧ x = .str (T g) := by
  obtain ⟨p, q, e1, e2, e3⟩ := List.map_eq_append_iff.mp h
  obtain ⟨g, q', rfl, rfl, _⟩ := List.map_eq_cons_iff.mp e3
  exact ⟨p, g, q', e1, e2.symm, rfl⟩
section
variable {TT : List (Addr × Str)} {H H' : Hp}
theorem RowsL.exn {r : Addr} {R : Rows} (h : RowsL H r R) (e : Ex TT no H H') : RowsL H' r R := by
  obtain ⟨rs, h1, h2, h3⟩ := h
  exact ⟨rs, e.keep _ _ (fun z => z) h1 (fun _ z => nomatch z), h2, fun i p hp => e.keep _ _ (fun z => z) (h3 i p hp) (fun _ z => nomatch z)⟩
theorem Ex.newX {D : Addr} (e : Ex TT no H H') (n : H' D = none) : New H D := fun b o hb m z => by
  subst z
  have := e.keep b o (fun z => z) hb m
  rw [n] at this; cases this
end
theorem gls_range {n j : Nat} {f : Nat → List Nat} (h : j < n) : gls ((List.range n).map f) j = f j := by
  unfold gls
  rw [List.getD_eq_getElem?_getD, List.getElem?_map, List.getElem?_range h]; rfl
/-- what is told of a machine -/
def oD : Option (List Nat) → PyData
  | some t => .str (T t)
  | none => .none
theorem dp_oV {K : PySem.W.Frag} {H : Hp} (o : Option (List Nat)) : Dp K H (oV o) (oD o) := by
  cases o with
  | none => exact .non
  | some t => exact .str _
theorem dpAll_rng {K : PySem.W.Frag} {H : Hp} {f : Nat → List Nat} {n : Nat} : DpAll K H ((List.range n).map fun p => V.str (T (f p))) (((List.range n).map f).map encT) := by
  have := dpAll_str (K := K) (H := H) ((List.range n).map f)
  rw [List.map_map] at this
  exact this
abbrev ldR (S : List Nat) (R : Rows) (Ts : List (List Nat)) (n : Nat) : Rows := (List.range n).map fun p => Ts.map (led S R p)
abbrev tkB (S : List Nat) (R : Rows) (Kd : List Bool) (Ts : List (List Nat)) : List Bool := Ts.map fun t => Kd.getD (led S R 0 t) false
def dueD (S : List Nat) (R : Rows) (Kd : List Bool) (Ts : List (List Nat)) : PyData := .list [.str (T S), encRs R, encB Kd, .int (R.length : Nat), encTs ((List.range R.length).map (ft S R)), oD (ftk S R Kd), encRs (ldR S R Ts R.length), encB (tkB S R Kd Ts), encB (tkB S R Kd Ts)]
theorem tk_app {S : List Nat} {R : Rows} {Kd : List Bool} {us : List (List Nat)} {g : List Nat} : (tkB S R Kd (us ++ [g])).map V.bl = (tkB S R Kd us).map V.bl ++ [.bl (Kd.getD (led S R 0 g) false)] := by
  unfold tkB; rw [List.map_append, List.map_append]; rfl
theorem ld_app {f : List Nat → Nat} {us : List (List Nat)} {g : List Nat} : iv ((us ++ [g]).map f) = iv (us.map f) ++ [.int (f g : Nat)] := by rw [List.map_append, iv_app]; rfl
def lamQD : Str := (envOfC "_law_due" (defScope sDue) 0 0 .none).qual ++ "<lambda>"
abbrev T1D (Pt : Addr) : List (Addr × Str) := [(Pt, lamQD)]
section
variable {P : Program} {w : World} {K : PySem.W.Frag} {mg : Str → Option Value} {base : Heap}
abbrev nDue : List Str := ["_law_signs", "_law_sheet_here", "_law_texts_here", "_law_rows", "_law_kinds", "_law_firsts_here", "_law_some", "_law_found", "_law_place", "_law_text"]
theorem scDue : FnScope nDue ["_law_signs", "_law_sheet_here", "_law_texts_here"] (defScope sDue) := ⟨rfl, rfl, rfl, by decide +kernel, rfl, by decide +kernel, by decide +kernel⟩
abbrev scD1 : Scope := { kind := .function, names := [(".0", .local), ("_law_place", .cell), ("_law_rows", .free), ("_law_signs", .free), ("_law_texts_here", .free)], isGenerator := false, isCoroutine := false }
def spDue (Pt : Addr) (K : PySem.W.Frag) : Sp := fun vs H Q _ => ∃ (t l : Addr) (S : List Nat) (R : Rows) (Kd : List Bool) (Ts : List (List Nat)), vs = [.str (T S), .ref t, .ref l] ∧ SheetAt H t R Kd ∧ ShOk S R Kd ∧ Whole R ∧ H l = some (.lst (lts Ts)) ∧ (∀ x ∈ Ts, ∀ c ∈ x, c ∈ S) ∧ Ts.length ≤ 1000 ∧ Tabs (T1D Pt) H ∧
  ∀ H' p, Ex (T1D Pt) no H H' → Dp K H' (.ref p) (dueD S R Kd Ts) → Q (.ref p) H'
theorem ok_due {f : Addr} {fd : FuncData} {k : Nat} {c Pt : Addr} (F : FunC K "_law_due" "_law_due" sDue f fd c) (M : Mx mg) (TB : TabB base mg c Pt) (HF : Has P w K mg base (k + 1) "_law_firsts" ["_law_signs", "_law_rows"] spFirsts)
    (HL : Has P w K mg base (k + 1) "_law_led" ["_law_signs", "_law_rows", "_law_place", "_law_text"] spLLed) : FnG P w K mg base CX0 (k + 1 + 1) f fd ["_law_signs", "_law_sheet_here", "_law_texts_here"] (spDue Pt K) := by
  refine okGC F scDue (fun vs H Q E h => ?_) (fun A hA outer s H vs Q E hr h => ?_)
  · obtain ⟨t, l, S, R, Kd, Ts, rfl, _⟩ := h; rfl
  · obtain ⟨t, l, S, R, Kd, Ts, rfl, ⟨r, kk, ht, hrw, hk⟩, ok, wh, hTs, hch, hTn, hT, q⟩ := h
    have nd := scDue.nd
    have sl := sizeLine_eq
    have hu := Room.u64 hr
    have hlo := ok.lo
    have hhi := ok.hi
    have hasc : ∀ c ∈ S, c < 128 := fun c hc => ok.let_.sm.asc c hc
    refine ⟨_, pss_cons (ps_asg (uv 1) (pg_tup rfl (pgs_cons (pg_name (i := 3) nd rfl (.inr rfl)) (pgs_cons (pg_name (i := 4) nd rfl (.inr rfl)) pgs_nil))) rfl)
      (pss_cons (ps_set (i := 5) nd rfl (.inr rfl) (pe_callH HF hA hr (by rfl) (pa_cons (uv 0) (pa_cons (uv 3) pa_nil))))
      (pss_cons (ps_set (i := 6) nd rfl (.inl rfl) (pe_sortedLam (TT := T1D Pt) (c := c) (P := Pt) rfl (hr.mono (by omega)) (by rfl) M.sorted M.len TB rfl (by exact List.mem_singleton.mpr rfl) (by
          intro p hp _
          rw [List.mem_singleton.mp hp]; rfl) (by rfl) (by
          intro y hy e
          exact ((show ∀ y ∈ _, y.2 ≠ NameKind.free by decide +kernel) y hy e).elim) (by intros; rfl) (by rfl) (by rfl) (by rfl) (by decide +kernel) (by rfl) (by rfl)
          (pa_cons (pe_lc (own := [("_law_place", 8)]) (g := gName 8) rfl nd (pi_range1 (by rfl) M.range (pa_cons (pe_callB c_len (by rfl) M.len b_len (pa_cons (uv 3) pa_nil)) pa_nil)) (blkOk_by (N := nDue) (sc := defScope sDue) (by decide +kernel))
            (fun _ _ _ _ _ => pg_name (i := 8) nd rfl (Or.inl rfl)) (fun _ _ _ _ _ => pts_one (pt_u (pe_ixK (K := K) rfl (uv 4) (uv 8)))) (fun _ _ _ _ _ => pe_ixK (K := K) rfl (uv 5) (uv 8))) pa_nil)))
      (pss_cons (ps_set (i := 7) nd rfl (.inl rfl) (pe_lst (pa_cons (uv 0) (pa_cons (uv 3) (pa_cons (uv 4) (pa_cons (pe_callB c_len (by rfl) M.len b_len (pa_cons (uv 3) pa_nil)) (pa_cons (uv 5)
          (pa_cons (pe_cl (pe_ifU (pt_cu (o_ne hu) (uv 6) (pe_lst pa_nil)) (pe_ixU (uv 6) pe_int) pe_non)) pa_nil))))))))
      (pss_cons (ps_expr (pe_bm PySem.F.plainAttrs_list PySem.F.slot_list_append PySem.F.type_list_append mt_append (uv 7)
          (pa_cons (pe_lc (own := [("_law_place", 8)]) (g := gName 8) (tt := tYes) rfl nd (pi_range1 (by rfl) M.range (pa_cons (pe_callB c_len (by rfl) M.len b_len (pa_cons (uv 3) pa_nil)) pa_nil)) (blkOk_by (N := nDue) (sc := defScope sDue) (by decide +kernel))
            (fun _ _ _ _ _ => pg_name (i := 8) nd rfl (Or.inr rfl)) (fun _ _ _ _ _ => pts_nil)
            (fun _ _ _ _ _ => pe_lc (own := [("_law_text", 9)]) (g := gName 9) (tt := tYes) rfl nd (pi_listK (K := K) rfl (uv 2)) (blkOk_in (N := nDue) (sc := scD1) (by decide +kernel))
              (fun _ _ _ _ _ => pg_name (i := 9) nd rfl (Or.inl rfl)) (fun _ _ _ _ _ => pts_nil) (fun _ _ _ _ _ => pe_callH HL hA hr (by rfl) (pa_cons (uv 0) (pa_cons (uv 3) (pa_cons (uv 8) (pa_cons (uv 9) pa_nil))))))) pa_nil)))
      (pss_one (ps_ret (pe_op o_add (uv 7) (pe_op o_mul (pe_lst (pa_cons (pe_lc (own := [("_law_text", 9)]) (g := gName 9) (tt := tYes) rfl nd (pi_list (uv 2)) (blkOk_by (N := nDue) (sc := defScope sDue) (by decide +kernel))
            (fun _ _ _ _ _ => pg_name (i := 9) nd rfl (Or.inl rfl)) (fun _ _ _ _ _ => pts_nil)
            (fun _ _ _ _ _ => pe_ixK (K := K) rfl (uv 4) (pe_callH HL hA hr (by rfl) (pa_cons (uv 0) (pa_cons (uv 3) (pa_cons pe_int (pa_cons (uv 9) pa_nil))))))) pa_nil)) pe_int)))))))), ?_⟩
    obtain ⟨rs, hs', hl', hrow'⟩ := id hrw
    refine ⟨t, _, rfl, .inl (.inl ht), rfl, _, _, rfl, _, _, rfl, rfl, ?_⟩
    refine ⟨r, S, R, rfl, hrw, ok.rows, hasc, by omega, by omega, wh, fun H1 D e1 nD hD => ?_⟩
    have lr : (rs.map V.ref).length = R.length := by rw [List.length_map, hl']
    have hfirst : ∀ i, i < R.length → ((List.range R.length).map fun p => V.str (T (ft S R p)))[i]? = some (.str (T (ft S R i))) := fun i hi => by
      rw [List.getElem?_map, List.getElem?_range hi]; rfl
    dsimp only [tSeq, tAsg, tCB, tCons, gName]
    refine lc_rngF (n := (rs.map V.ref).length) (H1 := H1) (fun R' h => .inl ⟨rs.map V.ref, .inl (.inl (.inl (e1 _ _ hs'))), h⟩) (by omega) (fun D2 i acc H3 => H1 D2 = none ∧ H3 = upd H1 D2 (.lst acc) ∧ acc = lts (smt S R Kd i)) (fun D2 n2 => ⟨n2, rfl, rfl⟩) (fun D2 n2 i acc H3 hi2 h => ?_) (fun D2 n2 acc H3 h => ?_)
    · obtain ⟨_, rfl, rfl⟩ := h
      have e2 : Same H (upd H1 D2 (.lst (lts (smt S R Kd i)))) := e1.trans (same_upd n2)
      have hkd : Kd[i]? = some (Kd.getD i false) := by
        rw [List.getD_eq_getElem?_getD, List.getElem?_eq_getElem (by rw [ok.kinds]; omega)]; rfl
      refine ⟨rfl, Kd.map V.bl, .bl (Kd.getD i false), .inl (.inl (.inl (e2 _ _ hk))), atI_nat (by rw [List.getElem?_map, hkd]; rfl), ?_⟩
      have sm := smt_len (S := S) (R := R) (Kd := Kd) (n := i)
      show (if Kd.getD i false = true then _ else _)
      by_cases hb : Kd.getD i false = true
      · rw [if_pos hb]
        refine ⟨_, _, .inl (.inl (.inl (same_upd n2 _ _ hD))), atI_nat (hfirst i (by omega)), ?_⟩
        exact ⟨_, upd_same, by rw [List.length_map]; omega, _, n2, upd_upd, by rw [smt_succ, if_pos hb, lts_app]⟩
      · rw [if_neg hb]
        exact ⟨_, n2, rfl, by rw [smt_succ, if_neg hb]⟩
    obtain ⟨_, rfl, rfl⟩ := h
    rw [lr]
    have ftl : ∀ x ∈ smt S R Kd R.length, x.length ≤ R.length ∧ ∀ c ∈ x, c < 128 := fun x hx => by
      obtain ⟨e, he, _, rfl⟩ := (smt_mem ok.rows (by omega) wh).mp hx
      exact ⟨fndT_len _ e he, fndT_chr hasc _ e he⟩
    refine ⟨smt S R Kd R.length, .inr (.inl (.inl upd_same)), fun x hx => by have := (ftl x hx).1; omega, (hT.ext e1).ext (same_upd n2), fun H4 x4 t4 O nO => ?_⟩
    have e4 : Ex (T1D Pt) no H H4 := (Ex.same (e1.trans (same_upd n2))).trans (ex_of x4 t4)
    have e5 : Ex (T1D Pt) no H (upd H4 O (.lst (((smt S R Kd R.length).mergeSort (dataLe false encP)).map fun l => .str (T l)))) := e4.trans (Ex.new nO)
    have hD5 : (upd H4 O (.lst (((smt S R Kd R.length).mergeSort (dataLe false encP)).map fun l => .str (T l)))) D = some (.lst ((List.range R.length).map fun p => V.str (T (ft S R p)))) := same_upd nO _ _ (x4 _ _ (same_upd n2 _ _ hD) (fun _ z => nomatch z))
    have hO5 : (upd H4 O (.lst (((smt S R Kd R.length).mergeSort (dataLe false encP)).map fun l => .str (T l)))) O = some (.lst (((smt S R Kd R.length).mergeSort (dataLe false encP)).map fun l => .str (T l))) := upd_same
    have hsort := smt_head (Kd := Kd) (S := S) ok.let_.up ok.rows (by omega) wh
    have hmem : ∀ x ∈ (smt S R Kd R.length).mergeSort (dataLe false encP), x ∈ smt S R Kd R.length := fun x hx => (List.mergeSort_perm _ _).mem_iff.mp hx
    generalize (smt S R Kd R.length).mergeSort (dataLe false encP) = so at e5 hD5 hO5 hsort hmem
    generalize upd H4 O (.lst (so.map fun l => .str (T l))) = H5 at e5 hD5 hO5
    have hr5 := hrw.exn e5
    obtain ⟨rs5, gs', gl', grow'⟩ := id hr5
    have hk5 : H5 kk = some (.lst (Kd.map V.bl)) := e5.lst (fun z => z) hk
    have hT5 : H5 l = some (.lst (lts Ts)) := e5.lst (fun z => z) hTs
    have lr5 : (rs5.map V.ref).length = R.length := by rw [List.length_map, gl']
    clear e4 x4 t4 e1 nD hD n2 nO
    refine .inl ⟨rs5.map V.ref, .inl (.inl (.inl gs')), ?_⟩
    rw [lr5]
    refine ⟨fun v H' => v = oV (ftk S R Kd) ∧ ∃ Z, H5 Z = none ∧ H' = upd H5 Z (.lst []), ?_, fun v H' z => ?_⟩
    · refine ⟨by show 0 ≤ sizeLine; omega, fun Z nZ => ?_⟩
      show eqU _ true (.ref O) (.ref Z) _ _
      refine ⟨.list (so.map encT), .list [], .lst (.inl (.inl (same_upd nZ _ _ hO5))) (dpAll_str so), .lst (.inl (.inl upd_same)) .nil, (flat_strs (ls := so) fun l hl c hc => Nat.lt_trans ((ftl l (hmem l hl)).2 c hc) (by decide)).shaped (by omega), by decide, ?_⟩
      cases so with
      | nil =>
        refine br_of (c := false) (by rfl) (.no ⟨?_, Z, nZ, rfl⟩)
        rw [← hsort]; rfl
      | cons h0 tl =>
        refine br_of (c := true) (by rfl) (.yes ⟨_, .str (T h0), .inl (.inl (.inl (same_upd nZ _ _ hO5))), atI_nat (j := 0) rfl, ?_, Z, nZ, rfl⟩)
        rw [← hsort]; rfl
    obtain ⟨rfl, Z, nZ, rfl⟩ := z
    have e6 := e5.trans (Ex.new (o := .lst []) nZ)
    have s6 : Same H5 (upd H5 Z (.lst [])) := same_upd nZ
    generalize upd H5 Z (.lst []) = H6 at e6 s6
    refine ⟨by show 6 ≤ sizeLine; omega, fun F0 nF => ?_⟩
    have newF := e6.newX nF
    have hF : (upd H6 F0 (.lst [.str (T S), .ref r, .ref kk, .int (R.length : Nat), .ref D, oV (ftk S R Kd)])) F0 = some (.lst [.str (T S), .ref r, .ref kk, .int (R.length : Nat), .ref D, oV (ftk S R Kd)]) := upd_same
    have e7 := e6.trans (Ex.new (o := .lst [.str (T S), .ref r, .ref kk, .int (R.length : Nat), .ref D, oV (ftk S R Kd)]) nF)
    have s7 := s6.trans (same_upd (o := .lst [.str (T S), .ref r, .ref kk, .int (R.length : Nat), .ref D, oV (ftk S R Kd)]) nF)
    have F5 : H5 F0 = none := Same.free s6 nF
    have eF : upd H6 F0 (.lst [.str (T S), .ref r, .ref kk, .int (R.length : Nat), .ref D, oV (ftk S R Kd)]) = upd H6 F0 (.lst [.str (T S), .ref r, .ref kk, .int ((R.length : Nat) : Int), .ref D, oV (ftk S R Kd)]) := rfl
    generalize upd H6 F0 (.lst [.str (T S), .ref r, .ref kk, .int (R.length : Nat), .ref D, oV (ftk S R Kd)]) = H7 at hF e7 s7
    clear eF nF e6 s6 nZ
    refine ⟨.inl ⟨rfl, _, .inl (.inl hF)⟩, ?_⟩
    dsimp only [tCons]
    refine lc_rng (n := R.length) (H1 := H7) (fun R' h => .inl ⟨rs5.map V.ref, .inl (.inl (.inl (s7 _ _ gs'))), by rw [lr5]; exact h⟩) (by omega) (fun D2 i acc H8 => ∃ ls : List Addr, acc = ls.map V.ref ∧ ls.length = i ∧ Same H7 H8 ∧ H8 D2 = some (.lst (ls.map V.ref)) ∧ ∀ j q, ls[j]? = some q → q ≠ D2 ∧ H8 q = some (.lst (iv (Ts.map (led S R j)))))
      (fun D2 n2 => ⟨[], rfl, rfl, same_upd n2, upd_same, fun j q z => (nil_none z).elim⟩) (fun D2 n2 i acc H8 hi2 h => ?_) (fun D2 n2 acc H8 h => ?_)
    · obtain ⟨ls, rfl, rfl, e8, hD8, hls⟩ := h
      refine ⟨rfl, ?_⟩
      refine lc_list (K := K) (a := l) (xs := lts Ts) (H1 := H8) (by exact fun _ h => h) (.inl (.inl ((s7.trans e8) _ _ hT5))) (fun B pre acc H9 => H8 B = none ∧ H9 = upd H8 B (.lst acc) ∧ ∃ us, pre = lts us ∧ acc = iv (us.map (led S R ls.length)))
        (fun B pre acc H9 h => ?_) (fun B nB => ⟨nB, rfl, [], rfl, rfl⟩) (fun B nB pre acc x suf H9 ex h => ?_) (fun B nB acc H9 h => ?_)
      · obtain ⟨n', rfl, _⟩ := h
        exact .inl (.inl (same_upd n' _ _ ((s7.trans e8) _ _ hT5)))
      · obtain ⟨_, rfl, us, rfl, rfl⟩ := h
        obtain ⟨p1, g, q1, eg, ep1, rfl⟩ := split_lts ex
        obtain rfl := lts_inj ep1
        have lu : us.length < 1000 := by
          have := congrArg List.length eg
          rw [List.length_append, List.length_cons] at this
          omega
        refine ⟨rfl, r, ls.length, g, S, R, rfl, hr5.ext ((s7.trans e8).trans (same_upd nB)), ok.let_.up.nodup, ok.rows, hi2, hch g (by rw [eg]; simp), ?_⟩
        exact ⟨_, upd_same, by rw [List.length_map, List.length_map]; omega, _, nB, upd_upd, us ++ [g], by rw [lts_app], by rw [ld_app]⟩
      · obtain ⟨_, rfl, us, eu, rfl⟩ := h
        obtain rfl := lts_inj eu
        have nBD : D2 ≠ B := ne_of_none hD8 nB
        refine ⟨ls.map V.ref, by rw [upd_ne nBD]; exact hD8, by rw [List.length_map]; omega, _, ls ++ [B], rfl, by rw [List.length_append]; rfl, same_upd2 (e8.trans (same_upd nB)) n2, by rw [upd_same, List.map_append]; rfl, fun j q' hq' => ?_⟩
        rcases Nat.lt_or_ge j ls.length with hlt | hge
        · rw [List.getElem?_append_left hlt] at hq'
          obtain ⟨a2, a3⟩ := hls j q' hq'
          exact ⟨a2, by rw [upd_ne a2, upd_ne (ne_of_none a3 nB)]; exact a3⟩
        · rw [List.getElem?_append_right hge] at hq'
          have e9 : j - ls.length = 0 := by
            have := (List.getElem?_eq_some_iff.mp hq').1
            simp at this; omega
          rw [e9] at hq'
          have : B = q' := by simpa using hq'
          subst this
          have : j = ls.length := by omega
          subst this
          exact ⟨nBD.symm, by rw [upd_ne nBD.symm]; exact upd_same⟩
    obtain ⟨ls, rfl, lls, e8, hD8, hls⟩ := h
    have hF8 := e8 _ _ hF
    have nGF : D2 ≠ F0 := fun z => by rw [z, hF] at n2; cases n2
    refine ⟨F0, _, _, rfl, rfl, hF8, by show 6 < sizeLine; omega, ?_⟩
    have e9 : Ex (T1D Pt) no H (upd H8 F0 (.lst ([.str (T S), .ref r, .ref kk, .int (R.length : Nat), .ref D, oV (ftk S R Kd)] ++ [.ref D2]))) := (e7.trans (Ex.same e8)).putN newF hF8 (fun _ z => nomatch z) (fun _ _ z => nomatch z)
    have s9 : Same H5 (upd H8 F0 (.lst ([.str (T S), .ref r, .ref kk, .int (R.length : Nat), .ref D, oV (ftk S R Kd)] ++ [.ref D2]))) := same_upd2 (s7.trans e8) F5
    have hF9 : (upd H8 F0 (.lst ([.str (T S), .ref r, .ref kk, .int (R.length : Nat), .ref D, oV (ftk S R Kd)] ++ [.ref D2]))) F0 = some (.lst [.str (T S), .ref r, .ref kk, .int (R.length : Nat), .ref D, oV (ftk S R Kd), .ref D2]) := upd_same
    have hG9 : RowsL (upd H8 F0 (.lst ([.str (T S), .ref r, .ref kk, .int (R.length : Nat), .ref D, oV (ftk S R Kd)] ++ [.ref D2]))) D2 (ldR S R Ts R.length) := by
      refine ⟨ls, by rw [upd_ne nGF]; exact hD8, by rw [List.length_map, List.length_range]; exact lls, fun i q' hq' => ?_⟩
      have li : i < R.length := by
        have := (List.getElem?_eq_some_iff.mp hq').1
        omega
      obtain ⟨a2, a3⟩ := hls i q' hq'
      have nq : q' ≠ F0 := fun z => by
        subst z
        rw [hF8] at a3
        have := HO.lst.inj (Option.some.inj a3)
        cases hT : Ts with
        | nil => rw [hT] at this; cases this
        | cons _ _ => rw [hT] at this; cases this
      rw [upd_ne nq, gls_range li]; exact a3
    generalize upd H8 F0 (.lst ([.str (T S), .ref r, .ref kk, .int (R.length : Nat), .ref D, oV (ftk S R Kd)] ++ [.ref D2])) = H9 at e9 s9 hF9 hG9
    clear e7 s7 hF hF8 hD8 hls e8 n2 nGF newF F5
    dsimp only [tNext, tRet, tOp, tLst, tCons]
    refine uv_go (v := .ref F0) rfl ?_
    refine lc_list (K := K) (a := l) (xs := lts Ts) (H1 := H9) (by exact fun _ h => h) (.inl (.inl (s9 _ _ hT5))) (fun B pre acc H6 => H9 B = none ∧ H6 = upd H9 B (.lst acc) ∧ ∃ us, pre = lts us ∧ acc = (tkB S R Kd us).map V.bl)
      (fun B pre acc H6 h => ?_) (fun B nB => ⟨nB, rfl, [], rfl, rfl⟩) (fun B nB pre acc x suf H6 ex h => ?_) (fun B nB acc H6 h => ?_)
    · obtain ⟨n', rfl, _⟩ := h
      exact .inl (.inl (same_upd n' _ _ (s9 _ _ hT5)))
    · obtain ⟨_, rfl, us, rfl, rfl⟩ := h
      obtain ⟨p1, g, q1, eg, ep1, rfl⟩ := split_lts ex
      obtain rfl := lts_inj ep1
      have lu : us.length < 1000 := by
        have := congrArg List.length eg
        rw [List.length_append, List.length_cons] at this
        omega
      have hg : ∀ c ∈ g, c ∈ S := hch g (by rw [eg]; simp)
      have lt := led_lt (p := 0) ok.rows (by omega) g hg
      have hkd : Kd[led S R 0 g]? = some (Kd.getD (led S R 0 g) false) := by
        rw [List.getD_eq_getElem?_getD, List.getElem?_eq_getElem (by rw [ok.kinds]; exact lt)]; rfl
      refine ⟨rfl, r, 0, g, S, R, rfl, hr5.ext (s9.trans (same_upd nB)), ok.let_.up.nodup, ok.rows, by omega, hg, ?_⟩
      refine ⟨Kd.map V.bl, .bl (Kd.getD (led S R 0 g) false), .inl (.inl (.inl ((s9.trans (same_upd nB)) _ _ hk5))), atI_nat (by rw [List.getElem?_map, hkd]; rfl), ?_⟩
      exact ⟨_, upd_same, by rw [List.length_map, List.length_map]; omega, _, nB, upd_upd, us ++ [g], by rw [lts_app], by rw [tk_app]⟩
    obtain ⟨_, rfl, us, eu, rfl⟩ := h
    obtain rfl := lts_inj eu
    refine ⟨by show 1 ≤ sizeLine; omega, fun L1 n1 => ?_⟩
    refine ⟨_, upd_same, by decide, by decide, by show 1 * 2 ≤ sizeLine; omega, fun L2 n2 => ?_⟩
    have hF10 := (same_upd (o := .lst ((tkB S R Kd Ts).map V.bl)) nB).trans ((same_upd (o := .lst [V.ref B]) n1).trans (same_upd (o := .lst (List.replicate (2 : Int).toNat [V.ref B]).flatten) n2)) 
    refine ⟨_, _, hF10 _ _ hF9, upd_same, by show 7 + 2 ≤ sizeLine; omega, fun p np => ?_⟩
    have s10 := hF10.trans (same_upd (o := .lst ([.str (T S), .ref r, .ref kk, .int (R.length : Nat), .ref D, oV (ftk S R Kd), .ref D2] ++ (List.replicate (2 : Int).toNat [V.ref B]).flatten)) np)
    refine q _ p (e9.trans (Ex.same s10)) ?_
    have hB10 := ((same_upd (o := .lst [V.ref B]) n1).trans (same_upd (o := .lst (List.replicate (2 : Int).toNat [V.ref B]).flatten) n2)).trans (same_upd (o := .lst ([.str (T S), .ref r, .ref kk, .int (R.length : Nat), .ref D, oV (ftk S R Kd), .ref D2] ++ (List.replicate (2 : Int).toNat [V.ref B]).flatten)) np) _ _ (upd_same (H := H9) (a := B) (o := .lst ((tkB S R Kd Ts).map V.bl)))
    have sZ := s9.trans s10
    refine .lst (.inl (.inl upd_same)) (.cons (.str _) (.cons (dp_rows (hr5.ext sZ)) (.cons (dp_kinds (sZ _ _ hk5)) (.cons (.int _) (.cons (.lst (.inl (.inl (sZ _ _ hD5))) ?_) (.cons (dp_oV _) (.cons (dp_rows (hG9.ext s10)) (.cons (dp_kinds hB10) (.cons (dp_kinds hB10) .nil)))))))))
    exact dpAll_rng
end
end LK

/-! comprehensions over known lists whose body changes nothing: all that was stays -/
namespace LK
open PySem PySem.Spec PyProof.Rows L2 LamX
open scoped List
theorem split_map {α : Type} {enc : α → V} {ls : List α} {pre suf : List V} {x : V} (h : ls.map enc = pre ++ x :: suf) : ∃ p g q, ls = p ++ g :: q ∧ pre = p.map enc ∧ x = enc g := by
  obtain ⟨p, q, e1, e2, e3⟩ := List.map_eq_append_iff.mp h
  obtain ⟨g, q', rfl, rfl, _⟩ := List.map_eq_cons_iff.mp e3
  exact ⟨p, g, q', e1, e2.symm, rfl⟩
section
variable {K : PySem.W.Frag} {g : TG} {te : TE} {σ : L2.St} {H H1 : Hp} {vs : List Nat} {Q : VK} {t : TE} {α : Type} {ls : List α} {enc out : α → V} {a : Addr}
/-- each item comes of one of the list -/
theorem lc_mapS (h : ∀ R : VK, R (.ref a) H1 → t σ H R) (hx : H1 a = some (.lst (ls.map enc))) (hn : ls.length < sizeLine)
    (hs : ∀ H' x, x ∈ ls → Same H1 H' → ∀ Qy : VK, (∀ H'', Same H' H'' → Qy (out x) H'') → g (enc x) (wipe σ vs) H' fun σ2 H2 => wipe σ2 vs = wipe σ vs ∧ te σ2 H2 Qy)
    (he : ∀ D H', H1 D = none → Same H1 H' → H' D = some (.lst (ls.map out)) → Q (.ref D) H') : tLc (iList K t) g tYes te vs σ H Q := by
  refine lc_list (K := K) (a := a) (xs := ls.map enc) (H1 := H1) h (.inl (.inl hx)) (fun D pre acc H' => ∃ p q : List α, ls = p ++ q ∧ pre = p.map enc ∧ acc = p.map out ∧ Same H1 H' ∧ H' D = some (.lst (p.map out)))
    (fun D pre acc H' r => ?_) (fun D nD => ⟨[], ls, rfl, rfl, rfl, same_upd nD, upd_same⟩) (fun D nD pre acc x suf H' ex r => ?_) (fun D nD acc H' r => ?_)
  · obtain ⟨_, _, _, _, _, e, _⟩ := r
    exact .inl (.inl (e _ _ hx))
  · obtain ⟨p, q, el, rfl, rfl, e, hD⟩ := r
    cases q with
    | nil =>
      rw [List.append_nil] at el
      have := congrArg List.length ex
      rw [el, List.length_append, List.length_cons] at this
      omega
    | cons y q =>
      have hy : x = enc y := by
        rw [el, List.map_append] at ex
        have := List.append_cancel_left ex
        exact (List.cons.inj this).1.symm
      subst hy
      refine hs H' y (by rw [el]; simp) e _ fun H'' e2 => ?_
      have lp : p.length < sizeLine := by
        have := congrArg List.length el
        rw [List.length_append, List.length_cons] at this
        omega
      refine ⟨p.map out, e2 _ _ hD, by rw [List.length_map]; exact lp, _, p ++ [y], q, by rw [el]; simp, by rw [List.map_append]; rfl, rfl, same_upd2 (e.trans e2) nD, by rw [upd_same, List.map_append]; rfl⟩
  · obtain ⟨p, q, el, ep, rfl, e, hD⟩ := r
    have : q = [] := by
      have h1 := congrArg List.length ep
      have h2 := congrArg List.length el
      rw [List.length_map, List.length_map] at h1
      rw [List.length_append] at h2
      exact List.eq_nil_of_length_eq_zero (by omega)
    subst this
    rw [List.append_nil] at el
    subst el
    exact he D H' nD e hD
/-- each item is a new object that comes of one of the list -/
theorem lc_refS {o : α → HO} (h : ∀ R : VK, R (.ref a) H1 → t σ H R) (hx : H1 a = some (.lst (ls.map enc))) (hn : ls.length < sizeLine)
    (hs : ∀ H' x, x ∈ ls → Same H1 H' → ∀ Qy : VK, (∀ H'' q, Same H' H'' → H' q = none → H'' q = some (o x) → Qy (.ref q) H'') → g (enc x) (wipe σ vs) H' fun σ2 H2 => wipe σ2 vs = wipe σ vs ∧ te σ2 H2 Qy)
    (he : ∀ (D : Addr) (H' : Hp) (qs : List Addr), H1 D = none → Same H1 H' → H' D = some (.lst (qs.map V.ref)) → qs.length = ls.length → (∀ (i : Nat) (q : Addr) (x : α), qs[i]? = some q → ls[i]? = some x → H1 q = none ∧ q ≠ D ∧ H' q = some (o x)) → qs.Nodup → Q (.ref D) H') : tLc (iList K t) g tYes te vs σ H Q := by
  refine lc_list (K := K) (a := a) (xs := ls.map enc) (H1 := H1) h (.inl (.inl hx)) (fun D pre acc H' => ∃ (p q : List α) (qs : List Addr), ls = p ++ q ∧ pre = p.map enc ∧ acc = qs.map V.ref ∧ qs.length = p.length ∧ Same H1 H' ∧ H' D = some (.lst (qs.map V.ref)) ∧
      (∀ (i : Nat) (q : Addr) (x : α), qs[i]? = some q → p[i]? = some x → H1 q = none ∧ q ≠ D ∧ H' q = some (o x)) ∧ qs.Nodup ∧ ∀ q ∈ qs, H' q ≠ none)
    (fun D pre acc H' r => ?_) (fun D nD => ⟨[], ls, [], rfl, rfl, rfl, rfl, same_upd nD, upd_same, (fun i q x z => (nil_none z).elim), List.Pairwise.nil, (fun q z => nomatch z)⟩) (fun D nD pre acc x suf H' ex r => ?_) (fun D nD acc H' r => ?_)
  · obtain ⟨_, _, _, _, _, _, _, e, _⟩ := r
    exact .inl (.inl (e _ _ hx))
  · obtain ⟨p, q, qs, el, rfl, rfl, lq, e, hD, hq, ndq, hne⟩ := r
    cases q with
    | nil =>
      rw [List.append_nil] at el
      have := congrArg List.length ex
      rw [el, List.length_append, List.length_cons] at this
      omega
    | cons y q =>
      have hy : x = enc y := by
        rw [el, List.map_append] at ex
        have := List.append_cancel_left ex
        exact (List.cons.inj this).1.symm
      subst hy
      refine hs H' y (by rw [el]; simp) e _ fun H'' qn e2 nq hqn => ?_
      have lp : p.length < sizeLine := by
        have := congrArg List.length el
        rw [List.length_append, List.length_cons] at this
        omega
      have nD2 : qn ≠ D := fun z => by rw [z, hD] at nq; cases nq
      refine ⟨qs.map V.ref, e2 _ _ hD, by rw [List.length_map]; omega, _, p ++ [y], q, qs ++ [qn], by rw [el]; simp, by rw [List.map_append]; rfl, rfl, by rw [List.length_append, List.length_append, lq]; rfl, same_upd2 (e.trans e2) nD, by rw [upd_same, List.map_append]; rfl, fun i q' x' hq' hx' => ?_, ?_, fun q' hq' => ?_⟩
      · rcases Nat.lt_or_ge i qs.length with hlt | hge
        · rw [List.getElem?_append_left hlt] at hq'
          rw [List.getElem?_append_left (by omega)] at hx'
          obtain ⟨a1, a2, a3⟩ := hq i q' x' hq' hx'
          exact ⟨a1, a2, by rw [upd_ne a2]; exact e2 _ _ a3⟩
        · rw [List.getElem?_append_right hge] at hq'
          rw [List.getElem?_append_right (by omega)] at hx'
          have e6 : i - qs.length = 0 := by
            have := (List.getElem?_eq_some_iff.mp hq').1
            simp at this; omega
          rw [e6] at hq'
          rw [show i - p.length = 0 by omega] at hx'
          have : qn = q' := by simpa using hq'
          subst this
          have : y = x' := by simpa using hx'
          subst this
          exact ⟨Same.free e nq, nD2, by rw [upd_ne nD2]; exact hqn⟩
      · refine List.nodup_append.mpr ⟨ndq, by simp, fun x hx y hy e => ?_⟩
        simp at hy; subst hy; subst e
        exact hne _ hx nq
      · by_cases e9 : q' = D
        · subst e9; rw [upd_same]; exact fun z => nomatch z
        · rw [upd_ne e9]
          rcases List.mem_append.mp hq' with h | h
          · intro z
            cases h2 : H' q' with
            | none => exact hne _ h h2
            | some u => rw [e2 _ _ h2] at z; cases z
          · simp at h; subst h; rw [hqn]; exact fun z => nomatch z
  · obtain ⟨p, q, qs, el, ep, rfl, lq, e, hD, hq, ndq, _⟩ := r
    have : q = [] := by
      have h1 := congrArg List.length ep
      have h2 := congrArg List.length el
      rw [List.length_map, List.length_map] at h1
      rw [List.length_append] at h2
      exact List.eq_nil_of_length_eq_zero (by omega)
    subst this
    rw [List.append_nil] at el
    subst el
    exact he D H' qs nD e hD lq hq ndq
end
end LK

/-! k14: _law_told -/
namespace LK
open PySem PySem.Spec PyProof.Rows L2 LamX ClX
open scoped List
theorem rgV_iv (n : Nat) : rgV 0 (n : Int) = iv (List.range n) := by
  unfold rgV
  show (List.range ((n : Int) - 0).toNat).map _ = _
  rw [show ((n : Int) - 0).toNat = n by omega]
  exact List.map_congr_left fun i _ => by simp
theorem split_rng {n : Nat} {pre suf : List V} {x : V} (h : iv (List.range n) = pre ++ x :: suf) : ∃ i, i < n ∧ pre = iv (List.range i) ∧ x = .int (i : Nat) := by
  obtain ⟨p, g, q, e, rfl, rfl⟩ := split_iv h
  have hl : p.length < n := by
    have := congrArg List.length e
    rw [List.length_range, List.length_append, List.length_cons] at this
    omega
  have hg : (List.range n)[p.length]? = some g := by rw [e]; simp
  rw [List.getElem?_range hl] at hg
  have hp : (List.range n).take p.length = p := by rw [e]; simp
  rw [List.take_range, Nat.min_eq_left (by omega)] at hp
  refine ⟨p.length, hl, by rw [hp], by rw [Option.some.inj hg]⟩
abbrev nTold : List Str := ["_law_rig_here", "_law_texts_here", "_law_places", "_law_found", "_law_place", "_law_text"]
theorem scTold : FnScope nTold ["_law_rig_here", "_law_texts_here"] (defScope sTold) := ⟨rfl, rfl, rfl, by decide +kernel, rfl, by decide +kernel, by decide +kernel⟩
abbrev scT1 : Scope := { kind := .function, names := [(".0", .local), ("_law_place", .cell), ("_law_rig_here", .free), ("_law_texts_here", .free)], isGenerator := false, isCoroutine := false }
section
variable {P : Program} {w : World} {K : PySem.W.Frag} {mg : Str → Option Value} {base : Heap} {C : Addr}
def spTold (C : Addr) (K : PySem.W.Frag) : Sp := fun vs H Q _ => ∃ (a l : Addr) (S : List Nat) (R : Rows) (Kd : List Bool) (Ts : List (List Nat)), vs = [.ref a, .ref l] ∧ Mach C H a S R Kd ∧ ShOk S R Kd ∧ Whole R ∧ H l = some (.lst (lts Ts)) ∧ (∀ x ∈ Ts, x.length ≤ 1000000 ∧ ∀ c ∈ x, c ∈ S) ∧ Ts.length ≤ 1000 ∧
  ∀ H' p, Same H H' → Dp K H' (.ref p) (dueD S R Kd Ts) → Q (.ref p) H'
theorem ok_told {f : Addr} {fd : FuncData} {k : Nat} (F : Fun K "_law_told" "_law_told" sTold f fd) (M : Mx mg) (cM : ClsM K C) (HL : HasP P w K mg base k C "letters" (getSp C "_letters")) (HR : HasM P w K mg base (k + 1) C "rows" [] (spRows C)) (HK : HasM P w K mg base (k + 1) C "kinds" [] (spKinds C))
    (HN : HasM P w K mg base k C "__len__" [] (spLen C)) (HFt : HasM P w K mg base (k + 1) C "first_text" ["place"] (spFirstText C)) (HFk : HasM P w K mg base (k + 1) C "first_taken" [] (spFirstTaken C))
    (HG : HasM P w K mg base (k + 1) C "goes" ["place", "text"] (spGoes C)) (HT : HasM P w K mg base (k + 1) C "takes" ["text"] (spTakes C)) (HI : HasM P w K mg base (k + 1) C "__contains__" ["value"] (spHas K C)) :
    FnG P w K mg base CX0 (k + 2) f fd ["_law_rig_here", "_law_texts_here"] (spTold C K) := by
  refine okG F scTold (fun vs H Q E h => ?_) (fun cdv A hA outer s H vs Q E hr h => ?_)
  · obtain ⟨a, l, S, R, Kd, Ts, rfl, _⟩ := h; rfl
  · obtain ⟨a, l, S, R, Kd, Ts, rfl, mm, ok, wh, hTs, hch, hTn, q⟩ := h
    have nd := scTold.nd
    have sl := sizeLine_eq
    have hlo := ok.lo
    have hhi := ok.hi
    refine ⟨_, pss_cons (ps_set (i := 2) nd rfl (.inl rfl) (pe_listRg rfl (by rfl) M.list (prg_1 (by rfl) M.range (pe_callB c_len (by rfl) M.len b_len (pa_cons (pe_mH0 HR cM.cls hA hr (uv 0)) pa_nil)))))
      (pss_cons (ps_set (i := 3) nd rfl (.inl rfl) (pe_lst (pa_cons (pe_propH HL cM.cls hr (uv 0)) (pa_cons (pe_mH0 HR cM.cls hA hr (uv 0)) (pa_cons (pe_mH0 HK cM.cls hA hr (uv 0)) (pa_cons (pe_callB (c_lenI HN hA hr) (by rfl) M.len b_len (pa_cons (uv 0) pa_nil))
          (pa_cons (pe_lc (own := [("_law_place", 4)]) (g := gName 4) (tt := tYes) rfl nd (pi_list (uv 2)) (blkOk_by (N := nTold) (sc := defScope sTold) (by decide +kernel))
            (fun _ _ _ _ _ => pg_name (i := 4) nd rfl (Or.inl rfl)) (fun _ _ _ _ _ => pts_nil) (fun _ _ _ _ _ => pe_mH HFt cM.cls hA hr (uv 0) (pa_cons (uv 4) pa_nil))) pa_nil)))))))
      (pss_cons (ps_expr (pe_bm PySem.F.plainAttrs_list PySem.F.slot_list_append PySem.F.type_list_append mt_append (uv 3) (pa_cons (pe_mH0 HFk cM.cls hA hr (uv 0)) pa_nil)))
      (pss_cons (ps_expr (pe_bm PySem.F.plainAttrs_list PySem.F.slot_list_append PySem.F.type_list_append mt_append (uv 3)
          (pa_cons (pe_lc (own := [("_law_place", 4)]) (g := gName 4) (tt := tYes) rfl nd (pi_list (uv 2)) (blkOk_by (N := nTold) (sc := defScope sTold) (by decide +kernel))
            (fun _ _ _ _ _ => pg_name (i := 4) nd rfl (Or.inr rfl)) (fun _ _ _ _ _ => pts_nil)
            (fun _ _ _ _ _ => pe_lc (own := [("_law_text", 5)]) (g := gName 5) (tt := tYes) rfl nd (pi_listK (K := K) rfl (uv 1)) (blkOk_in (N := nTold) (sc := scT1) (by decide +kernel))
              (fun _ _ _ _ _ => pg_name (i := 5) nd rfl (Or.inl rfl)) (fun _ _ _ _ _ => pts_nil) (fun _ _ _ _ _ => pe_mH HG cM.cls hA hr (uv 0) (pa_cons (uv 4) (pa_cons (uv 5) pa_nil))))) pa_nil)))
      (pss_one (ps_ret (pe_op o_add (uv 3) (pe_lst (pa_cons (pe_lc (own := [("_law_text", 5)]) (g := gName 5) (tt := tYes) rfl nd (pi_list (uv 1)) (blkOk_by (N := nTold) (sc := defScope sTold) (by decide +kernel))
            (fun _ _ _ _ _ => pg_name (i := 5) nd rfl (Or.inl rfl)) (fun _ _ _ _ _ => pts_nil) (fun _ _ _ _ _ => pe_mH HT cM.cls hA hr (uv 0) (pa_cons (uv 5) pa_nil)))
          (pa_cons (pe_lc (own := [("_law_text", 5)]) (g := gName 5) (tt := tYes) rfl nd (pi_list (uv 1)) (blkOk_by (N := nTold) (sc := defScope sTold) (by decide +kernel))
            (fun _ _ _ _ _ => pg_name (i := 5) nd rfl (Or.inl rfl)) (fun _ _ _ _ _ => pts_nil) (fun _ _ _ _ _ => pe_cu (r := inI C (spHas K C) false) (o_inI HI hA hr) (uv 5) (uv 0))) pa_nil))))))))), ?_⟩
    obtain ⟨dx, r, kk, rs, h1, h2, h3, h4, h5⟩ := id mm
    have nof : ∀ {m : Str}, (m == ("_letters" : Str)) = false → (m == ("_rows" : Str)) = false → (m == ("_kinds" : Str)) = false → (mf3 S r kk).lookup m = none := fun a b c => mf_none a b c
    refine ⟨dx, _, h1, mf_none (by decide +kernel) (by decide +kernel) (by decide +kernel), a, S, R, Kd, rfl, mm, by omega, fun H1 p1 ls1 e1 np1 hp1 hl1 _ _ => ?_⟩
    refine .inl ⟨_, .inl (.inl (.inl hp1)), ?_⟩
    rw [List.length_map, hl1]
    refine ⟨_, rfl, .of_le (by omega) (by omega) (by omega) (by omega), fun L nL => ?_⟩
    rw [rgV_iv]
    have eL : Same H (upd H1 L (.lst (iv (List.range R.length)))) := e1.trans (same_upd nL)
    have hL : (upd H1 L (.lst (iv (List.range R.length)))) L = some (.lst (iv (List.range R.length))) := upd_same
    generalize upd H1 L (.lst (iv (List.range R.length))) = H2 at eL hL
    clear e1 np1 hp1 hl1 nL
    have m2 := mm.ext eL
    refine ⟨a, dx, _, rfl, eL _ _ h1, ⟨a, dx, _, .str (T S), rfl, eL _ _ h1, rfl, ?_⟩⟩
    refine ⟨dx, _, eL _ _ h1, mf_none (by decide +kernel) (by decide +kernel) (by decide +kernel), a, S, R, Kd, rfl, m2, by omega, fun H3 p3 ls3 e3 np3 hp3 hl3 hq3 _ => ?_⟩
    have e13 := eL.trans e3
    refine ⟨dx, _, e13 _ _ h1, mf_none (by decide +kernel) (by decide +kernel) (by decide +kernel), a, S, R, Kd, rfl, mm.ext e13, fun p4 np4 => ?_⟩
    have e34 := e3.trans (same_upd (o := .lst (Kd.map V.bl)) np4)
    have hr4 : RowsL (upd H3 p4 (.lst (Kd.map V.bl))) p3 R := RowsL.ext ⟨ls3, hp3, hl3, fun i q hq => (hq3 i q hq).2.2⟩ (same_upd np4)
    have hk4 : (upd H3 p4 (.lst (Kd.map V.bl))) p4 = some (.lst (Kd.map V.bl)) := upd_same
    generalize upd H3 p4 (.lst (Kd.map V.bl)) = H4 at e34 hr4 hk4
    clear e13 e3 np3 hp3 hl3 hq3 np4
    have e4 := eL.trans e34
    have hL4 := e34 _ _ hL
    refine ⟨dx, _, e4 _ _ h1, a, S, R, Kd, rfl, mm.ext e4, R.length, rfl, by omega, ?_⟩
    refine lc_mapS (K := K) (α := Nat) (enc := fun g => .int (g : Int)) (out := fun p => .str (T (ft S R p))) (ls := List.range R.length) (a := L) (H1 := H4) (fun R' h => h) hL4 (by rw [List.length_range]; omega) (fun H' x hx e Qy hq => ?_) (fun D H' nD e hD => ?_)
    · have ex := e4.trans e
      exact ⟨rfl, dx, _, ex _ _ h1, mf_none (by decide +kernel) (by decide +kernel) (by decide +kernel), a, x, S, R, Kd, rfl, mm.ext ex, ok, wh, List.mem_range.mp hx, hq⟩
    refine ⟨by show 5 ≤ sizeLine; omega, fun F0 nF => ?_⟩
    have e5 := e4.trans e
    have FH : H F0 = none := Same.free e5 nF
    have s5 := e.trans (same_upd (o := .lst [.str (T S), .ref p3, .ref p4, .int (R.length : Nat), .ref D]) nF)
    have hD5 := same_upd (o := .lst [.str (T S), .ref p3, .ref p4, .int (R.length : Nat), .ref D]) nF _ _ hD
    have hF5 : (upd H' F0 (.lst [.str (T S), .ref p3, .ref p4, .int (R.length : Nat), .ref D])) F0 = some (.lst [.str (T S), .ref p3, .ref p4, .int (R.length : Nat), .ref D]) := upd_same
    generalize upd H' F0 (.lst [.str (T S), .ref p3, .ref p4, .int (R.length : Nat), .ref D]) = H5 at s5 hD5 hF5
    have F4 : H4 F0 = none := Same.free e nF
    clear e nF e5 hD
    refine ⟨.inl ⟨rfl, _, .inl (.inl hF5)⟩, ?_⟩
    have e5 := e4.trans s5
    refine ⟨dx, _, e5 _ _ h1, mf_none (by decide +kernel) (by decide +kernel) (by decide +kernel), a, S, R, Kd, rfl, mm.ext e5, ok, fun H6 e6 => ?_⟩
    refine ⟨F0, _, _, rfl, rfl, e6 _ _ hF5, by show 5 < sizeLine; omega, ?_⟩
    have nDF : D ≠ F0 := fun z => by
      rw [z, hF5] at hD5
      have l5 := congrArg List.length (HO.lst.inj (Option.some.inj hD5))
      rw [List.length_map, List.length_range] at l5
      have l5 : R.length = 5 := l5.symm
      have := congrArg (fun l : List V => l[1]?) (HO.lst.inj (Option.some.inj hD5))
      simp only [List.getElem?_map] at this
      rw [List.getElem?_range (by omega)] at this
      exact nomatch (Option.some.inj this)
    have s7 : Same H4 (upd H6 F0 (.lst ([.str (T S), .ref p3, .ref p4, .int (R.length : Nat), .ref D] ++ [oV (ftk S R Kd)]))) := same_upd2 (s5.trans e6) F4
    have hD7 : (upd H6 F0 (.lst ([.str (T S), .ref p3, .ref p4, .int (R.length : Nat), .ref D] ++ [oV (ftk S R Kd)]))) D = some (.lst ((List.range R.length).map fun p => V.str (T (ft S R p)))) := by rw [upd_ne nDF]; exact e6 _ _ hD5
    have hF7 : (upd H6 F0 (.lst ([.str (T S), .ref p3, .ref p4, .int (R.length : Nat), .ref D] ++ [oV (ftk S R Kd)]))) F0 = some (.lst [.str (T S), .ref p3, .ref p4, .int (R.length : Nat), .ref D, oV (ftk S R Kd)]) := upd_same
    generalize upd H6 F0 (.lst ([.str (T S), .ref p3, .ref p4, .int (R.length : Nat), .ref D] ++ [oV (ftk S R Kd)])) = H7 at s7 hD7 hF7
    clear e6 hD5 hF5 s5 e5
    refine ⟨.inl ⟨rfl, _, .inl (.inl hF7)⟩, ?_⟩
    have e7 := e4.trans s7
    dsimp only [tCons]
    refine lc_refS (K := K) (α := Nat) (enc := fun g => .int (g : Int)) (o := fun p => .lst (iv (Ts.map (led S R p)))) (ls := List.range R.length) (a := L) (H1 := H7) (fun R' h => h) (s7 _ _ hL4) (by rw [List.length_range]; omega) (fun H' x hx e Qy hq => ?_) (fun G H8 qs nG e8 hG lqs hqs _ => ?_)
    · refine ⟨rfl, ?_⟩
      have ex := e7.trans e
      refine lc_mapS (K := K) (α := List Nat) (enc := fun t => .str (T t)) (out := fun t => .int (led S R x t : Nat)) (ls := Ts) (a := l) (H1 := H') (fun R' h => h) (ex _ _ hTs) (by omega) (fun H'' t ht e2 Qy2 hq2 => ?_) (fun B H'' nB e2 hB => ?_)
      · have ey := ex.trans e2
        exact ⟨rfl, dx, _, ey _ _ h1, mf_none (by decide +kernel) (by decide +kernel) (by decide +kernel), a, x, t, S, R, Kd, rfl, mm.ext ey, ok.mok, List.mem_range.mp hx, (hch t ht).2, (hch t ht).1, hq2⟩
      · exact hq _ B e2 nB (by rw [hB]; show _ = some (HO.lst (List.map _ (List.map _ Ts))); rw [List.map_map]; rfl)
    have nGF : G ≠ F0 := fun z => by rw [z, hF7] at nG; cases nG
    refine ⟨F0, _, _, rfl, rfl, e8 _ _ hF7, by show 6 < sizeLine; omega, ?_⟩
    have s9 : Same H4 (upd H8 F0 (.lst ([.str (T S), .ref p3, .ref p4, .int (R.length : Nat), .ref D, oV (ftk S R Kd)] ++ [.ref G]))) := same_upd2 (s7.trans e8) F4
    have hD9 : (upd H8 F0 (.lst ([.str (T S), .ref p3, .ref p4, .int (R.length : Nat), .ref D, oV (ftk S R Kd)] ++ [.ref G]))) D = some (.lst ((List.range R.length).map fun p => V.str (T (ft S R p)))) := by rw [upd_ne nDF]; exact e8 _ _ hD7
    have hG9 : RowsL (upd H8 F0 (.lst ([.str (T S), .ref p3, .ref p4, .int (R.length : Nat), .ref D, oV (ftk S R Kd)] ++ [.ref G]))) G (ldR S R Ts R.length) := by
      refine ⟨qs, by rw [upd_ne nGF]; exact hG, by rw [List.length_map]; exact lqs, fun i q' hq' => ?_⟩
      have li : i < R.length := by
        have := (List.getElem?_eq_some_iff.mp hq').1
        rw [lqs, List.length_range] at this; exact this
      obtain ⟨a1, a2, a3⟩ := hqs i q' i hq' (List.getElem?_range li)
      have nq : q' ≠ F0 := fun z => by rw [z, hF7] at a1; cases a1
      rw [upd_ne nq, gls_range li]; exact a3
    have hF9 : (upd H8 F0 (.lst ([.str (T S), .ref p3, .ref p4, .int (R.length : Nat), .ref D, oV (ftk S R Kd)] ++ [.ref G]))) F0 = some (.lst [.str (T S), .ref p3, .ref p4, .int (R.length : Nat), .ref D, oV (ftk S R Kd), .ref G]) := upd_same
    generalize upd H8 F0 (.lst ([.str (T S), .ref p3, .ref p4, .int (R.length : Nat), .ref D, oV (ftk S R Kd)] ++ [.ref G])) = H9 at s9 hD9 hG9 hF9
    clear e8 hG hqs nG nGF e7 s7 hD7 hF7
    have e9 := e4.trans s9
    dsimp only [tNext, tRet, tOp, tLst, tCons]
    refine uv_go (v := .ref F0) rfl ?_
    refine lc_mapS (K := K) (α := List Nat) (enc := fun t => .str (T t)) (out := fun t => .bl (Kd.getD (led S R 0 t) false)) (ls := Ts) (a := l) (H1 := H9) (fun R' h => h) (e9 _ _ hTs) (by omega) (fun H'' t ht e2 Qy2 hq2 => ?_) (fun B1 H10 nB1 e10 hB1 => ?_)
    · have ey := e9.trans e2
      exact ⟨rfl, dx, _, ey _ _ h1, mf_none (by decide +kernel) (by decide +kernel) (by decide +kernel), a, t, S, R, Kd, rfl, mm.ext ey, ok.mok, (hch t ht).2, (hch t ht).1, hq2⟩
    have e910 := e9.trans e10
    refine lc_mapS (K := K) (α := List Nat) (enc := fun t => .str (T t)) (out := fun t => .bl (Kd.getD (led S R 0 t) false)) (ls := Ts) (a := l) (H1 := H10) (fun R' h => h) (e910 _ _ hTs) (by omega) (fun H'' t ht e2 Qy2 hq2 => ?_) (fun B2 H11 nB2 e11 hB2 => ?_)
    · have ey := e910.trans e2
      refine ⟨rfl, ?_⟩
      refine ⟨dx, _, ey _ _ h1, a, .str (T t), S, R, Kd, rfl, mm.ext ey, ok.mok, .inl ⟨t, rfl, (hch t ht).1, fun H3 e3 => ⟨_, rfl, ?_⟩⟩⟩
      have := hq2 H3 e3
      rw [decide_eq_true (hch t ht).2, Bool.true_and]
      exact this
    refine ⟨by show 2 ≤ sizeLine; omega, fun L1 n1 => ?_⟩
    have s11 := e10.trans e11
    have s12 := s11.trans (same_upd (o := .lst [V.ref B1, V.ref B2]) n1)
    refine ⟨_, _, s12 _ _ hF9, upd_same, by show 7 + 2 ≤ sizeLine; omega, fun p np => ?_⟩
    have s13 := s12.trans (same_upd (o := .lst ([.str (T S), .ref p3, .ref p4, .int (R.length : Nat), .ref D, oV (ftk S R Kd), .ref G] ++ [V.ref B1, V.ref B2])) np)
    have sE := (same_upd (o := .lst [V.ref B1, V.ref B2]) n1).trans (same_upd (o := .lst ([.str (T S), .ref p3, .ref p4, .int (R.length : Nat), .ref D, oV (ftk S R Kd), .ref G] ++ [V.ref B1, V.ref B2])) np)
    have sZ := s9.trans s13
    have tkv : (Ts.map fun t => V.bl (Kd.getD (led S R 0 t) false)) = (tkB S R Kd Ts).map V.bl := by unfold tkB; rw [List.map_map]; rfl
    rw [tkv] at hB1 hB2
    refine q _ p (e4.trans sZ) ?_
    exact .lst (.inl (.inl upd_same)) (.cons (.str _) (.cons (dp_rows (hr4.ext sZ)) (.cons (dp_kinds (sZ _ _ hk4)) (.cons (.int _) (.cons (.lst (.inl (.inl (s13 _ _ hD9))) dpAll_rng) (.cons (dp_oV _) (.cons (dp_rows (hG9.ext s13)) (.cons (dp_kinds ((e11.trans sE) _ _ hB1)) (.cons (dp_kinds (sE _ _ hB2)) .nil)))))))))
end
end LK

/-! k14: _law_by_names_right -/
namespace LK
open PySem PySem.Spec PyProof.Rows L2 LamX ClX
open scoped List
theorem notFirst_self {K : PySem.W.Frag} {C : Addr} : PySem.W.notFirst K C (.ref C) = true := by
  unfold PySem.W.notFirst; simp
theorem flat_row (l : List Nat) : Flat 1 (encR l) := flat_list fun d hd => by
  obtain ⟨g, _, rfl⟩ := List.mem_map.mp hd
  exact flat_int _
theorem dp_row {K : PySem.W.Frag} {H : Hp} {a : Addr} {l : List Nat} (h : H a = some (.lst (iv l))) : Dp K H (.ref a) (encR l) := .lst (.inl (.inl h)) (dpAll_rows.dpAll_ints l)
theorem row_same (l : List Nat) : PyData.eqv (encR l) (encR l) = true := eqv_row.mpr rfl
abbrev nNames : List Str := ["_law_signs", "_law_sheet_here", "_law_rig_here", "_law_place", "_law_row", "_law_sign", "_law_goal", "_law_told_here"]
theorem scNames : FnScope nNames ["_law_signs", "_law_sheet_here", "_law_rig_here"] (defScope sNames) := ⟨rfl, rfl, rfl, by decide +kernel, rfl, by decide +kernel, by decide +kernel⟩
section
variable {P : Program} {w : World} {K : PySem.W.Frag} {mg : Str → Option Value} {base : Heap} {C : Addr}
def spTwo3 (C : Addr) : Sp := fun vs H Q _ => ∃ (t a : Addr) (S : List Nat) (R : Rows) (Kd : List Bool), vs = [.str (T S), .ref t, .ref a] ∧ SheetAt H t R Kd ∧ ShOk S R Kd ∧ Whole R ∧ Mach C H a S R Kd ∧ ∀ H', Same H H' → Q (.bl true) H'
theorem ok_names {f : Addr} {fd : FuncData} {k : Nat} (F : Fun K "_law_by_names_right" "_law_by_names_right" sNames f fd) (M : Mx mg) (cM : ClsM K C) (iM : IsM K C) (cE : EqC K C) (HQ : HasM P w K mg base k C "__eq__" ["other"] (spEq K C))
    (HL : HasM P w K mg base (k + 1) C "goal" ["place", "letter"] (spGoal C)) (HG : HasM P w K mg base (k + 1) C "goes" ["place", "text"] (spGoes C)) (HT : HasM P w K mg base (k + 1) C "takes" ["text"] (spTakes C))
    (HFt : HasM P w K mg base (k + 1) C "first_text" ["place"] (spFirstText C)) (HAt : HasM P w K mg base (k + 1) C "at" ["place"] (spAt C)) :
    FnG P w K mg base CX0 (k + 2) f fd ["_law_signs", "_law_sheet_here", "_law_rig_here"] (spTwo3 C) := by
  refine okG F scNames (fun vs H Q E h => ?_) (fun cdv A hA outer s H vs Q E hr h => ?_)
  · obtain ⟨t, a, S, R, Kd, rfl, _⟩ := h; rfl
  · obtain ⟨t, a, S, R, Kd, rfl, ⟨r, kk, ht, hrw, hk⟩, ok, wh, mm, q⟩ := h
    have nd := scNames.nd
    have sl := sizeLine_eq
    have hu := Room.u64 hr
    have hlo := ok.lo
    have hhi := ok.hi
    refine ⟨_, pss_cons (ps_for PassesOwn.never rfl (pi_enumB (by rfl) M.enumerate (pa_cons (pe_ixU (uv 1) pe_int) pa_nil)) (pg_tup rfl (pgs_cons (pg_name (i := 3) nd rfl (.inl rfl)) (pgs_cons (pg_name (i := 4) nd rfl (.inl rfl)) pgs_nil)))
        (pss_cons (ps_for PassesOwn.never rfl (pi_zipSL (by rfl) M.zip (pa_cons (uv 0) (pa_cons (uv 4) pa_nil))) (pg_tup rfl (pgs_cons (pg_name (i := 5) nd rfl (.inl rfl)) (pgs_cons (pg_name (i := 6) nd rfl (.inl rfl)) pgs_nil)))
          (pss_cons (ps_set (i := 7) nd rfl (.inl rfl) (pe_lst (pa_cons (pe_mH HL cM.cls hA hr (uv 2) (pa_cons (uv 3) (pa_cons (uv 5) pa_nil)))
              (pa_cons (pe_mHK (ks := ["letter", "place"]) (rv := true) HL cM.cls hA hr (uv 2) (pk_cons (uv 5) (pk_cons (uv 3) pk_nil)) (by rfl) (.inr ⟨by rfl, rfl⟩))
              (pa_cons (pe_mHK (ks := ["text", "place"]) (rv := true) HG cM.cls hA hr (uv 2) (pk_cons (uv 5) (pk_cons (uv 3) pk_nil)) (by rfl) (.inr ⟨by rfl, rfl⟩)) pa_nil)))))
          (pss_one (ps_ifU (pt_cl (PW.pt (pw_orU (pt_cu (o_ne hu) (uv 7) (pe_op o_mul (pe_lst (pa_cons (uv 6) pa_nil)) pe_int))
              (pw_or1 (pt_cu (o_ne hu) (pe_mHK (ks := ["text"]) (rv := false) HT cM.cls hA hr (uv 2) (pk_cons (ustr []) pk_nil) (by rfl) (.inl ⟨by rfl, rfl⟩)) (pe_ixU (pe_ixU (uv 1) pe_int) pe_int)))))) (pss_one (ps_ret pe_bl)) pss_nil))))
        (pss_one (ps_ifU (pt_cl (PW.pt (pw_orU (pt_cu (o_ne hu) (pe_mHK (ks := ["place"]) (rv := false) HFt cM.cls hA hr (uv 2) (pk_cons (uv 3) pk_nil) (by rfl) (.inl ⟨by rfl, rfl⟩)) (pe_mH HFt cM.cls hA hr (uv 2) (pa_cons (uv 3) pa_nil)))
              (pw_or1 (pt_cu (o_neI HQ cE hA hr) (pe_mHK (ks := ["place"]) (rv := false) HAt cM.cls hA hr (uv 2) (pk_cons (uv 3) pk_nil) (by rfl) (.inl ⟨by rfl, rfl⟩)) (pe_mH HAt cM.cls hA hr (uv 2) (pa_cons (uv 3) pa_nil))))))) (pss_one (ps_ret pe_bl)) pss_nil))))
      (pss_one (ps_ret pe_bl)), ?_⟩
    obtain ⟨rs, hs', hl', hrow'⟩ := id hrw
    obtain ⟨dx, r0, k0, rs0, h1, _⟩ := id mm
    dsimp only [tSeq]
    refine for_enB (K := K) (tp := false) (a := r) (xs := rs.map V.ref) (H1 := H) (fun R' h => ⟨[.ref r, .ref kk], .ref r, .inr (.inl (.inl ht)), rfl, h⟩) (.inl (.inl hs')) (fun i σ H2 => Same H H2 ∧ ∃ y3 y4 y5 y6 y7, σ = [some (.str (T S)), some (.ref t), some (.ref a), y3, y4, y5, y6, y7]) (fun i σ H2 iv => .inl (.inl (iv.1 _ _ hs'))) ⟨Same.refl _, none, none, none, none, none, rfl⟩ (fun i x p2 σ H2 hx iv np2 => ?_) (fun σ H2 iv => ?_)
    · obtain ⟨e2, y3, y4, y5, y6, y7, rfl⟩ := iv
      rw [List.getElem?_map] at hx
      obtain ⟨qa, hqa, rfl⟩ := Option.map_eq_some_iff.mp hx
      have li : i < R.length := by
        have := (List.getElem?_eq_some_iff.mp hqa).1
        omega
      have e3 := e2.trans (same_upd (o := .tup [.int (i : Nat), .ref qa]) np2)
      refine ⟨p2, _, rfl, .inl (.inl upd_same), rfl, _, _, rfl, _, _, rfl, rfl, ?_⟩
      generalize upd H2 p2 (.tup [.int (i : Nat), .ref qa]) = H3 at e3
      have hrow := hrow' i qa hqa
      have lg := gls_len ok.rows li
      dsimp only [tSeq]
      refine for_zipSL (K := K) (l := S) (b := qa) (ys := iv (gls R i)) (H1 := H3) (by exact fun _ h => h) (fun c hc => ok.let_.sm.asc c hc) (by rw [List.length_map, lg])
        (fun n σ H4 => Same H H4 ∧ ∃ y5 y6 y7, σ = [some (.str (T S)), some (.ref t), some (.ref a), some (.int (i : Nat)), some (.ref qa), y5, y6, y7]) ⟨e3, _, _, _, rfl⟩ (fun n σ H4 h => .inl (.inl (h.1 _ _ hrow))) (fun n c y pr σ H4 hc hy h npr => ?_) (fun σ H4 h => ?_)
      · obtain ⟨e4, y5, y6, y7, rfl⟩ := h
        rw [List.getElem?_map] at hy
        obtain ⟨g, hg, rfl⟩ := Option.map_eq_some_iff.mp hy
        have e5 := e4.trans (same_upd (o := .tup [.str (T [c]), .int (g : Nat)]) npr)
        refine ⟨pr, _, rfl, .inl (.inl upd_same), rfl, _, _, rfl, _, _, rfl, rfl, ?_⟩
        generalize upd H4 pr (.tup [.str (T [c]), .int (g : Nat)]) = H5 at e5
        have hcS : c ∈ S := List.mem_of_getElem? hc
        have hix : S.idxOf c = n := by
          obtain ⟨a1, a2⟩ := List.getElem?_eq_some_iff.mp hc
          rw [← a2]; exact ok.let_.up.nodup.idxOf_getElem n a1
        have hgd : (gls R i).getD (S.idxOf c) 0 = g := by rw [hix, List.getD_eq_getElem?_getD, hg]; rfl
        have hgd2 : led S R i [c] = g := hgd
        refine ⟨dx, _, e5 _ _ h1, mf_none (by decide +kernel) (by decide +kernel) (by decide +kernel), a, i, c, S, R, Kd, rfl, mm.ext e5, ok.mok, li, hcS, ?_⟩
        rw [hgd]
        refine ⟨dx, _, e5 _ _ h1, mf_none (by decide +kernel) (by decide +kernel) (by decide +kernel), rfl, a, i, c, S, R, Kd, rfl, mm.ext e5, ok.mok, li, hcS, ?_⟩
        rw [hgd]
        refine ⟨dx, _, e5 _ _ h1, mf_none (by decide +kernel) (by decide +kernel) (by decide +kernel), rfl, a, i, [c], S, R, Kd, rfl, mm.ext e5, ok.mok, li, (fun x hx => by simp at hx; rw [hx]; exact hcS), by show 1 ≤ 1000000; omega, fun H6 e6 => ?_⟩
        rw [hgd2]
        refine ⟨by show 3 ≤ sizeLine; omega, fun L nL => ?_⟩
        have e7 := (e5.trans e6).trans (same_upd (o := .lst (iv [g, g, g])) nL)
        have hL : (upd H6 L (.lst [.int (g : Nat), .int (g : Nat), .int (g : Nat)])) L = some (.lst (iv [g, g, g])) := upd_same
        have e7 : Same H (upd H6 L (.lst [.int (g : Nat), .int (g : Nat), .int (g : Nat)])) := e7
        generalize upd H6 L (.lst [.int (g : Nat), .int (g : Nat), .int (g : Nat)]) = H7 at hL e7
        refine ⟨fun b H' => b = false ∧ Same H H', ?_, fun b H' z => ?_⟩
        · refine ⟨by show 1 ≤ sizeLine; omega, fun L1 n1 => ⟨_, upd_same, by decide, by decide, by show 1 * 3 ≤ sizeLine; omega, fun L2 n2 => ?_⟩⟩
          have e78 := (same_upd (o := .lst [V.int (g : Nat)]) n1).trans (same_upd (o := .lst (List.replicate (3 : Int).toNat [V.int (g : Nat)]).flatten) n2)
          show eqU _ true (.ref L) (.ref L2) _ _
          refine ⟨encR [g, g, g], encR [g, g, g], dp_row (e78 _ _ hL), dp_row (l := [g, g, g]) upd_same, (flat_row _).shaped (by decide), (flat_row _).shaped (by decide), ?_⟩
          refine br_of (c := false) (by show (!PyData.eqv (encR [g, g, g]) (encR [g, g, g])) = false; rw [row_same]; rfl) (.no ?_)
          have e8 := e7.trans e78
          refine ⟨dx, _, e8 _ _ h1, mf_none (by decide +kernel) (by decide +kernel) (by decide +kernel), rfl, a, [], S, R, Kd, rfl, mm.ext e8, ok.mok, (fun c z => nomatch z), by show 0 ≤ 1000000; omega, fun H9 e9 => ?_⟩
          have hkd : Kd[0]? = some (Kd.getD 0 false) := by
            rw [List.getD_eq_getElem?_getD, List.getElem?_eq_getElem (by rw [ok.kinds]; omega)]; rfl
          have e10 := e8.trans e9
          refine ⟨[.ref r, .ref kk], .ref kk, .inr (.inl (.inl (e10 _ _ ht))), rfl, Kd.map V.bl, .bl (Kd.getD 0 false), .inl (.inl (.inl (e10 _ _ hk))), atI_nat (j := 0) (by rw [List.getElem?_map, hkd]; rfl), ?_⟩
          refine ⟨?_, e10⟩
          show (!decide (Kd.getD (led S R 0 []) false = Kd.getD 0 false)) = false
          rw [show led S R 0 [] = 0 from rfl, decide_eq_true rfl]; rfl
        · obtain ⟨rfl, e8⟩ := z
          exact .no ⟨e8, _, _, _, rfl⟩
      · obtain ⟨e4, y5, y6, y7, rfl⟩ := h
        have lm : (rn R (met R i)).length ≤ 1000 := by rw [rn_len]; have := fnd_len (s := i) ok.rows li R.length; exact Nat.le_trans this (by omega)
        refine ⟨fun b H' => b = false ∧ Same H H', ?_, fun b H' z => ?_⟩
        · refine ⟨dx, _, e4 _ _ h1, mf_none (by decide +kernel) (by decide +kernel) (by decide +kernel), rfl, a, i, S, R, Kd, rfl, mm.ext e4, ok, wh, li, fun H5 e5 => ?_⟩
          have e45 := e4.trans e5
          refine ⟨dx, _, e45 _ _ h1, mf_none (by decide +kernel) (by decide +kernel) (by decide +kernel), a, i, S, R, Kd, rfl, mm.ext e45, ok, wh, li, fun H6 e6 => ?_⟩
          refine br_of (c := false) (by show (!decide (cs (T (ft S R i)) = cs (T (ft S R i)))) = false; rw [decide_eq_true rfl]; rfl) (.no ?_)
          have e46 := e45.trans e6
          refine ⟨dx, _, e46 _ _ h1, mf_none (by decide +kernel) (by decide +kernel) (by decide +kernel), rfl, a, i, S, R, Kd, rfl, mm.ext e46, ok, li, fun H7 b1 e7 nb1 m1 => ?_⟩
          have e47 := e46.trans e7
          refine ⟨dx, _, e47 _ _ h1, mf_none (by decide +kernel) (by decide +kernel) (by decide +kernel), a, i, S, R, Kd, rfl, mm.ext e47, ok, li, fun H8 b2 e8 nb2 m2 => ?_⟩
          have m1' := m1.ext e8
          obtain ⟨dx1, _, _, _, g1, _⟩ := id m1'
          obtain ⟨dx2, _, _, _, g2, _⟩ := id m2
          refine ⟨dx1, _, _, g1, iM.ty _ _ _ _ g2 (mf_none (by decide +kernel) (by decide +kernel) (by decide +kernel)), notFirst_self, b1, .ref b2, S, rn R (met R i), _, rfl, m1', lm, .inl ⟨b2, S, rn R (met R i), _, rfl, m2, lm, fun H9 e9 => ⟨_, rfl, ?_⟩⟩⟩
          refine ⟨?_, (e47.trans e8).trans e9⟩
          show (!decide _) = false
          rw [decide_eq_true ⟨rfl, rfl, rfl⟩]; rfl
        · obtain ⟨rfl, e5⟩ := z
          exact .no ⟨e5, _, _, _, _, _, rfl⟩
    · obtain ⟨e2, y3, y4, y5, y6, y7, rfl⟩ := iv
      exact q H2 e2
end
end LK

/-! k14: _law_at_right -/
namespace LK
open PySem PySem.Spec PyProof.Rows L2 LamX ClX
open scoped List
abbrev kfr (R : Rows) (Kd : List Bool) (p : Nat) : List Bool := (met R p).map fun p => Kd.getD p false
theorem from_ok {S : List Nat} {R : Rows} {Kd : List Bool} {p : Nat} (ok : ShOk S R Kd) (hp : p < R.length) : ShOk S (rn R (met R p)) (kfr R Kd p) ∧ Whole (rn R (met R p)) := by
  have hl := fnd_len (s := p) ok.rows hp R.length
  have hl : (met R p).length ≤ R.length := hl
  have h1 : 1 ≤ (met R p).length := by
    have z := met_zero (R := R) (s := p)
    exact (List.getElem?_eq_some_iff.mp z).1
  have hi := ok.hi
  exact ⟨⟨ok.let_, rn_ok ok.rows hp (fun x => Iff.rfl), by rw [rn_len]; exact h1, by rw [rn_len]; omega, by rw [List.length_map, rn_len]⟩, rn_whole ok.rows hp met_nd (fun x => Iff.rfl) met_zero⟩
abbrev nAtR : List Str := ["_law_signs", "_law_sheet_here", "_law_rig_here", "_law_place", "_law_due_here", "_law_told_here"]
theorem scAtR : FnScope nAtR ["_law_signs", "_law_sheet_here", "_law_rig_here"] (defScope sAtR) := ⟨rfl, rfl, rfl, by decide +kernel, rfl, by decide +kernel, by decide +kernel⟩
section
variable {P : Program} {w : World} {K : PySem.W.Frag} {mg : Str → Option Value} {base : Heap} {C : Addr}
theorem ok_atR {f : Addr} {fd : FuncData} {k : Nat} (F : Fun K "_law_at_right" "_law_at_right" sAtR f fd) (M : Mx mg) (cM : ClsM K C) (iM : IsM K C) (HQ : HasM P w K mg base (k + 1) C "__eq__" ["other"] (spEq K C))
    (HR : HasM P w K mg base k C "__repr__" [] (spRepr C)) (HAt : HasM P w K mg base (k + 1) C "at" ["place"] (spAt C)) (HNb : HasM P w K mg base (k + 1) C "numbered" [] (spNumbered C))
    (HF : Has P w K mg base (k + 1) "_law_from" ["_law_sheet_here", "_law_start"] spFrom) (HG : Has P w K mg base (k + 1) "_law_rig" ["_law_signs", "_law_sheet_here"] (spRig C)) :
    FnG P w K mg base CX0 (k + 2) f fd ["_law_signs", "_law_sheet_here", "_law_rig_here"] (spTwo3 C) := by
  refine okG F scAtR (fun vs H Q E h => ?_) (fun cdv A hA outer s H vs Q E hr h => ?_)
  · obtain ⟨t, a, S, R, Kd, rfl, _⟩ := h; rfl
  · obtain ⟨t, a, S, R, Kd, rfl, sh, ok, wh, mm, q⟩ := h
    have nd := scAtR.nd
    have sl := sizeLine_eq
    have hu := Room.u64 hr
    have hlo := ok.lo
    have hhi := ok.hi
    have l3 := ok.let_.hi
    refine ⟨_, pss_cons (ps_for PassesOwn.never rfl (pi_range1 (by rfl) M.range (pa_cons (pe_callB c_len (by rfl) M.len b_len (pa_cons (pe_ixU (uv 1) pe_int) pa_nil)) pa_nil)) (pg_name (i := 3) nd rfl (.inl rfl))
        (pss_cons (ps_set (i := 4) nd rfl (.inl rfl) (pe_callH HF hA hr (by rfl) (pa_cons (uv 1) (pa_cons (uv 3) pa_nil))))
        (pss_cons (ps_set (i := 5) nd rfl (.inl rfl) (pe_mH HAt cM.cls hA hr (uv 2) (pa_cons (uv 3) pa_nil)))
        (pss_one (ps_ifU (pt_cl (PW.pt (pw_orU (pt_cu (o_ne hu) (pe_callB (c_reprI HR hA hr) (by rfl) M.repr b_repr (pa_cons (uv 5) pa_nil)) (pe_callB (c_reprI HR hA hr) (by rfl) M.repr b_repr (pa_cons (pe_callH HG hA hr (by rfl) (pa_cons (uv 0) (pa_cons (uv 4) pa_nil))) pa_nil)))
            (pw_or1 (pt_not (pt_cu (r := eqI K C (spEq K C) false) (o_eqI HQ hA hr) (uv 5) (pe_callH HG hA hr (by rfl) (pa_cons (uv 0) (pa_cons (uv 4) pa_nil))))))))) (pss_one (ps_ret pe_bl)) pss_nil)))))
      (pss_one (ps_ret (pe_andU (pe_cu (o_eq hu) (pe_callB (c_reprI HR hA hr) (by rfl) M.repr b_repr (pa_cons (pe_mH0 HNb cM.cls hA hr (uv 2)) pa_nil))
          (pe_callB (c_reprI HR hA hr) (by rfl) M.repr b_repr (pa_cons (pe_callH HG hA hr (by rfl) (pa_cons (uv 0) (pa_cons (pe_callH HF hA hr (by rfl) (pa_cons (uv 1) (pa_cons pe_int pa_nil))) pa_nil))) pa_nil)))
        (pe_one (pe_cu (r := eqI K C (spEq K C) false) (o_eqI HQ hA hr) (pe_mH0 HNb cM.cls hA hr (uv 2)) (pe_mH HAt cM.cls hA hr (uv 2) (pa_cons pe_int pa_nil))))))), ?_⟩
    obtain ⟨r, kk, ht, hrw, hk⟩ := id sh
    obtain ⟨rs, hs', hl', hrow'⟩ := id hrw
    obtain ⟨dx, r0, k0, rs0, h1, _⟩ := id mm
    dsimp only [tSeq]
    refine for_rng (n := R.length) (H1 := H) (fun R' h => ⟨[.ref r, .ref kk], .ref r, .inr (.inl (.inl ht)), rfl, .inl ⟨rs.map V.ref, .inl (.inl (.inl hs')), by rw [List.length_map, hl']; exact h⟩⟩) (by omega) (fun i σ H2 => Same H H2 ∧ ∃ y3 y4 y5, σ = [some (.str (T S)), some (.ref t), some (.ref a), y3, y4, y5])
      ⟨Same.refl _, none, none, none, rfl⟩ (fun i σ H2 hi iv => ?_) (fun σ H2 iv => ?_)
    · obtain ⟨e2, y3, y4, y5, rfl⟩ := iv
      obtain ⟨fo, fw⟩ := from_ok ok hi
      have lm : (rn R (met R i)).length ≤ 1000 := by have := fo.hi; omega
      refine ⟨t, i, S.length, R, Kd, rfl, sh.ext e2, ok.rows, l3, hi, hhi, ok.kinds, fun H3 t3 e3 n3 sh3 => ?_⟩
      have e23 := e2.trans e3
      refine ⟨dx, _, e23 _ _ h1, mf_none (by decide +kernel) (by decide +kernel) (by decide +kernel), a, i, S, R, Kd, rfl, mm.ext e23, ok, hi, fun H4 b4 e4 nb4 m4 => ?_⟩
      have e24 := e23.trans e4
      have sh4 := sh3.ext e4
      obtain ⟨dx4, _, _, _, g4, _⟩ := id m4
      refine ⟨fun b H' => b = false ∧ Same H H', ?_, fun b H' z => ?_⟩
      · refine ⟨dx4, _, g4, b4, S, _, _, rfl, m4, fo, _, rfl, ?_⟩
        refine ⟨t3, S, _, _, rfl, sh4, fo, fw, fun H5 b5 e5 nb5 n5 => ?_⟩
        have m5 := n5.m
        obtain ⟨dx5, _, _, _, g5, _⟩ := id m5
        refine ⟨dx5, _, g5, b5, S, _, _, rfl, m5, fo, _, rfl, ?_⟩
        refine br_of (c := false) (by show (!decide _) = false; rw [decide_eq_true rfl]; rfl) (.no ?_)
        refine ⟨t3, S, _, _, rfl, sh4.ext e5, fo, fw, fun H6 b6 e6 nb6 n6 => ?_⟩
        have m6 := n6.m
        have m46 := (m4.ext e5).ext e6
        obtain ⟨dx6, _, _, _, g6, _⟩ := id m6
        refine ⟨dx4, _, _, e6 _ _ (e5 _ _ g4), iM.ty _ _ _ _ g6 (mf_none (by decide +kernel) (by decide +kernel) (by decide +kernel)), notFirst_self, b4, .ref b6, S, _, _, rfl, m46, lm, .inl ⟨b6, S, _, _, rfl, m6, lm, fun H9 e9 => ⟨_, rfl, ?_⟩⟩⟩
        refine ⟨?_, ((e24.trans e5).trans e6).trans e9⟩
        show (!decide _) = false
        rw [decide_eq_true ⟨rfl, rfl, rfl⟩]; rfl
      · obtain ⟨rfl, e5⟩ := z
        exact .no ⟨e5, _, _, _, rfl⟩
    · obtain ⟨e2, y3, y4, y5, rfl⟩ := iv
      have h0 : 0 < R.length := by omega
      obtain ⟨fo, fw⟩ := from_ok ok h0
      have lm : (rn R (met R 0)).length ≤ 1000 := by have := fo.hi; omega
      refine ⟨dx, _, e2 _ _ h1, mf_none (by decide +kernel) (by decide +kernel) (by decide +kernel), a, S, R, Kd, rfl, mm.ext e2, ok, fun H3 b3 e3 nb3 m3 => ?_⟩
      obtain ⟨dx3, _, _, _, g3, _⟩ := id m3
      refine ⟨dx3, _, g3, b3, S, _, _, rfl, m3, fo, _, rfl, ?_⟩
      have e23 := e2.trans e3
      refine ⟨t, 0, S.length, R, Kd, rfl, sh.ext e23, ok.rows, l3, h0, hhi, ok.kinds, fun H4 t4 e4 n4 sh4 => ?_⟩
      refine ⟨t4, S, _, _, rfl, sh4, fo, fw, fun H5 b5 e5 nb5 n5 => ?_⟩
      have m5 := n5.m
      obtain ⟨dx5, _, _, _, g5, _⟩ := id m5
      refine ⟨dx5, _, g5, b5, S, _, _, rfl, m5, fo, _, rfl, ?_⟩
      refine br_of (c := true) (by exact decide_eq_true rfl) (.yes ?_)
      have e25 := (e23.trans e4).trans e5
      refine ⟨dx, _, e25 _ _ h1, mf_none (by decide +kernel) (by decide +kernel) (by decide +kernel), a, S, R, Kd, rfl, mm.ext e25, ok, fun H6 b6 e6 nb6 m6 => ?_⟩
      have e26 := e25.trans e6
      refine ⟨dx, _, e26 _ _ h1, mf_none (by decide +kernel) (by decide +kernel) (by decide +kernel), a, 0, S, R, Kd, rfl, mm.ext e26, ok, h0, fun H7 b7 e7 nb7 m7 => ?_⟩
      obtain ⟨dx6, _, _, _, g6, _⟩ := id m6
      obtain ⟨dx7, _, _, _, g7, _⟩ := id m7
      refine ⟨dx6, _, _, e7 _ _ g6, iM.ty _ _ _ _ g7 (mf_none (by decide +kernel) (by decide +kernel) (by decide +kernel)), notFirst_self, b6, .ref b7, S, _, _, rfl, m6.ext e7, lm, .inl ⟨b7, S, _, _, rfl, m7, lm, fun H9 e9 => ⟨_, rfl, ?_⟩⟩⟩
      have := q H9 ((e26.trans e7).trans e9)
      show Q (.bl (decide _)) _
      rw [decide_eq_true ⟨rfl, rfl, rfl⟩]; exact this
end
end LK

/-! statements and comprehensions whose ends are said; machines beside other values -/
namespace LK
open PySem PySem.Spec PyProof.Rows L2 LamX ClX
open scoped List
/-- a statement whose end is said -/
def clS (t : TS) : TS := fun D σ H => ∃ N0 : L2.St → Hp → Prop, t { D with nx := N0 } σ H ∧ ∀ σ' H', N0 σ' H' → D.nx σ' H'
theorem ps_cl {X : Cx} {st : Stmt} {t : TS} (h : PS X st t) : PS X st (clS t) := by
  refine ⟨fun pins s σ H D I z => ?_⟩
  obtain ⟨N0, h0, m⟩ := z
  refine wpAny_mono (h.run pins s σ H { D with nx := N0 } I h0) (fun fl s' q => ?_) (fun _ _ z => z)
  match fl, q with
  | .next, q => obtain ⟨σ', H', J, n⟩ := q; exact ⟨σ', H', J, m _ _ n⟩
  | .brk, q => exact q
  | .cont, q => exact q
  | .ret u, q => exact q
section
variable {K : PySem.W.Frag} {g : TG} {te : TE} {σ : L2.St} {H : Hp} {vs : List Nat} {Q : VK} {t : TE}
/-- .. wherever the list comes to lie -/
theorem lcM {α : Type} {enc out : α → V} (h : t σ H fun v H1 => ∃ (a : Addr) (ls : List α), v = .ref a ∧ H1 a = some (.lst (ls.map enc)) ∧ ls.length < sizeLine ∧
    (∀ H' x, x ∈ ls → Same H1 H' → ∀ Qy : VK, (∀ H'', Same H' H'' → Qy (out x) H'') → g (enc x) (wipe σ vs) H' fun σ2 H2 => wipe σ2 vs = wipe σ vs ∧ te σ2 H2 Qy) ∧
    (∀ D H', H1 D = none → Same H1 H' → H' D = some (.lst (ls.map out)) → Q (.ref D) H')) : tLc (iList K (cl t)) g tYes te vs σ H Q := by
  refine ⟨_, h, fun v H1 z => ?_⟩
  obtain ⟨a, ls, rfl, hx, hn, hs, he⟩ := z
  exact lc_mapS (K := K) (t := fun _ H R => R (.ref a) H) (a := a) (H := H1) (H1 := H1) (fun R h => h) hx hn hs he
end
section
variable {X : Cx} {K : PySem.W.Frag}
theorem pe_revLK {e : Expr} {te : TE} {k : Nat} {p1 p2 p3 pos : Pos} (hK : X.K = K) (he : PE X e te) : PE X (.Subscript e (.Slice none none (some (.UnaryOp .USub (.Constant (.int 1) k p1) p2)) p3) pos) (tRevL K te) := hK ▸ pe_revL he
end
theorem tyX_ext {K : PySem.W.Frag} {H H' : Hp} {x : V} {t : Value} (h : TyX K H x t) (e : Same H H') : TyX K H' x t := by
  cases h with
  | base b =>
    refine .base ?_
    cases b with
    | non => exact .non
    | bl y => exact .bl y
    | int i => exact .int i
    | str y => exact .str y
    | flt y => exact .flt y
    | lst ea => exact .lst (e _ _ ea)
    | frz ea => exact .frz (e _ _ ea)
    | tup ea => exact .tup (e _ _ ea)
    | dK ea => exact .dK (e _ _ ea)
    | dT ea => exact .dT (e _ _ ea)
    | ins ea cl ha hn htk hm => exact .ins (e _ _ ea) cl ha hn htk hm
  | byt b => exact .byt b
  | set ea => exact .set (e _ _ ea)
  | kList a b => exact .kList a b
  | kTuple a b => exact .kTuple a b
  | kDict a b => exact .kDict a b
  | fTuple ea => exact .fTuple (e _ _ ea)
  | fDict ea => exact .fDict (e _ _ ea)
/-- a machine with something otherwise, or no machine -/
def Unl (K : PySem.W.Frag) (C : Addr) (S : List Nat) (R : Rows) (Kd : List Bool) (H : Hp) (x : V) : Prop :=
  (∃ (b : Addr) (S' : List Nat) (R' : Rows) (Kd' : List Bool), x = .ref b ∧ Mach C H b S' R' Kd' ∧ R'.length ≤ 1000 ∧ ¬ (S = S' ∧ R = R' ∧ Kd = Kd')) ∨
    ∃ t, TyX K H x t ∧ PySem.W.notFirst K C t = true ∧ PySem.W.kitOne K t (.ref C) = some false
theorem Unl.ext {K : PySem.W.Frag} {C : Addr} {S : List Nat} {R : Rows} {Kd : List Bool} {H H' : Hp} {x : V} (h : Unl K C S R Kd H x) (e : Same H H') : Unl K C S R Kd H' x := by
  rcases h with ⟨b, S', R', Kd', h1, h2, h3, h4⟩ | ⟨t, h1, h2, h3⟩
  · exact .inl ⟨b, S', R', Kd', h1, h2.ext e, h3, h4⟩
  · exact .inr ⟨t, tyX_ext h1 e, h2, h3⟩
/-- beside it == tells False, != True -/
theorem unl_eq {K : PySem.W.Frag} {C a : Addr} {S : List Nat} {R : Rows} {Kd : List Bool} {H : Hp} {x : V} {neg : Bool} {Q : VK} (iM : IsM K C) (mm : Mach C H a S R Kd) (hR : R.length ≤ 1000) (u : Unl K C S R Kd H x) (q : ∀ H', Same H H' → Q (.bl neg) H') : eqI K C (spEq K C) neg (.ref a) x H Q := by
  obtain ⟨dx, _, _, _, h1, _⟩ := id mm
  have e : (if neg then !false else false) = neg := by cases neg <;> rfl
  rcases u with ⟨b, S', R', Kd', rfl, mb, hz, ne⟩ | ⟨t, ty, nf, no⟩
  · obtain ⟨dx', _, _, _, g1, _⟩ := id mb
    refine ⟨dx, _, .ref C, h1, iM.ty _ _ _ _ g1 (mf_none (by decide +kernel) (by decide +kernel) (by decide +kernel)), notFirst_self, a, .ref b, S, R, Kd, rfl, mm, hR, .inl ⟨b, S', R', Kd', rfl, mb, hz, fun H' e' => ⟨_, rfl, ?_⟩⟩⟩
    rw [decide_eq_false ne, e]
    exact q H' e'
  · refine ⟨dx, _, t, h1, ty, nf, a, x, S, R, Kd, rfl, mm, hR, .inr ⟨t, ty, no, ⟨_, rfl, ?_⟩⟩⟩
    rw [e]
    exact q H (Same.refl _)
/-- o == x or not o != x -/
theorem unl_go {K : PySem.W.Frag} {C a : Addr} {S : List Nat} {R : Rows} {Kd : List Bool} {H : Hp} {x : V} {Q : VK} {σ : L2.St} {i j : Nat} (iM : IsM K C) (mm : Mach C H a S R Kd) (hR : R.length ≤ 1000) (u : Unl K C S R Kd H x) (hi : σ[i]? = some (some (.ref a))) (hj : σ[j]? = some (some x))
    (q : ∀ H', Same H H' → Q (.bl false) H') : uOrV (tOp (eqI K C (spEq K C) false) (uVar i) (uVar j)) (uNotV (tOp (eqI K C (spEq K C) true) (uVar i) (uVar j))) σ H Q := by
  dsimp only [uOrV, uNotV, tOp]
  refine uv_go hi ?_
  refine uv_go hj (unl_eq iM mm hR u fun H' e => .no ?_)
  refine uv_go hi ?_
  exact uv_go hj (unl_eq iM (mm.ext e) hR (u.ext e) fun H'' e2 => q H'' (e.trans e2))
/-- a list of machines that are otherwise -/
def OthAt (C : Addr) (S : List Nat) (R : Rows) (Kd : List Bool) (H : Hp) (O : Addr) (ms : List Addr) : Prop := H O = some (.lst (ms.map V.ref)) ∧ (∃ m, ms[0]? = some m) ∧
  ∀ m ∈ ms, ∃ (S' : List Nat) (R' : Rows) (Kd' : List Bool), Mach C H m S' R' Kd' ∧ R'.length ≤ 1000 ∧ ¬ (S = S' ∧ R = R' ∧ Kd = Kd')
theorem OthAt.ext {C : Addr} {S : List Nat} {R : Rows} {Kd : List Bool} {H H' : Hp} {O : Addr} {ms : List Addr} (h : OthAt C S R Kd H O ms) (e : Same H H') : OthAt C S R Kd H' O ms := by
  obtain ⟨h1, h2, h3⟩ := h
  refine ⟨e _ _ h1, h2, fun m hm => ?_⟩
  obtain ⟨S', R', Kd', a, b, c⟩ := h3 m hm
  exact ⟨S', R', Kd', a.ext e, b, c⟩
theorem mach_put {C : Addr} {S' : List Nat} {R' : Rows} {Kd' : List Bool} {H : Hp} {O m b : Addr} {ms : List Addr} {o : HO} (mb : Mach C H b S' R' Kd') (hO : H O = some (.lst (ms.map V.ref))) (h0 : ms[0]? = some m) (hm : ∃ dx fs, H m = some (.ins C dx fs)) : Mach C (upd H O o) b S' R' Kd' := by
  obtain ⟨dx, r, k, rs, h1, h2, h3, h4, h5⟩ := mb
  obtain ⟨dxm, fsm, hm⟩ := hm
  obtain ⟨ms', rfl⟩ : ∃ ms', ms = m :: ms' := by
    cases ms with
    | nil => cases h0
    | cons x ms' => exact ⟨ms', by rw [show x = m by simpa using h0]⟩
  have n1 : b ≠ O := fun z => by rw [z, hO] at h1; cases h1
  have n2 : r ≠ O := fun z => by
    rw [z, hO] at h2
    have e := HO.lst.inj (Option.some.inj h2)
    cases rs with
    | nil => cases e
    | cons p rs =>
      have : m = p := V.ref.inj (List.cons.inj e).1
      have := h4 0 p rfl
      rw [← ‹m = p›, hm] at this; cases this
  have n3 : k ≠ O := fun z => by
    rw [z, hO] at h5
    have e := HO.lst.inj (Option.some.inj h5)
    cases Kd' with
    | nil => cases e
    | cons p rs => cases (List.cons.inj e).1
  refine ⟨dx, r, k, rs, by rw [upd_ne n1]; exact h1, by rw [upd_ne n2]; exact h2, h3, fun i p hp => ?_, by rw [upd_ne n3]; exact h5⟩
  have n4 : p ≠ O := fun z => by
    have h6 := h4 i p hp
    rw [z, hO] at h6
    have e := HO.lst.inj (Option.some.inj h6)
    cases hg : gls R' i with
    | nil => rw [hg] at e; cases e
    | cons p rs => rw [hg] at e; cases (List.cons.inj e).1
  rw [upd_ne n4]; exact h4 i p hp
theorem OthAt.app {C : Addr} {S S' : List Nat} {R R' : Rows} {Kd Kd' : List Bool} {H : Hp} {O b : Addr} {ms : List Addr} (h : OthAt C S R Kd H O ms) (mb : Mach C H b S' R' Kd') (hz : R'.length ≤ 1000) (ne : ¬ (S = S' ∧ R = R' ∧ Kd = Kd')) :
    OthAt C S R Kd (upd H O (.lst (ms.map V.ref ++ [.ref b]))) O (ms ++ [b]) := by
  obtain ⟨h1, ⟨m, h2⟩, h3⟩ := h
  have hm : ∃ dx fs, H m = some (.ins C dx fs) := by
    obtain ⟨_, _, _, ⟨dx, _, _, _, g, _⟩, _⟩ := h3 m (List.mem_of_getElem? h2)
    exact ⟨dx, _, g⟩
  refine ⟨by rw [upd_same, List.map_append]; rfl, ⟨m, ?_⟩, fun m' hm' => ?_⟩
  · rw [List.getElem?_append_left (List.getElem?_eq_some_iff.mp h2).1]; exact h2
  · rcases List.mem_append.mp hm' with hm' | hm'
    · obtain ⟨S2, R2, K2, a, b, c⟩ := h3 m' hm'
      exact ⟨S2, R2, K2, mach_put a h1 h2 hm, b, c⟩
    · simp at hm'; subst hm'
      exact ⟨S', R', Kd', mach_put mb h1 h2 hm, hz, ne⟩
/-- what the class asks of values of other kinds -/
structure OddC (K : PySem.W.Frag) (C : Addr) : Prop where
  nf : (["NoneType", "bool", "int", "str", "tuple", "list", "dict"].all fun t => PySem.W.notFirst K C (.type t)) = true
  no : (["NoneType", "bool", "int", "str", "tuple", "list", "dict"].all fun t => decide (PySem.W.kitOne K (.type t) (.ref C) = some false)) = true
  ns : (["NoneType", "bool", "int", "tuple", "list", "dict"].all fun t => decide (PySem.W.kitOne K (.type t) (.type "str") = some false)) = true
theorem OddC.unl {K : PySem.W.Frag} {C : Addr} {S : List Nat} {R : Rows} {Kd : List Bool} {H : Hp} {x : V} {t : String} (o : OddC K C) (h : TyX K H x (.type t)) (ht : t ∈ ["NoneType", "bool", "int", "str", "tuple", "list", "dict"]) : Unl K C S R Kd H x :=
  .inr ⟨_, h, List.all_eq_true.mp o.nf t ht, of_decide_eq_true (List.all_eq_true.mp o.no t ht)⟩
theorem OddC.str {K : PySem.W.Frag} {C : Addr} {t : String} (o : OddC K C) (ht : t ∈ ["NoneType", "bool", "int", "tuple", "list", "dict"]) : PySem.W.kitOne K (.type t) (.type "str") = some false := of_decide_eq_true (List.all_eq_true.mp o.ns t ht)
end LK

/-! k14: _law_others_right -/
namespace LK
open PySem PySem.Spec PyProof.Rows L2 LamX ClX
open scoped List
abbrev nOth : List Str := ["_law_signs", "_law_sheet_here", "_law_rig_here", "_law_rows", "_law_kinds", "_law_others", "_law_back", "_law_odd", "_law_kind", "_law_row", "_law_other", "_law_thing"]
theorem scOth : FnScope nOth ["_law_signs", "_law_sheet_here", "_law_rig_here"] (defScope sOth) := ⟨rfl, rfl, rfl, by decide +kernel, rfl, by decide +kernel, by decide +kernel⟩
abbrev five : List (List Nat) := [[97], [97, 98], [98, 113], [97, 98, 99], [99, 120, 122]]
theorem xyz {n : Nat} (h : n ≤ 3) : (((cs (T [120, 121, 122])).drop (HT.sIx (cs (T [120, 121, 122])).length 0 none)).take (HT.sIx (cs (T [120, 121, 122])).length (cs (T [120, 121, 122])).length (some (n : Int)) - HT.sIx (cs (T [120, 121, 122])).length 0 none)) = [120, 121, 122].take n := by
  rw [HT.sIx_nat]
  show List.take (min n 3 - 0) [120, 121, 122] = _
  rw [Nat.min_eq_left h, Nat.sub_zero]
theorem xyz_ok {n : Nat} (h1 : 1 ≤ n) (h : n ≤ 3) : LetOk ([120, 121, 122].take n) := by
  obtain rfl | rfl | rfl : n = 1 ∨ n = 2 ∨ n = 3 := by omega
  all_goals exact ⟨by show List.Pairwise (· < ·) _; decide, by show ∀ c ∈ _, c ∈ smalls; decide +kernel, by decide, by decide⟩
theorem five_xyz : ∀ S ∈ five, S ≠ [120, 121, 122].take S.length := by decide +kernel
theorem five_odd : ∀ S ∈ five, 81 ∉ S ∧ 49 ∉ S ∧ 106 ∉ S := by decide +kernel
theorem gls_rev {R : Rows} {i : Nat} : gls (R.map List.reverse) i = (gls R i).reverse := by
  unfold gls
  rw [List.getD_eq_getElem?_getD, List.getD_eq_getElem?_getD, List.getElem?_map]
  cases R[i]? <;> rfl
theorem rows_rev {R : Rows} {m : Nat} (ok : RowsOk R m) : RowsOk (R.map List.reverse) m := by
  refine ⟨fun r hr => ?_, fun r hr g hg => ?_⟩
  · obtain ⟨x, hx, rfl⟩ := List.mem_map.mp hr
    rw [List.length_reverse]; exact ok.len x hx
  · obtain ⟨x, hx, rfl⟩ := List.mem_map.mp hr
    rw [List.length_map]
    exact ok.lt x hx g (List.mem_reverse.mp hg)
theorem range_refs {rs : List Addr} : ((List.range rs.length).map fun i => V.ref (rs.getD i 0)) = rs.map V.ref := by
  refine List.ext_getElem? fun i => ?_
  rw [List.getElem?_map, List.getElem?_map]
  by_cases h : i < rs.length
  · rw [List.getElem?_range h, List.getElem?_eq_getElem h]
    show some (V.ref (rs.getD i 0)) = some (V.ref rs[i])
    rw [List.getD_eq_getElem?_getD, List.getElem?_eq_getElem h]; rfl
  · rw [List.getElem?_eq_none (by rw [List.length_range]; omega), List.getElem?_eq_none (by omega)]; rfl
theorem any_no {α : Type} (l : List α) : (l.map fun _ => false).any id = false := by
  induction l with
  | nil => rfl
  | cons x l ih => exact ih
abbrev encSh (R : Rows) (Kd : List Bool) : PyData := .tuple [encRs R, encB Kd]
theorem eqv_sh {R R' : Rows} {Kd Kd' : List Bool} : PyData.eqv (encSh R Kd) (encSh R' Kd') = decide (R = R' ∧ Kd = Kd') := by
  show (PyData.eqv (encRs R) (encRs R') && (PyData.eqv (encB Kd) (encB Kd') && true)) = _
  rw [eqv_rowsB, eqv_kindsB, Bool.and_true, Bool.decide_and]
theorem flat_sh (R : Rows) (Kd : List Bool) : Flat 3 (encSh R Kd) := flat_tup fun d hd => by
  simp at hd
  rcases hd with rfl | rfl
  · exact flat_rows R
  · have f := flat_kinds Kd
    exact ⟨f.1, by have := f.2; omega⟩
section
variable {P : Program} {w : World} {K : PySem.W.Frag} {mg : Str → Option Value} {base : Heap} {C : Addr}
def spOth (C : Addr) : Sp := fun vs H Q _ => ∃ (t a : Addr) (S : List Nat) (R : Rows) (Kd : List Bool), vs = [.str (T S), .ref t, .ref a] ∧ SheetAt H t R Kd ∧ ShOk S R Kd ∧ Whole R ∧ S ∈ five ∧ Mach C H a S R Kd ∧ ∀ H', Same H H' → Q (.bl true) H'
theorem ok_oth {f : Addr} {fd : FuncData} {k : Nat} (F : Fun K "_law_others_right" "_law_others_right" sOth f fd) (M : Mx mg) (cM : ClsM K C) (iM : IsM K C) (cE : EqC K C) (oC : OddC K C) (HQ : HasM P w K mg base k C "__eq__" ["other"] (spEq K C))
    (HR : HasM P w K mg base k C "__repr__" [] (spRepr C)) (HIn : HasM P w K mg base (k + 1) C "__contains__" ["value"] (spHas K C)) (HI : HasI P w K mg base k "Machine" C ["letters", "rows", "kinds"] (spInit K C))
    (HF : Has P w K mg base (k + 1) "_law_from" ["_law_sheet_here", "_law_start"] spFrom) :
    FnG P w K mg base CX0 (k + 2) f fd ["_law_signs", "_law_sheet_here", "_law_rig_here"] (spOth C) := by
  refine okG F scOth (fun vs H Q E h => ?_) (fun cdv A hA outer s H vs Q E hr h => ?_)
  · obtain ⟨t, a, S, R, Kd, rfl, _⟩ := h; rfl
  · obtain ⟨t, a, S, R, Kd, rfl, sh, ok, wh, h5, mm, q⟩ := h
    have nd := scOth.nd
    have sl := sizeLine_eq
    have hu := Room.u64 hr
    have hlo := ok.lo
    have hhi := ok.hi
    have l3 := ok.let_.hi
    have HQ1 := HQ.up (Nat.le_succ k)
    refine ⟨_, pss_cons (ps_asg (uv 1) (pg_tup rfl (pgs_cons (pg_name (i := 3) nd rfl (.inl rfl)) (pgs_cons (pg_name (i := 4) nd rfl (.inl rfl)) pgs_nil))) rfl)
      (pss_cons (ps_set (i := 5) nd rfl (.inl rfl) (pe_lst (pa_cons (pe_mkI HI hA hr (by rfl) (pa_cons (uv 0) (pa_cons (uv 3) (pa_cons (pe_lc (own := [("_law_kind", 8)]) (g := gName 8) (tt := tYes) rfl nd (pi_list (uv 4)) (blkOk_by (N := nOth) (sc := defScope sOth) (by decide +kernel))
            (fun _ _ _ _ _ => pg_name (i := 8) nd rfl (Or.inl rfl)) (fun _ _ _ _ _ => pts_nil) (fun _ _ _ _ _ => pe_notU (uv 8))) pa_nil))))
          (pa_cons (pe_mkI HI hA hr (by rfl) (pa_cons (pe_slice sl_u (ustr [120, 121, 122]) po_none (po_u (pe_callB c_len (by rfl) M.len b_len (pa_cons (uv 0) pa_nil)))) (pa_cons (uv 3) (pa_cons (uv 4) pa_nil)))) pa_nil))))
      (pss_cons (ps_expr (pe_bm PySem.F.plainAttrs_list PySem.F.slot_list_append PySem.F.type_list_append mt_append (uv 5)
          (pa_cons (pe_mkI HI hA hr (by rfl) (pa_cons (uv 0) (pa_cons (uv 3) (pa_cons (pe_op o_add (pe_lst (pa_cons (pe_notU (pe_ixU (uv 4) pe_int)) pa_nil)) (pe_slice sl_u (uv 4) (po_u pe_int) po_none)) pa_nil)))) pa_nil)))
      (pss_cons (ps_set (i := 6) nd rfl (.inl rfl) (pe_callH HF hA hr (by rfl) (pa_cons (pe_tup (pa_cons (pe_lc (own := [("_law_row", 9)]) (g := gName 9) (tt := tYes) rfl nd (pi_list (uv 3)) (blkOk_by (N := nOth) (sc := defScope sOth) (by decide +kernel))
            (fun _ _ _ _ _ => pg_name (i := 9) nd rfl (Or.inl rfl)) (fun _ _ _ _ _ => pts_nil) (fun _ _ _ _ _ => pe_revLK (K := K) rfl (uv 9))) (pa_cons (uv 4) pa_nil))) (pa_cons pe_int pa_nil))))
      (pss_cons (ps_cl (ps_ifU (pt_cl (pt_cu (o_ne hu) (uv 6) (pe_tup (pa_cons (uv 3) (pa_cons (uv 4) pa_nil)))))
          (pss_one (ps_expr (pe_bm PySem.F.plainAttrs_list PySem.F.slot_list_append PySem.F.type_list_append mt_append (uv 5)
            (pa_cons (pe_mkI HI hA hr (by rfl) (pa_cons (uv 0) (pa_cons (pe_ixU (uv 6) pe_int) (pa_cons (pe_ixU (uv 6) pe_int) pa_nil)))) pa_nil)))) pss_nil))
      (pss_cons (ps_ifU (pt_u (pe_callB (c_any rfl) (by rfl) M.any b_any (pa_cons (pe_lc (own := [("_law_other", 10)]) (g := gName 10) (tt := tYes) rfl nd (pi_list (uv 5)) (blkOk_by (N := nOth) (sc := defScope sOth) (by decide +kernel))
            (fun _ _ _ _ _ => pg_name (i := 10) nd rfl (Or.inl rfl)) (fun _ _ _ _ _ => pts_nil)
            (fun _ _ _ _ _ => pe_orU (pe_cu (r := eqI K C (spEq K C) false) (o_eqI HQ1 hA hr) (uv 2) (uv 10)) (pe_one (pe_notU (pe_cu (r := eqI K C (spEq K C) true) (o_neI HQ cE hA hr) (uv 2) (uv 10)))))) pa_nil))) (pss_one (ps_ret pe_bl)) pss_nil)
      (pss_cons (ps_set (i := 7) nd rfl (.inl rfl) (pe_lst (pa_cons pe_non (pa_cons pe_int (pa_cons (ustr []) (pa_cons (pe_callB (c_reprI HR hA hr) (by rfl) M.repr b_repr (pa_cons (uv 2) pa_nil))
          (pa_cons (pe_tup (pa_cons (uv 0) (pa_cons (uv 3) (pa_cons (uv 4) pa_nil)))) (pa_cons (pe_lst (pa_cons (uv 3) pa_nil)) (pa_cons pe_dnewK (pa_cons pe_bl pa_nil))))))))))
      (pss_cons (ps_ifU (pt_u (pe_callB (c_any rfl) (by rfl) M.any b_any (pa_cons (pe_lc (own := [("_law_thing", 11)]) (g := gName 11) (tt := tYes) rfl nd (pi_list (uv 7)) (blkOk_by (N := nOth) (sc := defScope sOth) (by decide +kernel))
            (fun _ _ _ _ _ => pg_name (i := 11) nd rfl (Or.inl rfl)) (fun _ _ _ _ _ => pts_nil)
            (fun _ _ _ _ _ => pe_orU (pe_cu (r := eqI K C (spEq K C) false) (o_eqI HQ1 hA hr) (uv 2) (uv 11)) (pe_one (pe_notU (pe_cu (r := eqI K C (spEq K C) true) (o_neI HQ cE hA hr) (uv 2) (uv 11)))))) pa_nil))) (pss_one (ps_ret pe_bl)) pss_nil)
      (pss_one (ps_ret (pe_notU (pe_callB (c_any rfl) (by rfl) M.any b_any (pa_cons (pe_lc (own := [("_law_thing", 11)]) (g := gName 11) (tt := tYes) rfl nd
            (pi_list (pe_cl (pe_op o_add (pe_slice sl_u (uv 7) po_none (po_u pe_int)) (pe_lst (pa_cons (pe_tup (pa_cons (ustr []) pa_nil)) (pa_cons (pe_lst (pa_cons (ustr []) pa_nil)) (pa_cons pe_int (pa_cons (ustr [81]) (pa_cons (ustr [113, 49])
              (pa_cons (pe_op o_add (uv 0) (ustr [106])) (pa_cons pe_dnewK (pa_cons pe_bl pa_nil)))))))))))) (blkOk_by (N := nOth) (sc := defScope sOth) (by decide +kernel))
            (fun _ _ _ _ _ => pg_name (i := 11) nd rfl (Or.inl rfl)) (fun _ _ _ _ _ => pts_nil) (fun _ _ _ _ _ => pe_cu (r := inI C (spHas K C) false) (o_inI HIn hA hr) (uv 11) (uv 2))) pa_nil)))))))))))), ?_⟩
    obtain ⟨r, kk, ht, hrw, hk⟩ := id sh
    obtain ⟨rs, hs', hl', hrow'⟩ := id hrw
    obtain ⟨dx, r0, k0, rs0, h1, _⟩ := id mm
    obtain ⟨k1, kt, eK⟩ : ∃ k1 kt, Kd = k1 :: kt := by
      have := ok.kinds
      cases Kd with
      | nil => simp at this; omega
      | cons x y => exact ⟨x, y, rfl⟩
    have hkl := ok.kinds
    have neK : ∀ K2 : List Bool, K2 = (Kd.map fun b => !b) ∨ K2 = (!k1) :: kt → Kd ≠ K2 := by
      rintro K2 (rfl | rfl) z
      · rw [eK] at z; have := (List.cons.inj z).1; cases k1 <;> cases this
      · rw [eK] at z; have := (List.cons.inj z).1; cases k1 <;> cases this
    have okK : ∀ K2 : List Bool, K2.length = R.length → ShOk S R K2 := fun K2 h => ⟨ok.let_, ok.rows, ok.lo, ok.hi, h⟩
    refine ⟨t, _, rfl, .inl (.inl ht), rfl, _, _, rfl, _, _, rfl, rfl, ?_⟩
    dsimp only [tSeq, tAsg, tLst, tCons, gName]
    refine uv_go (v := .str (T S)) rfl ?_
    refine uv_go (v := .ref r) rfl ?_
    refine lc_mapS (K := K) (α := Bool) (enc := V.bl) (out := fun b => .bl (!b)) (ls := Kd) (a := kk) (H1 := H) (fun R' h => h) hk (by omega) (fun H' x hx e Qy hq => ⟨rfl, hq H' (Same.refl _)⟩) (fun D H2 nD e2 hD => ?_)
    refine ⟨rfl, mach_new (okK (Kd.map fun b => !b) (by rw [List.length_map]; exact hkl)) wh (hrw.ext e2).at ⟨false, .inl (.inl (by rw [hD, List.map_map]; rfl))⟩ (fun H3 m1 e3 n1 mm1 => ?_)⟩
    clear hD nD
    have e13 := e2.trans e3
    refine ⟨by show S.length ≤ sizeLine; omega, by show 3 ≤ sizeLine; omega, ?_⟩
    have lS1 : 1 ≤ S.length := ok.let_.lo
    have lS2 : ([120, 121, 122].take S.length).length = S.length := by rw [List.length_take]; show min S.length 3 = _; omega
    have ok2 : ShOk ([120, 121, 122].take S.length) R Kd := ⟨xyz_ok lS1 l3, by rw [lS2]; exact ok.rows, ok.lo, ok.hi, ok.kinds⟩
    rw [← xyz l3] at ok2
    refine ⟨rfl, mach_new ok2 wh (hrw.ext e13).at ⟨false, .inl (.inl (e13 _ _ hk))⟩ (fun H4 m2 e4 n2 mm2 => ?_)⟩
    rw [show (cs (T S)).length = S.length from rfl, xyz l3] at mm2
    refine ⟨by show 2 ≤ sizeLine; omega, fun O nO => ?_⟩
    have e14 := e13.trans e4
    have nOH : H O = none := Same.free e14 nO
    have e5 := e14.trans (same_upd (o := .lst [V.ref m1, V.ref m2]) nO)
    have o5 : OthAt C S R Kd (upd H4 O (.lst [V.ref m1, V.ref m2])) O [m1, m2] := by
      refine ⟨upd_same, ⟨m1, rfl⟩, fun m hm => ?_⟩
      simp at hm
      rcases hm with rfl | rfl
      · exact ⟨S, R, _, (mm1.ext e4).ext (same_upd nO), by omega, fun z => neK _ (.inl rfl) z.2.2⟩
      · exact ⟨_, R, _, mm2.ext (same_upd nO), by omega, fun z => five_xyz S h5 z.1⟩
    generalize upd H4 O (.lst [V.ref m1, V.ref m2]) = H5 at e5 o5
    clear mm1 mm2 n1 n2 e14 e13 nO e4 e3 e2
    try dsimp only [tNext, tSeq]
    have hO5 := o5.1
    refine ⟨.inl ⟨rfl, _, .inl (.inl hO5)⟩, ?_⟩
    refine ⟨Kd.map V.bl, .bl k1, .inl (.inl (.inl (e5 _ _ hk))), atI_nat (j := 0) (by rw [eK]; rfl), ?_⟩
    refine ⟨by show 1 ≤ sizeLine; omega, fun L1 n1 => ?_⟩
    have e6 := e5.trans (same_upd (o := .lst [V.bl (!k1)]) n1)
    refine ⟨Kd.map V.bl, .inl (.inl (e6 _ _ hk)), fun L2 n2 => ?_⟩
    have ec : cutV (Kd.map V.bl) (some 1) none = kt.map V.bl := by rw [eK]; exact cut2 _ _
    rw [ec]
    have e7 := e6.trans (same_upd (o := .lst (kt.map V.bl)) n2)
    have s7 := (same_upd (o := .lst [V.bl (!k1)]) n1).trans (same_upd (o := .lst (kt.map V.bl)) n2)
    have lkt : kt.length + 1 = R.length := by rw [← hkl, eK]; rfl
    refine ⟨_, _, same_upd n2 _ _ upd_same, upd_same, by rw [List.length_map]; show 1 + kt.length ≤ sizeLine; omega, fun L3 n3 => ?_⟩
    have e8 := e7.trans (same_upd (o := .lst ([V.bl (!k1)] ++ kt.map V.bl)) n3)
    have s8 := s7.trans (same_upd (o := .lst ([V.bl (!k1)] ++ kt.map V.bl)) n3)
    refine ⟨rfl, mach_new (okK ((!k1) :: kt) (by rw [List.length_cons]; exact lkt)) wh (hrw.ext e8).at ⟨false, .inl (.inl upd_same)⟩ (fun H9 m3 e9 n9 mm3 => ?_)⟩
    have o9 := (o5.ext s8).ext e9
    refine ⟨O, _, _, rfl, rfl, o9.1, by show 2 < sizeLine; omega, ?_⟩
    have oA := o9.app mm3 (by omega) (fun z => neK _ (.inr rfl) z.2.2)
    have eA : Same H (upd H9 O (.lst ([m1, m2].map V.ref ++ [V.ref m3]))) := same_upd2 (e8.trans e9) nOH
    generalize upd H9 O (.lst ([m1, m2].map V.ref ++ [V.ref m3])) = HA at oA eA
    clear o9 o5 e5 e6 e7 e8 e9 s7 s8 n1 n2 n3 n9 mm3 hO5
    dsimp only [tNext, tSeq, tAsg, uCall, tTup, tCons, gName]
    have hsA := eA _ _ hs'
    have g0 : ∀ i, i < R.length → rs[i]? = some (rs.getD i 0) := fun i hi => by
      rw [List.getD_eq_getElem?_getD, List.getElem?_eq_getElem (by omega)]; rfl
    refine lc_refS (K := K) (α := Nat) (enc := fun i => V.ref (rs.getD i 0)) (o := fun i => .lst (iv (gls R i).reverse)) (ls := List.range rs.length) (a := r) (H1 := HA) (fun R' h => h) (by rw [range_refs]; exact hsA) (by rw [List.length_range]; omega) (fun H' i hi e Qy hq => ?_) (fun D HB qs nD eB hD lqs hqs _ => ?_)
    · have hi := List.mem_range.mp hi
      have hrow := (eA.trans e) _ _ (hrow' i _ (g0 i (by omega)))
      refine ⟨rfl, rs.getD i 0, iv (gls R i), rfl, .inl (.inl hrow), fun p np => ?_⟩
      exact hq _ p (same_upd np) np (by rw [upd_same, ← List.map_reverse])
    refine uv_go (v := .ref kk) rfl ?_
    refine ⟨by show 2 ≤ sizeLine; omega, fun T0 nT => ?_⟩
    have eBT := eB.trans (same_upd (o := .tup [V.ref D, V.ref kk]) nT)
    have hrr : RowsL (upd HB T0 (.tup [V.ref D, V.ref kk])) D (R.map List.reverse) := by
      refine RowsL.ext ⟨qs, hD, by rw [lqs, List.length_range, List.length_map]; exact hl', fun i p hp => ?_⟩ (same_upd nT)
      have li : i < rs.length := by
        have := (List.getElem?_eq_some_iff.mp hp).1
        rw [lqs, List.length_range] at this; exact this
      rw [gls_rev]
      exact (hqs i p i hp (List.getElem?_range li)).2.2
    have lrv : (R.map List.reverse).length = R.length := List.length_map _
    have okR : ShOk S (R.map List.reverse) Kd := ⟨ok.let_, rows_rev ok.rows, by rw [lrv]; exact ok.lo, by rw [lrv]; exact ok.hi, by rw [lrv]; exact ok.kinds⟩
    obtain ⟨fo, fw⟩ := from_ok (p := 0) okR (by omega)
    refine ⟨T0, 0, S.length, R.map List.reverse, Kd, rfl, ⟨D, kk, upd_same, hrr, (eA.trans eBT) _ _ hk⟩, okR.rows, l3, by omega, by omega, by omega, fun HC t2 eC nt2 sh2 => ?_⟩
    have shC := sh.ext ((eA.trans eBT).trans eC)
    have sC := (eA.trans eBT).trans eC
    have oCm := (oA.ext eBT).ext eC
    clear hrr hqs hD eB eBT eC nT nD oA eA hsA
    generalize rn (R.map List.reverse) (met (R.map List.reverse) 0) = R2 at fo fw sh2
    have hK2 : ∃ K2, K2 = (met (R.map List.reverse) 0).map fun p => Kd.getD p false := ⟨_, rfl⟩
    obtain ⟨K2, eK2⟩ := hK2
    rw [show kfr (R.map List.reverse) Kd 0 = K2 from eK2.symm] at fo
    rw [← eK2] at sh2
    clear eK2
    refine ⟨fun σ' H' => ∃ ms y8 y9 y10 y11, σ' = [some (.str (T S)), some (.ref t), some (.ref a), some (.ref r), some (.ref kk), some (.ref O), some (.ref t2), none, y8, y9, y10, y11] ∧ Same H H' ∧ OthAt C S R Kd H' O ms ∧ ms.length ≤ 10, ?_, fun σ' HD z => ?_⟩
    · refine ⟨fun b H' => b = !decide (R2 = R ∧ K2 = Kd) ∧ Same HC H', ?_, fun b H' z => ?_⟩
      · refine ⟨by show 2 ≤ sizeLine; omega, fun T1 nT1 => ?_⟩
        show eqU _ true (.ref t2) (.ref T1) _ _
        obtain ⟨r2, kk2, g1, g2, g3⟩ := sh2.ext (same_upd (o := .tup [V.ref r, V.ref kk]) nT1)
        obtain ⟨r1, kk1, f1, f2, f3⟩ := shC.ext (same_upd (o := .tup [V.ref r, V.ref kk]) nT1)
        refine ⟨encSh R2 K2, encSh R Kd, .tup (.inl (.inl g1)) (.cons (dp_rows g2) (.cons (dp_kinds g3) .nil)), .tup (.inl (.inl upd_same)) (.cons (dp_rows ?_) (.cons (dp_kinds ?_) .nil)), (flat_sh _ _).shaped (by decide), (flat_sh _ _).shaped (by decide), ?_⟩
        · exact hrw.ext (sC.trans (same_upd nT1))
        · exact (sC.trans (same_upd nT1)) _ _ hk
        · refine ⟨?_, same_upd nT1⟩
          show (!PyData.eqv (encSh R2 K2) (encSh R Kd)) = _
          rw [eqv_sh]
      · obtain ⟨rfl, eD⟩ := z
        refine Br.nd (fun hne => ?_) (fun _ => ⟨_, _, _, _, _, rfl, sC.trans eD, oCm.ext eD, by simp⟩)
        have oD := oCm.ext eD
        have sD := sC.trans eD
        obtain ⟨r2, kk2, g1, g2, g3⟩ := sh2.ext eD
        refine ⟨.inl ⟨rfl, _, .inl (.inl oD.1)⟩, ?_⟩
        refine ⟨[.ref r2, .ref kk2], .ref r2, .inr (.inl (.inl g1)), rfl, [.ref r2, .ref kk2], .ref kk2, .inr (.inl (.inl g1)), rfl, ?_⟩
        refine ⟨rfl, mach_new fo fw g2.at ⟨false, .inl (.inl g3)⟩ (fun H9 m4 e9 n9 mm4 => ?_)⟩
        have o9 := oD.ext e9
        refine ⟨O, _, _, rfl, rfl, o9.1, by show 3 < sizeLine; omega, ?_⟩
        exact ⟨_, _, _, _, _, rfl, same_upd2 (sD.trans e9) nOH, o9.app mm4 (by have := fo.hi; omega) (fun z => hne ⟨z.2.1.symm, z.2.2.symm⟩), by simp⟩
    obtain ⟨ms, y8, y9, y10, y11, rfl, sD, oD, lms⟩ := z
    clear oCm sC shC sh2 fo fw hkl neK okK okR lrv g0
    dsimp only [gName, tSeq, uIf, uT, tCB, tCons]
    refine lc_mapS (K := K) (α := Addr) (enc := V.ref) (out := fun _ => .bl false) (ls := ms) (a := O) (H1 := HD) (fun R' h => h) oD.1 (by omega) (fun H' x hx e Qy hq => ?_) (fun B HE nB eE hB => ?_)
    · refine ⟨rfl, ?_⟩
      obtain ⟨S', R', Kd', a1, a2, a3⟩ := oD.2.2 x hx
      exact unl_go (i := 2) (j := 10) iM (mm.ext (sD.trans e)) (by omega) (.inl ⟨x, S', R', Kd', rfl, a1.ext e, a2, a3⟩) rfl rfl hq
    refine ⟨ms.map fun _ => false, .inl (.inl (by rw [hB, List.map_map]; rfl)), ?_⟩
    refine br_of (c := false) (any_no _) (.no ?_)
    have sE := sD.trans eE
    clear oD hB nB eE sD
    try dsimp only [tNext, tSeq]
    refine ⟨dx, _, sE _ _ h1, a, S, R, Kd, rfl, mm.ext sE, ok, _, rfl, ?_⟩
    refine ⟨by show 3 ≤ sizeLine; omega, fun U nU => ?_⟩
    have sF := sE.trans (same_upd (o := .tup [.str (T S), .ref r, .ref kk]) nU)
    refine ⟨by show 1 ≤ sizeLine; omega, fun V1 nV => ?_⟩
    have sG := sF.trans (same_upd (o := .lst [.ref r]) nV)
    have tU := same_upd (o := .lst [.ref r]) nV _ _ (upd_same (H := HE) (a := U) (o := .tup [.str (T S), .ref r, .ref kk]))
    have tV : (upd (upd HE U (.tup [.str (T S), .ref r, .ref kk])) V1 (.lst [.ref r])) V1 = some (.lst [.ref r]) := upd_same
    generalize upd (upd HE U (.tup [.str (T S), .ref r, .ref kk])) V1 (.lst [.ref r]) = HG at sG tU tV
    clear sF nU nV sE
    intro W nW
    have sW := sG.trans (same_upd (o := .dK []) nW)
    have tU := same_upd (o := .dK []) nW _ _ tU
    have tV := same_upd (o := .dK []) nW _ _ tV
    have tW : (upd HG W (.dK [])) W = some (.dK []) := upd_same
    generalize upd HG W (.dK []) = HW at sW tU tV tW
    refine ⟨by show 8 ≤ sizeLine; omega, fun X0 nX => ?_⟩
    have sX := sW.trans (same_upd (o := .lst [.non, .int 0, .str (T []), .str (spk S R Kd), .ref U, .ref V1, .ref W, .bl true]) nX)
    have tU := same_upd (o := .lst [.non, .int 0, .str (T []), .str (spk S R Kd), .ref U, .ref V1, .ref W, .bl true]) nX _ _ tU
    have tV := same_upd (o := .lst [.non, .int 0, .str (T []), .str (spk S R Kd), .ref U, .ref V1, .ref W, .bl true]) nX _ _ tV
    have tW := same_upd (o := .lst [.non, .int 0, .str (T []), .str (spk S R Kd), .ref U, .ref V1, .ref W, .bl true]) nX _ _ tW
    have tX : (upd HW X0 (.lst [.non, .int 0, .str (T []), .str (spk S R Kd), .ref U, .ref V1, .ref W, .bl true])) X0 = some (.lst [.non, .int 0, .str (T []), .str (spk S R Kd), .ref U, .ref V1, .ref W, .bl true]) := upd_same
    generalize upd HW X0 (.lst [.non, .int 0, .str (T []), .str (spk S R Kd), .ref U, .ref V1, .ref W, .bl true]) = HX at sX tU tV tW tX
    clear sW sG nW nX
    dsimp only [gName, tSeq, uIf, uT, tCB, tCons]
    have odd : ∀ x ∈ [V.non, .int 0, .str (T []), .str (spk S R Kd), .ref U, .ref V1, .ref W, .bl true], Unl K C S R Kd HX x := by
      intro x hx
      simp at hx
      rcases hx with rfl | rfl | rfl | rfl | rfl | rfl | rfl | rfl
      · exact oC.unl (.base .non) (by decide)
      · exact oC.unl (.base (.int _)) (by decide)
      · exact oC.unl (.base (.str _)) (by decide)
      · exact oC.unl (.base (.str _)) (by decide)
      · exact oC.unl (.base (.tup tU)) (by decide)
      · exact oC.unl (.base (.lst tV)) (by decide)
      · exact oC.unl (.base (.dK tW)) (by decide)
      · exact oC.unl (.base (.bl _)) (by decide)
    refine lc_mapS (K := K) (α := V) (enc := id) (out := fun _ => .bl false) (ls := [V.non, .int 0, .str (T []), .str (spk S R Kd), .ref U, .ref V1, .ref W, .bl true]) (a := X0) (H1 := HX) (fun R' h => h) (by rw [List.map_id]; exact tX) (by show 8 < sizeLine; omega) (fun H' x hx e Qy hq => ?_) (fun B HY nB eY hB => ?_)
    · exact ⟨rfl, unl_go (i := 2) (j := 11) iM (mm.ext (sX.trans e)) (by omega) ((odd x hx).ext e) rfl rfl hq⟩
    refine ⟨[V.non, .int 0, .str (T []), .str (spk S R Kd), .ref U, .ref V1, .ref W, .bl true].map fun _ => false, .inl (.inl hB), ?_⟩
    refine br_of (c := false) (any_no _) (.no ?_)
    have sY := sX.trans eY
    have tX := eY _ _ tX
    clear odd hB nB eY sX tU tV tW
    dsimp only [tNext, tRet, uNotV, tCB, tCons]
    have so := five_odd S h5
    refine lcM (K := K) (α := V) (enc := id) (out := fun _ => .bl false) ?_
    dsimp only [tOp, tSl]
    refine uv_go (v := .ref X0) rfl ?_
    refine ⟨_, .inl (.inl tX), fun Y nY => ?_⟩
    have eC2 : cutV [V.non, .int 0, .str (T []), .str (spk S R Kd), .ref U, .ref V1, .ref W, .bl true] none (some 2) = [V.non, .int 0] := rfl
    rw [eC2]
    have s1 := same_upd (o := .lst [V.non, .int 0]) nY
    have tY : (upd HY Y (.lst [V.non, .int 0])) Y = some (.lst [V.non, .int 0]) := upd_same
    generalize upd HY Y (.lst [V.non, .int 0]) = H1 at s1 tY
    refine ⟨by show 1 ≤ sizeLine; omega, fun A1 n1 => ?_⟩
    have s2 := s1.trans (same_upd (o := .tup [.str (T [])]) n1)
    have tY := same_upd (o := .tup [.str (T [])]) n1 _ _ tY
    have tA : (upd H1 A1 (.tup [.str (T [])])) A1 = some (.tup [.str (T [])]) := upd_same
    generalize upd H1 A1 (.tup [.str (T [])]) = H2 at s2 tY tA
    refine ⟨by show 1 ≤ sizeLine; omega, fun B1 n2 => ?_⟩
    have s3 := s2.trans (same_upd (o := .lst [.str (T [])]) n2)
    have tY := same_upd (o := .lst [.str (T [])]) n2 _ _ tY
    have tA := same_upd (o := .lst [.str (T [])]) n2 _ _ tA
    have tB : (upd H2 B1 (.lst [.str (T [])])) B1 = some (.lst [.str (T [])]) := upd_same
    generalize upd H2 B1 (.lst [.str (T [])]) = H3 at s3 tY tA tB
    refine ⟨by show S.length + 1 ≤ sizeLine; omega, ?_⟩
    intro D1 n3
    have s4 := s3.trans (same_upd (o := .dK []) n3)
    have tY := same_upd (o := .dK []) n3 _ _ tY
    have tA := same_upd (o := .dK []) n3 _ _ tA
    have tB := same_upd (o := .dK []) n3 _ _ tB
    have tD : (upd H3 D1 (.dK [])) D1 = some (.dK []) := upd_same
    generalize upd H3 D1 (.dK []) = H4 at s4 tY tA tB tD
    refine ⟨by show 8 ≤ sizeLine; omega, fun E1 n4 => ?_⟩
    have s5 := s4.trans (same_upd (o := .lst [.ref A1, .ref B1, .int 5, .str (T [81]), .str (T [113, 49]), .str (T (S ++ [106])), .ref D1, .bl true]) n4)
    have tY := same_upd (o := .lst [.ref A1, .ref B1, .int 5, .str (T [81]), .str (T [113, 49]), .str (T (S ++ [106])), .ref D1, .bl true]) n4 _ _ tY
    have tA := same_upd (o := .lst [.ref A1, .ref B1, .int 5, .str (T [81]), .str (T [113, 49]), .str (T (S ++ [106])), .ref D1, .bl true]) n4 _ _ tA
    have tB := same_upd (o := .lst [.ref A1, .ref B1, .int 5, .str (T [81]), .str (T [113, 49]), .str (T (S ++ [106])), .ref D1, .bl true]) n4 _ _ tB
    have tD := same_upd (o := .lst [.ref A1, .ref B1, .int 5, .str (T [81]), .str (T [113, 49]), .str (T (S ++ [106])), .ref D1, .bl true]) n4 _ _ tD
    refine ⟨_, _, tY, upd_same, by show 2 + 8 ≤ sizeLine; omega, fun G1 n5 => ?_⟩
    have s6 := s5.trans (same_upd (o := .lst ([V.non, .int 0] ++ [.ref A1, .ref B1, .int 5, .str (T [81]), .str (T [113, 49]), .str (T (S ++ [106])), .ref D1, .bl true])) n5)
    have tA := same_upd (o := .lst ([V.non, .int 0] ++ [.ref A1, .ref B1, .int 5, .str (T [81]), .str (T [113, 49]), .str (T (S ++ [106])), .ref D1, .bl true])) n5 _ _ tA
    have tB := same_upd (o := .lst ([V.non, .int 0] ++ [.ref A1, .ref B1, .int 5, .str (T [81]), .str (T [113, 49]), .str (T (S ++ [106])), .ref D1, .bl true])) n5 _ _ tB
    have tD := same_upd (o := .lst ([V.non, .int 0] ++ [.ref A1, .ref B1, .int 5, .str (T [81]), .str (T [113, 49]), .str (T (S ++ [106])), .ref D1, .bl true])) n5 _ _ tD
    refine ⟨G1, [V.non, .int 0, .ref A1, .ref B1, .int 5, .str (T [81]), .str (T [113, 49]), .str (T (S ++ [106])), .ref D1, .bl true], rfl, upd_same, by show 10 < sizeLine; omega, fun H' x hx e Qy hq => ?_, fun B2 HZ nB2 eZ hB2 => ?_⟩
    · refine ⟨rfl, ?_⟩
      have ex := (sY.trans s6).trans e
      refine ⟨dx, _, ex _ _ h1, a, x, S, R, Kd, rfl, mm.ext ex, ok.mok, ?_⟩
      simp at hx
      rcases hx with rfl | rfl | rfl | rfl | rfl | rfl | rfl | rfl | rfl | rfl
      · exact .inr ⟨.type "NoneType", .base .non, oC.str (by decide), ⟨_, rfl, hq H' (Same.refl _)⟩⟩
      · exact .inr ⟨.type "int", .base (.int _), oC.str (by decide), ⟨_, rfl, hq H' (Same.refl _)⟩⟩
      · exact .inr ⟨.type "tuple", .base (.tup (e _ _ tA)), oC.str (by decide), ⟨_, rfl, hq H' (Same.refl _)⟩⟩
      · exact .inr ⟨.type "list", .base (.lst (e _ _ tB)), oC.str (by decide), ⟨_, rfl, hq H' (Same.refl _)⟩⟩
      · exact .inr ⟨.type "int", .base (.int _), oC.str (by decide), ⟨_, rfl, hq H' (Same.refl _)⟩⟩
      · exact .inl ⟨_, rfl, by show 1 ≤ 1000000; omega, fun H'' e'' => ⟨_, rfl, by
          rw [decide_eq_false (fun z => so.1 (z 81 (by simp))), Bool.false_and]
          exact hq H'' e''⟩⟩
      · exact .inl ⟨_, rfl, by show 2 ≤ 1000000; omega, fun H'' e'' => ⟨_, rfl, by
          rw [decide_eq_false (fun z => so.2.1 (z 49 (by simp))), Bool.false_and]
          exact hq H'' e''⟩⟩
      · exact .inl ⟨_, rfl, by rw [List.length_append]; show S.length + 1 ≤ 1000000; omega, fun H'' e'' => ⟨_, rfl, by
          rw [decide_eq_false (fun z => so.2.2 (z 106 (by simp))), Bool.false_and]
          exact hq H'' e''⟩⟩
      · exact .inr ⟨.type "dict", .base (.dK (e _ _ tD)), oC.str (by decide), ⟨_, rfl, hq H' (Same.refl _)⟩⟩
      · exact .inr ⟨.type "bool", .base (.bl _), oC.str (by decide), ⟨_, rfl, hq H' (Same.refl _)⟩⟩
    · refine ⟨[V.non, .int 0, .ref A1, .ref B1, .int 5, .str (T [81]), .str (T [113, 49]), .str (T (S ++ [106])), .ref D1, .bl true].map fun _ => false, .inl (.inl hB2), ?_⟩
      have := q HZ ((sY.trans s6).trans eZ)
      show Q (.bl (!(List.map _ _).any id)) _
      rw [any_no]
      exact this
end
end LK

/-! k14: what is told as a text; repr of a text; tuples within a comprehension -/
namespace LK
open PySem PySem.Spec PyProof.Rows L2 LamX ClX
open scoped List
theorem so_app (a b : Str) : PyData.strOk (a ++ b) = (PyData.strOk a && PyData.strOk b) := by
  show (a.cps ++ b.cps).all _ = (a.cps.all _ && b.cps.all _)
  exact Array.all_append
theorem so_of (s : String) : PyData.strOk (Str.ofString s) = true := by
  rw [PySem.Str.ofString_eq_toList]
  show ((s.toList.map Char.toNat).toArray.all fun c => decide (c < 0x110000)) = true
  rw [List.all_toArray, List.all_eq_true]
  intro c hc
  obtain ⟨d, _, rfl⟩ := List.mem_map.mp hc
  have := d.valid
  unfold UInt32.isValidChar Nat.isValidChar at this
  have e : d.toNat = d.val.toNat := rfl
  exact decide_eq_true (by omega)
theorem so_app' {a b : Str} (h1 : PyData.strOk a = true) (h2 : PyData.strOk b = true) : PyData.strOk (a ++ b) = true := by rw [so_app, h1, h2]; rfl
theorem so_from : ∀ (ts : List Str) (k : Nat) (acc : Str), PyData.strOk acc = true → (∀ t ∈ ts, PyData.strOk t = true) → PyData.strOk (textFrom k acc ts) = true
  | [], k, acc, h, _ => h
  | t :: r, k, acc, h, ht => so_from r (k + 1) _ (so_app' (so_app' h (so_of _)) (ht t (by simp))) fun x hx => ht x (List.mem_cons_of_mem _ hx)
theorem so_list {ts : List Str} (h : ∀ t ∈ ts, PyData.strOk t = true) : PyData.strOk (listText ts) = true := so_app' (so_from ts 0 _ (so_of "[") h) (so_of "]")
theorem shownAll_map : ∀ ds : List PyData, PyData.shownAll ds = ds.map PyData.shown
  | [] => rfl
  | d :: ds => by rw [PyData.shownAll, shownAll_map ds]; rfl
theorem so_lst {ds : List PyData} (h : ∀ d ∈ ds, PyData.strOk d.shown = true) : PyData.strOk (PyData.list ds).shown = true := by
  rw [PyData.shown, shownAll_map]
  refine so_list fun t ht => ?_
  obtain ⟨d, hd, rfl⟩ := List.mem_map.mp ht
  exact h d hd
theorem so_rows (R : Rows) : PyData.strOk (encRs R).shown = true := so_lst fun d hd => by
  obtain ⟨r, _, rfl⟩ := List.mem_map.mp hd
  exact so_lst fun d hd => by
    obtain ⟨g, _, rfl⟩ := List.mem_map.mp hd
    rw [PyData.shown]; exact so_of _
theorem so_kinds (Kd : List Bool) : PyData.strOk (encB Kd).shown = true := so_lst fun d hd => by
  obtain ⟨b, _, rfl⟩ := List.mem_map.mp hd
  cases b
  · exact so_of "False"
  · exact so_of "True"
theorem five_so : ∀ S ∈ five, PyData.strOk (reprText (T S)) = true := by decide +kernel
theorem so_spk {S : List Nat} {R : Rows} {Kd : List Bool} (h : S ∈ five) : PyData.strOk (spk S R Kd) = true :=
  so_app' (so_app' (so_app' (so_app' (so_app' (so_app' (so_app' (by decide +kernel) (so_of _)) (five_so S h)) (so_of _)) (so_rows R)) (so_of _)) (so_kinds Kd)) (so_of _)
theorem spk_eq {S : List Nat} {R : Rows} {Kd : List Bool} : Str.ofString "Machine(" ++ reprText (T S) ++ ", " ++ (encRs R).shown ++ ", " ++ (encB Kd).shown ++ ")" = spk S R Kd := by
  unfold spk
  rw [show Str.empty ++ Str.ofString "Machine(" = Str.ofString "Machine(" by decide +kernel]
/-! ### what is told is short enough to be shown -/
theorem shn_str {l : List Nat} {m : Nat} (h : ∀ c ∈ l, c < 128) (hl : l.length ≤ m) : Shn 0 m (.str (T l)) := by
  refine ⟨rfl, rfl, Nat.le_refl _, ?_, hl⟩
  show (l.all fun c => decide (c < 16 ^ 8)) = true
  rw [List.all_eq_true]
  intro c hc
  have := h c hc
  have : (128 : Nat) < 16 ^ 8 := by decide
  exact decide_eq_true (by omega)
theorem Shn.up {n n' m m' : Nat} {d : PyData} (h : Shn n m d) (hn : n ≤ n') (hm : m ≤ m') : Shn n' m' d := ⟨h.sh, h.nd, Nat.le_trans h.dp hn, h.lf, Nat.le_trans h.wt hm⟩
theorem shn_non : Shn 0 0 .none := ⟨rfl, rfl, Nat.le_refl _, rfl, Nat.le_refl _⟩
theorem shn_due {S : List Nat} {R : Rows} {Kd : List Bool} {Ts : List (List Nat)} (ok : ShOk S R Kd) (hT : Ts.length ≤ 100) (hch : ∀ x ∈ Ts, ∀ c ∈ x, c ∈ S) : Shn 3 270009 (dueD S R Kd Ts) := by
  have hi := ok.hi
  have lo := ok.lo
  have l3 := ok.let_.hi
  have asc : ∀ c ∈ S, c < 128 := fun c hc => ok.let_.sm.asc c hc
  have ftx : ∀ e ∈ metT S R 0, Shn 0 40 (.str (T e.2)) := fun e he => shn_str (fndT_chr asc _ e he) (Nat.le_trans (fndT_len _ e he) hi)
  have z0 : Shn 0 40 (.str (T [])) := shn_str (fun c h => nomatch h) (Nat.zero_le _)
  have ftn : ∀ p, Shn 0 40 (.str (T (ft S R p))) := fun p => by
    unfold ft
    cases h : (metT S R 0).lookup p with
    | none => exact z0
    | some t =>
      have mem : ∀ {f : Ents}, f.lookup p = some t → (p, t) ∈ f := by
        intro f
        induction f with
        | nil => intro h; cases h
        | cons e f ih =>
          obtain ⟨a, x⟩ := e
          intro h
          by_cases e : p = a
          · subst e; rw [List.lookup_cons_self] at h; cases h; simp
          · have nb : (p == a) = false := by simpa using e
            rw [List.lookup_cons, nb] at h
            exact List.mem_cons_of_mem _ (ih h)
      exact ftx _ (mem h)
  have lt : ∀ p, p < R.length → ∀ x ∈ Ts, led S R p x < 64 := fun p hp x hx => by have := led_lt ok.rows hp x (hch x hx); omega
  have e1 : Shn 2 30000 (.str (T S)) := (shn_str (m := 3) asc l3).up (by omega) (by omega)
  have e2 : Shn 2 30000 (encRs R) := (shn_rows ok).up (by omega) (by omega)
  have e3 : Shn 2 30000 (encB Kd) := (shn_kinds ok).up (by omega) (by omega)
  have e4 : Shn 2 30000 (.int (R.length : Nat)) := (shn_int (g := R.length) (by omega)).up (by omega) (by omega)
  have e5 : Shn 2 30000 (encTs ((List.range R.length).map (ft S R))) := (shn_list (n := 0) (m := 40) fun d hd => by
    obtain ⟨l, hl, rfl⟩ := List.mem_map.mp hd
    obtain ⟨p, _, rfl⟩ := List.mem_map.mp hl
    exact ftn p).up (by omega) (by rw [List.length_map, List.length_map, List.length_range]; omega)
  have e6 : Shn 2 30000 (oD (ftk S R Kd)) := by
    unfold ftk
    cases h : (metT S R 0).find? fun e => Kd.getD e.1 false with
    | none => exact shn_non.up (by omega) (by omega)
    | some e => exact (ftx e (List.mem_of_find?_eq_some h)).up (by omega) (by omega)
  have e7 : Shn 2 30000 (encRs (ldR S R Ts R.length)) := (shn_list (n := 1) (m := 700) fun d hd => by
    obtain ⟨r, hr, rfl⟩ := List.mem_map.mp hd
    obtain ⟨p, hp, rfl⟩ := List.mem_map.mp hr
    refine (shn_list (n := 0) (m := 6) fun d hd => ?_).mono (by rw [List.length_map, List.length_map]; omega)
    obtain ⟨g, hg, rfl⟩ := List.mem_map.mp hd
    obtain ⟨x, hx, rfl⟩ := List.mem_map.mp hg
    exact shn_int (lt p (List.mem_range.mp hp) x hx)).up (by omega) (by rw [List.length_map, List.length_map, List.length_range]; omega)
  have e8 : Shn 2 30000 (encB (tkB S R Kd Ts)) := (shn_list (n := 0) (m := 6) fun d hd => by
    obtain ⟨g, _, rfl⟩ := List.mem_map.mp hd
    exact shn_bl _).up (by omega) (by rw [List.length_map, List.length_map]; omega)
  exact (shn_list (n := 2) (m := 30000) fun d hd => by
    simp at hd
    rcases hd with rfl | rfl | rfl | rfl | rfl | rfl | rfl | rfl
    · exact e1
    · exact e2
    · exact e3
    · exact e4
    · exact e5
    · exact e6
    · exact e7
    · exact e8).mono (by show (30000 + 1) * 9 ≤ 270009; omega)
/-! ### rules -/
section
variable {X : Cx}
def reprSU : List V → Hp → VK → Prop := fun vs H Q => match vs with
  | [.str y] => (reprText y).length ≤ sizeLine ∧ Q (.str (reprText y)) H
  | _ => False
theorem c_reprS : CallR X (.builtin "repr") reprSU := by
  intro pins s σ H xs us Q I r h
  unfold reprSU at h
  split at h
  · rename_i y
    obtain ⟨hl, q⟩ := h
    obtain ⟨u, rfl, ru⟩ := vals1 r
    obtain ⟨t, rfl⟩ := ru
    exact PySem.P.repr_of_str ⟨.str (reprText y), H, I.tok _, ⟨_, rfl⟩, q⟩ hl
  · exact h.elim
/-- + of texts, as it is -/
def rAddS : R2 := fun x y H Q => match x, y with
  | .str a, .str b => a.length + b.length ≤ sizeLine ∧ Q (.str (a ++ b)) H
  | _, _ => False
theorem o_addS : OpR X (binaryOp .Add) rAddS := by
  refine OpR.imp op_add_str fun x y H Q h => ?_
  unfold rAddS at h
  split at h
  · exact ⟨_, _, rfl, rfl, h.1, h.2⟩
  · exact h.elim
variable {K : PySem.W.Frag} {a : Expr} {ta : TE}
theorem pe_tupleK {p pos : Pos} (hK : X.K = K) (hg : Gl X "tuple") (hm : X.mg "tuple" = none) (ha : PE X a ta) (na : starEach [a] X.env = (false, eval a X.env) :: starEach [] X.env := by rfl) :
    PE X (.Call (.Name "tuple" p) [a] [] pos) (tThen ta (kTup K)) := hK ▸ pe_tupleOf hg hm ha na
end
end LK

/-! k14: _law_right -/
namespace LK
open PySem PySem.Spec PyProof.Rows L2 LamX ClX
open scoped List
abbrev nRight : List Str := ["_law_pot_here", "_law_signs", "_law_sheet_here", "_law_mate_sheet", "_law_rows", "_law_kinds", "_law_texts_here", "_law_passed", "_law_rig_here", "_law_mate", "_law_twin", "_law_due_here", "_law_mate_due", "_law_turn", "_law_told_here", "_law_spoken", "_law_row"]
theorem scRight : FnScope nRight ["_law_pot_here"] (defScope sRight) := ⟨rfl, rfl, rfl, by decide +kernel, rfl, by decide +kernel, by decide +kernel⟩
theorem five_ok : ∀ S ∈ five, LetOk S := by
  intro S h
  simp only [five, List.mem_cons, List.mem_nil_iff, or_false] at h
  rcases h with rfl | rfl | rfl | rfl | rfl
  all_goals exact ⟨by show List.Pairwise (· < ·) _; decide, by show ∀ c ∈ _, c ∈ smalls; decide +kernel, by decide, by decide⟩
abbrev txn (S : List Nat) : Nat := if S.length < 3 then 5 else 3
theorem five_txl : ∀ S ∈ five, (txl S (txn S)).length ≤ 90 ∧ ∀ x ∈ txl S (txn S), x.length ≤ 5 ∧ ∀ c ∈ x, c ∈ S := by decide +kernel
theorem lts_app2 (a : List (List Nat)) (x y : List Nat) : lts (a ++ [x, y]) = lts a ++ [V.str (T x), V.str (T y)] := List.map_append
theorem rep_len (S : List Nat) (n : Nat) : (List.replicate n S).flatten.length = n * S.length := by
  induction n with
  | zero => simp
  | succ n ih => rw [List.replicate_succ, List.flatten_cons, List.length_append, ih, Nat.succ_mul]; omega
theorem rep_mem {S : List Nat} {n c : Nat} (h : c ∈ (List.replicate n S).flatten) : c ∈ S := by
  obtain ⟨l, hl, hc⟩ := List.mem_flatten.mp h
  rw [(List.mem_replicate.mp hl).2] at hc; exact hc
theorem machN_to {C : Addr} {H0 H H' : Hp} {a : Addr} {S : List Nat} {R : Rows} {Kd : List Bool} (h : MachN C H0 H a S R Kd) (na : H0 a = none) (hz : ∀ b o, H b = some o → H0 b = none → (∀ ps, o ≠ .tbl ps) → H' b = some o) : Mach C H' a S R Kd := by
  obtain ⟨dx, r, k, rs, h1, h2, h3, h4, h5, h6, h7⟩ := h
  exact ⟨dx, r, k, rs, hz _ _ h1 na (fun _ z => nomatch z), hz _ _ h2 h6 (fun _ z => nomatch z), h3, fun i p hp => hz _ _ (h4 i p hp).1 (h4 i p hp).2 (fun _ z => nomatch z), hz _ _ h5 h7 (fun _ z => nomatch z)⟩
theorem SheetAt.exn {TT : List (Addr × Str)} {H H' : Hp} {t : Addr} {R : Rows} {Kd : List Bool} (h : SheetAt H t R Kd) (e : Ex TT no H H') : SheetAt H' t R Kd := by
  obtain ⟨r, k, h1, h2, h3⟩ := h
  exact ⟨r, k, e.keep _ _ (fun z => z) h1 (fun _ z => nomatch z), h2.exn e, e.lst (fun z => z) h3⟩
theorem flat_strK {x : Str} (h : PyData.strOk x = true) : Flat 0 (.str x) := ⟨by
  show PyData.strOk x = true
  exact h, Nat.le_refl _⟩
theorem new_of {H : Hp} {p : Addr} (n : H p = none) : New H p := fun b o hb _ z => by rw [z, n] at hb; cases hb
section
variable {P : Program} {w : World} {K : PySem.W.Frag} {mg : Str → Option Value} {base : Heap} {C : Addr}
def spRight (Pt : Addr) : Sp := fun vs H Q _ => ∃ (p : Addr), vs = [.ref p] ∧ Pot H p ∧ Tabs (T1D Pt) H ∧ ∀ H', Ex (T1D Pt) (at1 p) H H' → Q (.bl true) H'
theorem ok_right {f : Addr} {fd : FuncData} {k : Nat} {Pt : Addr} {mc u1 u2 : Value} (F : Fun K "_law_right" "_law_right" sRight f fd) (M : Mx mg) (cM : ClsM K C) (iM : IsM K C) (cE : EqC K C) (gM : mg "Machine" = some (.ref C))
    (kC : Con K C "MOST_PLACES" (.int 40) u1) (rC : CRead K C mc) (vC : CVal K C mc "MOST_PLACES" (.int 40) u2)
    (HQ : HasM P w K mg base k C "__eq__" ["other"] (spEq K C)) (HR : HasM P w K mg base k C "__repr__" [] (spRepr C)) (HI : HasI P w K mg base k "Machine" C ["letters", "rows", "kinds"] (spInit K C))
    (HRw : HasM P w K mg base (k + 1) C "rows" [] (spRows C)) (HKd : HasM P w K mg base (k + 1) C "kinds" [] (spKinds C))
    (HPk : Has P w K mg base (k + 1) "_law_pick" ["_law_pot_here", "_law_some"] (spPick (T1D Pt))) (HSh : Has P w K mg base (k + 1) "_law_sheet" ["_law_pot_here", "_law_signs", "_law_most"] (spSheet (T1D Pt)))
    (HTx : Has P w K mg base (k + 1) "_law_texts" ["_law_signs", "_law_most"] spTexts) (HRg : Has P w K mg base (k + 1) "_law_rig" ["_law_signs", "_law_sheet_here"] (spRig C))
    (HDu : Has P w K mg base (k + 1) "_law_due" ["_law_signs", "_law_sheet_here", "_law_texts_here"] (spDue Pt K)) (HTo : Has P w K mg base (k + 1) "_law_told" ["_law_rig_here", "_law_texts_here"] (spTold C K))
    (HNa : Has P w K mg base (k + 1) "_law_by_names_right" ["_law_signs", "_law_sheet_here", "_law_rig_here"] (spTwo3 C)) (HAt : Has P w K mg base (k + 1) "_law_at_right" ["_law_signs", "_law_sheet_here", "_law_rig_here"] (spTwo3 C))
    (HOt : Has P w K mg base (k + 1) "_law_others_right" ["_law_signs", "_law_sheet_here", "_law_rig_here"] (spOth C)) :
    FnG P w K mg base CX0 (k + 2) f fd ["_law_pot_here"] (spRight Pt) := by
  refine okG F scRight (fun vs H Q E h => ?_) (fun cdv A hA outer s H vs Q E hr h => ?_)
  · obtain ⟨p, rfl, _⟩ := h; rfl
  · obtain ⟨p, rfl, hp, hT, q⟩ := h
    have nd := scRight.nd
    have sl := sizeLine_eq
    have hu := Room.u64 hr
    have HQ1 := HQ.up (Nat.le_succ k)
    refine ⟨_, pss_cons (ps_set (i := 1) nd rfl (.inl rfl) (pe_callH HPk hA hr (by rfl) (pa_cons (uv 0) (pa_cons (pe_lst (pa_cons (ustr [97]) (pa_cons (ustr [97, 98]) (pa_cons (ustr [98, 113]) (pa_cons (ustr [97, 98, 99]) (pa_cons (ustr [99, 120, 122]) pa_nil)))))) pa_nil))))
      (pss_cons (ps_par (i := 2) (j := 3) rfl nd rfl rfl (by decide) (by rfl) (by rfl) (pa_cons (pe_callH HSh hA hr (by rfl) (pa_cons (uv 0) (pa_cons (uv 1) (pa_cons pe_int pa_nil)))) (pa_cons (pe_callH HSh hA hr (by rfl) (pa_cons (uv 0) (pa_cons (uv 1) (pa_cons pe_int pa_nil)))) pa_nil)) rfl)
      (pss_cons (ps_asg (uv 2) (pg_tup rfl (pgs_cons (pg_name (i := 4) nd rfl (.inl rfl)) (pgs_cons (pg_name (i := 5) nd rfl (.inl rfl)) pgs_nil))) rfl)
      (pss_cons (ps_set (i := 6) nd rfl (.inl rfl) (pe_op o_add (pe_callH HTx hA hr (by rfl) (pa_cons (uv 1) (pa_cons (pe_cl (pe_ifU (pt_cu o_lt (pe_callB c_len (by rfl) M.len b_len (pa_cons (uv 1) pa_nil)) pe_int) pe_int pe_int)) pa_nil)))
          (pe_lst (pa_cons (pe_op o_mul (uv 1) pe_int) (pa_cons (pe_op o_add (pe_op o_mul (pe_step (-1) rfl rfl (uv 1) (po_u (pe_un o_neg pe_int)) (fun _ _ _ h => h)) pe_int) (pe_ixU (uv 1) pe_int)) pa_nil)))))
      (pss_cons (ps_set (i := 7) nd rfl (.inl rfl) (pe_lst (pa_cons (pe_lc (own := [("_law_row", 16)]) (g := gName 16) (tt := tYes) rfl nd (pi_list (uv 4)) (blkOk_by (N := nRight) (sc := defScope sRight) (by decide +kernel))
            (fun _ _ _ _ _ => pg_name (i := 16) nd rfl (Or.inl rfl)) (fun _ _ _ _ _ => pts_nil) (fun _ _ _ _ _ => pe_callTy (r := listU K) (c_list rfl) (by rfl) M.list b_list (pa_cons (uv 16) pa_nil)))
          (pa_cons (pe_callTy (c_list rfl) (by rfl) M.list b_list (pa_cons (uv 5) pa_nil)) pa_nil))))
      (pss_cons (ps_par (i := 8) (j := 9) rfl nd rfl rfl (by decide) (by rfl) (by rfl) (pa_cons (pe_mkI HI hA hr (by rfl) (pa_cons (uv 1) (pa_cons (pe_ixU (uv 7) pe_int) (pa_cons (pe_ixU (uv 7) pe_int) pa_nil)))) (pa_cons (pe_callH HRg hA hr (by rfl) (pa_cons (uv 1) (pa_cons (uv 3) pa_nil))) pa_nil)) rfl)
      (pss_cons (ps_set (i := 10) nd rfl (.inl rfl) (pe_mkIK (ks := ["kinds", "rows", "letters"]) HI hA hr (by rfl) (pk_cons (pe_tupleOf (by rfl) M.tuple (uv 5))
          (pk_cons (pe_tupleOf (by rfl) M.tuple (pe_lc (own := [("_law_row", 16)]) (g := gName 16) (tt := tYes) rfl nd (pi_list (uv 4)) (blkOk_by (N := nRight) (sc := defScope sRight) (by decide +kernel))
            (fun _ _ _ _ _ => pg_name (i := 16) nd rfl (Or.inl rfl)) (fun _ _ _ _ _ => pts_nil) (fun _ _ _ _ _ => pe_tupleK (K := K) rfl (by rfl) M.tuple (uv 16))))
          (pk_cons (uv 1) pk_nil))) (by rfl) (by rfl)))
      (pss_cons (ps_par (i := 11) (j := 12) rfl nd rfl rfl (by decide) (by rfl) (by rfl) (pa_cons (pe_callB (c_repr hA hu) (by rfl) M.repr b_repr (pa_cons (pe_callH HDu hA hr (by rfl) (pa_cons (uv 1) (pa_cons (uv 2) (pa_cons (uv 6) pa_nil)))) pa_nil))
          (pa_cons (pe_callB (c_repr hA hu) (by rfl) M.repr b_repr (pa_cons (pe_callH HDu hA hr (by rfl) (pa_cons (uv 1) (pa_cons (uv 3) (pa_cons (uv 6) pa_nil)))) pa_nil)) pa_nil)) rfl)
      (pss_cons (ps_ifU (pt_cu (o_ne hu) (uv 7) (pe_lst (pa_cons (uv 4) (pa_cons (uv 5) pa_nil)))) (pss_one (ps_ret pe_bl)) pss_nil)
      (pss_cons (ps_expr (pe_bm0 PySem.F.plainAttrs_list PySem.F.slot_list_reverse PySem.F.type_list_reverse mt_reverse (pe_ixU (pe_ixU (uv 7) pe_int) pe_int)))
      (pss_cons (ps_expr (pe_bm0 PySem.F.plainAttrs_list PySem.F.slot_list_clear PySem.F.type_list_clear mt_clear (pe_ixU (uv 7) pe_int)))
      (pss_cons (ps_expr (pe_bm0 PySem.F.plainAttrs_list PySem.F.slot_list_clear PySem.F.type_list_clear mt_clear (pe_ixU (uv 7) pe_int)))
      (pss_cons (ps_for PassesOwn.never rfl (pi_range1 (by rfl) M.range (pa_cons pe_int pa_nil)) (pg_name (i := 13) nd rfl (.inl rfl))
        (pss_cons (ps_ifU (pt_cl (PW.pt (pw_orU (pt_cu (o_ne hu) (pe_callB (c_repr hA hu) (by rfl) M.repr b_repr (pa_cons (pe_callH HTo hA hr (by rfl) (pa_cons (uv 8) (pa_cons (uv 6) pa_nil))) pa_nil)) (uv 11))
            (pw_or1 (pt_cu (o_ne hu) (pe_callB (c_repr hA hu) (by rfl) M.repr b_repr (pa_cons (pe_callH HTo hA hr (by rfl) (pa_cons (uv 9) (pa_cons (uv 6) pa_nil))) pa_nil)) (uv 12)))))) (pss_one (ps_ret pe_bl)) pss_nil)
        (pss_cons (ps_set (i := 14) nd rfl (.inl rfl) (pe_lst (pa_cons (pe_mH0 HRw cM.cls hA hr (uv 8)) (pa_cons (pe_mH0 HKd cM.cls hA hr (uv 8)) pa_nil))))
        (pss_cons (ps_expr (pe_bm PySem.F.plainAttrs_list PySem.F.slot_list_append PySem.F.type_list_append mt_append (pe_ixU (pe_ixU (uv 14) pe_int) pe_int) (pa_cons pe_int pa_nil)))
        (pss_cons (ps_expr (pe_bm0 PySem.F.plainAttrs_list PySem.F.slot_list_clear PySem.F.type_list_clear mt_clear (pe_ixU (uv 14) pe_int)))
        (pss_cons (ps_expr (pe_bm0 PySem.F.plainAttrs_list PySem.F.slot_list_reverse PySem.F.type_list_reverse mt_reverse (pe_ixU (uv 14) pe_int)))
        (pss_one (ps_expr (pe_bm PySem.F.plainAttrs_list PySem.F.slot_list_append PySem.F.type_list_append mt_append (pe_ixU (uv 14) pe_int) (pa_cons pe_non pa_nil))))))))))
      (pss_cons (ps_set (i := 15) nd rfl (.inl rfl) (pe_op o_addS (pe_op o_addS (pe_op o_addS (pe_op o_addS (pe_op o_addS (pe_op o_addS pe_str (pe_callB c_reprS (by rfl) M.repr b_repr (pa_cons (uv 1) pa_nil))) pe_str)
          (pe_callB (c_repr hA hu) (by rfl) M.repr b_repr (pa_cons (uv 4) pa_nil))) pe_str) (pe_callB (c_repr hA hu) (by rfl) M.repr b_repr (pa_cons (uv 5) pa_nil))) pe_str))
      (pss_cons (ps_ifU (pt_cl (PW.pt (pw_orU (pt_cu (o_ne hu) (pe_lst (pa_cons (pe_callB (c_reprI HR hA hr) (by rfl) M.repr b_repr (pa_cons (uv 8) pa_nil)) (pa_cons (pe_callB (c_reprI HR hA hr) (by rfl) M.repr b_repr (pa_cons (uv 10) pa_nil)) pa_nil))) (pe_op o_mul (pe_lst (pa_cons (uv 15) pa_nil)) pe_int))
          (pw_orU (pt_not (pt_cu (r := eqI K C (spEq K C) false) (o_eqI HQ1 hA hr) (uv 8) (uv 10))) (pw_orU (pt_cu (r := eqI K C (spEq K C) true) (o_neI HQ cE hA hr) (uv 8) (uv 10))
          (pw_or1 (pt_cu (o_ne hu) (pe_callB (c_repr hA hu) (by rfl) M.repr b_repr (pa_cons (pe_callH HTo hA hr (by rfl) (pa_cons (uv 10) (pa_cons (uv 6) pa_nil))) pa_nil)) (uv 11)))))))) (pss_one (ps_ret pe_bl)) pss_nil)
      (pss_cons (ps_ifU (pt_cl (PW.pt (pw_orU (pt_not (pt_u (pe_callH HNa hA hr (by rfl) (pa_cons (uv 1) (pa_cons (uv 2) (pa_cons (uv 8) pa_nil)))))) (pw_or1 (pt_not (pt_u (pe_callH HAt hA hr (by rfl) (pa_cons (uv 1) (pa_cons (uv 2) (pa_cons (uv 8) pa_nil)))))))))) (pss_one (ps_ret pe_bl)) pss_nil)
      (pss_one (ps_ret (pe_andU (pe_callH HOt hA hr (by rfl) (pa_cons (uv 1) (pa_cons (uv 2) (pa_cons (uv 8) pa_nil)))) (pe_one (pe_cu (o_eq hu) (pe_lst (pa_cons (pe_con (uv 8) (by rfl)) (pa_cons (pe_cval (pe_glob (v := .ref C) (by rfl) gM rfl)) pa_nil))) (pe_lst (pa_cons pe_int (pa_cons pe_int pa_nil))))))))))))))))))))))), ?_⟩
    refine ⟨by show 5 ≤ sizeLine; omega, fun L0 n0 => ?_⟩
    refine ⟨p, L0, lts five, rfl, hp.put (hp.ne n0), (hp.ne n0).symm, upd_same, by decide, by decide, fun H1 x ex1 pot1 hx => ?_⟩
    obtain ⟨S, h5, rfl⟩ := List.mem_map.mp hx
    have lt := five_ok S h5
    have l3 := lt.hi
    have l1 := lt.lo
    refine ⟨p, S, 7, rfl, lt, pot1, by omega, by omega, fun H2 t1 R Kd ex2 pot2 sh1 ok1 wh1 => ?_⟩
    refine ⟨p, S, 5, rfl, lt, pot2, by omega, by omega, fun H3 t2 R2 Kd2 ex3 pot3 sh2 ok2 wh2 => ⟨_, _, rfl, ?_⟩⟩
    have eA : Ex (T1D Pt) (at1 p) H H3 := (((Ex.new n0).trans ex1).trans ex2).trans ex3
    have sh1 := (sh1.ex ex3).s
    have sh2 := sh2.s
    clear hx n0 ex1 ex2 ex3 pot1 pot2 hp
    have hi1 := ok1.hi
    have lo1 := ok1.lo
    have hi2 := ok2.hi
    obtain ⟨r, kk, ht, hrw, hk⟩ := id sh1
    refine ⟨t1, _, rfl, .inl (.inl ht), rfl, _, _, rfl, _, _, rfl, rfl, ?_⟩
    refine ⟨fun v H' => v = .int (txn S : Nat) ∧ H' = H3, ?_, fun v H' z => ?_⟩
    · refine ⟨by show S.length ≤ sizeLine; omega, Br.d (fun h => ⟨?_, rfl⟩) (fun h => ⟨?_, rfl⟩)⟩
      · have h : (S.length : Int) < 3 := h
        rw [show txn S = 5 from if_pos (by omega)]; rfl
      · have h : ¬ (S.length : Int) < 3 := h
        rw [show txn S = 3 from if_neg (by omega)]; rfl
    obtain ⟨rfl, rfl⟩ := z
    have tn : txn S ≤ 5 := by unfold txn; split <;> omega
    refine ⟨S, txn S, rfl, l3, tn, fun H4 X1 e4 nX hX => ?_⟩
    refine ⟨⟨by decide, by decide, by show S.length * 40 ≤ 1000000; omega⟩, ?_⟩
    have lst : (stp (-1) (cs (T S))).length = S.length := by rw [stp_rev]; exact List.length_reverse
    have mst : ∀ c ∈ stp (-1) (cs (T S)), c ∈ S := fun c hc => by rw [stp_rev] at hc; exact List.mem_reverse.mp hc
    refine ⟨by rw [lst]; omega, ⟨by decide, by decide, by show (stp (-1) (cs (T S))).length * 30 ≤ 1000000; rw [lst]; omega⟩, ?_⟩
    generalize stp (-1) (cs (T S)) = S2 at lst mst
    obtain ⟨c0, S', eS⟩ : ∃ c0 S', S = c0 :: S' := by
      cases S with
      | nil => simp at l1
      | cons a b => exact ⟨a, b, rfl⟩
    have hc0 : c0 ∈ S := by rw [eS]; simp
    have w30 : (List.replicate (30 : Int).toNat (cs (T S2))).flatten.length = 30 * S2.length := rep_len S2 30
    have w40 : (List.replicate (40 : Int).toNat (cs (T S))).flatten.length = 40 * S.length := rep_len S 40
    refine ⟨by show S.length ≤ sizeLine; omega, c0, atI_nat (j := 0) (by rw [show cs (T S) = S from rfl, eS]; rfl), ⟨by show (List.replicate (30 : Int).toNat (cs (T S2))).flatten.length + 1 ≤ sizeLine; rw [w30]; omega, ?_⟩⟩
    refine ⟨by show 2 ≤ sizeLine; omega, fun X2 n2 => ?_⟩
    obtain ⟨tl90, tlc⟩ := five_txl S h5
    refine ⟨_, _, same_upd n2 _ _ hX, upd_same, by rw [List.length_map]; show _ + 2 ≤ sizeLine; omega, fun X3 n3 => ?_⟩
    obtain ⟨Ts, hTsE⟩ : ∃ Ts, Ts = txl S (txn S) ++ [(List.replicate (40 : Int).toNat (cs (T S))).flatten, (List.replicate (30 : Int).toNat (cs (T S2))).flatten ++ [c0]] := ⟨_, rfl⟩
    have eTs : lts (txl S (txn S)) ++ [V.str (T (List.replicate (40 : Int).toNat (cs (T S))).flatten), V.str (T (cs (T (List.replicate (30 : Int).toNat (cs (T S2))).flatten) ++ cs (T [c0])))] = lts Ts := by rw [hTsE]; exact (lts_app2 _ _ _).symm
    rw [eTs]
    have lTs : Ts.length ≤ 100 := by rw [hTsE, List.length_append]; show _ + 2 ≤ 100; omega
    have cTs : ∀ x ∈ Ts, x.length ≤ 1000000 ∧ ∀ c ∈ x, c ∈ S := fun x hx => by
      rw [hTsE] at hx
      rcases List.mem_append.mp hx with hx | hx
      · have := tlc x hx; exact ⟨by omega, this.2⟩
      · simp only [List.mem_cons, List.mem_nil_iff, or_false] at hx
        rcases hx with rfl | rfl
        · exact ⟨by rw [w40]; omega, fun c hc => rep_mem hc⟩
        · refine ⟨by rw [List.length_append, w30]; show _ + 1 ≤ 1000000; omega, fun c hc => ?_⟩
          rcases List.mem_append.mp hc with hc | hc
          · exact mst c (rep_mem hc)
          · simp at hc; rw [hc]; exact hc0
    have cTs2 : ∀ x ∈ Ts, ∀ c ∈ x, c ∈ S := fun x hx => (cTs x hx).2
    have s5 := (e4.trans (same_upd (o := .lst [V.str (T (List.replicate (40 : Int).toNat (cs (T S))).flatten), V.str (T (cs (T (List.replicate (30 : Int).toNat (cs (T S2))).flatten) ++ cs (T [c0])))]) n2)).trans (same_upd (o := .lst (lts Ts)) n3)
    have hTs : (upd (upd H4 X2 (.lst [V.str (T (List.replicate (40 : Int).toNat (cs (T S))).flatten), V.str (T (cs (T (List.replicate (30 : Int).toNat (cs (T S2))).flatten) ++ cs (T [c0])))])) X3 (.lst (lts Ts))) X3 = some (.lst (lts Ts)) := upd_same
    generalize upd (upd H4 X2 (.lst [V.str (T (List.replicate (40 : Int).toNat (cs (T S))).flatten), V.str (T (cs (T (List.replicate (30 : Int).toNat (cs (T S2))).flatten) ++ cs (T [c0])))])) X3 (.lst (lts Ts)) = B at s5 hTs
    clear eTs hTsE w30 w40 hX e4 n2 n3 nX tlc tl90 mst lst
    have eB := eA.trans (Ex.same (S := at1 p) s5)
    have sh1 := sh1.ext s5
    have sh2 := sh2.ext s5
    have hrw := hrw.ext s5
    have hk := s5 _ _ hk
    have tB := eB.tabs hT
    clear s5 eA ht
    obtain ⟨rs, hs', hl', hrow'⟩ := id hrw
    have g0 : ∀ i, i < R.length → rs[i]? = some (rs.getD i 0) := fun i hi => by
      rw [List.getD_eq_getElem?_getD, List.getElem?_eq_getElem (by omega)]; rfl
    -- what is passed
    dsimp only [tSeq, tAsg, tLst, tCons, gName]
    refine lc_refS (K := K) (α := Nat) (enc := fun i => V.ref (rs.getD i 0)) (o := fun i => .lst (iv (gls R i))) (ls := List.range rs.length) (a := r) (H1 := B) (fun R' h => h) (by rw [range_refs]; exact hs') (by rw [List.length_range]; omega) (fun H' i hi e Qy hq => ?_) (fun P2 H5 qs nP2 e5 hP2 lqs hqs ndq => ?_)
    · have hi := List.mem_range.mp hi
      exact ⟨rfl, .inl ⟨iv (gls R i), .inl (.inl (.inl (e _ _ (hrow' i _ (g0 i (by omega)))))), fun l nl => hq _ l (same_upd nl) nl upd_same⟩⟩
    rw [List.length_range] at lqs
    have hqs : ∀ i q, qs[i]? = some q → B q = none ∧ q ≠ P2 ∧ H5 q = some (.lst (iv (gls R i))) := fun i q hq => by
      have li : i < rs.length := by
        have := (List.getElem?_eq_some_iff.mp hq).1
        omega
      exact hqs i q i hq (List.getElem?_range li)
    refine .inl ⟨Kd.map V.bl, .inl (.inl (.inl (e5 _ _ hk))), fun K2 nK2 => ?_⟩
    refine ⟨by show 2 ≤ sizeLine; omega, fun P0 nP0 => ?_⟩
    have s6 := (same_upd (o := .lst (Kd.map V.bl)) nK2).trans (same_upd (o := .lst [V.ref P2, V.ref K2]) nP0)
    have eP := e5.trans s6
    have hP0 : (upd (upd H5 K2 (.lst (Kd.map V.bl))) P0 (.lst [V.ref P2, V.ref K2])) P0 = some (.lst [V.ref P2, V.ref K2]) := upd_same
    have hK2 := same_upd (o := .lst [V.ref P2, V.ref K2]) nP0 _ _ (upd_same (H := H5) (a := K2) (o := .lst (Kd.map V.bl)))
    have hP2 := s6 _ _ hP2
    have hqs : ∀ i q, qs[i]? = some q → B q = none ∧ q ≠ P2 ∧ q ≠ K2 ∧ (upd (upd H5 K2 (.lst (Kd.map V.bl))) P0 (.lst [V.ref P2, V.ref K2])) q = some (.lst (iv (gls R i))) := fun i q hq => by
      obtain ⟨a1, a2, a3⟩ := hqs i q hq
      exact ⟨a1, a2, ne_of_none a3 nK2, s6 _ _ a3⟩
    have nK2P2 : P2 ≠ K2 := fun z => by
      subst z
      have : H5 P2 = some (.lst (qs.map V.ref)) := ‹H5 P2 = some (.lst (qs.map V.ref))›
      rw [nK2] at this; cases this
    have nK2B : B K2 = none := Same.free e5 nK2
    generalize upd (upd H5 K2 (.lst (Kd.map V.bl))) P0 (.lst [V.ref P2, V.ref K2]) = HP at s6 eP hP0 hK2 hP2 hqs
    clear s6 nP0 nK2 e5
    have hqR : RowsL HP P2 R := ⟨qs, hP2, by omega, fun i q hq => (hqs i q hq).2.2.2⟩
    -- the machines
    refine ⟨[.ref P2, .ref K2], .ref P2, .inl (.inl (.inl hP0)), rfl, [.ref P2, .ref K2], .ref K2, .inl (.inl (.inl hP0)), rfl, rfl, mach_newN ok1 wh1 hqR.at ⟨false, .inl (.inl hK2)⟩ (fun H6 m1 e6 nm1 mm1 => ?_)⟩
    refine ⟨t2, S, R2, Kd2, rfl, sh2.ext (eP.trans e6), ok2, wh2, fun H7 m2 e7 nm2 mm2 => ⟨_, _, rfl, ?_⟩⟩
    have eP7 := eP.trans (e6.trans e7)
    dsimp only [tSeq, tAsg, tThen, tCons, gName]
    refine uv_go (v := .ref kk) rfl ?_
    refine .inl ⟨kk, Kd.map V.bl, rfl, .inl (.inl (eP7 _ _ hk)), fun TK nTK => ?_⟩
    have e8 := eP7.trans (same_upd (o := .tup (Kd.map V.bl)) nTK)
    have hTK : (upd H7 TK (.tup (Kd.map V.bl))) TK = some (.tup (Kd.map V.bl)) := upd_same
    have s78 := same_upd (o := .tup (Kd.map V.bl)) nTK
    generalize upd H7 TK (.tup (Kd.map V.bl)) = H8 at e8 hTK s78
    clear eP7 nTK
    refine lc_refS (K := K) (α := Nat) (enc := fun i => V.ref (rs.getD i 0)) (o := fun i => .tup (iv (gls R i))) (ls := List.range rs.length) (a := r) (H1 := H8) (fun R' h => h) (by rw [range_refs]; exact e8 _ _ hs') (by rw [List.length_range]; omega) (fun H' i hi e Qy hq => ?_) (fun TD H9 ts nTD e9 hTD lts9 hts _ => ?_)
    · have hi := List.mem_range.mp hi
      exact ⟨rfl, .inl ⟨rs.getD i 0, iv (gls R i), rfl, .inl (.inl ((e8.trans e) _ _ (hrow' i _ (g0 i (by omega))))), fun l nl => hq _ l (same_upd nl) nl upd_same⟩⟩
    rw [List.length_range] at lts9
    refine .inl ⟨TD, ts.map V.ref, rfl, .inl (.inl hTD), fun TQ nTQ => ?_⟩
    have s9 := e9.trans (same_upd (o := .tup (ts.map V.ref)) nTQ)
    have hRT : RowsAt K (upd H9 TQ (.tup (ts.map V.ref))) TQ R := ⟨true, ts, .inl (.inl upd_same), by omega, fun i q hq => ⟨true, by
      have li : i < rs.length := by
        have := (List.getElem?_eq_some_iff.mp hq).1
        omega
      exact .inl (.inl (same_upd nTQ _ _ (hts i q i hq (List.getElem?_range li)).2.2))⟩⟩
    have hTK9 := s9 _ _ hTK
    have e90 := e8.trans s9
    have s79 := s78.trans s9
    generalize upd H9 TQ (.tup (ts.map V.ref)) = H10 at hRT hTK9 e90 s79
    clear s9 e9 hTD hts nTD nTQ e8 s78 hTK lts9
    refine uv_go (v := .str (T S)) rfl ?_
    refine ⟨rfl, mach_newN ok1 wh1 hRT ⟨true, .inl (.inl hTK9)⟩ (fun H11 m3 e11 nm3 mm3 => ?_)⟩
    have sP := e90.trans e11
    have s7 := s79.trans e11
    clear hRT hTK9
    -- what is due
    have tC : Tabs (T1D Pt) H11 := tB.ext sP
    refine ⟨t1, X3, S, R, Kd, Ts, rfl, sh1.ext sP, ok1, wh1, sP _ _ hTs, cTs2, by omega, tC, fun H12 d1 e12 dp1 => ⟨_, dp1, (shn_due ok1 lTs cTs2).shw (by omega) (by decide), ?_⟩⟩
    have eB12 : Ex (T1D Pt) no B H12 := (Ex.same sP).trans e12
    refine ⟨t2, X3, S, R2, Kd2, Ts, rfl, sh2.exn eB12, ok2, wh2, eB12.lst (fun z => z) hTs, cTs2, by omega, e12.tabs tC, fun H13 d2 e13 dp2 => ⟨_, dp2, (shn_due ok2 lTs cTs2).shw (by omega) (by decide), ⟨_, _, rfl, ?_⟩⟩⟩
    have eB13 := eB12.trans e13
    have e1113 := e12.trans e13
    clear dp1 dp2 eB12 e12 e13
    -- what was passed stays
    have xP : ∀ b o, HP b = some o → (∀ ps, o ≠ .tbl ps) → H13 b = some o := fun b o hb m => e1113.keep b o (fun z => z) (((e6.trans e7).trans s7) b o hb) m
    have hP0' := xP _ _ hP0 (fun _ z => nomatch z)
    have hP2' := xP _ _ hP2 (fun _ z => nomatch z)
    have hK2' := xP _ _ hK2 (fun _ z => nomatch z)
    have hqs' : ∀ i q, qs[i]? = some q → H13 q = some (.lst (iv (gls R i))) := fun i q hq => xP _ _ (hqs i q hq).2.2.2 (fun _ z => nomatch z)
    refine ⟨by show 2 ≤ sizeLine; omega, fun L1 nL1 => ?_⟩
    have s14 := same_upd (o := .lst [V.ref r, V.ref kk]) nL1
    have eB14 := eB13.trans (Ex.same s14)
    have hL1 : (upd H13 L1 (.lst [V.ref r, V.ref kk])) L1 = some (.lst [V.ref r, V.ref kk]) := upd_same
    generalize upd H13 L1 (.lst [V.ref r, V.ref kk]) = H14 at s14 eB14 hL1
    have fl : Flat 3 (.list [encRs R, encB Kd]) := flat_list fun d hd => by
      simp at hd
      rcases hd with rfl | rfl
      · exact flat_rows R
      · have f := flat_kinds Kd
        exact ⟨f.1, by have := f.2; omega⟩
    show eqU _ true (.ref P0) (.ref L1) _ _
    refine ⟨.list [encRs R, encB Kd], .list [encRs R, encB Kd], .lst (.inl (.inl (s14 _ _ hP0'))) (.cons (dp_rows ⟨qs, s14 _ _ hP2', by omega, fun i q hq => s14 _ _ (hqs' i q hq)⟩) (.cons (dp_kinds (s14 _ _ hK2')) .nil)),
      .lst (.inl (.inl hL1)) (.cons (dp_rows (hrw.exn eB14)) (.cons (dp_kinds (eB14.lst (fun z => z) hk)) .nil)), fl.shaped (by decide), fl.shaped (by decide), ?_⟩
    refine br_of (c := false) (by
      show (!(PyData.eqv (encRs R) (encRs R) && (PyData.eqv (encB Kd) (encB Kd) && true))) = false
      rw [eqv_rowsB, eqv_kindsB, decide_eq_true rfl, decide_eq_true rfl]; rfl) (.no ?_)
    have hP0' := s14 _ _ hP0'
    have hP2' := s14 _ _ hP2'
    have hK2' := s14 _ _ hK2'
    obtain ⟨q0, qr, eq0⟩ : ∃ q0 qr, qs = q0 :: qr := by
      cases qs with
      | nil => simp at lqs; omega
      | cons a b => exact ⟨a, b, rfl⟩
    have hq0 : H14 q0 = some (.lst (iv (gls R 0))) := s14 _ _ (hqs' 0 q0 (by rw [eq0]; rfl))
    obtain ⟨bq0, nq1, nq2, hq0P⟩ := hqs 0 q0 (by rw [eq0]; rfl)
    -- it is changed
    refine ⟨[.ref P2, .ref K2], .ref P2, .inl (.inl (.inl hP0')), rfl, qs.map V.ref, .ref q0, .inl (.inl (.inl hP2')), by rw [eq0]; exact atI_nat (j := 0) rfl, .inl ⟨rfl, _, .inl (.inl hq0)⟩, q0, _, rfl, rfl, hq0, ?_⟩
    have nP0q : P0 ≠ q0 := fun z => by
      rw [z, hq0] at hP0'
      have := HO.lst.inj (Option.some.inj hP0')
      cases hg : gls R 0 with
      | nil => rw [hg] at this; cases this
      | cons a b => rw [hg] at this; cases (List.cons.inj this).1
    have nP0P2 : P0 ≠ P2 := fun z => by
      rw [z, hP2', eq0] at hP0'
      have := HO.lst.inj (Option.some.inj hP0')
      have := V.ref.inj (List.cons.inj this).1
      exact nq1 this
    have nP0K2 : P0 ≠ K2 := fun z => by
      rw [z, hK2'] at hP0'
      have := HO.lst.inj (Option.some.inj hP0')
      cases hg : Kd with
      | nil => rw [hg] at this; cases this
      | cons a b => rw [hg] at this; cases (List.cons.inj this).1
    have a1 : (upd H14 q0 (.lst (iv (gls R 0)).reverse)) P0 = some (.lst [V.ref P2, V.ref K2]) := by rw [upd_ne nP0q]; exact hP0'
    have a2 : (upd H14 q0 (.lst (iv (gls R 0)).reverse)) P2 = some (.lst (qs.map V.ref)) := by rw [upd_ne nq1.symm]; exact hP2'
    refine ⟨[.ref P2, .ref K2], .ref P2, .inl (.inl (.inl a1)), rfl, .inl ⟨rfl, _, .inl (.inl a2)⟩, P2, _, rfl, rfl, a2, ?_⟩
    have b1 : (upd (upd H14 q0 (.lst (iv (gls R 0)).reverse)) P2 (.lst [])) P0 = some (.lst [V.ref P2, V.ref K2]) := by rw [upd_ne nP0P2]; exact a1
    have b2 : (upd (upd H14 q0 (.lst (iv (gls R 0)).reverse)) P2 (.lst [])) K2 = some (.lst (Kd.map V.bl)) := by rw [upd_ne nK2P2.symm, upd_ne nq2.symm]; exact hK2'
    refine ⟨[.ref P2, .ref K2], .ref K2, .inl (.inl (.inl b1)), rfl, .inl ⟨rfl, _, .inl (.inl b2)⟩, K2, _, rfl, rfl, b2, ?_⟩
    have eM : Ex (T1D Pt) no B (upd (upd (upd H14 q0 (.lst (iv (gls R 0)).reverse)) P2 (.lst [])) K2 (.lst [])) := ((eB14.putN (new_of bq0) hq0 (fun _ z => nomatch z) (fun _ _ z => nomatch z)).putN (new_of nP2) a2 (fun _ z => nomatch z) (fun _ _ z => nomatch z)).putN (new_of nK2B) b2 (fun _ z => nomatch z) (fun _ _ z => nomatch z)
    have xM : ∀ b o, H14 b = some o → HP b = none → (upd (upd (upd H14 q0 (.lst (iv (gls R 0)).reverse)) P2 (.lst [])) K2 (.lst [])) b = some o := fun b o hb hn => by
      have z1 : b ≠ q0 := fun z => by rw [z, hq0P] at hn; cases hn
      have z2 : b ≠ P2 := fun z => by rw [z, hP2] at hn; cases hn
      have z3 : b ≠ K2 := fun z => by rw [z, hK2] at hn; cases hn
      rw [upd_ne z3, upd_ne z2, upd_ne z1]; exact hb
    generalize upd (upd (upd H14 q0 (.lst (iv (gls R 0)).reverse)) P2 (.lst [])) K2 (.lst []) = HM at eM xM
    have fr : ∀ {Ha Hb : Hp}, Same Ha Hb → ∀ b, Hb b = none → Ha b = none := fun e b n => Same.free e n
    have x11 : ∀ b o, H11 b = some o → HP b = none → (∀ ps, o ≠ .tbl ps) → HM b = some o := fun b o hb hn m => xM b o (s14 _ _ (e1113.keep b o (fun z => z) hb m)) hn
    have M1 : Mach C HM m1 S R Kd := machN_to mm1 nm1 fun b o hb hn m => x11 b o ((e7.trans s7) _ _ hb) hn m
    have M2 : Mach C HM m2 S R2 Kd2 := machN_to mm2 nm2 fun b o hb hn m => x11 b o (s7 _ _ hb) (fr e6 b hn) m
    have M3 : Mach C HM m3 S R Kd := machN_to mm3 nm3 fun b o hb hn m => x11 b o hb (fr ((e6.trans e7).trans s79) b hn) m
    have sh1 := sh1.exn eM
    have hTs := eM.lst (fun z => z) hTs
    have hrw := hrw.exn eM
    have hk := eM.lst (fun z => z) hk
    have eF : Ex (T1D Pt) (at1 p) H HM := eB.trans eM.of_no
    clear eM xM x11 a1 a2 b1 b2 nP0q nP0P2 nP0K2 hq0 bq0 nq1 nq2 hq0P eq0 hP0' hP2' hK2' fl hL1 eB14 s14 hqs' xP e1113 eB13 hqs hqR hP0 hK2 hP2 eP e6 e7 s7 sP e11 s79 e90 mm1 mm2 mm3 nm1 nm2 nm3 tC tB sh2 g0 hrow' hs' hl' ndq eB lqs nP2 nK2B nK2P2 fr
    obtain ⟨dx1, ra, ka, rsa, h1, _⟩ := id M1
    obtain ⟨dx3, _, _, _, h3, _⟩ := id M3
    dsimp only [tNext, tSeq]
    refine for_rng (n := 2) (H1 := HM) (by exact fun _ h => h) (by omega) (fun i σ H' => Same HM H' ∧ ∃ y13 y14, σ = [some (.ref p), some (.str (T S)), some (.ref t1), some (.ref t2), some (.ref r), some (.ref kk), some (.ref X3), some (.ref P0), some (.ref m1), some (.ref m2), some (.ref m3),
        some (.str (dueD S R Kd Ts).shown), some (.str (dueD S R2 Kd2 Ts).shown), y13, y14, none, none]) ⟨Same.refl _, none, none, rfl⟩ (fun i σ Ha hi iv => ?_) (fun σ Ha iv => ?_)
    · obtain ⟨ea, y13, y14, rfl⟩ := iv
      refine ⟨fun b H' => b = false ∧ Same HM H', ?_, fun b Hb z => ?_⟩
      · refine ⟨m1, X3, S, R, Kd, Ts, rfl, M1.ext ea, ok1, wh1, ea _ _ hTs, cTs, by omega, fun Hb d eb dp => ⟨_, dp, (shn_due ok1 lTs cTs2).shw (by omega) (by decide), ?_⟩⟩
        refine br_of (c := false) (by show (!decide _) = false; rw [decide_eq_true rfl]; rfl) (.no ?_)
        have eab := ea.trans eb
        refine ⟨m2, X3, S, R2, Kd2, Ts, rfl, M2.ext eab, ok2, wh2, eab _ _ hTs, cTs, by omega, fun Hc d' ec dp' => ⟨_, dp', (shn_due ok2 lTs cTs2).shw (by omega) (by decide), ?_⟩⟩
        refine ⟨?_, eab.trans ec⟩
        show (!decide _) = false
        rw [decide_eq_true rfl]; rfl
      · obtain ⟨rfl, eb⟩ := z
        refine .no ?_
        refine ⟨dx1, _, eb _ _ h1, mf_none (by decide +kernel) (by decide +kernel) (by decide +kernel), m1, S, R, Kd, rfl, M1.ext eb, by omega, fun Hc p1 ls ec np1 hp1 hl hls ndls => ?_⟩
        have ebc := eb.trans ec
        refine ⟨dx1, _, ebc _ _ h1, mf_none (by decide +kernel) (by decide +kernel) (by decide +kernel), m1, S, R, Kd, rfl, M1.ext ebc, fun p2 np2 => ?_⟩
        refine ⟨by show 2 ≤ sizeLine; omega, fun LT nLT => ?_⟩
        have s2 := (same_upd (o := .lst (Kd.map V.bl)) np2).trans (same_upd (o := .lst [V.ref p1, V.ref p2]) nLT)
        have hLT : (upd (upd Hc p2 (.lst (Kd.map V.bl))) LT (.lst [V.ref p1, V.ref p2])) LT = some (.lst [V.ref p1, V.ref p2]) := upd_same
        have h2 := same_upd (o := .lst [V.ref p1, V.ref p2]) nLT _ _ (upd_same (H := Hc) (a := p2) (o := .lst (Kd.map V.bl)))
        have n2p : p1 ≠ p2 := ne_of_none hp1 np2
        have nL1 : LT ≠ p1 := fun z => by
          have hh := same_upd (o := .lst (Kd.map V.bl)) np2 _ _ hp1
          rw [z, hh] at nLT; cases nLT
        have nL2 : LT ≠ p2 := fun z => by rw [z, upd_same] at nLT; cases nLT
        obtain ⟨l0, lr, el⟩ : ∃ l0 lr, ls = l0 :: lr := by
          cases ls with
          | nil => simp at hl; omega
          | cons a b => exact ⟨a, b, rfl⟩
        obtain ⟨nl0, nl1, hl0⟩ := hls 0 l0 (by rw [el]; rfl)
        have n2l : l0 ≠ p2 := ne_of_none hl0 np2
        have nLl : LT ≠ l0 := fun z => by
          have hh := same_upd (o := .lst (Kd.map V.bl)) np2 _ _ hl0
          rw [z, hh] at nLT; cases nLT
        have fp1 : HM p1 = none := Same.free eb np1
        have fp2 : HM p2 = none := Same.free ebc np2
        have fl0 : HM l0 = none := Same.free eb nl0
        have hp1 := s2 _ _ hp1
        have hl0 := s2 _ _ hl0
        have eD := ebc.trans s2
        generalize upd (upd Hc p2 (.lst (Kd.map V.bl))) LT (.lst [V.ref p1, V.ref p2]) = HD at hLT h2 hp1 hl0 eD
        clear s2 ebc ec nLT np2 np1 hls nl0
        have lg : (gls R 0).length ≤ 3 := by rw [gls_len ok1.rows (by omega)]; exact l3
        refine ⟨[.ref p1, .ref p2], .ref p1, .inl (.inl (.inl hLT)), rfl, ls.map V.ref, .ref l0, .inl (.inl (.inl hp1)), by rw [el]; exact atI_nat (j := 0) rfl, .inl ⟨rfl, _, .inl (.inl hl0)⟩, l0, _, _, rfl, rfl, hl0, by rw [List.length_map]; omega, ?_⟩
        have c1 : (upd HD l0 (.lst (iv (gls R 0) ++ [.int 9]))) LT = some (.lst [V.ref p1, V.ref p2]) := by rw [upd_ne nLl]; exact hLT
        have c2 : (upd HD l0 (.lst (iv (gls R 0) ++ [.int 9]))) p1 = some (.lst (ls.map V.ref)) := by rw [upd_ne nl1.symm]; exact hp1
        have c3 : (upd HD l0 (.lst (iv (gls R 0) ++ [.int 9]))) p2 = some (.lst (Kd.map V.bl)) := by rw [upd_ne n2l.symm]; exact h2
        have eE := same_upd2 (o := .lst (iv (gls R 0) ++ [.int 9])) eD fl0
        generalize upd HD l0 (.lst (iv (gls R 0) ++ [.int 9])) = HE at c1 c2 c3 eE
        refine ⟨[.ref p1, .ref p2], .ref p1, .inl (.inl (.inl c1)), rfl, .inl ⟨rfl, _, .inl (.inl c2)⟩, p1, _, rfl, rfl, c2, ?_⟩
        have d1 : (upd HE p1 (.lst [])) LT = some (.lst [V.ref p1, V.ref p2]) := by rw [upd_ne nL1]; exact c1
        have d3 : (upd HE p1 (.lst [])) p2 = some (.lst (Kd.map V.bl)) := by rw [upd_ne n2p.symm]; exact c3
        have eG := same_upd2 (o := .lst []) eE fp1
        generalize upd HE p1 (.lst []) = HG at d1 d3 eG
        refine ⟨[.ref p1, .ref p2], .ref p2, .inl (.inl (.inl d1)), rfl, .inl ⟨rfl, _, .inl (.inl d3)⟩, p2, _, rfl, rfl, d3, ?_⟩
        have f1 : (upd HG p2 (.lst (Kd.map V.bl).reverse)) LT = some (.lst [V.ref p1, V.ref p2]) := by rw [upd_ne nL2]; exact d1
        have eI := same_upd2 (o := .lst (Kd.map V.bl).reverse) eG fp2
        have f3 : (upd HG p2 (.lst (Kd.map V.bl).reverse)) p2 = some (.lst (Kd.map V.bl).reverse) := upd_same
        generalize upd HG p2 (.lst (Kd.map V.bl).reverse) = HI' at f1 f3 eI
        have lkd : (Kd.map V.bl).reverse.length ≤ 40 := by rw [List.length_reverse, List.length_map, ok1.kinds]; exact hi1
        refine ⟨[.ref p1, .ref p2], .ref p2, .inl (.inl (.inl f1)), rfl, .inl ⟨rfl, _, .inl (.inl f3)⟩, p2, _, _, rfl, rfl, f3, by omega, ?_⟩
        exact ⟨same_upd2 eI fp2, _, _, rfl⟩
    obtain ⟨ea, y13, y14, rfl⟩ := iv
    have r1 := rep_let lt
    have r2 := (shn_rows ok1).len
    have r3 := (shn_kinds ok1).len
    have k1 : (Str.ofString "Machine(").length = 8 := by decide +kernel
    have k2 : (Str.ofString ", ").length = 2 := by decide +kernel
    have k3 : (Str.ofString ")").length = 1 := by decide +kernel
    have ad : ∀ x y : Str, (x ++ y).length = x.length + y.length := fun x y => PySem.strLen_append x y
    refine ⟨by omega, by rw [k1]; omega, by rw [ad, k1, k2]; omega, ?_⟩
    refine ⟨encRs R, dp_rows (hrw.ext ea), (shn_rows ok1).shw (by omega) (by decide), by rw [ad, ad, k1, k2]; omega, by rw [ad, ad, ad, k1, k2]; omega, ?_⟩
    refine ⟨encB Kd, dp_kinds (ea _ _ hk), (shn_kinds ok1).shw (by omega) (by decide), by rw [ad, ad, ad, ad, k1, k2]; omega, by rw [ad, ad, ad, ad, ad, k1, k2, k3]; omega, ?_⟩
    rw [spk_eq (S := S) (R := R) (Kd := Kd)]
    have M1 := M1.ext ea
    have M3 := M3.ext ea
    have h1 := ea _ _ h1
    have h3 := ea _ _ h3
    have sh1 := sh1.ext ea
    have hTs := ea _ _ hTs
    have eF := eF.trans (Ex.same (S := at1 p) ea)
    clear ea r1 r2 r3 k1 k2 k3 hrw hk M2 hi2
    refine ⟨fun b H' => b = false ∧ Same Ha H', ?_, fun b Hb z => ?_⟩
    · refine ⟨dx1, _, h1, m1, S, R, Kd, rfl, M1, ok1, _, rfl, ?_⟩
      refine ⟨dx3, _, h3, m3, S, R, Kd, rfl, M3, ok1, _, rfl, ?_⟩
      refine ⟨by show 2 ≤ sizeLine; omega, fun LA nA => ?_⟩
      refine ⟨by show 1 ≤ sizeLine; omega, fun LB nB => ⟨_, upd_same, by decide, by decide, by show 1 * 2 ≤ sizeLine; omega, fun LC nC => ?_⟩⟩
      have s1 := same_upd (o := .lst [V.str (spk S R Kd), V.str (spk S R Kd)]) nA
      have s2 := (same_upd (o := .lst [V.str (spk S R Kd)]) nB).trans (same_upd (o := .lst (List.replicate (2 : Int).toNat [V.str (spk S R Kd)]).flatten) nC)
      have s3 := s1.trans s2
      have g1 := s2 _ _ (upd_same (H := Ha) (a := LA) (o := .lst [V.str (spk S R Kd), V.str (spk S R Kd)]))
      have g2 : (upd (upd (upd Ha LA (.lst [V.str (spk S R Kd), V.str (spk S R Kd)])) LB (.lst [V.str (spk S R Kd)])) LC (.lst (List.replicate (2 : Int).toNat [V.str (spk S R Kd)]).flatten)) LC = some (.lst [V.str (spk S R Kd), V.str (spk S R Kd)]) := upd_same
      generalize upd (upd (upd Ha LA (.lst [V.str (spk S R Kd), V.str (spk S R Kd)])) LB (.lst [V.str (spk S R Kd)])) LC (.lst (List.replicate (2 : Int).toNat [V.str (spk S R Kd)]).flatten) = Hx at s3 g1 g2
      have fl : Flat 1 (.list [.str (spk S R Kd), .str (spk S R Kd)]) := flat_list fun d hd => by
        simp at hd; subst hd; exact flat_strK (so_spk h5)
      show eqU _ true (.ref LA) (.ref LC) _ _
      refine ⟨.list [.str (spk S R Kd), .str (spk S R Kd)], .list [.str (spk S R Kd), .str (spk S R Kd)], .lst (.inl (.inl g1)) (.cons (.str _) (.cons (.str _) .nil)), .lst (.inl (.inl g2)) (.cons (.str _) (.cons (.str _) .nil)), fl.shaped (by decide), fl.shaped (by decide), ?_⟩
      refine br_of (c := false) (by
        show (!((spk S R Kd == spk S R Kd) && ((spk S R Kd == spk S R Kd) && true))) = false
        rw [beq_self_eq_true]; rfl) (.no ?_)
      refine ⟨dx1, _, _, s3 _ _ h1, iM.ty _ _ _ _ (s3 _ _ h3) (mf_none (by decide +kernel) (by decide +kernel) (by decide +kernel)), notFirst_self, m1, .ref m3, S, R, Kd, rfl, M1.ext s3, by omega, .inl ⟨m3, S, R, Kd, rfl, M3.ext s3, by omega, fun Hy ey => ⟨_, rfl, ?_⟩⟩⟩
      refine br_of (c := false) (by show (!decide _) = false; rw [decide_eq_true ⟨rfl, rfl, rfl⟩]; rfl) (.no ?_)
      have s4 := s3.trans ey
      refine ⟨dx1, _, _, s4 _ _ h1, iM.ty _ _ _ _ (s4 _ _ h3) (mf_none (by decide +kernel) (by decide +kernel) (by decide +kernel)), notFirst_self, m1, .ref m3, S, R, Kd, rfl, M1.ext s4, by omega, .inl ⟨m3, S, R, Kd, rfl, M3.ext s4, by omega, fun Hz ez => ⟨_, rfl, ?_⟩⟩⟩
      refine br_of (c := false) (by show (!decide _) = false; rw [decide_eq_true ⟨rfl, rfl, rfl⟩]; rfl) (.no ?_)
      have s5 := s4.trans ez
      refine ⟨m3, X3, S, R, Kd, Ts, rfl, M3.ext s5, ok1, wh1, s5 _ _ hTs, cTs, by omega, fun Hw d ew dp => ⟨_, dp, (shn_due ok1 lTs cTs2).shw (by omega) (by decide), ?_⟩⟩
      refine ⟨?_, s5.trans ew⟩
      show (!decide _) = false
      rw [decide_eq_true rfl]; rfl
    obtain ⟨rfl, eb⟩ := z
    refine .no ?_
    refine ⟨fun b H' => b = false ∧ Same Ha H', ?_, fun b Hc z => ?_⟩
    · refine ⟨t1, m1, S, R, Kd, rfl, sh1.ext eb, ok1, wh1, M1.ext eb, fun Hd ed => .no ?_⟩
      have e2 := eb.trans ed
      exact ⟨t1, m1, S, R, Kd, rfl, sh1.ext e2, ok1, wh1, M1.ext e2, fun He ee => ⟨rfl, e2.trans ee⟩⟩
    obtain ⟨rfl, ec⟩ := z
    refine .no ?_
    refine ⟨t1, m1, S, R, Kd, rfl, sh1.ext ec, ok1, wh1, h5, M1.ext ec, fun Hd ed => .yes ?_⟩
    have e2 := ec.trans ed
    refine ⟨m1, C, dx1, _, .int 40, u1, rfl, e2 _ _ h1, cM.cls, kC, mf_none (by decide +kernel) (by decide +kernel) (by decide +kernel), ?_⟩
    refine ⟨C, mc, .int 40, u2, rfl, rC, vC, ?_⟩
    refine ⟨by show 2 ≤ sizeLine; omega, fun LA nA => ⟨by show 2 ≤ sizeLine; omega, fun LB nB => ?_⟩⟩
    have s1 := (same_upd (o := .lst [V.int 40, V.int 40]) nA).trans (same_upd (o := .lst [V.int 40, V.int 40]) nB)
    show eqU _ false (.ref LA) (.ref LB) _ _
    refine ⟨encR [40, 40], encR [40, 40], dp_row (l := [40, 40]) (same_upd nB _ _ upd_same), dp_row (l := [40, 40]) upd_same, (flat_row _).shaped (by decide), (flat_row _).shaped (by decide), ?_⟩
    show Q (.bl (PyData.eqv (encR [40, 40]) (encR [40, 40]))) _
    rw [row_same]
    exact q _ (eF.trans (Ex.same (e2.trans s1)))
end
end LK

/-! k14: law -/
namespace LK
open PySem PySem.Spec PyProof.Rows L2 LamX ClX
open scoped List
section
variable {P : Program} {w : World} {K : PySem.W.Frag} {mg : Str → Option Value} {base : Heap}
theorem scLaw : FnScope ["_law_script", "_law_k"] ["_law_script"] (defScope sLaw) := ⟨rfl, rfl, rfl, by decide +kernel, rfl, by decide +kernel, by decide +kernel⟩
def spLaw (K : PySem.W.Frag) (Pt : Addr) : Sp := fun vs H Q _ => ∃ (a : Addr) (ns : List Int), vs = [.ref a] ∧ SqL K H a (ns.map V.int) ∧ ns.length ≤ 63 ∧ Tabs (T1D Pt) H ∧ ∀ H', Q (.bl true) H'
theorem sq_new {K : PySem.W.Frag} {TT : List (Addr × Str)} {H H1 H2 : Hp} {a p : Addr} {xs : List V} (h : SqL K H a xs) (n : H p = none) (s : Same H H1) (e : Ex TT (at1 p) H1 H2) : SqL K H2 a xs := by
  rcases h with (h | ⟨o, h⟩) | h
  · exact .inl (.inl (e.keep a _ (ne_of_none h n) (s _ _ h) fun ps z => nomatch z))
  · exact .inl (.inr ⟨o, e.keep a _ (ne_of_none h n) (s _ _ h) fun ps z => nomatch z⟩)
  · exact .inr h
theorem ok_law {f : Addr} {fd : FuncData} {k : Nat} {Pt : Addr} (F : Fun K "law" "law" sLaw f fd) (M : Mx mg)
    (HR : Has P w K mg base k "_law_right" ["_law_pot_here"] (spRight Pt)) (HPo : Has P w K mg base k "_law_pot" ["_law_script", "_law_k"] (spPot K)) :
    FnG P w K mg base CX0 (k + 1) f fd ["_law_script"] (spLaw K Pt) := by
  refine okG F scLaw (fun vs H Q E h => ?_) (fun cdv A hA outer s H vs Q E hr h => ?_)
  · obtain ⟨a, ns, rfl, _⟩ := h; rfl
  · obtain ⟨a, ns, rfl, hs, hn, hT, q⟩ := h
    have nd := scLaw.nd
    refine ⟨_, pss_one (ps_ret (pe_callB (c_all rfl) (by rfl) M.all b_all (pa_cons (pe_lc (own := [("_law_k", 1)]) (g := gName 1) (tt := tYes) rfl nd
      (pi_range1 (by rfl) M.range (pa_cons (pe_callB (c_max2 rfl) (by rfl) M.max b_max (pa_cons pe_int (pa_cons (pe_callB (c_min2 rfl) (by rfl) M.min b_min (pa_cons pe_int (pa_cons (pe_callB c_len (by rfl) M.len b_len (pa_cons (uv 0) pa_nil)) pa_nil))) pa_nil))) pa_nil))
      (blkOk_by (N := ["_law_script", "_law_k"]) (sc := defScope sLaw) (by decide +kernel)) (fun _ _ _ _ _ => pg_name (i := 1) nd rfl (Or.inl rfl)) (fun _ _ _ _ _ => pts_nil)
      (fun _ _ _ _ _ => pe_callH HR hA hr (by rfl) (pa_cons (pe_callH HPo hA hr (by rfl) (pa_cons (uv 0) (pa_cons (uv 1) pa_nil))) pa_nil))) pa_nil))), ?_⟩
    have hz := sizeLine_eq
    have ec : max (1 : Int) (min 4 (((ns.map V.int).length : Nat) : Int)) = ((max 1 (min 4 ns.length) : Nat) : Int) := by rw [List.length_map]; omega
    dsimp only [tRet, tCB, tCons]
    refine lc_rng (n := max 1 (min 4 ns.length)) (H1 := H) (by
        intro R h
        refine .inl ⟨_, .inl hs, ?_⟩
        show R [V.int (max (1 : Int) (min 4 (((ns.map V.int).length : Nat) : Int)))] H
        rw [ec]; exact h) (by omega) (fun D i acc H1 => H1 D = some (.lst acc) ∧ acc = (List.replicate i true).map V.bl ∧ SqL K H1 a (ns.map V.int) ∧ Tabs (T1D Pt) H1)
      (fun D nD => ⟨upd_same, rfl, (Ex.new (TT := []) (S := no) nD).sq (fun z => z) hs, (Ex.new (S := no) nD).tabs hT⟩) (fun D nD i acc H1 hi r => ?_) (fun D nD acc H1 r => ?_)
    · obtain ⟨r1, rfl, r3, r4⟩ := r
      refine ⟨rfl, a, ns, i, rfl, r3, by omega, fun H2 p e2 np pot2 => ?_⟩
      refine ⟨p, rfl, pot2, r4.ext e2, fun H3 e3 => ?_⟩
      have hD3 : H3 D = some _ := e3.keep D _ (ne_of_none r1 np) (e2 _ _ r1) (fun _ z => nomatch z)
      have hs3 : SqL K H3 a (ns.map V.int) := sq_new r3 np e2 e3
      refine ⟨_, hD3, by rw [List.length_map, List.length_replicate]; omega, _, upd_same, ?_, ?_, ?_⟩
      · rw [List.replicate_succ', List.map_append]; rfl
      · by_cases ha : a = D
        · subst ha
          rcases hs with (h | ⟨o, h⟩) | h
          · rw [nD] at h; cases h
          · rw [nD] at h; cases h
          · exact .inr h
        · rcases hs3 with (h | ⟨o, h⟩) | h
          · exact .inl (.inl (by rw [upd_ne ha]; exact h))
          · exact .inl (.inr ⟨o, by rw [upd_ne ha]; exact h⟩)
          · exact .inr h
      · exact (Ex.write (S := at1 D) rfl hD3 (fun _ z => nomatch z) (fun _ _ z => nomatch z)).tabs (e3.tabs (r4.ext e2))
    · obtain ⟨r1, rfl, r3, r4⟩ := r
      refine ⟨_, .inl (.inl r1), ?_⟩
      have : (List.replicate (max 1 (min 4 ns.length)) true).all id = true := by simp
      show Q (.bl ((List.replicate (max 1 (min 4 ns.length)) true).all id)) _
      rw [this]
      exact q _
end
end LK

namespace LK
open PySem PySem.Spec PyProof.Rows L2 LamX ClX
theorem scLetters : FnScope ["self"] ["self"] (defScope sLetters) := ⟨rfl, rfl, rfl, by decide +kernel, rfl, by decide +kernel, by decide +kernel⟩
/-! ### what the top has written -/
theorem all_mk {l : PySem.W.OpenLaw} {w : World} {K : PySem.W.Frag} {h : Heap} {mg : Str → Option Value} {fa c Pt : Addr} (X : K.In h) (tP : h.get? Pt = some { cls := .none, data := .fields #[] }) (G : h.Ns mainGlobals mg) (hfa : mg "law" = some (.ref fa))
    {fIsInt : Addr} {ocIsInt kVIsInt dcIsInt pmIsInt cdIsInt ctIsInt : Value} {odIsInt anIsInt : Option Addr} {slIsInt : Array (Option Value)}
    {fIsText : Addr} {ocIsText kVIsText dcIsText pmIsText cdIsText ctIsText : Value} {odIsText anIsText : Option Addr} {slIsText : Array (Option Value)}
    {fIsOver : Addr} {ocIsOver kVIsOver dcIsOver pmIsOver cdIsOver ctIsOver : Value} {odIsOver anIsOver : Option Addr} {slIsOver : Array (Option Value)}
    {fAreLet : Addr} {ocAreLet kVAreLet dcAreLet pmAreLet cdAreLet ctAreLet : Value} {odAreLet anAreLet : Option Addr} {slAreLet : Array (Option Value)}
    {fNeedText : Addr} {ocNeedText kVNeedText dcNeedText pmNeedText cdNeedText ctNeedText : Value} {odNeedText anNeedText : Option Addr} {slNeedText : Array (Option Value)}
    {fFirst : Addr} {ocFirst kVFirst dcFirst pmFirst cdFirst ctFirst : Value} {odFirst anFirst : Option Addr} {slFirst : Array (Option Value)}
    {fNeedParts : Addr} {ocNeedParts kVNeedParts dcNeedParts pmNeedParts cdNeedParts ctNeedParts : Value} {odNeedParts anNeedParts : Option Addr} {slNeedParts : Array (Option Value)}
    {fIsRow : Addr} {ocIsRow kVIsRow dcIsRow pmIsRow cdIsRow ctIsRow : Value} {odIsRow anIsRow : Option Addr} {slIsRow : Array (Option Value)}
    {fIsPlace : Addr} {ocIsPlace kVIsPlace dcIsPlace pmIsPlace cdIsPlace ctIsPlace : Value} {odIsPlace anIsPlace : Option Addr} {slIsPlace : Array (Option Value)}
    {fMetFrom : Addr} {ocMetFrom kVMetFrom dcMetFrom pmMetFrom cdMetFrom ctMetFrom : Value} {odMetFrom anMetFrom : Option Addr} {slMetFrom : Array (Option Value)}
    {fNumFrom : Addr} {ocNumFrom kVNumFrom dcNumFrom pmNumFrom cdNumFrom ctNumFrom : Value} {odNumFrom anNumFrom : Option Addr} {slNumFrom : Array (Option Value)}
    {fPot : Addr} {ocPot kVPot dcPot pmPot cdPot ctPot : Value} {odPot anPot : Option Addr} {slPot : Array (Option Value)}
    {fDraw : Addr} {ocDraw kVDraw dcDraw pmDraw cdDraw ctDraw : Value} {odDraw anDraw : Option Addr} {slDraw : Array (Option Value)}
    {fPick : Addr} {ocPick kVPick dcPick pmPick cdPick ctPick : Value} {odPick anPick : Option Addr} {slPick : Array (Option Value)}
    {fLMet : Addr} {ocLMet kVLMet dcLMet pmLMet cdLMet ctLMet : Value} {odLMet anLMet : Option Addr} {slLMet : Array (Option Value)}
    {fMixed : Addr} {ocMixed kVMixed dcMixed pmMixed cdMixed ctMixed : Value} {odMixed anMixed : Option Addr} {slMixed : Array (Option Value)}
    {fSheet : Addr} {ocSheet kVSheet dcSheet pmSheet cdSheet ctSheet : Value} {odSheet anSheet : Option Addr} {slSheet : Array (Option Value)}
    {fLLed : Addr} {ocLLed kVLLed dcLLed pmLLed cdLLed ctLLed : Value} {odLLed anLLed : Option Addr} {slLLed : Array (Option Value)}
    {fTexts : Addr} {ocTexts kVTexts dcTexts pmTexts cdTexts ctTexts : Value} {odTexts anTexts : Option Addr} {slTexts : Array (Option Value)}
    {fRig : Addr} {ocRig kVRig dcRig pmRig cdRig ctRig : Value} {odRig anRig : Option Addr} {slRig : Array (Option Value)}
    {fFrom : Addr} {ocFrom kVFrom dcFrom pmFrom cdFrom ctFrom : Value} {odFrom anFrom : Option Addr} {slFrom : Array (Option Value)}
    {fFirsts : Addr} {ocFirsts kVFirsts dcFirsts pmFirsts cdFirsts ctFirsts : Value} {odFirsts anFirsts : Option Addr} {slFirsts : Array (Option Value)}
    {fDue : Addr} {ocDue kVDue dcDue pmDue ctDue : Value} {odDue anDue : Option Addr} {slDue : Array (Option Value)}
    {fTold : Addr} {ocTold kVTold dcTold pmTold cdTold ctTold : Value} {odTold anTold : Option Addr} {slTold : Array (Option Value)}
    {fNames : Addr} {ocNames kVNames dcNames pmNames cdNames ctNames : Value} {odNames anNames : Option Addr} {slNames : Array (Option Value)}
    {fAtR : Addr} {ocAtR kVAtR dcAtR pmAtR cdAtR ctAtR : Value} {odAtR anAtR : Option Addr} {slAtR : Array (Option Value)}
    {fOth : Addr} {ocOth kVOth dcOth pmOth cdOth ctOth : Value} {odOth anOth : Option Addr} {slOth : Array (Option Value)}
    {fRight : Addr} {ocRight kVRight dcRight pmRight cdRight ctRight : Value} {odRight anRight : Option Addr} {slRight : Array (Option Value)}
    {fLaw : Addr} {ocLaw kVLaw dcLaw pmLaw cdLaw ctLaw : Value} {odLaw anLaw : Option Addr} {slLaw : Array (Option Value)}
    {mNeedPlace : Addr} {ocmNeedPlace kVmNeedPlace dcmNeedPlace pmmNeedPlace cdmNeedPlace ctmNeedPlace : Value} {odmNeedPlace anmNeedPlace : Option Addr} {slmNeedPlace : Array (Option Value)}
    {mRows : Addr} {ocmRows kVmRows dcmRows pmmRows cdmRows ctmRows : Value} {odmRows anmRows : Option Addr} {slmRows : Array (Option Value)}
    {mKinds : Addr} {ocmKinds kVmKinds dcmKinds pmmKinds cdmKinds ctmKinds : Value} {odmKinds anmKinds : Option Addr} {slmKinds : Array (Option Value)}
    {mGoal : Addr} {ocmGoal kVmGoal dcmGoal pmmGoal cdmGoal ctmGoal : Value} {odmGoal anmGoal : Option Addr} {slmGoal : Array (Option Value)}
    {mGoes : Addr} {ocmGoes kVmGoes dcmGoes pmmGoes cdmGoes ctmGoes : Value} {odmGoes anmGoes : Option Addr} {slmGoes : Array (Option Value)}
    {mTakes : Addr} {ocmTakes kVmTakes dcmTakes pmmTakes cdmTakes ctmTakes : Value} {odmTakes anmTakes : Option Addr} {slmTakes : Array (Option Value)}
    {mFirstText : Addr} {ocmFirstText kVmFirstText dcmFirstText pmmFirstText cdmFirstText ctmFirstText : Value} {odmFirstText anmFirstText : Option Addr} {slmFirstText : Array (Option Value)}
    {mFirstTaken : Addr} {ocmFirstTaken kVmFirstTaken dcmFirstTaken pmmFirstTaken cdmFirstTaken ctmFirstTaken : Value} {odmFirstTaken anmFirstTaken : Option Addr} {slmFirstTaken : Array (Option Value)}
    {mAt : Addr} {ocmAt kVmAt dcmAt pmmAt cdmAt ctmAt : Value} {odmAt anmAt : Option Addr} {slmAt : Array (Option Value)}
    {mNumbered : Addr} {ocmNumbered kVmNumbered dcmNumbered pmmNumbered cdmNumbered ctmNumbered : Value} {odmNumbered anmNumbered : Option Addr} {slmNumbered : Array (Option Value)}
    {mLen : Addr} {ocmLen kVmLen dcmLen pmmLen cdmLen ctmLen : Value} {odmLen anmLen : Option Addr} {slmLen : Array (Option Value)}
    {mHas : Addr} {ocmHas kVmHas dcmHas pmmHas cdmHas ctmHas : Value} {odmHas anmHas : Option Addr} {slmHas : Array (Option Value)}
    {mEq : Addr} {ocmEq kVmEq dcmEq pmmEq cdmEq ctmEq : Value} {odmEq anmEq : Option Addr} {slmEq : Array (Option Value)}
    {mRepr : Addr} {ocmRepr kVmRepr dcmRepr pmmRepr cdmRepr ctmRepr : Value} {odmRepr anmRepr : Option Addr} {slmRepr : Array (Option Value)}
    {mLed : Addr} {ocmLed kVmLed dcmLed pmmLed cdmLed ctmLed : Value} {odmLed anmLed : Option Addr} {slmLed : Array (Option Value)}
    {mInit : Addr} {ocmInit kVmInit dcmInit pmmInit cdmInit ctmInit : Value} {odmInit anmInit : Option Addr} {slmInit : Array (Option Value)}
    {mLetters : Addr} {ocmLetters kVmLetters dcmLetters pmmLetters cdmLetters ctmLetters : Value} {odmLetters anmLetters : Option Addr} {slmLetters : Array (Option Value)}
    {C pL : Addr} {restL : List Value} {tS tM tC tC2 : Tok}
    (aIsInt : PySem.W.nsIn K mainGlobals "is_integer" = some (some (.ref fIsInt)))
    (lIsInt : K.lookup fIsInt = some ⟨ocIsInt, odIsInt, .func (PySem.W.fnOf "is_integer" "is_integer" (defArgs sIsInt) (defBody sIsInt) (defScope sIsInt) .none kVIsInt dcIsInt pmIsInt anIsInt cdIsInt ctIsInt), slIsInt⟩)
    (cIsInt : PySem.W.codeIn K cdIsInt "is_integer" = true)
    (kIsInt : PySem.W.keepIn K (.ref fIsInt) = true)
    (aIsText : PySem.W.nsIn K mainGlobals "is_text" = some (some (.ref fIsText)))
    (lIsText : K.lookup fIsText = some ⟨ocIsText, odIsText, .func (PySem.W.fnOf "is_text" "is_text" (defArgs sIsText) (defBody sIsText) (defScope sIsText) .none kVIsText dcIsText pmIsText anIsText cdIsText ctIsText), slIsText⟩)
    (cIsText : PySem.W.codeIn K cdIsText "is_text" = true)
    (kIsText : PySem.W.keepIn K (.ref fIsText) = true)
    (aIsOver : PySem.W.nsIn K mainGlobals "is_over" = some (some (.ref fIsOver)))
    (lIsOver : K.lookup fIsOver = some ⟨ocIsOver, odIsOver, .func (PySem.W.fnOf "is_over" "is_over" (defArgs sIsOver) (defBody sIsOver) (defScope sIsOver) .none kVIsOver dcIsOver pmIsOver anIsOver cdIsOver ctIsOver), slIsOver⟩)
    (cIsOver : PySem.W.codeIn K cdIsOver "is_over" = true)
    (kIsOver : PySem.W.keepIn K (.ref fIsOver) = true)
    (aAreLet : PySem.W.nsIn K mainGlobals "are_letters" = some (some (.ref fAreLet)))
    (lAreLet : K.lookup fAreLet = some ⟨ocAreLet, odAreLet, .func (PySem.W.fnOf "are_letters" "are_letters" (defArgs sAreLet) (defBody sAreLet) (defScope sAreLet) .none kVAreLet dcAreLet pmAreLet anAreLet cdAreLet ctAreLet), slAreLet⟩)
    (cAreLet : PySem.W.codeIn K cdAreLet "are_letters" = true)
    (kAreLet : PySem.W.keepIn K (.ref fAreLet) = true)
    (aNeedText : PySem.W.nsIn K mainGlobals "need_text" = some (some (.ref fNeedText)))
    (lNeedText : K.lookup fNeedText = some ⟨ocNeedText, odNeedText, .func (PySem.W.fnOf "need_text" "need_text" (defArgs sNeedText) (defBody sNeedText) (defScope sNeedText) .none kVNeedText dcNeedText pmNeedText anNeedText cdNeedText ctNeedText), slNeedText⟩)
    (cNeedText : PySem.W.codeIn K cdNeedText "need_text" = true)
    (kNeedText : PySem.W.keepIn K (.ref fNeedText) = true)
    (aFirst : PySem.W.nsIn K mainGlobals "first_texts" = some (some (.ref fFirst)))
    (lFirst : K.lookup fFirst = some ⟨ocFirst, odFirst, .func (PySem.W.fnOf "first_texts" "first_texts" (defArgs sFirstTexts) (defBody sFirstTexts) (defScope sFirstTexts) .none kVFirst dcFirst pmFirst anFirst cdFirst ctFirst), slFirst⟩)
    (cFirst : PySem.W.codeIn K cdFirst "first_texts" = true)
    (kFirst : PySem.W.keepIn K (.ref fFirst) = true)
    (aNeedParts : PySem.W.nsIn K mainGlobals "_need_parts" = some (some (.ref fNeedParts)))
    (lNeedParts : K.lookup fNeedParts = some ⟨ocNeedParts, odNeedParts, .func (PySem.W.fnOf "_need_parts" "_need_parts" (defArgs sNeedParts) (defBody sNeedParts) (defScope sNeedParts) .none kVNeedParts dcNeedParts pmNeedParts anNeedParts cdNeedParts ctNeedParts), slNeedParts⟩)
    (cNeedParts : PySem.W.codeIn K cdNeedParts "_need_parts" = true)
    (kNeedParts : PySem.W.keepIn K (.ref fNeedParts) = true)
    (aIsRow : PySem.W.nsIn K mainGlobals "_is_row" = some (some (.ref fIsRow)))
    (lIsRow : K.lookup fIsRow = some ⟨ocIsRow, odIsRow, .func (PySem.W.fnOf "_is_row" "_is_row" (defArgs sIsRow) (defBody sIsRow) (defScope sIsRow) .none kVIsRow dcIsRow pmIsRow anIsRow cdIsRow ctIsRow), slIsRow⟩)
    (cIsRow : PySem.W.codeIn K cdIsRow "_is_row" = true)
    (kIsRow : PySem.W.keepIn K (.ref fIsRow) = true)
    (aIsPlace : PySem.W.nsIn K mainGlobals "is_place" = some (some (.ref fIsPlace)))
    (lIsPlace : K.lookup fIsPlace = some ⟨ocIsPlace, odIsPlace, .func (PySem.W.fnOf "is_place" "is_place" (defArgs sIsPlace) (defBody sIsPlace) (defScope sIsPlace) .none kVIsPlace dcIsPlace pmIsPlace anIsPlace cdIsPlace ctIsPlace), slIsPlace⟩)
    (cIsPlace : PySem.W.codeIn K cdIsPlace "is_place" = true)
    (kIsPlace : PySem.W.keepIn K (.ref fIsPlace) = true)
    (aMetFrom : PySem.W.nsIn K mainGlobals "_met_from" = some (some (.ref fMetFrom)))
    (lMetFrom : K.lookup fMetFrom = some ⟨ocMetFrom, odMetFrom, .func (PySem.W.fnOf "_met_from" "_met_from" (defArgs sMetFrom) (defBody sMetFrom) (defScope sMetFrom) .none kVMetFrom dcMetFrom pmMetFrom anMetFrom cdMetFrom ctMetFrom), slMetFrom⟩)
    (cMetFrom : PySem.W.codeIn K cdMetFrom "_met_from" = true)
    (kMetFrom : PySem.W.keepIn K (.ref fMetFrom) = true)
    (aNumFrom : PySem.W.nsIn K mainGlobals "_numbered_from" = some (some (.ref fNumFrom)))
    (lNumFrom : K.lookup fNumFrom = some ⟨ocNumFrom, odNumFrom, .func (PySem.W.fnOf "_numbered_from" "_numbered_from" (defArgs sNumFrom) (defBody sNumFrom) (defScope sNumFrom) .none kVNumFrom dcNumFrom pmNumFrom anNumFrom cdNumFrom ctNumFrom), slNumFrom⟩)
    (cNumFrom : PySem.W.codeIn K cdNumFrom "_numbered_from" = true)
    (kNumFrom : PySem.W.keepIn K (.ref fNumFrom) = true)
    (aPot : PySem.W.nsIn K mainGlobals "_law_pot" = some (some (.ref fPot)))
    (lPot : K.lookup fPot = some ⟨ocPot, odPot, .func (PySem.W.fnOf "_law_pot" "_law_pot" (defArgs sPot) (defBody sPot) (defScope sPot) .none kVPot dcPot pmPot anPot cdPot ctPot), slPot⟩)
    (cPot : PySem.W.codeIn K cdPot "_law_pot" = true)
    (kPot : PySem.W.keepIn K (.ref fPot) = true)
    (aDraw : PySem.W.nsIn K mainGlobals "_law_draw" = some (some (.ref fDraw)))
    (lDraw : K.lookup fDraw = some ⟨ocDraw, odDraw, .func (PySem.W.fnOf "_law_draw" "_law_draw" (defArgs sDraw) (defBody sDraw) (defScope sDraw) .none kVDraw dcDraw pmDraw anDraw cdDraw ctDraw), slDraw⟩)
    (cDraw : PySem.W.codeIn K cdDraw "_law_draw" = true)
    (kDraw : PySem.W.keepIn K (.ref fDraw) = true)
    (aPick : PySem.W.nsIn K mainGlobals "_law_pick" = some (some (.ref fPick)))
    (lPick : K.lookup fPick = some ⟨ocPick, odPick, .func (PySem.W.fnOf "_law_pick" "_law_pick" (defArgs sPick) (defBody sPick) (defScope sPick) .none kVPick dcPick pmPick anPick cdPick ctPick), slPick⟩)
    (cPick : PySem.W.codeIn K cdPick "_law_pick" = true)
    (kPick : PySem.W.keepIn K (.ref fPick) = true)
    (aLMet : PySem.W.nsIn K mainGlobals "_law_met" = some (some (.ref fLMet)))
    (lLMet : K.lookup fLMet = some ⟨ocLMet, odLMet, .func (PySem.W.fnOf "_law_met" "_law_met" (defArgs sLMet) (defBody sLMet) (defScope sLMet) .none kVLMet dcLMet pmLMet anLMet cdLMet ctLMet), slLMet⟩)
    (cLMet : PySem.W.codeIn K cdLMet "_law_met" = true)
    (kLMet : PySem.W.keepIn K (.ref fLMet) = true)
    (aMixed : PySem.W.nsIn K mainGlobals "_law_mixed" = some (some (.ref fMixed)))
    (lMixed : K.lookup fMixed = some ⟨ocMixed, odMixed, .func (PySem.W.fnOf "_law_mixed" "_law_mixed" (defArgs sMixed) (defBody sMixed) (defScope sMixed) .none kVMixed dcMixed pmMixed anMixed cdMixed ctMixed), slMixed⟩)
    (cMixed : PySem.W.codeIn K cdMixed "_law_mixed" = true)
    (kMixed : PySem.W.keepIn K (.ref fMixed) = true)
    (aSheet : PySem.W.nsIn K mainGlobals "_law_sheet" = some (some (.ref fSheet)))
    (lSheet : K.lookup fSheet = some ⟨ocSheet, odSheet, .func (PySem.W.fnOf "_law_sheet" "_law_sheet" (defArgs sSheet) (defBody sSheet) (defScope sSheet) .none kVSheet dcSheet pmSheet anSheet cdSheet ctSheet), slSheet⟩)
    (cSheet : PySem.W.codeIn K cdSheet "_law_sheet" = true)
    (kSheet : PySem.W.keepIn K (.ref fSheet) = true)
    (aLLed : PySem.W.nsIn K mainGlobals "_law_led" = some (some (.ref fLLed)))
    (lLLed : K.lookup fLLed = some ⟨ocLLed, odLLed, .func (PySem.W.fnOf "_law_led" "_law_led" (defArgs sLLed) (defBody sLLed) (defScope sLLed) .none kVLLed dcLLed pmLLed anLLed cdLLed ctLLed), slLLed⟩)
    (cLLed : PySem.W.codeIn K cdLLed "_law_led" = true)
    (kLLed : PySem.W.keepIn K (.ref fLLed) = true)
    (aTexts : PySem.W.nsIn K mainGlobals "_law_texts" = some (some (.ref fTexts)))
    (lTexts : K.lookup fTexts = some ⟨ocTexts, odTexts, .func (PySem.W.fnOf "_law_texts" "_law_texts" (defArgs sTexts) (defBody sTexts) (defScope sTexts) .none kVTexts dcTexts pmTexts anTexts cdTexts ctTexts), slTexts⟩)
    (cTexts : PySem.W.codeIn K cdTexts "_law_texts" = true)
    (kTexts : PySem.W.keepIn K (.ref fTexts) = true)
    (aRig : PySem.W.nsIn K mainGlobals "_law_rig" = some (some (.ref fRig)))
    (lRig : K.lookup fRig = some ⟨ocRig, odRig, .func (PySem.W.fnOf "_law_rig" "_law_rig" (defArgs sRig) (defBody sRig) (defScope sRig) .none kVRig dcRig pmRig anRig cdRig ctRig), slRig⟩)
    (cRig : PySem.W.codeIn K cdRig "_law_rig" = true)
    (kRig : PySem.W.keepIn K (.ref fRig) = true)
    (aFrom : PySem.W.nsIn K mainGlobals "_law_from" = some (some (.ref fFrom)))
    (lFrom : K.lookup fFrom = some ⟨ocFrom, odFrom, .func (PySem.W.fnOf "_law_from" "_law_from" (defArgs sFrom) (defBody sFrom) (defScope sFrom) .none kVFrom dcFrom pmFrom anFrom cdFrom ctFrom), slFrom⟩)
    (cFrom : PySem.W.codeIn K cdFrom "_law_from" = true)
    (kFrom : PySem.W.keepIn K (.ref fFrom) = true)
    (aFirsts : PySem.W.nsIn K mainGlobals "_law_firsts" = some (some (.ref fFirsts)))
    (lFirsts : K.lookup fFirsts = some ⟨ocFirsts, odFirsts, .func (PySem.W.fnOf "_law_firsts" "_law_firsts" (defArgs sFirsts) (defBody sFirsts) (defScope sFirsts) .none kVFirsts dcFirsts pmFirsts anFirsts cdFirsts ctFirsts), slFirsts⟩)
    (cFirsts : PySem.W.codeIn K cdFirsts "_law_firsts" = true)
    (kFirsts : PySem.W.keepIn K (.ref fFirsts) = true)
    (aDue : PySem.W.nsIn K mainGlobals "_law_due" = some (some (.ref fDue)))
    (lDue : K.lookup fDue = some ⟨ocDue, odDue, .func (PySem.W.fnOf "_law_due" "_law_due" (defArgs sDue) (defBody sDue) (defScope sDue) .none kVDue dcDue pmDue anDue (.ref c) ctDue), slDue⟩)
    (cDue : PySem.W.codeIn K (.ref c) "_law_due" = true)
    (kDue : PySem.W.keepIn K (.ref fDue) = true)
    (aTold : PySem.W.nsIn K mainGlobals "_law_told" = some (some (.ref fTold)))
    (lTold : K.lookup fTold = some ⟨ocTold, odTold, .func (PySem.W.fnOf "_law_told" "_law_told" (defArgs sTold) (defBody sTold) (defScope sTold) .none kVTold dcTold pmTold anTold cdTold ctTold), slTold⟩)
    (cTold : PySem.W.codeIn K cdTold "_law_told" = true)
    (kTold : PySem.W.keepIn K (.ref fTold) = true)
    (aNames : PySem.W.nsIn K mainGlobals "_law_by_names_right" = some (some (.ref fNames)))
    (lNames : K.lookup fNames = some ⟨ocNames, odNames, .func (PySem.W.fnOf "_law_by_names_right" "_law_by_names_right" (defArgs sNames) (defBody sNames) (defScope sNames) .none kVNames dcNames pmNames anNames cdNames ctNames), slNames⟩)
    (cNames : PySem.W.codeIn K cdNames "_law_by_names_right" = true)
    (kNames : PySem.W.keepIn K (.ref fNames) = true)
    (aAtR : PySem.W.nsIn K mainGlobals "_law_at_right" = some (some (.ref fAtR)))
    (lAtR : K.lookup fAtR = some ⟨ocAtR, odAtR, .func (PySem.W.fnOf "_law_at_right" "_law_at_right" (defArgs sAtR) (defBody sAtR) (defScope sAtR) .none kVAtR dcAtR pmAtR anAtR cdAtR ctAtR), slAtR⟩)
    (cAtR : PySem.W.codeIn K cdAtR "_law_at_right" = true)
    (kAtR : PySem.W.keepIn K (.ref fAtR) = true)
    (aOth : PySem.W.nsIn K mainGlobals "_law_others_right" = some (some (.ref fOth)))
    (lOth : K.lookup fOth = some ⟨ocOth, odOth, .func (PySem.W.fnOf "_law_others_right" "_law_others_right" (defArgs sOth) (defBody sOth) (defScope sOth) .none kVOth dcOth pmOth anOth cdOth ctOth), slOth⟩)
    (cOth : PySem.W.codeIn K cdOth "_law_others_right" = true)
    (kOth : PySem.W.keepIn K (.ref fOth) = true)
    (aRight : PySem.W.nsIn K mainGlobals "_law_right" = some (some (.ref fRight)))
    (lRight : K.lookup fRight = some ⟨ocRight, odRight, .func (PySem.W.fnOf "_law_right" "_law_right" (defArgs sRight) (defBody sRight) (defScope sRight) .none kVRight dcRight pmRight anRight cdRight ctRight), slRight⟩)
    (cRight : PySem.W.codeIn K cdRight "_law_right" = true)
    (kRight : PySem.W.keepIn K (.ref fRight) = true)
    (aLaw : PySem.W.nsIn K mainGlobals "law" = some (some (.ref fLaw)))
    (lLaw : K.lookup fLaw = some ⟨ocLaw, odLaw, .func (PySem.W.fnOf "law" "law" (defArgs sLaw) (defBody sLaw) (defScope sLaw) .none kVLaw dcLaw pmLaw anLaw cdLaw ctLaw), slLaw⟩)
    (cLaw : PySem.W.codeIn K cdLaw "law" = true)
    (kLaw : PySem.W.keepIn K (.ref fLaw) = true)
    (nM : PySem.W.nsIn K mainGlobals "Machine" = some (some (.ref C)))
    (amNeedPlace : PySem.W.findIn K (.ref C) "_need_place" = some (some (.ref mNeedPlace)))
    (tmNeedPlace : PySem.W.typeIn K (.ref mNeedPlace) = some (.type "function"))
    (lmNeedPlace : K.lookup mNeedPlace = some ⟨ocmNeedPlace, odmNeedPlace, .func (PySem.W.fnOf "_need_place" "Machine._need_place" (defArgs sNeedPlace) (defBody sNeedPlace) (defScope sNeedPlace) .none kVmNeedPlace dcmNeedPlace pmmNeedPlace anmNeedPlace cdmNeedPlace ctmNeedPlace), slmNeedPlace⟩)
    (cmNeedPlace : PySem.W.codeIn K cdmNeedPlace "Machine._need_place" = true)
    (kmNeedPlace : PySem.W.keepIn K (.ref mNeedPlace) = true)
    (amRows : PySem.W.findIn K (.ref C) "rows" = some (some (.ref mRows)))
    (tmRows : PySem.W.typeIn K (.ref mRows) = some (.type "function"))
    (lmRows : K.lookup mRows = some ⟨ocmRows, odmRows, .func (PySem.W.fnOf "rows" "Machine.rows" (defArgs sRows) (defBody sRows) (defScope sRows) .none kVmRows dcmRows pmmRows anmRows cdmRows ctmRows), slmRows⟩)
    (cmRows : PySem.W.codeIn K cdmRows "Machine.rows" = true)
    (kmRows : PySem.W.keepIn K (.ref mRows) = true)
    (amKinds : PySem.W.findIn K (.ref C) "kinds" = some (some (.ref mKinds)))
    (tmKinds : PySem.W.typeIn K (.ref mKinds) = some (.type "function"))
    (lmKinds : K.lookup mKinds = some ⟨ocmKinds, odmKinds, .func (PySem.W.fnOf "kinds" "Machine.kinds" (defArgs sKinds) (defBody sKinds) (defScope sKinds) .none kVmKinds dcmKinds pmmKinds anmKinds cdmKinds ctmKinds), slmKinds⟩)
    (cmKinds : PySem.W.codeIn K cdmKinds "Machine.kinds" = true)
    (kmKinds : PySem.W.keepIn K (.ref mKinds) = true)
    (amGoal : PySem.W.findIn K (.ref C) "goal" = some (some (.ref mGoal)))
    (tmGoal : PySem.W.typeIn K (.ref mGoal) = some (.type "function"))
    (lmGoal : K.lookup mGoal = some ⟨ocmGoal, odmGoal, .func (PySem.W.fnOf "goal" "Machine.goal" (defArgs sGoal) (defBody sGoal) (defScope sGoal) .none kVmGoal dcmGoal pmmGoal anmGoal cdmGoal ctmGoal), slmGoal⟩)
    (cmGoal : PySem.W.codeIn K cdmGoal "Machine.goal" = true)
    (kmGoal : PySem.W.keepIn K (.ref mGoal) = true)
    (amGoes : PySem.W.findIn K (.ref C) "goes" = some (some (.ref mGoes)))
    (tmGoes : PySem.W.typeIn K (.ref mGoes) = some (.type "function"))
    (lmGoes : K.lookup mGoes = some ⟨ocmGoes, odmGoes, .func (PySem.W.fnOf "goes" "Machine.goes" (defArgs sGoes) (defBody sGoes) (defScope sGoes) .none kVmGoes dcmGoes pmmGoes anmGoes cdmGoes ctmGoes), slmGoes⟩)
    (cmGoes : PySem.W.codeIn K cdmGoes "Machine.goes" = true)
    (kmGoes : PySem.W.keepIn K (.ref mGoes) = true)
    (amTakes : PySem.W.findIn K (.ref C) "takes" = some (some (.ref mTakes)))
    (tmTakes : PySem.W.typeIn K (.ref mTakes) = some (.type "function"))
    (lmTakes : K.lookup mTakes = some ⟨ocmTakes, odmTakes, .func (PySem.W.fnOf "takes" "Machine.takes" (defArgs sTakes) (defBody sTakes) (defScope sTakes) .none kVmTakes dcmTakes pmmTakes anmTakes cdmTakes ctmTakes), slmTakes⟩)
    (cmTakes : PySem.W.codeIn K cdmTakes "Machine.takes" = true)
    (kmTakes : PySem.W.keepIn K (.ref mTakes) = true)
    (amFirstText : PySem.W.findIn K (.ref C) "first_text" = some (some (.ref mFirstText)))
    (tmFirstText : PySem.W.typeIn K (.ref mFirstText) = some (.type "function"))
    (lmFirstText : K.lookup mFirstText = some ⟨ocmFirstText, odmFirstText, .func (PySem.W.fnOf "first_text" "Machine.first_text" (defArgs sFirstText) (defBody sFirstText) (defScope sFirstText) .none kVmFirstText dcmFirstText pmmFirstText anmFirstText cdmFirstText ctmFirstText), slmFirstText⟩)
    (cmFirstText : PySem.W.codeIn K cdmFirstText "Machine.first_text" = true)
    (kmFirstText : PySem.W.keepIn K (.ref mFirstText) = true)
    (amFirstTaken : PySem.W.findIn K (.ref C) "first_taken" = some (some (.ref mFirstTaken)))
    (tmFirstTaken : PySem.W.typeIn K (.ref mFirstTaken) = some (.type "function"))
    (lmFirstTaken : K.lookup mFirstTaken = some ⟨ocmFirstTaken, odmFirstTaken, .func (PySem.W.fnOf "first_taken" "Machine.first_taken" (defArgs sFirstTaken) (defBody sFirstTaken) (defScope sFirstTaken) .none kVmFirstTaken dcmFirstTaken pmmFirstTaken anmFirstTaken cdmFirstTaken ctmFirstTaken), slmFirstTaken⟩)
    (cmFirstTaken : PySem.W.codeIn K cdmFirstTaken "Machine.first_taken" = true)
    (kmFirstTaken : PySem.W.keepIn K (.ref mFirstTaken) = true)
    (amAt : PySem.W.findIn K (.ref C) "at" = some (some (.ref mAt)))
    (tmAt : PySem.W.typeIn K (.ref mAt) = some (.type "function"))
    (lmAt : K.lookup mAt = some ⟨ocmAt, odmAt, .func (PySem.W.fnOf "at" "Machine.at" (defArgs sAt) (defBody sAt) (defScope sAt) .none kVmAt dcmAt pmmAt anmAt cdmAt ctmAt), slmAt⟩)
    (cmAt : PySem.W.codeIn K cdmAt "Machine.at" = true)
    (kmAt : PySem.W.keepIn K (.ref mAt) = true)
    (amNumbered : PySem.W.findIn K (.ref C) "numbered" = some (some (.ref mNumbered)))
    (tmNumbered : PySem.W.typeIn K (.ref mNumbered) = some (.type "function"))
    (lmNumbered : K.lookup mNumbered = some ⟨ocmNumbered, odmNumbered, .func (PySem.W.fnOf "numbered" "Machine.numbered" (defArgs sNumbered) (defBody sNumbered) (defScope sNumbered) .none kVmNumbered dcmNumbered pmmNumbered anmNumbered cdmNumbered ctmNumbered), slmNumbered⟩)
    (cmNumbered : PySem.W.codeIn K cdmNumbered "Machine.numbered" = true)
    (kmNumbered : PySem.W.keepIn K (.ref mNumbered) = true)
    (amLen : PySem.W.findIn K (.ref C) "__len__" = some (some (.ref mLen)))
    (tmLen : PySem.W.typeIn K (.ref mLen) = some (.type "function"))
    (lmLen : K.lookup mLen = some ⟨ocmLen, odmLen, .func (PySem.W.fnOf "__len__" "Machine.__len__" (defArgs sLen) (defBody sLen) (defScope sLen) .none kVmLen dcmLen pmmLen anmLen cdmLen ctmLen), slmLen⟩)
    (cmLen : PySem.W.codeIn K cdmLen "Machine.__len__" = true)
    (kmLen : PySem.W.keepIn K (.ref mLen) = true)
    (amHas : PySem.W.findIn K (.ref C) "__contains__" = some (some (.ref mHas)))
    (tmHas : PySem.W.typeIn K (.ref mHas) = some (.type "function"))
    (lmHas : K.lookup mHas = some ⟨ocmHas, odmHas, .func (PySem.W.fnOf "__contains__" "Machine.__contains__" (defArgs sHas) (defBody sHas) (defScope sHas) .none kVmHas dcmHas pmmHas anmHas cdmHas ctmHas), slmHas⟩)
    (cmHas : PySem.W.codeIn K cdmHas "Machine.__contains__" = true)
    (kmHas : PySem.W.keepIn K (.ref mHas) = true)
    (amEq : PySem.W.findIn K (.ref C) "__eq__" = some (some (.ref mEq)))
    (tmEq : PySem.W.typeIn K (.ref mEq) = some (.type "function"))
    (lmEq : K.lookup mEq = some ⟨ocmEq, odmEq, .func (PySem.W.fnOf "__eq__" "Machine.__eq__" (defArgs sEq) (defBody sEq) (defScope sEq) .none kVmEq dcmEq pmmEq anmEq cdmEq ctmEq), slmEq⟩)
    (cmEq : PySem.W.codeIn K cdmEq "Machine.__eq__" = true)
    (kmEq : PySem.W.keepIn K (.ref mEq) = true)
    (amRepr : PySem.W.findIn K (.ref C) "__repr__" = some (some (.ref mRepr)))
    (tmRepr : PySem.W.typeIn K (.ref mRepr) = some (.type "function"))
    (lmRepr : K.lookup mRepr = some ⟨ocmRepr, odmRepr, .func (PySem.W.fnOf "__repr__" "Machine.__repr__" (defArgs sRepr) (defBody sRepr) (defScope sRepr) .none kVmRepr dcmRepr pmmRepr anmRepr cdmRepr ctmRepr), slmRepr⟩)
    (cmRepr : PySem.W.codeIn K cdmRepr "Machine.__repr__" = true)
    (kmRepr : PySem.W.keepIn K (.ref mRepr) = true)
    (amLed : PySem.W.findIn K (.ref C) "_led" = some (some (.ref mLed)))
    (tmLed : PySem.W.typeIn K (.ref mLed) = some (.type "function"))
    (lmLed : K.lookup mLed = some ⟨ocmLed, odmLed, .func (PySem.W.fnOf "_led" "Machine._led" (defArgs sLed) (defBody sLed) (defScope sLed) .none kVmLed dcmLed pmmLed anmLed cdmLed ctmLed), slmLed⟩)
    (cmLed : PySem.W.codeIn K cdmLed "Machine._led" = true)
    (kmLed : PySem.W.keepIn K (.ref mLed) = true)
    (amInit : PySem.W.findIn K (.ref C) "__init__" = some (some (.ref mInit)))
    (tmInit : PySem.W.typeIn K (.ref mInit) = some (.type "function"))
    (lmInit : K.lookup mInit = some ⟨ocmInit, odmInit, .func (PySem.W.fnOf "__init__" "Machine.__init__" (defArgs sInit) (defBody sInit) (defScope sInit) .none kVmInit dcmInit pmmInit anmInit cdmInit ctmInit), slmInit⟩)
    (cmInit : PySem.W.codeIn K cdmInit "Machine.__init__" = true)
    (kmInit : PySem.W.keepIn K (.ref mInit) = true)
    (amLetters : PySem.W.findIn K (.ref C) "letters" = some (some (.ref pL)))
    (pget : PySem.W.specialIn K (.ref pL) "__get__" = some (some (.builtin "property.__get__")))
    (ptak : PySem.W.takesIn K (.ref pL) = some true)
    (prec : PySem.W.recIn K pL "property" = some (.ref mLetters :: restL))
    (lmLetters : K.lookup mLetters = some ⟨ocmLetters, odmLetters, .func (PySem.W.fnOf "letters" "Machine.letters" (defArgs sLetters) (defBody sLetters) (defScope sLetters) .none kVmLetters dcmLetters pmmLetters anmLetters cdmLetters ctmLetters), slmLetters⟩)
    (cmLetters : PySem.W.codeIn K cdmLetters "Machine.letters" = true)
    (kmLetters : PySem.W.keepIn K (.ref mLetters) = true)
    (cpg : PySem.W.plainGet K C Str.empty = true)
    (chd : PySem.W.hasDictIn K C = true)
    (cpo : PySem.W.plainOver K C = true)
    (csa : PySem.W.findIn K (.ref C) "__setattr__" = some (some (.builtin "object.__setattr__")))
    (n_letters : PySem.W.findIn K (.ref C) "_letters" = some none)
    (n_rows : PySem.W.findIn K (.ref C) "_rows" = some none)
    (n_kinds : PySem.W.findIn K (.ref C) "_kinds" = some none)
    (mmk : PySem.W.makesIn K C = true)
    (mkp : PySem.W.keepIn K (.ref C) = true)
    (ene : PySem.W.findIn K (.ref C) "__ne__" = some (some (.builtin "object.__ne__")))
    (eob : PySem.W.mroIn K C (.type "object") = some true)
    (ica : PySem.W.findIn K (.ref C) "__class__" = some (some (.builtin "object.__class__")))
    (icn : PySem.W.specialIn K (.builtin "object.__class__") "__get__" = some (some (.builtin "getset_descriptor.__get__")))
    (ict : PySem.W.takesIn K (.builtin "object.__class__") = some true)
    (onf : (["NoneType", "bool", "int", "str", "tuple", "list", "dict"].all fun t => PySem.W.notFirst K C (.type t)) = true)
    (ono : (["NoneType", "bool", "int", "str", "tuple", "list", "dict"].all fun t => decide (PySem.W.kitOne K (.type t) (.ref C) = some false)) = true)
    (ons : (["NoneType", "bool", "int", "tuple", "list", "dict"].all fun t => decide (PySem.W.kitOne K (.type t) (.type "str") = some false)) = true)
    (kat : PySem.W.findIn K (.ref C) "MOST_PLACES" = some (some (.int 40 tC)))
    (kge : PySem.W.specialIn K (.int 40 tC) "__get__" = some none)
    (rrd : PySem.W.readsIn K C (.type "type") = true)
    (rga : PySem.W.specialIn K (.ref C) "__getattribute__" = some (some (.builtin "type.__getattribute__")))
    (vat : PySem.W.findCls K (.ref C) (.type "type") "MOST_PLACES" = some (.val (.int 40 tC2)))
    (gS : PySem.W.nsIn K mainGlobals "SMALL_LETTERS" = some (some (.str "abcdefghijklmnopqrstuvwxyz" tS)))
    (gM : PySem.W.nsIn K mainGlobals "MOST_LETTERS" = some (some (.int 3 tM)))
    (hC : PySem.W.codeHdIn K c Pt = true)
    (nP : K.lookup Pt = none)
    (z_tuple : PySem.W.nsIn K mainGlobals "tuple" = some none)
    (z_zip : PySem.W.nsIn K mainGlobals "zip" = some none)
    (z_set : PySem.W.nsIn K mainGlobals "set" = some none)
    (z_bool : PySem.W.nsIn K mainGlobals "bool" = some none)
    (z_any : PySem.W.nsIn K mainGlobals "any" = some none)
    (z_enumerate : PySem.W.nsIn K mainGlobals "enumerate" = some none)
    (z_ve : PySem.W.nsIn K mainGlobals "ValueError" = some none)
    (z_re : PySem.W.nsIn K mainGlobals "RuntimeError" = some none)
    (z_ae : PySem.W.nsIn K mainGlobals "ArithmeticError" = some none)
    (z_len : PySem.W.nsIn K mainGlobals "len" = some none)
    (z_isi : PySem.W.nsIn K mainGlobals "isinstance" = some none)
    (z_all : PySem.W.nsIn K mainGlobals "all" = some none)
    (z_str : PySem.W.nsIn K mainGlobals "str" = some none)
    (z_list : PySem.W.nsIn K mainGlobals "list" = some none)
    (z_sorted : PySem.W.nsIn K mainGlobals "sorted" = some none)
    (z_range : PySem.W.nsIn K mainGlobals "range" = some none)
    (z_sum : PySem.W.nsIn K mainGlobals "sum" = some none)
    (z_repr : PySem.W.nsIn K mainGlobals "repr" = some none)
    (z_int : PySem.W.nsIn K mainGlobals "int" = some none)
    (z_abs : PySem.W.nsIn K mainGlobals "abs" = some none)
    (z_max : PySem.W.nsIn K mainGlobals "max" = some none)
    (z_min : PySem.W.nsIn K mainGlobals "min" = some none)
    (z_divmod : PySem.W.nsIn K mainGlobals "divmod" = some none)
 :
    LawG l w K 11 63 "_law_script" mg fa h := by
  have e := hfa.symm.trans (PySem.W.mg_of X G aLaw)
  cases e
  have M : Mx mg := ⟨PySem.W.mg_none_of X G z_tuple, PySem.W.mg_none_of X G z_zip, PySem.W.mg_none_of X G z_set, PySem.W.mg_none_of X G z_bool, PySem.W.mg_none_of X G z_any, PySem.W.mg_none_of X G z_enumerate, PySem.W.mg_none_of X G z_ve, PySem.W.mg_none_of X G z_re, PySem.W.mg_none_of X G z_ae, PySem.W.mg_none_of X G z_len, PySem.W.mg_none_of X G z_isi, PySem.W.mg_none_of X G z_all, PySem.W.mg_none_of X G z_str, PySem.W.mg_none_of X G z_list, PySem.W.mg_none_of X G z_sorted, PySem.W.mg_none_of X G z_range, PySem.W.mg_none_of X G z_sum, PySem.W.mg_none_of X G z_repr, PySem.W.mg_none_of X G z_int, PySem.W.mg_none_of X G z_abs, PySem.W.mg_none_of X G z_max, PySem.W.mg_none_of X G z_min, PySem.W.mg_none_of X G z_divmod⟩
  have FIsInt := fun_mk (st := sIsInt) lIsInt cIsInt kIsInt
  have bIsInt : Binds K _ ["value"] [] := FIsInt.binds (ps := ["value"]) fun _ _ _ _ _ _ us hl => match us, hl with | [_], _ => rfl
  have gIsInt := PySem.W.mg_of X G aIsInt
  have FIsText := fun_mk (st := sIsText) lIsText cIsText kIsText
  have bIsText : Binds K _ ["value"] [] := FIsText.binds (ps := ["value"]) fun _ _ _ _ _ _ us hl => match us, hl with | [_], _ => rfl
  have gIsText := PySem.W.mg_of X G aIsText
  have FIsOver := fun_mk (st := sIsOver) lIsOver cIsOver kIsOver
  have bIsOver : Binds K _ ["value", "letters"] [] := FIsOver.binds (ps := ["value", "letters"]) fun _ _ _ _ _ _ us hl => match us, hl with | [_, _], _ => rfl
  have gIsOver := PySem.W.mg_of X G aIsOver
  have FAreLet := fun_mk (st := sAreLet) lAreLet cAreLet kAreLet
  have bAreLet : Binds K _ ["value"] [] := FAreLet.binds (ps := ["value"]) fun _ _ _ _ _ _ us hl => match us, hl with | [_], _ => rfl
  have gAreLet := PySem.W.mg_of X G aAreLet
  have FNeedText := fun_mk (st := sNeedText) lNeedText cNeedText kNeedText
  have bNeedText : Binds K _ ["value", "letters"] [] := FNeedText.binds (ps := ["value", "letters"]) fun _ _ _ _ _ _ us hl => match us, hl with | [_, _], _ => rfl
  have gNeedText := PySem.W.mg_of X G aNeedText
  have FFirst := fun_mk (st := sFirstTexts) lFirst cFirst kFirst
  have bFirst : Binds K _ ["letters", "rows", "start"] [] := FFirst.binds (ps := ["letters", "rows", "start"]) fun _ _ _ _ _ _ us hl => match us, hl with | [_, _, _], _ => rfl
  have gFirst := PySem.W.mg_of X G aFirst
  have FNeedParts := fun_mk (st := sNeedParts) lNeedParts cNeedParts kNeedParts
  have bNeedParts : Binds K _ ["letters", "rows", "kinds"] [] := FNeedParts.binds (ps := ["letters", "rows", "kinds"]) fun _ _ _ _ _ _ us hl => match us, hl with | [_, _, _], _ => rfl
  have gNeedParts := PySem.W.mg_of X G aNeedParts
  have FIsRow := fun_mk (st := sIsRow) lIsRow cIsRow kIsRow
  have bIsRow : Binds K _ ["value", "many_letters", "many_places"] [] := FIsRow.binds (ps := ["value", "many_letters", "many_places"]) fun _ _ _ _ _ _ us hl => match us, hl with | [_, _, _], _ => rfl
  have gIsRow := PySem.W.mg_of X G aIsRow
  have FIsPlace := fun_mk (st := sIsPlace) lIsPlace cIsPlace kIsPlace
  have bIsPlace : Binds K _ ["value", "many"] [] := FIsPlace.binds (ps := ["value", "many"]) fun _ _ _ _ _ _ us hl => match us, hl with | [_, _], _ => rfl
  have gIsPlace := PySem.W.mg_of X G aIsPlace
  have FMetFrom := fun_mk (st := sMetFrom) lMetFrom cMetFrom kMetFrom
  have bMetFrom : Binds K _ ["rows", "start"] [] := FMetFrom.binds (ps := ["rows", "start"]) fun _ _ _ _ _ _ us hl => match us, hl with | [_, _], _ => rfl
  have gMetFrom := PySem.W.mg_of X G aMetFrom
  have FNumFrom := fun_mk (st := sNumFrom) lNumFrom cNumFrom kNumFrom
  have bNumFrom : Binds K _ ["letters", "rows", "kinds", "start"] [] := FNumFrom.binds (ps := ["letters", "rows", "kinds", "start"]) fun _ _ _ _ _ _ us hl => match us, hl with | [_, _, _, _], _ => rfl
  have gNumFrom := PySem.W.mg_of X G aNumFrom
  have FPot := fun_mk (st := sPot) lPot cPot kPot
  have bPot : Binds K _ ["_law_script", "_law_k"] [] := FPot.binds (ps := ["_law_script", "_law_k"]) fun _ _ _ _ _ _ us hl => match us, hl with | [_, _], _ => rfl
  have gPot := PySem.W.mg_of X G aPot
  have FDraw := fun_mk (st := sDraw) lDraw cDraw kDraw
  have bDraw : Binds K _ ["_law_pot_here", "_law_sides"] [] := FDraw.binds (ps := ["_law_pot_here", "_law_sides"]) fun _ _ _ _ _ _ us hl => match us, hl with | [_, _], _ => rfl
  have gDraw := PySem.W.mg_of X G aDraw
  have FPick := fun_mk (st := sPick) lPick cPick kPick
  have bPick : Binds K _ ["_law_pot_here", "_law_some"] [] := FPick.binds (ps := ["_law_pot_here", "_law_some"]) fun _ _ _ _ _ _ us hl => match us, hl with | [_, _], _ => rfl
  have gPick := PySem.W.mg_of X G aPick
  have FLMet := fun_mk (st := sLMet) lLMet cLMet kLMet
  have bLMet : Binds K _ ["_law_rows", "_law_start"] [] := FLMet.binds (ps := ["_law_rows", "_law_start"]) fun _ _ _ _ _ _ us hl => match us, hl with | [_, _], _ => rfl
  have gLMet := PySem.W.mg_of X G aLMet
  have FMixed := fun_mk (st := sMixed) lMixed cMixed kMixed
  have bMixed : Binds K _ ["_law_pot_here", "_law_some"] [] := FMixed.binds (ps := ["_law_pot_here", "_law_some"]) fun _ _ _ _ _ _ us hl => match us, hl with | [_, _], _ => rfl
  have gMixed := PySem.W.mg_of X G aMixed
  have FSheet := fun_mk (st := sSheet) lSheet cSheet kSheet
  have bSheet : Binds K _ ["_law_pot_here", "_law_signs", "_law_most"] [] := FSheet.binds (ps := ["_law_pot_here", "_law_signs", "_law_most"]) fun _ _ _ _ _ _ us hl => match us, hl with | [_, _, _], _ => rfl
  have gSheet := PySem.W.mg_of X G aSheet
  have FLLed := fun_mk (st := sLLed) lLLed cLLed kLLed
  have bLLed : Binds K _ ["_law_signs", "_law_rows", "_law_place", "_law_text"] [] := FLLed.binds (ps := ["_law_signs", "_law_rows", "_law_place", "_law_text"]) fun _ _ _ _ _ _ us hl => match us, hl with | [_, _, _, _], _ => rfl
  have gLLed := PySem.W.mg_of X G aLLed
  have FTexts := fun_mk (st := sTexts) lTexts cTexts kTexts
  have bTexts : Binds K _ ["_law_signs", "_law_most"] [] := FTexts.binds (ps := ["_law_signs", "_law_most"]) fun _ _ _ _ _ _ us hl => match us, hl with | [_, _], _ => rfl
  have gTexts := PySem.W.mg_of X G aTexts
  have FRig := fun_mk (st := sRig) lRig cRig kRig
  have bRig : Binds K _ ["_law_signs", "_law_sheet_here"] [] := FRig.binds (ps := ["_law_signs", "_law_sheet_here"]) fun _ _ _ _ _ _ us hl => match us, hl with | [_, _], _ => rfl
  have gRig := PySem.W.mg_of X G aRig
  have FFrom := fun_mk (st := sFrom) lFrom cFrom kFrom
  have bFrom : Binds K _ ["_law_sheet_here", "_law_start"] [] := FFrom.binds (ps := ["_law_sheet_here", "_law_start"]) fun _ _ _ _ _ _ us hl => match us, hl with | [_, _], _ => rfl
  have gFrom := PySem.W.mg_of X G aFrom
  have FFirsts := fun_mk (st := sFirsts) lFirsts cFirsts kFirsts
  have bFirsts : Binds K _ ["_law_signs", "_law_rows"] [] := FFirsts.binds (ps := ["_law_signs", "_law_rows"]) fun _ _ _ _ _ _ us hl => match us, hl with | [_, _], _ => rfl
  have gFirsts := PySem.W.mg_of X G aFirsts
  have FDue : FunC K "_law_due" "_law_due" sDue fDue _ c := ⟨⟨_, _, _, _, _, _, _, _, rfl, lDue, cDue⟩, kDue⟩
  have HDue0 := FDue.fn
  have bDue : Binds K _ ["_law_signs", "_law_sheet_here", "_law_texts_here"] [] := HDue0.binds (ps := ["_law_signs", "_law_sheet_here", "_law_texts_here"]) fun _ _ _ _ _ _ us hl => match us, hl with | [_, _, _], _ => rfl
  have gDue := PySem.W.mg_of X G aDue
  have FTold := fun_mk (st := sTold) lTold cTold kTold
  have bTold : Binds K _ ["_law_rig_here", "_law_texts_here"] [] := FTold.binds (ps := ["_law_rig_here", "_law_texts_here"]) fun _ _ _ _ _ _ us hl => match us, hl with | [_, _], _ => rfl
  have gTold := PySem.W.mg_of X G aTold
  have FNames := fun_mk (st := sNames) lNames cNames kNames
  have bNames : Binds K _ ["_law_signs", "_law_sheet_here", "_law_rig_here"] [] := FNames.binds (ps := ["_law_signs", "_law_sheet_here", "_law_rig_here"]) fun _ _ _ _ _ _ us hl => match us, hl with | [_, _, _], _ => rfl
  have gNames := PySem.W.mg_of X G aNames
  have FAtR := fun_mk (st := sAtR) lAtR cAtR kAtR
  have bAtR : Binds K _ ["_law_signs", "_law_sheet_here", "_law_rig_here"] [] := FAtR.binds (ps := ["_law_signs", "_law_sheet_here", "_law_rig_here"]) fun _ _ _ _ _ _ us hl => match us, hl with | [_, _, _], _ => rfl
  have gAtR := PySem.W.mg_of X G aAtR
  have FOth := fun_mk (st := sOth) lOth cOth kOth
  have bOth : Binds K _ ["_law_signs", "_law_sheet_here", "_law_rig_here"] [] := FOth.binds (ps := ["_law_signs", "_law_sheet_here", "_law_rig_here"]) fun _ _ _ _ _ _ us hl => match us, hl with | [_, _, _], _ => rfl
  have gOth := PySem.W.mg_of X G aOth
  have FRight := fun_mk (st := sRight) lRight cRight kRight
  have bRight : Binds K _ ["_law_pot_here"] [] := FRight.binds (ps := ["_law_pot_here"]) fun _ _ _ _ _ _ us hl => match us, hl with | [_], _ => rfl
  have gRight := PySem.W.mg_of X G aRight
  have FLaw := fun_mk (st := sLaw) lLaw cLaw kLaw
  have bLaw : Binds K _ ["_law_script"] [] := FLaw.binds (ps := ["_law_script"]) fun _ _ _ _ _ _ us hl => match us, hl with | [_], _ => rfl
  have gLaw := PySem.W.mg_of X G aLaw
  have FmNeedPlace := fun_mk (st := sNeedPlace) lmNeedPlace cmNeedPlace kmNeedPlace
  have bmNeedPlace : Binds K _ ["self", "value"] [] := FmNeedPlace.binds (ps := ["self", "value"]) fun _ _ _ _ _ _ us hl => match us, hl with | [_, _], _ => rfl
  have MNeedPlace : Meth K C "_need_place" mNeedPlace := ⟨amNeedPlace, by unfold PySem.W.isFn; rw [tmNeedPlace]; rfl, kmNeedPlace⟩
  have FmRows := fun_mk (st := sRows) lmRows cmRows kmRows
  have bmRows : Binds K _ ["self"] [] := FmRows.binds (ps := ["self"]) fun _ _ _ _ _ _ us hl => match us, hl with | [_], _ => rfl
  have MRows : Meth K C "rows" mRows := ⟨amRows, by unfold PySem.W.isFn; rw [tmRows]; rfl, kmRows⟩
  have FmKinds := fun_mk (st := sKinds) lmKinds cmKinds kmKinds
  have bmKinds : Binds K _ ["self"] [] := FmKinds.binds (ps := ["self"]) fun _ _ _ _ _ _ us hl => match us, hl with | [_], _ => rfl
  have MKinds : Meth K C "kinds" mKinds := ⟨amKinds, by unfold PySem.W.isFn; rw [tmKinds]; rfl, kmKinds⟩
  have FmGoal := fun_mk (st := sGoal) lmGoal cmGoal kmGoal
  have bmGoal : Binds K _ ["self", "place", "letter"] [] := FmGoal.binds (ps := ["self", "place", "letter"]) fun _ _ _ _ _ _ us hl => match us, hl with | [_, _, _], _ => rfl
  have MGoal : Meth K C "goal" mGoal := ⟨amGoal, by unfold PySem.W.isFn; rw [tmGoal]; rfl, kmGoal⟩
  have FmGoes := fun_mk (st := sGoes) lmGoes cmGoes kmGoes
  have bmGoes : Binds K _ ["self", "place", "text"] [] := FmGoes.binds (ps := ["self", "place", "text"]) fun _ _ _ _ _ _ us hl => match us, hl with | [_, _, _], _ => rfl
  have MGoes : Meth K C "goes" mGoes := ⟨amGoes, by unfold PySem.W.isFn; rw [tmGoes]; rfl, kmGoes⟩
  have FmTakes := fun_mk (st := sTakes) lmTakes cmTakes kmTakes
  have bmTakes : Binds K _ ["self", "text"] [] := FmTakes.binds (ps := ["self", "text"]) fun _ _ _ _ _ _ us hl => match us, hl with | [_, _], _ => rfl
  have MTakes : Meth K C "takes" mTakes := ⟨amTakes, by unfold PySem.W.isFn; rw [tmTakes]; rfl, kmTakes⟩
  have FmFirstText := fun_mk (st := sFirstText) lmFirstText cmFirstText kmFirstText
  have bmFirstText : Binds K _ ["self", "place"] [] := FmFirstText.binds (ps := ["self", "place"]) fun _ _ _ _ _ _ us hl => match us, hl with | [_, _], _ => rfl
  have MFirstText : Meth K C "first_text" mFirstText := ⟨amFirstText, by unfold PySem.W.isFn; rw [tmFirstText]; rfl, kmFirstText⟩
  have FmFirstTaken := fun_mk (st := sFirstTaken) lmFirstTaken cmFirstTaken kmFirstTaken
  have bmFirstTaken : Binds K _ ["self"] [] := FmFirstTaken.binds (ps := ["self"]) fun _ _ _ _ _ _ us hl => match us, hl with | [_], _ => rfl
  have MFirstTaken : Meth K C "first_taken" mFirstTaken := ⟨amFirstTaken, by unfold PySem.W.isFn; rw [tmFirstTaken]; rfl, kmFirstTaken⟩
  have FmAt := fun_mk (st := sAt) lmAt cmAt kmAt
  have bmAt : Binds K _ ["self", "place"] [] := FmAt.binds (ps := ["self", "place"]) fun _ _ _ _ _ _ us hl => match us, hl with | [_, _], _ => rfl
  have MAt : Meth K C "at" mAt := ⟨amAt, by unfold PySem.W.isFn; rw [tmAt]; rfl, kmAt⟩
  have FmNumbered := fun_mk (st := sNumbered) lmNumbered cmNumbered kmNumbered
  have bmNumbered : Binds K _ ["self"] [] := FmNumbered.binds (ps := ["self"]) fun _ _ _ _ _ _ us hl => match us, hl with | [_], _ => rfl
  have MNumbered : Meth K C "numbered" mNumbered := ⟨amNumbered, by unfold PySem.W.isFn; rw [tmNumbered]; rfl, kmNumbered⟩
  have FmLen := fun_mk (st := sLen) lmLen cmLen kmLen
  have bmLen : Binds K _ ["self"] [] := FmLen.binds (ps := ["self"]) fun _ _ _ _ _ _ us hl => match us, hl with | [_], _ => rfl
  have MLen : Meth K C "__len__" mLen := ⟨amLen, by unfold PySem.W.isFn; rw [tmLen]; rfl, kmLen⟩
  have FmHas := fun_mk (st := sHas) lmHas cmHas kmHas
  have bmHas : Binds K _ ["self", "value"] [] := FmHas.binds (ps := ["self", "value"]) fun _ _ _ _ _ _ us hl => match us, hl with | [_, _], _ => rfl
  have MHas : Meth K C "__contains__" mHas := ⟨amHas, by unfold PySem.W.isFn; rw [tmHas]; rfl, kmHas⟩
  have FmEq := fun_mk (st := sEq) lmEq cmEq kmEq
  have bmEq : Binds K _ ["self", "other"] [] := FmEq.binds (ps := ["self", "other"]) fun _ _ _ _ _ _ us hl => match us, hl with | [_, _], _ => rfl
  have MEq : Meth K C "__eq__" mEq := ⟨amEq, by unfold PySem.W.isFn; rw [tmEq]; rfl, kmEq⟩
  have FmRepr := fun_mk (st := sRepr) lmRepr cmRepr kmRepr
  have bmRepr : Binds K _ ["self"] [] := FmRepr.binds (ps := ["self"]) fun _ _ _ _ _ _ us hl => match us, hl with | [_], _ => rfl
  have MRepr : Meth K C "__repr__" mRepr := ⟨amRepr, by unfold PySem.W.isFn; rw [tmRepr]; rfl, kmRepr⟩
  have FmLed := fun_mk (st := sLed) lmLed cmLed kmLed
  have bmLed : Binds K _ ["self", "place", "text"] [] := FmLed.binds (ps := ["self", "place", "text"]) fun _ _ _ _ _ _ us hl => match us, hl with | [_, _, _], _ => rfl
  have MLed : Meth K C "_led" mLed := ⟨amLed, by unfold PySem.W.isFn; rw [tmLed]; rfl, kmLed⟩
  have FmInit := fun_mk (st := sInit) lmInit cmInit kmInit
  have bmInit : Binds K _ ["self", "letters", "rows", "kinds"] [] := FmInit.binds (ps := ["self", "letters", "rows", "kinds"]) fun _ _ _ _ _ _ us hl => match us, hl with | [_, _, _, _], _ => rfl
  have gMa := PySem.W.mg_of X G nM
  have cM : ClsM K C := ⟨⟨cpg, chd, cpo, csa⟩, n_letters, n_rows, n_kinds⟩
  have cE : EqC K C := ⟨ene, eob⟩
  have iM : IsM K C := ⟨fun H a dx fs ea _ => .base (.ins ea cM.cls ica icn ict eob), by unfold PySem.W.kitOne; simp⟩
  have oC : OddC K C := ⟨onf, ono, ons⟩
  have mK : Mk K C mInit := ⟨mmk, amInit, by unfold PySem.W.isFn; rw [tmInit]; rfl, mkp⟩
  have kC : Con K C "MOST_PLACES" (.int 40) (.int 40 tC) := ⟨kat, ⟨_, rfl⟩, kge, by decide +kernel⟩
  have rC : CRead K C (.type "type") := ⟨rrd, rga⟩
  have vC : CVal K C (.type "type") "MOST_PLACES" (.int 40) (.int 40 tC2) := ⟨vat, ⟨_, rfl⟩⟩
  have bmLetters : Binds K _ ["self"] [] := (fun_mk (st := sLetters) lmLetters cmLetters kmLetters).binds (ps := ["self"]) fun _ _ _ _ _ _ us hl => match us, hl with | [_], _ => rfl
  refine ⟨PySem.W.fnOf "law" "law" (defArgs sLaw) (defBody sLaw) (defScope sLaw) .none kVLaw dcLaw pmLaw anLaw cdLaw ctLaw, c, Pt, spLaw K Pt, tP, nP, PySem.W.codeHd_of_K X hC, fun s v => .of_eq rfl, fun H a ns hl hP hs => ?_, fun base _ _ TB => ?_⟩
  · refine ⟨a, ns, rfl, hs, hl, fun p hp => ?_, fun _ => rfl⟩
    rw [List.mem_singleton.mp hp]
    exact .nil hP
  have hIsInt : Has l.prog w K mg base 1 "is_integer" ["value"] spIsInt := has_of (ok_isInt (k := 0) FIsInt M) gIsInt kIsInt bIsInt (fun s us hl => match us, hl with | [_], _ => ⟨.of_eq rfl, .of_eq rfl⟩)
  have hIsText : Has l.prog w K mg base 1 "is_text" ["value"] spIsText := has_of (ok_isText (k := 0) FIsText M (PySem.W.mg_of X G gS)) gIsText kIsText bIsText (fun s us hl => match us, hl with | [_], _ => ⟨.of_eq rfl, .of_eq rfl⟩)
  have hIsOver : Has l.prog w K mg base 1 "is_over" ["value", "letters"] (spIsOver K) := has_of (ok_isOver (k := 0) FIsOver M) gIsOver kIsOver bIsOver (fun s us hl => match us, hl with | [_, _], _ => ⟨.of_eq rfl, .of_eq rfl⟩)
  have hAreLet : Has l.prog w K mg base 2 "are_letters" ["value"] spAreLet := has_of (ok_areLet (k := 1) FAreLet M (PySem.W.mg_of X G gM) hIsText) gAreLet kAreLet bAreLet (fun s us hl => match us, hl with | [_], _ => ⟨.of_eq rfl, .of_eq rfl⟩)
  have hNeedText : Has l.prog w K mg base 2 "need_text" ["value", "letters"] spNeedText := has_of (ok_needText (k := 1) FNeedText hIsOver) gNeedText kNeedText bNeedText (fun s us hl => match us, hl with | [_, _], _ => ⟨.of_eq rfl, .of_eq rfl⟩)
  have hIsPlace : Has l.prog w K mg base 2 "is_place" ["value", "many"] spIsPlace := has_of (ok_isPlace (k := 1) FIsPlace hIsInt) gIsPlace kIsPlace bIsPlace (fun s us hl => match us, hl with | [_, _], _ => ⟨.of_eq rfl, .of_eq rfl⟩)
  have hIsRow : Has l.prog w K mg base 3 "_is_row" ["value", "many_letters", "many_places"] (spIsRow K) := has_of (ok_isRow (k := 2) FIsRow M hIsPlace) gIsRow kIsRow bIsRow (fun s us hl => match us, hl with | [_, _, _], _ => ⟨.of_eq rfl, .of_eq rfl⟩)
  have hNeedParts : Has l.prog w K mg base 4 "_need_parts" ["letters", "rows", "kinds"] (spNeedParts K) := has_of (ok_needParts (k := 3) FNeedParts M (hAreLet.up (by omega)) hIsRow gMa rC vC) gNeedParts kNeedParts bNeedParts (fun s us hl => match us, hl with | [_, _, _], _ => ⟨.of_eq rfl, .of_eq rfl⟩)
  have hMetFrom : Has l.prog w K mg base 1 "_met_from" ["rows", "start"] (spMetFrom K) := has_of (ok_metFrom (k := 0) FMetFrom M) gMetFrom kMetFrom bMetFrom (fun s us hl => match us, hl with | [_, _], _ => ⟨.of_eq rfl, .of_eq rfl⟩)
  have hInit : HasI l.prog w K mg base 5 "Machine" C ["letters", "rows", "kinds"] (spInit K C) := ⟨_, _, ok_init (k := 4) FmInit M cM hNeedParts (hMetFrom.up (by omega)), mK, bmInit, gMa, fun s z us hl => match us, hl with | [_, _, _], _ => .of_eq rfl⟩
  have HNeedPlace : HasM l.prog w K mg base 3 C "_need_place" ["value"] (spNeedPlace C) := ⟨_, _, ok_needPlace (k := 2) FmNeedPlace M cM hIsPlace, MNeedPlace, bmNeedPlace, fun s z us hl => match us, hl with | [_], _ => ⟨.of_eq rfl, .of_eq rfl⟩⟩
  have HKinds : HasM l.prog w K mg base 1 C "kinds" [] (spKinds C) := ⟨_, _, ok_kinds (k := 0) FmKinds M cM, MKinds, bmKinds, fun s z us hl => match us, hl with | [], _ => ⟨.of_eq rfl, .of_eq rfl⟩⟩
  have HLen : HasM l.prog w K mg base 1 C "__len__" [] (spLen C) := ⟨_, _, ok_len (k := 0) FmLen M cM, MLen, bmLen, fun s z us hl => match us, hl with | [], _ => ⟨.of_eq rfl, .of_eq rfl⟩⟩
  have HLed : HasM l.prog w K mg base 1 C "_led" ["place", "text"] (spLed C) := ⟨_, _, ok_led (k := 0) FmLed M cM, MLed, bmLed, fun s z us hl => match us, hl with | [_, _], _ => ⟨.of_eq rfl, .of_eq rfl⟩⟩
  have HRows : HasM l.prog w K mg base 1 C "rows" [] (spRows C) := ⟨_, _, ok_rows (k := 0) FmRows M cM, MRows, bmRows, fun s z us hl => match us, hl with | [], _ => ⟨.of_eq rfl, .of_eq rfl⟩⟩
  have HGoal : HasM l.prog w K mg base 4 C "goal" ["place", "letter"] (spGoal C) := ⟨_, _, ok_goal (k := 3) FmGoal M cM HNeedPlace, MGoal, bmGoal, fun s z us hl => match us, hl with | [_, _], _ => ⟨.of_eq rfl, .of_eq rfl⟩⟩
  have HGoes : HasM l.prog w K mg base 4 C "goes" ["place", "text"] (spGoes C) := ⟨_, _, ok_goes (k := 3) FmGoes M cM HNeedPlace (HLed.up (by omega)) (hNeedText.up (by omega)), MGoes, bmGoes, fun s z us hl => match us, hl with | [_, _], _ => ⟨.of_eq rfl, .of_eq rfl⟩⟩
  have HTakes : HasM l.prog w K mg base 3 C "takes" ["text"] (spTakes C) := ⟨_, _, ok_takes (k := 2) FmTakes M cM (HLed.up (by omega)) hNeedText, MTakes, bmTakes, fun s z us hl => match us, hl with | [_], _ => ⟨.of_eq rfl, .of_eq rfl⟩⟩
  have hFirst : Has l.prog w K mg base 1 "first_texts" ["letters", "rows", "start"] spFirst := has_of (ok_first (k := 0) FFirst M) gFirst kFirst bFirst (fun s us hl => match us, hl with | [_, _, _], _ => ⟨.of_eq rfl, .of_eq rfl⟩)
  have hNumFrom : Has l.prog w K mg base 7 "_numbered_from" ["letters", "rows", "kinds", "start"] (spNumFrom C) := has_of (ok_numFrom (k := 5) FNumFrom M (hMetFrom.up (by omega)) hInit) gNumFrom kNumFrom bNumFrom (fun s us hl => match us, hl with | [_, _, _, _], _ => ⟨.of_eq rfl, .of_eq rfl⟩)
  have HAt : HasM l.prog w K mg base 8 C "at" ["place"] (spAt C) := ⟨_, _, ok_at (k := 7) FmAt M cM (HNeedPlace.up (by omega)) hNumFrom, MAt, bmAt, fun s z us hl => match us, hl with | [_], _ => ⟨.of_eq rfl, .of_eq rfl⟩⟩
  have HNumbered : HasM l.prog w K mg base 8 C "numbered" [] (spNumbered C) := ⟨_, _, ok_numbered (k := 7) FmNumbered M cM hNumFrom, MNumbered, bmNumbered, fun s z us hl => match us, hl with | [], _ => ⟨.of_eq rfl, .of_eq rfl⟩⟩
  have HFirstText : HasM l.prog w K mg base 4 C "first_text" ["place"] (spFirstText C) := ⟨_, _, ok_firstText (k := 3) FmFirstText M cM HNeedPlace (hFirst.up (by omega)), MFirstText, bmFirstText, fun s z us hl => match us, hl with | [_], _ => ⟨.of_eq rfl, .of_eq rfl⟩⟩
  have HFirstTaken : HasM l.prog w K mg base 2 C "first_taken" [] (spFirstTaken C) := ⟨_, _, ok_firstTaken (k := 1) FmFirstTaken M cM hFirst, MFirstTaken, bmFirstTaken, fun s z us hl => match us, hl with | [], _ => ⟨.of_eq rfl, .of_eq rfl⟩⟩
  have HHas : HasM l.prog w K mg base 2 C "__contains__" ["value"] (spHas K C) := ⟨_, _, ok_has (k := 1) FmHas M cM hIsOver HLed, MHas, bmHas, fun s z us hl => match us, hl with | [_], _ => ⟨.of_eq rfl, .of_eq rfl⟩⟩
  have HLetters : HasP l.prog w K mg base 1 C "letters" (getSp C "_letters") := ⟨_, _, _, ⟨amLetters, pget, ptak, ⟨_, prec⟩⟩, fn_getter (k := 0) lmLetters cmLetters scLetters rfl rfl cM.cls n_letters, bmLetters⟩
  have HEq : HasM l.prog w K mg base 3 C "__eq__" ["other"] (spEq K C) := ⟨_, _, ok_eq (k := 1) FmEq M cM iM gMa HLetters (HRows.up (by omega)) (HKinds.up (by omega)), MEq, bmEq, fun s z us hl => match us, hl with | [_], _ => ⟨.of_eq rfl, .of_eq rfl⟩⟩
  have HRepr : HasM l.prog w K mg base 1 C "__repr__" [] (spRepr C) := ⟨_, _, ok_repr (k := 0) FmRepr cM, MRepr, bmRepr, fun s z us hl => match us, hl with | [], _ => ⟨.of_eq rfl, .of_eq rfl⟩⟩
  have hPot : Has l.prog w K mg base 1 "_law_pot" ["_law_script", "_law_k"] (spPot K) := has_of (ok_pot (k := 0) FPot M) gPot kPot bPot (fun s us hl => match us, hl with | [_, _], _ => ⟨.of_eq rfl, .of_eq rfl⟩)
  have hDraw : Has l.prog w K mg base 1 "_law_draw" ["_law_pot_here", "_law_sides"] (spDraw (T1D Pt)) := has_of (ok_draw (T1D Pt) (k := 0) FDraw M) gDraw kDraw bDraw (fun s us hl => match us, hl with | [_, _], _ => ⟨.of_eq rfl, .of_eq rfl⟩)
  have hPick : Has l.prog w K mg base 2 "_law_pick" ["_law_pot_here", "_law_some"] (spPick (T1D Pt)) := has_of (ok_pick (T1D Pt) (k := 1) FPick M hDraw) gPick kPick bPick (fun s us hl => match us, hl with | [_, _], _ => ⟨.of_eq rfl, .of_eq rfl⟩)
  have hLMet : Has l.prog w K mg base 1 "_law_met" ["_law_rows", "_law_start"] spLMet := has_of (ok_lmet (k := 0) FLMet M) gLMet kLMet bLMet (fun s us hl => match us, hl with | [_, _], _ => ⟨.of_eq rfl, .of_eq rfl⟩)
  have hMixed : Has l.prog w K mg base 2 "_law_mixed" ["_law_pot_here", "_law_some"] (spMixed (T1D Pt)) := has_of (ok_mixed (T1D Pt) (k := 1) FMixed M hDraw) gMixed kMixed bMixed (fun s us hl => match us, hl with | [_, _], _ => ⟨.of_eq rfl, .of_eq rfl⟩)
  have hSheet : Has l.prog w K mg base 3 "_law_sheet" ["_law_pot_here", "_law_signs", "_law_most"] (spSheet (T1D Pt)) := has_of (ok_sheet (T1D Pt) (k := 2) FSheet M (hDraw.up (by omega)) (hLMet.up (by omega)) hMixed) gSheet kSheet bSheet (fun s us hl => match us, hl with | [_, _, _], _ => ⟨.of_eq rfl, .of_eq rfl⟩)
  have hLLed : Has l.prog w K mg base 1 "_law_led" ["_law_signs", "_law_rows", "_law_place", "_law_text"] spLLed := has_of (ok_lled (k := 0) FLLed) gLLed kLLed bLLed (fun s us hl => match us, hl with | [_, _, _, _], _ => ⟨.of_eq rfl, .of_eq rfl⟩)
  have hTexts : Has l.prog w K mg base 1 "_law_texts" ["_law_signs", "_law_most"] spTexts := has_of (ok_texts (k := 0) FTexts M) gTexts kTexts bTexts (fun s us hl => match us, hl with | [_, _], _ => ⟨.of_eq rfl, .of_eq rfl⟩)
  have hRig : Has l.prog w K mg base 7 "_law_rig" ["_law_signs", "_law_sheet_here"] (spRig C) := has_of (ok_rig (k := 5) FRig hInit) gRig kRig bRig (fun s us hl => match us, hl with | [_, _], _ => ⟨.of_eq rfl, .of_eq rfl⟩)
  have hFrom : Has l.prog w K mg base 2 "_law_from" ["_law_sheet_here", "_law_start"] spFrom := has_of (ok_from (k := 1) FFrom M hLMet) gFrom kFrom bFrom (fun s us hl => match us, hl with | [_, _], _ => ⟨.of_eq rfl, .of_eq rfl⟩)
  have hFirsts : Has l.prog w K mg base 1 "_law_firsts" ["_law_signs", "_law_rows"] spFirsts := has_of (ok_firsts (k := 0) FFirsts M) gFirsts kFirsts bFirsts (fun s us hl => match us, hl with | [_, _], _ => ⟨.of_eq rfl, .of_eq rfl⟩)
  have hDue : Has l.prog w K mg base 2 "_law_due" ["_law_signs", "_law_sheet_here", "_law_texts_here"] (spDue Pt K) := has_of (ok_due (k := 0) FDue M TB hFirsts hLLed) gDue kDue bDue (fun s us hl => match us, hl with | [_, _, _], _ => ⟨.of_eq rfl, .of_eq rfl⟩)
  have hTold : Has l.prog w K mg base 5 "_law_told" ["_law_rig_here", "_law_texts_here"] (spTold C K) := has_of (ok_told (k := 3) FTold M cM (HLetters.up (by omega)) (HRows.up (by omega)) (HKinds.up (by omega)) (HLen.up (by omega)) HFirstText (HFirstTaken.up (by omega)) HGoes (HTakes.up (by omega)) (HHas.up (by omega))) gTold kTold bTold (fun s us hl => match us, hl with | [_, _], _ => ⟨.of_eq rfl, .of_eq rfl⟩)
  have hNames : Has l.prog w K mg base 9 "_law_by_names_right" ["_law_signs", "_law_sheet_here", "_law_rig_here"] (spTwo3 C) := has_of (ok_names (k := 7) FNames M cM iM cE (HEq.up (by omega)) (HGoal.up (by omega)) (HGoes.up (by omega)) (HTakes.up (by omega)) (HFirstText.up (by omega)) HAt) gNames kNames bNames (fun s us hl => match us, hl with | [_, _, _], _ => ⟨.of_eq rfl, .of_eq rfl⟩)
  have hAtR : Has l.prog w K mg base 9 "_law_at_right" ["_law_signs", "_law_sheet_here", "_law_rig_here"] (spTwo3 C) := has_of (ok_atR (k := 7) FAtR M cM iM (HEq.up (by omega)) (HRepr.up (by omega)) HAt HNumbered (hFrom.up (by omega)) (hRig.up (by omega))) gAtR kAtR bAtR (fun s us hl => match us, hl with | [_, _, _], _ => ⟨.of_eq rfl, .of_eq rfl⟩)
  have hOth : Has l.prog w K mg base 7 "_law_others_right" ["_law_signs", "_law_sheet_here", "_law_rig_here"] (spOth C) := has_of (ok_oth (k := 5) FOth M cM iM cE oC (HEq.up (by omega)) (HRepr.up (by omega)) (HHas.up (by omega)) hInit (hFrom.up (by omega))) gOth kOth bOth (fun s us hl => match us, hl with | [_, _, _], _ => ⟨.of_eq rfl, .of_eq rfl⟩)
  have hRight : Has l.prog w K mg base 10 "_law_right" ["_law_pot_here"] (spRight Pt) := has_of (ok_right (k := 8) FRight M cM iM cE gMa kC rC vC (HEq.up (by omega)) (HRepr.up (by omega)) (hInit.up (by omega)) (HRows.up (by omega)) (HKinds.up (by omega)) (hPick.up (by omega)) (hSheet.up (by omega)) (hTexts.up (by omega)) (hRig.up (by omega)) (hDue.up (by omega)) (hTold.up (by omega)) hNames hAtR (hOth.up (by omega))) gRight kRight bRight (fun s us hl => match us, hl with | [_], _ => ⟨.of_eq rfl, .of_eq rfl⟩)
  exact ok_law (k := 10) FLaw M hRight (hPot.up (by omega))
end LK

open PySem PySem.W PyProof.Rows
set_option maxHeartbeats 0 in
theorem PySem.Challenge.cw_missedparts_k14_whole_machines_told_holds : PySem.Challenge.rw_missedparts_k14_whole_machines_told.Holds := by
  w_on; o_law; k_head; (case hw => w_witness2)
  k_fill
  refine LK.walkGT (l := PySem.Challenge.rw_missedparts_k14_whole_machines_told) (n := 63) (k := 11) (x := "_law_script") rfl (by decide) rfl ⟨rfl, by decide, by decide⟩ (fun w h Y => PySem.W.km_in_of Y) ?F
  case F =>
    intro w mg fa h Y KX G hmg
    refine' LK.all_mk KX (PySem.W.km_tabs_of Y _ (List.mem_cons_self ..)) G hmg ?aIsInt ?lIsInt ?cIsInt ?kIsInt ?aIsText ?lIsText ?cIsText ?kIsText ?aIsOver ?lIsOver ?cIsOver ?kIsOver ?aAreLet ?lAreLet ?cAreLet ?kAreLet ?aNeedText ?lNeedText ?cNeedText ?kNeedText ?aFirst ?lFirst ?cFirst ?kFirst ?aNeedParts ?lNeedParts ?cNeedParts ?kNeedParts ?aIsRow ?lIsRow ?cIsRow ?kIsRow ?aIsPlace ?lIsPlace ?cIsPlace ?kIsPlace ?aMetFrom ?lMetFrom ?cMetFrom ?kMetFrom ?aNumFrom ?lNumFrom ?cNumFrom ?kNumFrom ?aPot ?lPot ?cPot ?kPot ?aDraw ?lDraw ?cDraw ?kDraw ?aPick ?lPick ?cPick ?kPick ?aLMet ?lLMet ?cLMet ?kLMet ?aMixed ?lMixed ?cMixed ?kMixed ?aSheet ?lSheet ?cSheet ?kSheet ?aLLed ?lLLed ?cLLed ?kLLed ?aTexts ?lTexts ?cTexts ?kTexts ?aRig ?lRig ?cRig ?kRig ?aFrom ?lFrom ?cFrom ?kFrom ?aFirsts ?lFirsts ?cFirsts ?kFirsts ?aDue ?lDue ?cDue ?kDue ?aTold ?lTold ?cTold ?kTold ?aNames ?lNames ?cNames ?kNames ?aAtR ?lAtR ?cAtR ?kAtR ?aOth ?lOth ?cOth ?kOth ?aRight ?lRight ?cRight ?kRight ?aLaw ?lLaw ?cLaw ?kLaw ?nM ?amNeedPlace ?tmNeedPlace ?lmNeedPlace ?cmNeedPlace ?kmNeedPlace ?amRows ?tmRows ?lmRows ?cmRows ?kmRows ?amKinds ?tmKinds ?lmKinds ?cmKinds ?kmKinds ?amGoal ?tmGoal ?lmGoal ?cmGoal ?kmGoal ?amGoes ?tmGoes ?lmGoes ?cmGoes ?kmGoes ?amTakes ?tmTakes ?lmTakes ?cmTakes ?kmTakes ?amFirstText ?tmFirstText ?lmFirstText ?cmFirstText ?kmFirstText ?amFirstTaken ?tmFirstTaken ?lmFirstTaken ?cmFirstTaken ?kmFirstTaken ?amAt ?tmAt ?lmAt ?cmAt ?kmAt ?amNumbered ?tmNumbered ?lmNumbered ?cmNumbered ?kmNumbered ?amLen ?tmLen ?lmLen ?cmLen ?kmLen ?amHas ?tmHas ?lmHas ?cmHas ?kmHas ?amEq ?tmEq ?lmEq ?cmEq ?kmEq ?amRepr ?tmRepr ?lmRepr ?cmRepr ?kmRepr ?amLed ?tmLed ?lmLed ?cmLed ?kmLed ?amInit ?tmInit ?lmInit ?cmInit ?kmInit ?amLetters ?pget ?ptak ?prec ?lmLetters ?cmLetters ?kmLetters ?cpg ?chd ?cpo ?csa ?n_letters ?n_rows ?n_kinds ?mmk ?mkp ?ene ?eob ?ica ?icn ?ict ?onf ?ono ?ons ?kat ?kge ?rrd ?rga ?vat ?gS ?gM ?hC ?nP ?z_tuple ?z_zip ?z_set ?z_bool ?z_any ?z_enumerate ?z_ve ?z_re ?z_ae ?z_len ?z_isi ?z_all ?z_str ?z_list ?z_sorted ?z_range ?z_sum ?z_repr ?z_int ?z_abs ?z_max ?z_min ?z_divmod
    (case aIsInt => k_is)
    (case lIsInt => k_is)
    (case cIsInt => k_is)
    (case kIsInt => k_is)
    (case aIsText => k_is)
    (case lIsText => k_is)
    (case cIsText => k_is)
    (case kIsText => k_is)
    (case aIsOver => k_is)
    (case lIsOver => k_is)
    (case cIsOver => k_is)
    (case kIsOver => k_is)
    (case aAreLet => k_is)
    (case lAreLet => k_is)
    (case cAreLet => k_is)
    (case kAreLet => k_is)
    (case aNeedText => k_is)
    (case lNeedText => k_is)
    (case cNeedText => k_is)
    (case kNeedText => k_is)
    (case aFirst => k_is)
    (case lFirst => k_is)
    (case cFirst => k_is)
    (case kFirst => k_is)
    (case aNeedParts => k_is)
    (case lNeedParts => k_is)
    (case cNeedParts => k_is)
    (case kNeedParts => k_is)
    (case aIsRow => k_is)
    (case lIsRow => k_is)
    (case cIsRow => k_is)
    (case kIsRow => k_is)
    (case aIsPlace => k_is)
    (case lIsPlace => k_is)
    (case cIsPlace => k_is)
    (case kIsPlace => k_is)
    (case aMetFrom => k_is)
    (case lMetFrom => k_is)
    (case cMetFrom => k_is)
    (case kMetFrom => k_is)
    (case aNumFrom => k_is)
    (case lNumFrom => k_is)
    (case cNumFrom => k_is)
    (case kNumFrom => k_is)
    (case aPot => k_is)
    (case lPot => k_is)
    (case cPot => k_is)
    (case kPot => k_is)
    (case aDraw => k_is)
    (case lDraw => k_is)
    (case cDraw => k_is)
    (case kDraw => k_is)
    (case aPick => k_is)
    (case lPick => k_is)
    (case cPick => k_is)
    (case kPick => k_is)
    (case aLMet => k_is)
    (case lLMet => k_is)
    (case cLMet => k_is)
    (case kLMet => k_is)
    (case aMixed => k_is)
    (case lMixed => k_is)
    (case cMixed => k_is)
    (case kMixed => k_is)
    (case aSheet => k_is)
    (case lSheet => k_is)
    (case cSheet => k_is)
    (case kSheet => k_is)
    (case aLLed => k_is)
    (case lLLed => k_is)
    (case cLLed => k_is)
    (case kLLed => k_is)
    (case aTexts => k_is)
    (case lTexts => k_is)
    (case cTexts => k_is)
    (case kTexts => k_is)
    (case aRig => k_is)
    (case lRig => k_is)
    (case cRig => k_is)
    (case kRig => k_is)
    (case aFrom => k_is)
    (case lFrom => k_is)
    (case cFrom => k_is)
    (case kFrom => k_is)
    (case aFirsts => k_is)
    (case lFirsts => k_is)
    (case cFirsts => k_is)
    (case kFirsts => k_is)
    (case aDue => k_is)
    (case lDue => k_is)
    (case cDue => k_is)
    (case kDue => k_is)
    (case aTold => k_is)
    (case lTold => k_is)
    (case cTold => k_is)
    (case kTold => k_is)
    (case aNames => k_is)
    (case lNames => k_is)
    (case cNames => k_is)
    (case kNames => k_is)
    (case aAtR => k_is)
    (case lAtR => k_is)
    (case cAtR => k_is)
    (case kAtR => k_is)
    (case aOth => k_is)
    (case lOth => k_is)
    (case cOth => k_is)
    (case kOth => k_is)
    (case aRight => k_is)
    (case lRight => k_is)
    (case cRight => k_is)
    (case kRight => k_is)
    (case aLaw => k_is)
    (case lLaw => k_is)
    (case cLaw => k_is)
    (case kLaw => k_is)
    (case nM => k_is)
    (case amNeedPlace => k_is)
    (case tmNeedPlace => k_is)
    (case lmNeedPlace => k_is)
    (case cmNeedPlace => k_is)
    (case kmNeedPlace => k_is)
    (case amRows => k_is)
    (case tmRows => k_is)
    (case lmRows => k_is)
    (case cmRows => k_is)
    (case kmRows => k_is)
    (case amKinds => k_is)
    (case tmKinds => k_is)
    (case lmKinds => k_is)
    (case cmKinds => k_is)
    (case kmKinds => k_is)
    (case amGoal => k_is)
    (case tmGoal => k_is)
    (case lmGoal => k_is)
    (case cmGoal => k_is)
    (case kmGoal => k_is)
    (case amGoes => k_is)
    (case tmGoes => k_is)
    (case lmGoes => k_is)
    (case cmGoes => k_is)
    (case kmGoes => k_is)
    (case amTakes => k_is)
    (case tmTakes => k_is)
    (case lmTakes => k_is)
    (case cmTakes => k_is)
    (case kmTakes => k_is)
    (case amFirstText => k_is)
    (case tmFirstText => k_is)
    (case lmFirstText => k_is)
    (case cmFirstText => k_is)
    (case kmFirstText => k_is)
    (case amFirstTaken => k_is)
    (case tmFirstTaken => k_is)
    (case lmFirstTaken => k_is)
    (case cmFirstTaken => k_is)
    (case kmFirstTaken => k_is)
    (case amAt => k_is)
    (case tmAt => k_is)
    (case lmAt => k_is)
    (case cmAt => k_is)
    (case kmAt => k_is)
    (case amNumbered => k_is)
    (case tmNumbered => k_is)
    (case lmNumbered => k_is)
    (case cmNumbered => k_is)
    (case kmNumbered => k_is)
    (case amLen => k_is)
    (case tmLen => k_is)
    (case lmLen => k_is)
    (case cmLen => k_is)
    (case kmLen => k_is)
    (case amHas => k_is)
    (case tmHas => k_is)
    (case lmHas => k_is)
    (case cmHas => k_is)
    (case kmHas => k_is)
    (case amEq => k_is)
    (case tmEq => k_is)
    (case lmEq => k_is)
    (case cmEq => k_is)
    (case kmEq => k_is)
    (case amRepr => k_is)
    (case tmRepr => k_is)
    (case lmRepr => k_is)
    (case cmRepr => k_is)
    (case kmRepr => k_is)
    (case amLed => k_is)
    (case tmLed => k_is)
    (case lmLed => k_is)
    (case cmLed => k_is)
    (case kmLed => k_is)
    (case amInit => k_is)
    (case tmInit => k_is)
    (case lmInit => k_is)
    (case cmInit => k_is)
    (case kmInit => k_is)
    (case amLetters => k_is)
    (case pget => k_is)
    (case ptak => k_is)
    (case prec => k_is)
    (case lmLetters => k_is)
    (case cmLetters => k_is)
    (case kmLetters => k_is)
    (case cpg => first | rfl | kernel_rfl | k_is)
    (case chd => first | rfl | kernel_rfl | k_is)
    (case cpo => first | rfl | kernel_rfl | k_is)
    (case csa => first | rfl | kernel_rfl | k_is)
    (case n_letters => first | rfl | kernel_rfl | k_is)
    (case n_rows => first | rfl | kernel_rfl | k_is)
    (case n_kinds => first | rfl | kernel_rfl | k_is)
    (case mmk => first | rfl | kernel_rfl | k_is)
    (case mkp => first | rfl | kernel_rfl | k_is)
    (case ene => first | rfl | kernel_rfl | k_is)
    (case eob => first | rfl | kernel_rfl | k_is)
    (case ica => first | rfl | kernel_rfl | k_is)
    (case icn => first | rfl | kernel_rfl | k_is)
    (case ict => first | rfl | kernel_rfl | k_is)
    (case onf => first | rfl | kernel_rfl | k_is)
    (case ono => first | rfl | kernel_rfl | k_is)
    (case ons => first | rfl | kernel_rfl | k_is)
    (case kat => k_is)
    (case kge => first | rfl | kernel_rfl | k_is)
    (case rrd => first | rfl | kernel_rfl | k_is)
    (case rga => first | rfl | kernel_rfl | k_is)
    (case vat => k_is)
    (case gS => k_is)
    (case gM => k_is)
    (case hC => first | rfl | kernel_rfl | k_is)
    (case nP => first | rfl | kernel_rfl | k_is)
    (case z_tuple => k_is)
    (case z_zip => k_is)
    (case z_set => k_is)
    (case z_bool => k_is)
    (case z_any => k_is)
    (case z_enumerate => k_is)
    (case z_ve => k_is)
    (case z_re => k_is)
    (case z_ae => k_is)
    (case z_len => k_is)
    (case z_isi => k_is)
    (case z_all => k_is)
    (case z_str => k_is)
    (case z_list => k_is)
    (case z_sorted => k_is)
    (case z_range => k_is)
    (case z_sum => k_is)
    (case z_repr => k_is)
    (case z_int => k_is)
    (case z_abs => k_is)
    (case z_max => k_is)
    (case z_min => k_is)
    (case z_divmod => k_is)
