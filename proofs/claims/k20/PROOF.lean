import PyProof.Rows.All
import Wide.All
import OpenK.AllK
import Wide.FinOn
import PyProof.ReprRoads
import PyProof.TupleOfGen
import HandS.ForMost
import HandS.Wide
import HandS.Defaults
import HandS.AnyAll
import HandS.JoinGen
import HandS.EndBits
import KE.KLam
import KE.KNestM
import PyProof.GenCompD
import PyProof.TupleIter
import PyProof.Walks
import KE.KTupSum
import KE.GoesMore
import KE.GoesEnum
import PyProof.ReprBulk
import PyProof.ReprRoom
import KE.KDictSum
import HandS.SortRule
import HandS.TupLen
import HandS.TupMul
import HandS.Iter
import HandS.TupAny
import HandS.Zip
import HandS.Zip0
import PyProof.WalksU
import PyProof.SumAny
import HandS.IsInst
import HandS.Conv
import HandS.RaiseMore
import HandS.Text
import KE.KStateDown
import Lean
import HandS.More
import HandS.WordsExc
import HandS.Head0
import HandS.Head1
import HandS.Head2
import HandS.HeadEnd
import HandS.HeadHook1
import HandS.HeadHook2
import HandS.HeadHook3
import HandS.HeadHook4
import PySem.Challenge.RW_leapranks_k20_lots_told
set_option Elab.async false
set_option linter.all false
set_option maxRecDepth 100000
set_option maxHeartbeats 2000000
/-! Defs that are called where no repr is under way (so that they may call repr), and repr of nested data. -/
namespace GL
open PySem PySem.Spec PyProof.Rows L2
variable {P : Program} {w : World} {K : PySem.W.Frag} {mg : Str → Option Value} {base : Heap} {CX : CXT} {k : Nat} {f : Addr} {fd : FuncData} {ps : List Str} {sp : Sp}

structure FnG (P : Program) (w : World) (K : PySem.W.Frag) (mg : Str → Option Value) (base : Heap) (CX : CXT) (k : Nat) (f : Addr) (fd : FuncData) (ps : List Str) (sp : Sp) : Prop where
  len : ∀ vs H Q E, sp vs H Q E → vs.length = ps.length
  run : ∀ (A : Around) (outer : List Env) (s : Shared) (H : Hp) (args : Args) (us : List Value) (vs : List V) (Q : VK) (E : XK), A.guards = some [] → Room k A →
    Env0 P w K mg base A outer s H → BindsTo s fd args (ps.zip us) → Vals vs us → sp vs H Q E →
    codeAny (model P w) A (.call (.ref f) args) (CR CX outer P w H s Q E) s

theorem FnG.of (F : FnOk P w K mg base CX k f fd ps sp) : FnG P w K mg base CX k f fd ps sp :=
  ⟨F.len, fun A outer s H args us vs Q E _ hr e0 hb r h => F.run A outer s H args us vs Q E hr e0 hb r h⟩

/-- by its body, as for every def, but the guards are known -/
theorem okG {x qual : Str} {params : Arguments} {body : List Stmt} {scope : Scope} {dvs : List V} {kws : List (Str × V)} {N : List Str} (F : FunD K x qual params body scope dvs kws f fd) (S : FnScope N ps scope)
    (len : ∀ vs H Q E, sp vs H Q E → vs.length = ps.length)
    (hbody : ∀ (cdv : Value) (A : Around) (outer : List Env) (s : Shared) (H : Hp) (vs : List V) (Q : VK) (E : XK), A.guards = some [] →
      Room k (A.deeper (envOfC qual scope s.heap.objs.size f cdv)) → sp vs H Q E →
      ∃ t, PSs (cxOf CX0 P w K mg base N qual scope f cdv A outer s H E).nox body t ∧ t { nx := fun _ H' => Q .non H', rt := Q } (start N vs) H) :
    FnG P w K mg base CX0 (k + 1) f fd ps sp := by
  obtain ⟨oc, od, dV, kV, doc, pm, an, cdv, ct, osl, rfl, lk, hcd, _, _⟩ := F.ex
  refine ⟨len, ?_⟩
  intro A outer s H args us vs Q E gd hr e0 hb r hsp
  have l0 := len _ _ _ _ hsp
  have stay : ∀ b o, base.get? b = some o → s.heap.get? b = some o := fun b o e => (e0.bs b o e).1
  have inK : K.In s.heap := e0.mod.kin.keeps stay
  have par : ∀ y ∈ ps.zip us, scope.names.lookup y.1 = some .local ∨
      (scope.names.lookup y.1 = some .cell ∧ ((cellsFrom (s.heap.objs.size + 1) scope.names []).lookup y.1).isSome = true) := by
    intro y hy
    exact (S.par y.1 (List.of_mem_zip (a := y.1) (b := y.2) hy).1).imp (fun q => q) (fun q => ⟨q, PySem.W.cellsFrom_some _ _ _ (.inl q)⟩)
  refine codeAny_call_function hr.depth (inK _ _ lk) rfl S.co S.gen rfl (PySem.W.codeRec_of inK hcd) (hb _ _ _ _ ?_)
  refine wpAny_newFunctionEnv_cells S.kind par ?_
  intro env he s1 x
  subst he
  refine ⟨(e0.mod.nolimit.keeps stay).keeps x.toInCall.keep, codeAny_func ?_⟩
  obtain ⟨t, ht, hq⟩ := hbody cdv A outer s H vs Q E gd (hr.deeper _) hsp
  have I := inv_start (CX := CX0) (E := E) S hr.hd e0 l0 r x
  refine wpAny_mono (ht.nox.run [] s1 (start N vs) H _ I hq) ?_ (fun _ _ z => z)
  intro fl s' hs
  match fl, hs with
  | .ret u, ⟨v, σ', H', J, rv, q⟩ => exact ⟨v, H', J.os, J.bare, J.base, J.hok, rv, q⟩
  | .next, ⟨σ', H', J, q⟩ => exact ⟨V.non, H', J.os, J.bare, J.base, J.hok, rfl, q⟩
  | .brk, ⟨_, _, _, q⟩ => exact q.elim
  | .cont, ⟨_, _, _, q⟩ => exact q.elim

section
variable {X : Cx} {dvs : List V} {ds : List Value} {E : XK} {x : Str} {p pos : Pos} {e : Expr} {es : List Expr} {t : TA}
/-- the call of such a def -/
theorem pe_callG (F : FnG X.prog X.w X.K X.mg X.base CX k f fd ps sp) (gd : X.A.guards = some []) (hr : Room k X.A) (hg : Gl X x) (hm : X.mg x = some (.ref f)) (hk : PySem.W.keepIn X.K (.ref f) = true) (hb : Binds X.K fd ps ds) (hd : Vals dvs ds)
    (hx : Passes CX X E) (ha : PA X (e :: es) t) (hdb : (x == ("__debug__" : Str)) = false := by decide)
    (he : starEach (e :: es) X.env = (false, eval e X.env) :: starEach es X.env := by rfl) (hpl : (backTo pos (starEach es X.env)).any (·.1) = false := by rfl) :
    PE X (.Call (.Name x p) (e :: es) [] pos) (tCall sp dvs E t) := by
  constructor
  intro pins s σ H Q I h
  refine wpAny_Call_Name_kw (ld_glob I hg hm (PySem.W.callWith_K (h₀ := X.base) I.ok.mod.kin hk (thn (ha.run pos pins s σ H _ I h) ?_) he hpl) hdb)
  rintro us s1 ⟨vs, H1, I1, r, q⟩
  refine ⟨I1.kIn, ?_⟩
  have r2 := r.append hd
  have hl : (us ++ ds).length = ps.length := r2.length.symm.trans (F.len _ _ _ _ q)
  refine wpAny_call (codeAny_mono (F.run X.A X.stack s1 H1 ⟨us, []⟩ (us ++ ds) (vs ++ dvs) Q E gd hr I1.env0 (hb s1 us I1.kIn hl) r2 q) ?_)
  intro r0 s' hq
  match r0, hq with
  | .error e, hq => exact hx pins σ H1 s1 e s' I1 hq
  | .ok (.ret u), hq => exact I1.after hq
  | .ok .next, hq => exact hq.elim
  | .ok .brk, hq => exact hq.elim
  | .ok .cont, hq => exact hq.elim

/-- repr of data -/
def rRepr (K : PySem.W.Frag) : List V → Hp → VK → Prop := fun xs H Q => ∃ (a : Addr) (d : PyData), xs = [.ref a] ∧ Dp K H (.ref a) d ∧ d.showable = true ∧ d.hasDict = false ∧ d.depth ≤ 60 ∧ d.shown.length ≤ sizeLine ∧ Q (.str d.shown) H
theorem call_repr (gd : X.A.guards = some []) (hu : X.A.units + 64 < cLine) : CallR X (.builtin "repr") (rRepr X.K) := by
  intro pins s σ H xs us Q I r h
  obtain ⟨a, d, rfl, hd, h1, h2, h3, h4, q⟩ := h
  obtain ⟨u, rfl, ru⟩ := vals1 r
  obtain rfl : u = Value.ref a := ru
  obtain ⟨as, rd⟩ := Dp.reads I d _ _ hd (show RelV (.ref a) (Value.ref a) from rfl)
  refine repr_of_reads' rd h1 (fun z => by rw [h2] at z; cases z) gd (by omega) (fun _ _ e => e) ?_ h4
  intro h' u tk hk
  exact ⟨.str _, H, I.kept hk, ⟨_, rfl⟩, q⟩
end
end GL
set_option Elab.async false
set_option linter.all false
set_option maxRecDepth 100000
set_option maxHeartbeats 2000000
/-! The end of a law over defs as in GLa; tables of code objects (generator expressions) are tracked. -/
namespace GL
open PySem PySem.Spec PyProof.Rows L2

/-- the heap at the law's entry: the tables, the script -/
def atLaw (K : PySem.W.Frag) (tabs : List Addr) (a : Addr) (o : Obj) (ns : List Int) : Hp := fun b =>
  if b ∈ tabs then some (.tbl #[]) else if b = a ∧ K.lookup a = none then some (.frz o (.lst (ns.map V.int))) else none

/-- what is wanted of the law: where its def stands, which tables there are, its promise -/
structure LawG (P : Program) (w : World) (K : PySem.W.Frag) (k n : Nat) (x : Str) (mg : Str → Option Value) (fa : Addr) (h : Heap) : Prop where
  ex : ∃ (fd : FuncData) (cs : List (Addr × Addr)) (sp : Sp),
    (∀ p ∈ cs, h.get? p.2 = some { cls := .none, data := .fields #[] } ∧ K.lookup p.2 = none ∧ PySem.W.codeHdIn K p.1 p.2 = true) ∧
    (∀ (s : Shared) (u : Value), BindsTo s fd ⟨[u], []⟩ [(x, u)]) ∧
    (∀ (H : Hp) (a : Addr) (ns : List Int), ns.length ≤ n → (∀ p ∈ cs, H p.2 = some (.tbl #[])) → SqL K H a (ns.map V.int) → sp [.ref a] H (fun v _ => v = .bl true) fun _ _ _ => False) ∧
    ∀ base : Heap, K.In base → base.Ns mainGlobals mg → (∀ p ∈ cs, GxR.TabB base mg p.1 p.2) → FnG P w K mg base CX0 k fa fd [x] sp

theorem law_callG {P : Program} {w : World} {K : PySem.W.Frag} {mg mb : Str → Option Value} {k n : Nat} {fa a : Addr} {x : Str} {s : Shared} {vs : List Value} {ns : List Int}
    (L : LawG P w K k n x mg fa s.heap) (inK : K.In s.heap) (g : s.heap.Ns mainGlobals mg) (b : s.heap.Ns builtinsNs mb) (bb : ∀ y : Str, y ≠ "__name__" → mb y = bootBuiltins y) (lim : s.heap.NoLimit) (gn : s.gens = #[])
    (bm : ∃ (bm : Addr) (ob : Obj), mg "__builtins__" = some (.ref bm) ∧ bm ≠ builtinsNs ∧ s.heap.get? bm = some ob ∧ ob.cls = .type "module" ∧ ob.dict = some builtinsNs ∧ ob.data = .plain)
    (ha : s.heap.get? a = some { cls := .type "list", data := .seq vs.toArray }) (hi : IntsAre vs ns) (hl : ns.length ≤ n) (hl2 : n ≤ sizeLine) (hr : Room k callerA) :
    codeAny (model P w) callerA (.call (.ref fa) ⟨[.ref a], []⟩) (fun r s' => r = .ok (.ret (.bool true)) ∧ OldK s.heap s'.heap ∧ s'.os = s.os ∧ AllBare s'.gens) s := by
  obtain ⟨fd, cs, sp, T, bd, hsp, F⟩ := L.ex
  let so : Obj := { cls := .type "list", data := .seq vs.toArray }
  let tabs := cs.map (·.2)
  have tab : ∀ c ∈ tabs, s.heap.get? c = some { cls := .none, data := .fields #[] } ∧ K.lookup c = none := by
    intro c hc
    obtain ⟨p, hp, rfl⟩ := List.mem_map.mp hc
    exact ⟨(T p hp).1, (T p hp).2.1⟩
  have at_ : a ∉ tabs := by
    intro hc
    have e := (tab a hc).1
    rw [ha] at e
    exact absurd (congrArg Obj.data (Option.some.inj e)) (by intro z; cases z)
  let H : Hp := atLaw K tabs a so ns
  have Ht : ∀ c ∈ tabs, H c = some (.tbl #[]) := fun c hc => if_pos hc
  have Ha : K.lookup a = none → H a = some (.frz so (.lst (ns.map V.int))) := fun e => (if_neg at_).trans (if_pos ⟨rfl, e⟩)
  have Hk : ∀ c o, H c = some o → (c ∈ tabs ∧ o = .tbl #[]) ∨ (c ∉ tabs ∧ c = a ∧ K.lookup a = none ∧ o = .frz so (.lst (ns.map V.int))) := by
    intro c o e
    by_cases hc : c ∈ tabs
    · exact .inl ⟨hc, (Option.some.inj ((Ht c hc).symm.trans e)).symm⟩
    · by_cases h2 : c = a ∧ K.lookup a = none
      · have e2 : H c = some (.frz so (.lst (ns.map V.int))) := (if_neg hc).trans (if_pos h2)
        exact .inr ⟨hc, h2.1, h2.2, (Option.some.inj (e2.symm.trans e)).symm⟩
      · have e2 : H c = none := (if_neg hc).trans (if_neg h2)
        rw [e2] at e
        cases e
  have script : SqL K H a (ns.map V.int) := by
    cases e : K.lookup a with
    | none => exact .inl (.inr ⟨so, Ha e⟩)
    | some o =>
      have e2 := inK a o e
      rw [ha] at e2
      obtain rfl := Option.some.inj e2
      refine .inr ⟨_, vs.toArray, _, e, rfl, rfl, rfl, ?_, ?_⟩
      · rw [List.size_toArray, hi.length]
        omega
      · exact vals_ints hi
  have hok : HOk P w H s.heap := by
    intro c o e
    rcases Hk c o e with ⟨hc, rfl⟩ | ⟨_, rfl, _, rfl⟩
    · exact (tab c hc).1
    · refine ⟨ha, ?_, vs, _, vals_ints hi, ha⟩
      rw [List.length_map]
      omega
  have free : ∀ {c : Addr} {o : Obj}, s.heap.get? c = some o → (∀ q m, o.data ≠ .seq q m) → o.data ≠ .fields #[] → H c = none := by
    intro c o e h1 h2
    cases q : H c with
    | none => rfl
    | some u =>
      rcases Hk c u q with ⟨hc, _⟩ | ⟨_, rfl, _, _⟩
      · rw [(tab c hc).1] at e
        exact absurd (congrArg Obj.data (Option.some.inj e)).symm h2
      · rw [ha] at e
        exact absurd (congrArg Obj.data (Option.some.inj e)).symm (h1 _ _)
  have names : ∀ {c : Addr} {m : Str → Option Value}, s.heap.Ns c m → (hidT s.heap H).Ns c m := by
    rintro c m ⟨o, es, ep, e, d, r⟩
    exact ⟨o, es, ep, hidT_get e (free e (fun q m z => by rw [d] at z; cases z) (fun z => by rw [d] at z; cases z)), d, r⟩
  have inB : K.In (hidT s.heap H) := by
    intro c o e
    refine hidT_get (inK c o e) ?_
    cases q : H c with
    | none => rfl
    | some u =>
      rcases Hk c u q with ⟨hc, _⟩ | ⟨_, rfl, h0, _⟩
      · rw [(tab c hc).2] at e
        cases e
      · rw [h0] at e
        cases e
  obtain ⟨mc, l1, l2⟩ := lim
  have M : L2.Mod K mg (hidT s.heap H) := ⟨inB, names g, ⟨mb, names b, bb⟩, ⟨mc, names l1, l2⟩⟩
  have TB : ∀ p ∈ cs, GxR.TabB (hidT s.heap H) mg p.1 p.2 := by
    intro p hp
    obtain ⟨t1, t2, t3⟩ := T p hp
    obtain ⟨gm, ob, c1, c2, c3, c4, c5, c6⟩ := bm
    have ng : ∀ {m : Str → Option Value} {c : Addr}, s.heap.Ns c m → ∃ o es ep, s.heap.get? c = some o ∧ o.data = .dict es ep := fun ⟨o, es, ep, e, d, _⟩ => ⟨o, es, ep, e, d⟩
    obtain ⟨og, es, ep, e1, e2⟩ := ng g
    refine ⟨PySem.W.codeHd_of_K inB t3, ⟨gm, ob, c1, c2, ?_, ?_, hidT_get c3 (free c3 (fun q m z => by rw [c6] at z; cases z) (fun z => by rw [c6] at z; cases z)), c4, c5, c6⟩, ?_⟩
    · intro z
      rw [z, e1] at c3
      cases c3
      rw [e2] at c6
      cases c6
    · intro z
      rw [z, t1] at c3
      cases c3
      cases c6
    · intro z
      rw [z, t1] at e1
      cases e1
      cases e2
  have e0 : Env0 P w K mg (hidT s.heap H) callerA [] s H := ⟨rfl, M, fun _ _ e => of_hidT e, Nat.le_of_eq (hidT_size _ _), trivial, fun _ z => (nomatch z), hok, .of_eq gn⟩
  have go := (F _ inB (names g) TB).run callerA [] s H ⟨[.ref a], []⟩ [.ref a] [.ref a] _ _ rfl hr e0 (bd s (.ref a)) (.cons rfl .nil) (hsp H a ns hl (fun p hp => Ht _ (List.mem_map.mpr ⟨p, hp, rfl⟩)) script)
  refine codeAny_mono go ?_
  intro r s' hq
  match r, hq with
  | .error _, hq => exact hq.elim
  | .ok .next, hq => exact hq.elim
  | .ok .brk, hq => exact hq.elim
  | .ok .cont, hq => exact hq.elim
  | .ok (.ret u), ⟨v, H', os, bare, un, hok', rv, qv⟩ =>
    have qv2 : v = .bl true := qv
    subst qv2
    obtain rfl : u = Value.bool true := rv
    have kept : ∀ c o, c ∉ tabs → s.heap.get? c = some o → s'.heap.get? c = some o := by
      intro c o hc e
      cases q : H c with
      | none => exact un.keep c o e q (fun z => (nomatch z)) (fun z => (nomatch z))
      | some u =>
        rcases Hk c u q with ⟨h1, _⟩ | ⟨_, rfl, _, rfl⟩
        · exact absurd h1 hc
        · have e1 := (hok' c _ (un.frzs c so _ q)).1
          rw [ha] at e
          cases e
          exact e1
    have grown : ∀ c ∈ tabs, ∃ more : Array Value, s'.heap.get? c = some { cls := .none, data := .fields more } := by
      intro c hc
      obtain ⟨more, z⟩ := un.tbls c #[] (Ht c hc)
      exact ⟨_, hok' c _ z⟩
    refine ⟨rfl, ⟨?_, ?_⟩, os, bare⟩
    · intro c o e
      by_cases hc : c ∈ tabs
      · obtain ⟨more, hm⟩ := grown c hc
        obtain ⟨p, hp, rfl⟩ := List.mem_map.mp hc
        have t1 := (T p hp).1
        rw [t1] at e
        cases e
        exact .inr (.inl ⟨((PySem.W.codeHd_of_K inK (T p hp).2.2).tab t1).isCodeTable, rfl, #[], more, rfl, by rw [Array.empty_append]; exact hm⟩)
      · exact .inl (kept c o hc e)
    · intro c o e
      by_cases hc : c ∈ tabs
      · exact let ⟨_, hm⟩ := grown c hc; ⟨_, hm⟩
      · exact ⟨o, kept c o hc e⟩

theorem walk_G {l : PySem.W.OpenLaw} {n k : Nat} {q : Program} {loose : List Str} {XP : (Str → Option Value) → Heap → Prop} {YP : World → Heap → Prop} {d : DefRec} {x : Str}
    (hn : l.most = some n) (hn2 : n ≤ sizeLine) (hdf : d.params.defaults = []) (hr : Room k callerA)
    (F : ∀ (w : World) (mg : Str → Option Value) (fa : Addr) (h : Heap), YP w h → h.Ns mainGlobals mg → mg d.name = some (.ref fa) → ∃ K : PySem.W.Frag, K.In h ∧ LawG l.prog w K k n x mg fa h) :
    PySem.W.WalkO q loose XP YP l.row.toRowW d [] (fun f vs => PySem.call f vs) := by
  refine Att.attach_callB hn hdf ?_
  intro w s0 s mg mb fa o pm cd doc a vs ns G Y ho hd hcd hmg hobj hints hlen hbits hg
  obtain ⟨K, inK, L⟩ := F w mg fa _ Y G.T.g hmg
  exact law_callG L inK G.T.g G.T.b G.T.builtins G.T.nolimit hg G.T.bmain hobj hints hlen hn2 hr
end GL
set_option Elab.async false
set_option linter.all false
set_option maxRecDepth 100000
set_option maxHeartbeats 2000000
/-! Generator expressions over a list or a tuple, one for, no test; consumers: tuple, any, all. -/
namespace GL
open PySem PySem.Spec PyProof.Rows L2

/-- what is walked: an iterator may be made of the object at a, that gives its in turn -/
def Src (prog : Program) (w : World) (s : Shared) (a : Addr) (its : List Value) : Prop := ∃ (o : Obj) (St : Nat → Heap → Prop),
  (∀ (A : Around) (E : Value → Shared → Prop) (Q : Value → Shared → Prop), Q (.ref s.heap.objs.size) { s with heap := s.heap.push o } → wpAny (model prog w) A (pyIter (.ref a)) Q E s) ∧
  (∀ A' : Around, A'.handled = none → Walks prog w A' s.heap.objs.size [s.heap.objs.size, a] [s.heap.objs.size] its.toArray.size (fun i v => its.toArray[i]? = some v) St) ∧
  St 0 (s.heap.push o) ∧ ∃ ob q n, s.heap.get? a = some ob ∧ ob.data = .seq q n

theorem src_list {prog : Program} {w : World} {s : Shared} {a : Addr} {its : List Value} (h : s.heap.IsList a its.toArray) : Src prog w s a its := by
  have lt : a < s.heap.objs.size := let ⟨_, e, _⟩ := h; Heap.lt_size e
  refine ⟨_, _, fun A E Q q => wpAny_pyIter_list h q, fun A' hA => Walks.list hA _ _ (Nat.ne_of_lt lt) _, ⟨⟨_, Heap.get?_push_size _ rfl, rfl, rfl⟩, ?_⟩, ?_⟩
  · obtain ⟨ob, e, r⟩ := h
    exact ⟨ob, Heap.get?_push_of_some _ e, r⟩
  · obtain ⟨ob, e, h1, h2, h3⟩ := h
    exact ⟨ob, _, _, e, h3⟩
theorem src_tuple {prog : Program} {w : World} {s : Shared} {a : Addr} {its : List Value} (h : s.heap.IsTuple a its.toArray) : Src prog w s a its := by
  have lt : a < s.heap.objs.size := let ⟨_, e, _⟩ := h; Heap.lt_size e
  refine ⟨_, _, fun A E Q q => wpAny_pyIter_tuple h q, fun A' hA => Walks.tuple hA _ _ (Nat.ne_of_lt lt) _, ⟨⟨_, Heap.get?_push_size _ rfl, rfl, rfl⟩, h.push _⟩, ?_⟩
  obtain ⟨ob, e, h1, n, h2⟩ := h
  exact ⟨ob, _, n, e, h2⟩

section
variable {X : Cx} {pins : List (Addr × Obj)} {σ : L2.St} {H : Hp} {s : Shared}

/-- the element: of an item v with dom v it is f v; what the def holds in cells may be read -/
def EltG (X : Cx) (P : Addr) (scope : Scope) (x : Str) (elt : Expr) (σ : L2.St) (dom : V → Prop) (f : V → V) : Prop :=
  ∀ (pins : List (Addr × Obj)) (H1 : Hp) (s1 : Shared) (cenv : Env) (A' : Around) (E' : Value → Shared → Prop) (v : V) (u : Value) (s2 : Shared) (m2 : Str → Option Value),
    Inv X pins σ H1 s1 → GxR.TabG H1 P → cenv.scope = scope → cenv.cells = cloFrom X.env.cells scope.names [] → A'.handled = none → A'.depth ≤ X.A.depth + 1 → A'.units ≤ X.A.units + 8 → dom v → RelV v u →
    s2.heap.Ns cenv.locals m2 → m2 x = some u → (∀ b o, b ≠ P → s1.heap.get? b = some o → s2.heap.get? b = some o) → cenv.globals = X.env.globals →
    wpAny (model X.prog X.w) A' (eval elt cenv) (fun y s3 => RelV (f v) y ∧ Keeps s2 s3) E' s2

/-- the generator g, ready to give the values f of xs; H1: what was held before -/
def ReadyG (X : Cx) (pins : List (Addr × Obj)) (σ : L2.St) (H1 : Hp) (P : Addr) (xs : List V) (f : V → V) (g : Addr) (s5 : Shared) : Prop :=
  ∃ (fp wr : List Addr) (G : Array GenState → Array GenState → Prop) (F : Nat → Value → Prop) (St : Nat → Shared → Prop),
    WalksS X.prog X.w X.A.in4 g fp wr G xs.length F St ∧ St 0 s5 ∧ (∀ b ∈ fp, b < s5.heap.objs.size) ∧ g ∈ fp ∧ (∀ i s9, St i s9 → s9.TypeIs (.ref g) "generator") ∧
    (∀ j y, F j y → ∃ v, xs[j]? = some v ∧ RelV (f v) y) ∧ ∀ s', Moved wr G s5 s' → ∃ H2, GxR.Tabbed P H1 H2 ∧ Inv X pins σ H2 s'

theorem gen_seq {c P : Addr} {elt iter : Expr} {x : Str} {px gpos : Pos} {scope : Scope} {dom : V → Prop} {f : V → V} {te : TE} {k : Nat} {Q' : Value → Shared → Prop} {R : List V → Hp → Prop}
    (hr : Room k X.A) (TB : GxR.TabB X.base X.mg c P) (hcode : X.env.code = .ref c) (S : GxR.GenS X.env scope x) (hi : PE X iter te) (hel : EltG X P scope x elt σ dom f)
    (hs : ∀ v, genFold iter X.env v = pure v) (I : Inv X pins σ H s)
    (h : te σ H fun v H1 => ∃ (a : Addr) (xs : List V), v = .ref a ∧ (SqL X.K H1 a xs ∨ SqT X.K H1 a xs) ∧ (∀ v ∈ xs, dom v) ∧ GxR.TabG H1 P ∧ R xs H1)
    (hQ : ∀ xs H1 g s5, R xs H1 → ReadyG X pins σ H1 P xs f g s5 → Q' (.ref g) s5) :
    wpAny (model X.prog X.w) X.A (eval (.GeneratorExp elt [⟨.Name x px, iter, [], 0⟩] scope gpos) X.env) Q' X.xe s := by
  refine wpAny_GeneratorExp_walksQD hr.hd S.co (closure_ok S.free) S.cell S.dot S.loc S.kind (by have := hr.dp; omega) ?_ hs
  refine thn (hi.run pins s σ H _ I h) ?_
  rintro xv s1 ⟨v, H1, I1, r1, a, xs, rfl, sq, hdom, hT, q1⟩
  obtain rfl : xv = Value.ref a := r1
  obtain ⟨its, rv, ⟨o, St, mk, W, hst, ob, qs, nq, hob, hod⟩⟩ : ∃ its : List Value, Vals xs its ∧ Src X.prog X.w s1 a its := by
    rcases sq with sq | sq
    · obtain ⟨its, rv, hl, _⟩ := I1.list sq
      exact ⟨its, rv, src_list hl.isList⟩
    · obtain ⟨its, rv, hl, _⟩ := I1.tuple sq
      exact ⟨its, rv, src_tuple hl⟩
  have nlen : its.toArray.size = xs.length := by rw [List.size_toArray]; exact rv.length.symm
  have item : ∀ (i : Nat) (u : Value), its.toArray[i]? = some u → ∃ v, xs[i]? = some v ∧ RelV v u := by
    intro i u hu
    have hu2 : its[i]? = some u := by simpa using hu
    have hi2 : i < xs.length := by rw [rv.length]; exact (List.getElem?_eq_some_iff.mp hu2).1
    obtain ⟨u', e1, e2⟩ := rv.get (List.getElem?_eq_getElem hi2)
    rw [hu2] at e1
    cases e1
    exact ⟨_, List.getElem?_eq_getElem hi2, e2⟩
  refine mk _ _ _ ?_
  obtain ⟨ps, hP, ht⟩ := _root_.id hT
  have gP : s1.heap.get? P = some { cls := .none, data := .fields ps } := I1.hok P _ hP
  have ltP : P < s1.heap.objs.size := Heap.lt_size gP
  have lta : a < s1.heap.objs.size := Heap.lt_size hob
  have neP : ∀ {b : Addr} {u : Obj}, s1.heap.get? b = some u → u.data ≠ .fields ps → b ≠ P := by
    intro b u e d z
    rw [z, gP] at e
    cases e
    exact d rfl
  have aP : a ≠ P := neP hob (by rw [hod]; intro z; cases z)
  have P2 : (s1.heap.push o).get? P = some { cls := .none, data := .fields ps } := Heap.get?_push_of_some _ gP
  have lim : (s1.heap.push o).NoLimit := I1.nolimit.push o
  have cd : PySem.W.CodeHd (s1.heap.push o) c P := TB.code.keeps fun b u e => Heap.get?_push_of_some _ (I1.bk b u e)
  have szo : (s1.heap.push o).objs.size = s1.heap.objs.size + 1 := Heap.size_push ..
  -- behind the code object's making: h3, the table ps'
  have go : ∀ (code : Value) (h3 : Heap) (tk : Nat) (ps' : Array Value), Heap.ExtBut P (s1.heap.push o) h3 → (s1.heap.push o).objs.size ≤ h3.objs.size → h3.get? P = some { cls := .none, data := .fields ps' } →
      (∃ more, ps' = ps ++ more) → TriplesOk ps'.toList → wpAny (model X.prog X.w) X.A (builtinsFor X.env.globals X.env.builtins) (fun bi s4 =>
        ∃ Ia fp wr n0 Pf St0 pz F, Value.ref s1.heap.objs.size = .ref Ia ∧ (∀ A' : Around, A'.handled = none → Walks X.prog X.w A' Ia fp wr n0 Pf St0) ∧ St0 0 s4.heap ∧ (∀ b ∈ fp, b < s4.heap.objs.size) ∧ s4.heap.NoLimit ∧ cStatics ∉ wr ∧
          (∀ href : Heap, (∀ b o, s4.heap.get? b = some o → href.get? b = some o) →
            QuietGenD X.prog X.w (genEnv scope (cloFrom X.env.cells scope.names []) s4.heap.objs.size code bi X.env) x [] elt (List.range s4.heap.objs.size) wr Pf pz F href (X.A.depth + 1) (X.A.units + 8)) ∧
          (∀ a h5 tk gs, gs.bare = true → s4.heap.objs.size < a → h5.objs.size = a + 1 → (∀ b o, s4.heap.get? b = some o → h5.get? b = some o) →
            WalksS X.prog X.w X.A.in4 a (a :: s4.heap.objs.size :: List.range s4.heap.objs.size) (s4.heap.objs.size :: wr) (GenOnlyQ s4.gens.size) (passing pz n0 0).length
              (fun j y => ∃ i, (passing pz n0 0)[j]? = some i ∧ F i y) (GenAt X.prog X.w X.A.in4 a s4.gens.size s4.heap.objs.size (List.range s4.heap.objs.size) wr pz n0 F) →
            GenAt X.prog X.w X.A.in4 a s4.gens.size s4.heap.objs.size (List.range s4.heap.objs.size) wr pz n0 F 0 { s4 with gens := s4.gens.push gs, toks := tk, heap := h5 } →
            Q' (.ref a) { s4 with gens := s4.gens.push gs, toks := tk, heap := h5 })) X.xe { s1 with heap := h3, toks := tk } := by
    intro code h3 tk ps' ext sz P3 more tr
    obtain ⟨bm, ob', b1, b2, b3, b4, b5, b6, b7, b8⟩ := TB.bm
    have keep3 : ∀ b u, b ≠ P → s1.heap.get? b = some u → h3.get? b = some u := fun b u hb e => ext b u hb (Heap.get?_push_of_some _ e)
    obtain ⟨mc, lns, _⟩ := _root_.id I1.nolimit
    have ltC : cStatics < s1.heap.objs.size := lns.lt
    have cP : cStatics ≠ P := by
      obtain ⟨o', es, ep, e, d, _⟩ := lns
      exact neP e (by rw [d]; intro z; cases z)
    refine wpAny_builtinsFor (m := X.mg) (by rw [I1.ok.glob]; exact ((I1.mod.glob.keeps I1.bk).push o).extBut ext TB.gP) b1 b2 (keep3 _ _ b4 (I1.bk _ _ b5)) b6 b7 b8 ?_
    refine ⟨s1.heap.objs.size, [s1.heap.objs.size, a], [s1.heap.objs.size], its.toArray.size, (fun i v => its.toArray[i]? = some v), St, (fun _ => true), (fun i y => ∃ v, xs[i]? = some v ∧ RelV (f v) y), rfl, W, ?_, ?_, lim.extBut ext cP, ?_, ?_, ?_⟩
    · refine (W X.A hr.hd).frame _ _ _ hst ?_
      intro b hb u e
      refine ext b u ?_ e
      rcases List.mem_cons.mp hb with z | z
      · rw [z]
        exact Nat.ne_of_gt ltP
      · rw [List.mem_singleton.mp z]
        exact aP
    · intro b hb
      show b < h3.objs.size
      rcases List.mem_cons.mp hb with z | z
      · rw [z]
        have z2 : s1.heap.objs.size < h3.objs.size := by omega
        exact z2
      · rw [List.mem_singleton.mp z]
        exact Nat.lt_of_lt_of_le lta (by omega)
    · intro z
      exact Nat.ne_of_lt ltC (List.mem_singleton.mp z)
    · intro href hh
      refine ⟨?_, ?_⟩
      · intro A' E' i v s2 m2 _ _ _ _ _ _ _
        simp only [List.forIn_nil]
        exact wpAny_pure ⟨rfl, GxR.keeps_refl _⟩
      · intro A' E' i u s2 m2 hA hD hU hPu _ hn hm hk
        obtain ⟨v, hv, ru⟩ := item i u hPu
        refine wpAny_mono (hel pins H1 s1 _ A' E' v u s2 m2 I1 ⟨ps, hP, ht⟩ rfl rfl hA hD hU (hdom v (List.mem_of_getElem? hv)) ru hn hm ?_ rfl) (fun y s3 r => ⟨⟨v, hv, r.1⟩, r.2⟩) (fun _ _ e => e)
        intro b ob2 hb e
        have e3 := keep3 b ob2 hb e
        refine hk b (List.mem_range.mpr (Heap.lt_size e3)) ?_ ob2 (hh b ob2 e3)
        intro z
        exact absurd (Heap.lt_size e) (by rw [List.mem_singleton.mp z]; exact Nat.lt_irrefl _)
    · intro g h5 tk5 gs hgb hag hsz5 hk5 W5 hgat
      simp only [GxR.passing_true, List.length_range] at W5
      rw [nlen] at W5 hgat
      refine hQ xs H1 g _ q1 ⟨_, _, _, _, _, W5, hgat, ?_, List.mem_cons_self, (fun i s9 h9 => h9.1.typeIs), ?_, ?_⟩
      · intro b hb
        show b < h5.objs.size
        have h8 : h3.objs.size < g := hag
        rw [hsz5]
        rcases List.mem_cons.mp hb with z | z
        · rw [z]
          exact Nat.lt_succ_self g
        · rcases List.mem_cons.mp z with z | z
          · rw [z]
            exact Nat.lt_succ_of_lt h8
          · exact Nat.lt_succ_of_lt (Nat.lt_trans (List.mem_range.mp z) h8)
      · rintro j y ⟨i, hij, v, hv, rel⟩
        obtain ⟨hj, ej⟩ := List.getElem?_eq_some_iff.mp hij
        rw [List.getElem_range] at ej
        subst ej
        exact ⟨v, hv, rel⟩
      · intro s' hm
        obtain ⟨mr, rfl⟩ := more
        have old : ∀ b u, s1.heap.get? b = some u → b ∉ h3.objs.size :: [s1.heap.objs.size] := by
          intro b u e hb
          have l := Heap.lt_size e
          rcases List.mem_cons.mp hb with z | z
          · have l2 : (h3.objs.size : Nat) < s1.heap.objs.size := by rw [← z]; exact l
            omega
          · rw [List.mem_singleton.mp z] at l
            exact Nat.lt_irrefl _ l
        have J := GxR.inv_tab (more := mr) (h' := s'.heap) (g' := s'.gens) (d' := s'.drawn) (t' := s'.toks) I1 hP (fun b u hb e => hm.heap b u (old b u e) (hk5 b u (keep3 b u hb e)))
          (hm.heap P _ (old P _ gP) (hk5 P _ P3)) (AllBare.movedS (I1.bare.push hgb) hm)
        rw [GxR.sh_eta s1 s' hm.os] at J
        exact ⟨_, ⟨⟨_, upd_same, tr⟩, fun b hb => upd_ne hb⟩, J⟩
  refine ⟨lim, ?_⟩
  cases hf : codeAmong gpos ps.toList with
  | some cv => exact wpAny_genexprCode_hit hcode (cd.code P2 ht) hf (go cv _ s1.toks ps (Heap.ExtBut.refl _ _) (Nat.le_refl _) P2 ⟨#[], by simp⟩ ht)
  | none =>
    refine wpAny_genexprCodeX hcode (cd.code P2 ht) (cd.tab P2) hf ?_
    intro c' h' tk ext ge lt co _ tab _
    obtain ⟨o1, vs, f1, tf, fl, tg, inF, tx, tt, op, _, _, _, _, _, _, _, _, _, tr, _⟩ := co
    exact go _ h' tk _ ext (Nat.le_trans ge (Nat.le_of_lt lt)) tab.2 ⟨_, rfl⟩ tr

/-- what a consumer asks of the walked thing: the values, each in dom, the def's table -/
def tGen (K : PySem.W.Frag) (P : Addr) (dom : L2.St → V → Prop) (te : TE) (R : List V → L2.St → Hp → VK → Prop) : TE := fun σ H Q => te σ H fun v H1 => ∃ (a : Addr) (xs : List V), v = .ref a ∧ (SqL K H1 a xs ∨ SqT K H1 a xs) ∧ (∀ v ∈ xs, dom σ v) ∧ GxR.TabG H1 P ∧ R xs σ H1 Q
/-- tuple(elt for x in e) -/
def rTupG (P : Addr) (f : L2.St → V → V) : List V → L2.St → Hp → VK → Prop := fun xs σ H1 Q => xs.length ≤ sizeLine ∧ ∀ H2, GxR.Tabbed P H1 H2 → ∀ D, H2 D = none → Q (.ref D) (upd H2 D (.tup (xs.map (f σ))))
theorem pe_tupG {c P : Addr} {elt iter : Expr} {x : Str} {px p pos gpos : Pos} {scope : Scope} {dom : L2.St → V → Prop} {f : L2.St → V → V} {te : TE} {k : Nat}
    (hr : Room k X.A) (hg : Gl X "tuple") (hm : X.mg "tuple" = none) (TB : GxR.TabB X.base X.mg c P) (hcode : X.env.code = .ref c) (S : GxR.GenS X.env scope x) (hi : PE X iter te) (hel : ∀ σ, EltG X P scope x elt σ (dom σ) (f σ))
    (hs : ∀ v, genFold iter X.env v = pure v) (hb : bootBuiltins "tuple" = some (.type "tuple") := by decide +kernel)
    (he : starEach [.GeneratorExp elt [⟨.Name x px, iter, [], 0⟩] scope gpos] X.env = (false, eval (.GeneratorExp elt [⟨.Name x px, iter, [], 0⟩] scope gpos) X.env) :: starEach [] X.env := by rfl) :
    PE X (.Call (.Name "tuple" p) [.GeneratorExp elt [⟨.Name x px, iter, [], 0⟩] scope gpos] [] pos) (tGen X.K P dom te (rTupG P f)) := by
  constructor
  intro pins s σ H Q I h
  refine wpAny_Call_Name_kw (ld_blt I hg hm hb (PyProof.Rows.callWith_type1 ?_ he (by rfl)))
  rw [he]
  show wpAny _ _ (spliced ((false, eval (.GeneratorExp elt [⟨.Name x px, iter, [], 0⟩] scope gpos) X.env) :: backTo pos (starEach [] X.env))) _ _ s
  refine Calls.spliced_cons (gen_seq (R := fun xs H1 => rTupG P f xs σ H1 Q) hr TB hcode S hi (hel σ) hs I h ?_)
  rintro xs H1 g s5 ⟨hz, hR⟩ ⟨fp, wr, G, F, St, W, hst, hfp, hgf, hty, hF, hI⟩
  refine Calls.spliced_nil ?_
  refine call_tuple_gen (hsz := hz) W.in4_3 hty hst hfp hgf ?_
  intro s' acc hmv hacc
  obtain ⟨H2, hT, J⟩ := hI s' hmv
  have rel : Vals (xs.map (f σ)) acc.toList := by
    have key : ∀ (ys : List V) (us : List Value), ys.length = us.length → (∀ (j : Nat) (u : Value), us[j]? = some u → ∃ v, ys[j]? = some v ∧ RelV (f σ v) u) → Vals (ys.map (f σ)) us := by
      intro ys
      induction ys with
      | nil =>
        intro us hl _
        cases us with
        | nil => exact .nil
        | cons _ _ => cases hl
      | cons y ys ih =>
        intro us hl hv
        cases us with
        | nil => cases hl
        | cons u us =>
          refine .cons ?_ (ih us (Nat.succ.inj hl) (fun j w hw => hv (j + 1) w hw))
          obtain ⟨v, h1, h2⟩ := hv 0 u rfl
          cases h1
          exact h2
    refine key xs acc.toList ?_ ?_
    · rw [Array.length_toList]
      exact hacc.1.symm
    · intro j u hu
      exact hF j u (hacc.2 j u (by simpa using hu))
  refine ⟨.ref s'.heap.objs.size, _, J.laid (t' := s'.toks) (fun b u e => Heap.get?_push_of_some _ e) (Nat.le_refl _) ?_, rfl, hR H2 hT _ (J.hok.fresh (Nat.le_refl _))⟩
  refine ⟨?_, acc.toList, rel, _, Heap.get?_push_size _ rfl, rfl, 0, ?_⟩
  · rw [List.length_map]
    exact hz
  · simp

/-- any, all of truths -/
def rAnyG (P : Addr) (b : L2.St → V → Bool) : List V → L2.St → Hp → VK → Prop := fun xs σ H1 Q => ∀ H2, GxR.Tabbed P H1 H2 → Q (.bl (xs.any (b σ))) H2
def rAllG (P : Addr) (b : L2.St → V → Bool) : List V → L2.St → Hp → VK → Prop := fun xs σ H1 Q => ∀ H2, GxR.Tabbed P H1 H2 → Q (.bl (xs.all (b σ))) H2
def atV (b : V → Bool) (xs : List V) (j : Nat) : Bool := ((xs[j]?).map b).getD false
theorem atV_some {b : V → Bool} {xs : List V} {j : Nat} {v : V} (h : xs[j]? = some v) : atV b xs j = b v := by
  unfold atV
  rw [h]
  rfl
theorem any_atV (b : V → Bool) (xs : List V) : (List.range xs.length).any (atV b xs) = xs.any b := by
  rw [Bool.eq_iff_iff, List.any_eq_true, List.any_eq_true]
  constructor
  · rintro ⟨j, hj, h⟩
    have hj := List.mem_range.mp hj
    rw [atV_some (List.getElem?_eq_getElem hj)] at h
    exact ⟨_, List.getElem_mem hj, h⟩
  · rintro ⟨v, hv, h⟩
    obtain ⟨j, hj, rfl⟩ := List.getElem_of_mem hv
    exact ⟨j, List.mem_range.mpr hj, by rw [atV_some (List.getElem?_eq_getElem hj)]; exact h⟩
theorem all_atV (b : V → Bool) (xs : List V) : (List.range xs.length).all (atV b xs) = xs.all b := by
  rw [Bool.eq_iff_iff, List.all_eq_true, List.all_eq_true]
  constructor
  · intro h v hv
    obtain ⟨j, hj, rfl⟩ := List.getElem_of_mem hv
    have q := h j (List.mem_range.mpr hj)
    rw [atV_some (List.getElem?_eq_getElem hj)] at q
    exact q
  · intro h j hj
    have hj := List.mem_range.mp hj
    rw [atV_some (List.getElem?_eq_getElem hj)]
    exact h _ (List.getElem_mem hj)
theorem pe_anyG {c P : Addr} {elt iter : Expr} {x : Str} {px p pos gpos : Pos} {scope : Scope} {dom : L2.St → V → Prop} {b : L2.St → V → Bool} {te : TE} {k : Nat}
    (hr : Room k X.A) (hg : Gl X "any") (hm : X.mg "any" = none) (TB : GxR.TabB X.base X.mg c P) (hcode : X.env.code = .ref c) (S : GxR.GenS X.env scope x) (hi : PE X iter te) (hel : ∀ σ, EltG X P scope x elt σ (dom σ) (fun v => .bl (b σ v)))
    (hs : ∀ v, genFold iter X.env v = pure v)
    (he : starEach [.GeneratorExp elt [⟨.Name x px, iter, [], 0⟩] scope gpos] X.env = (false, eval (.GeneratorExp elt [⟨.Name x px, iter, [], 0⟩] scope gpos) X.env) :: starEach [] X.env := by rfl) :
    PE X (.Call (.Name "any" p) [.GeneratorExp elt [⟨.Name x px, iter, [], 0⟩] scope gpos] [] pos) (tGen X.K P dom te (rAnyG P b)) := by
  constructor
  intro pins s σ H Q I h
  refine wpAny_Call_Name_kw (ld_blt I hg hm boot_any (PyProof.Rows.callWith_builtin1 ?_ he (by rfl)))
  rw [he]
  show wpAny _ _ (spliced ((false, eval (.GeneratorExp elt [⟨.Name x px, iter, [], 0⟩] scope gpos) X.env) :: backTo pos (starEach [] X.env))) _ _ s
  refine Calls.spliced_cons (gen_seq (R := fun xs H1 => rAnyG P b xs σ H1 Q) hr TB hcode S hi (hel σ) hs I h ?_)
  rintro xs H1 g s5 hR ⟨fp, wr, G, F, St, W, hst, hfp, hgf, hty, hF, hI⟩
  refine Calls.spliced_nil (call_any_walkS (W.in4_1.self 0 _ _ _ hst ⟨g, fp, wr, G, _, F, St, atV (b σ) xs, rfl, W.in4_1, hst, ?_, ?_⟩))
  · intro j y s' Q' E' hy hQ
    obtain ⟨v, hv, r⟩ := hF j y hy
    rw [atV_some hv] at hQ
    have e : y = Value.bool (b σ v) := r
    rw [e]
    exact wpAny_truthy_bool hQ
  · intro s' hmv
    obtain ⟨H2, hT, J⟩ := hI s' hmv
    rw [any_atV]
    exact ⟨.bl _, H2, J, rfl, hR H2 hT⟩
theorem pe_allG {c P : Addr} {elt iter : Expr} {x : Str} {px p pos gpos : Pos} {scope : Scope} {dom : L2.St → V → Prop} {b : L2.St → V → Bool} {te : TE} {k : Nat}
    (hr : Room k X.A) (hg : Gl X "all") (hm : X.mg "all" = none) (TB : GxR.TabB X.base X.mg c P) (hcode : X.env.code = .ref c) (S : GxR.GenS X.env scope x) (hi : PE X iter te) (hel : ∀ σ, EltG X P scope x elt σ (dom σ) (fun v => .bl (b σ v)))
    (hs : ∀ v, genFold iter X.env v = pure v) (hb : bootBuiltins "all" = some (.builtin "all") := by decide +kernel)
    (he : starEach [.GeneratorExp elt [⟨.Name x px, iter, [], 0⟩] scope gpos] X.env = (false, eval (.GeneratorExp elt [⟨.Name x px, iter, [], 0⟩] scope gpos) X.env) :: starEach [] X.env := by rfl) :
    PE X (.Call (.Name "all" p) [.GeneratorExp elt [⟨.Name x px, iter, [], 0⟩] scope gpos] [] pos) (tGen X.K P dom te (rAllG P b)) := by
  constructor
  intro pins s σ H Q I h
  refine wpAny_Call_Name_kw (ld_blt I hg hm hb (PyProof.Rows.callWith_builtin1 ?_ he (by rfl)))
  rw [he]
  show wpAny _ _ (spliced ((false, eval (.GeneratorExp elt [⟨.Name x px, iter, [], 0⟩] scope gpos) X.env) :: backTo pos (starEach [] X.env))) _ _ s
  refine Calls.spliced_cons (gen_seq (R := fun xs H1 => rAllG P b xs σ H1 Q) hr TB hcode S hi (hel σ) hs I h ?_)
  rintro xs H1 g s5 hR ⟨fp, wr, G, F, St, W, hst, hfp, hgf, hty, hF, hI⟩
  refine Calls.spliced_nil (call_all_walkS (W.in4_1.self 0 _ _ _ hst ⟨g, fp, wr, G, _, F, St, atV (b σ) xs, rfl, W.in4_1, hst, ?_, ?_⟩))
  · intro j y s' Q' E' hy hQ
    obtain ⟨v, hv, r⟩ := hF j y hy
    rw [atV_some hv] at hQ
    have e : y = Value.bool (b σ v) := r
    rw [e]
    exact wpAny_truthy_bool hQ
  · intro s' hmv
    obtain ⟨H2, hT, J⟩ := hI s' hmv
    rw [all_atV]
    exact ⟨.bl _, H2, J, rfl, hR H2 hT⟩

/-- the item's own name, in the element -/
theorem elt_own {scope : Scope} {x : Str} {cenv : Env} {M : Model} {A' : Around} {E' : Value → Shared → Prop} {Q : Value → Shared → Prop} {s2 : Shared} {m2 : Str → Option Value} {u : Value} {pos : Pos} (hsc : cenv.scope = scope) (hkd : scope.kind = .function)
    (hl : scope.names.lookup x = some .local) (hn : s2.heap.Ns cenv.locals m2) (hm : m2 x = some u) (h : Q u s2) (hd : (x == ("__debug__" : Str)) = false := by decide) : wpAny M A' (eval (.Name x pos) cenv) Q E' s2 :=
  wpAny_Name (wpAny_loadName_local (by rw [hsc]; exact hkd) (show cenv.scope.names.lookup x = some .local by rw [hsc]; exact hl) hn hm h) hd
/-- a name of the def that the generator captures -/
theorem elt_cap {P : Addr} {scope : Scope} {y : Str} {i : Nat} {z : V} {cenv : Env} {M : Model} {A' : Around} {E' : Value → Shared → Prop} {Q : Value → Shared → Prop} {H1 : Hp} {s1 s2 : Shared} {pos : Pos}
    (I : Inv X pins σ H1 s1) (hT : GxR.TabG H1 P) (hsc : cenv.scope = scope) (hkd : scope.kind = .function) (hce : cenv.cells = cloFrom X.env.cells scope.names []) (hk : ∀ b o, b ≠ P → s1.heap.get? b = some o → s2.heap.get? b = some o)
    (hf : (y, NameKind.free) ∈ scope.names) (hl : scope.names.lookup y = some .free) (hN : X.N[i]? = some y) (hc : X.env.scope.names.lookup y = some .cell) (hz : σ[i]? = some (some z)) (h : ∀ u, RelV z u → Q u s2)
    (hd : (y == ("__debug__" : Str)) = false := by decide) (hd2 : (y == ("__classdict__" : Str)) = false := by decide) : wpAny M A' (eval (.Name y pos) cenv) Q E' s2 := by
  obtain ⟨m, hn, hlook⟩ := I.loc
  obtain ⟨u, r, l⟩ := hlook i y z hN hz (.inr (.inl hc))
  rcases l with ⟨hk1, _⟩ | ⟨_, c, ec, hcell⟩
  · have e1 : X.env.scope.names.lookup y = some .local := hk1
    rw [hc] at e1
    cases e1
  · have e2 : cenv.cells.lookup y = some c := by
      rw [hce]
      obtain ⟨c', e3⟩ := mem_lookup (cloFrom_has (cells := X.env.cells) (acc := []) hf)
      rcases cloFrom_mem (PySem.mem_of_lookup e3) with z | ⟨_, z⟩
      · cases z
      · rw [ec] at z
        rw [e3, z]
        rfl
    obtain ⟨o, ho, hd0⟩ := hcell
    have cP : c ≠ P := by
      intro z
      obtain ⟨ps, hP, _⟩ := hT
      have gP : s1.heap.get? P = some { cls := .none, data := .fields ps } := I.hok P _ hP
      rw [z, gP] at ho
      cases ho
      cases hd0
    exact wpAny_Name (wpAny_loadName_free (by rw [hsc]; exact hkd) (show cenv.scope.names.lookup y = some .free by rw [hsc]; exact hl) e2 ⟨o, hk c o cP ho, hd0⟩ (h u r) hd2) hd
end
end GL
set_option Elab.async false
set_option linter.all false
set_option maxRecDepth 100000
set_option maxHeartbeats 2000000
/-! Defs by their names; sum of a tuple; heaps that keep all but some places. -/
namespace GL
open PySem PySem.Spec PyProof.Rows L2

structure Cal (P : Program) (w : World) (K : PySem.W.Frag) (mg : Str → Option Value) (base : Heap) (k : Nat) (x : Str) (sp : Sp) : Prop where
  ex : ∃ (f : Addr) (fd : FuncData) (ps : List Str), FnOk P w K mg base CX0 k f fd ps sp ∧ mg x = some (.ref f) ∧ PySem.W.keepIn K (.ref f) = true ∧ Binds K fd ps []
structure CalG (P : Program) (w : World) (K : PySem.W.Frag) (mg : Str → Option Value) (base : Heap) (k : Nat) (x : Str) (sp : Sp) : Prop where
  ex : ∃ (f : Addr) (fd : FuncData) (ps : List Str), FnG P w K mg base CX0 k f fd ps sp ∧ mg x = some (.ref f) ∧ PySem.W.keepIn K (.ref f) = true ∧ Binds K fd ps []
section
variable {X : Cx} {k j : Nat} {x : Str} {sp : Sp} {p pos : Pos} {e : Expr} {es : List Expr} {t : TA}
theorem pe_k (c : Cal X.prog X.w X.K X.mg X.base k x sp) (hr : Room k X.A) (hg : Gl X x) (ha : PA X (e :: es) t) (hdb : (x == ("__debug__" : Str)) = false := by decide)
    (he : starEach (e :: es) X.env = (false, eval e X.env) :: starEach es X.env := by rfl) (hpl : (backTo pos (starEach es X.env)).any (·.1) = false := by rfl) : PE X (.Call (.Name x p) (e :: es) [] pos) (tCall sp [] E0 t) := by
  obtain ⟨f, fd, ps, F, m, kp, b⟩ := c.ex
  exact pe_call F hr hg m kp b .nil pass0 ha hdb he hpl
theorem pe_kG (c : CalG X.prog X.w X.K X.mg X.base k x sp) (gd : X.A.guards = some []) (hr : Room k X.A) (hg : Gl X x) (ha : PA X (e :: es) t) (hdb : (x == ("__debug__" : Str)) = false := by decide)
    (he : starEach (e :: es) X.env = (false, eval e X.env) :: starEach es X.env := by rfl) (hpl : (backTo pos (starEach es X.env)).any (·.1) = false := by rfl) : PE X (.Call (.Name x p) (e :: es) [] pos) (tCall sp [] E0 t) := by
  obtain ⟨f, fd, ps, F, m, kp, b⟩ := c.ex
  exact pe_callG F gd hr hg m kp b .nil pass0 ha hdb he hpl

/-- sum of a tuple of whole numbers -/
def rSumT (K : PySem.W.Frag) : List V → Hp → VK → Prop := fun vs H Q => ∃ (a : Addr) (ns : List Int), vs = [V.ref a] ∧ SqT K H a (ns.map V.int) ∧ Q (.int ns.sum) H
theorem cr_sumT (hc : X.calm = true) : CallR X (.builtin "sum") (rSumT X.K) := by
  intro pins s σ H vs us Q I r h
  obtain ⟨a, ns, rfl, hs, q⟩ := h
  obtain ⟨its, rv, hl, _⟩ := I.tuple hs
  rw [Vals.ref1 r]
  have hi : IntsAre its ns := rv.ints
  obtain ⟨xs, hx⟩ := hi.allInts.items
  have hn : numsOf its.toArray.toList = ns := by rw [show its.toArray.toList = its from rfl, hi.numsOf]
  rw [hx] at hl hn
  rw [nums_intItems] at hn
  refine PySem.W.ktm_sumG (I.ok.hd hc) hl ?_
  intro h' tk t' hk
  rw [preSum_eq, List.take_of_length_le (by simp), hn]
  exact ⟨.int _, H, I.kept hk, ⟨_, rfl⟩, q⟩
end

/-- what follows a statement is shown once, from Mid -/
def tMid (t u : TS) : TS := fun D σ H => ∃ Mid : L2.St → Hp → Prop, t { D with nx := Mid } σ H ∧ ∀ σ' H', Mid σ' H' → u D σ' H'
theorem pss_mid {X : Cx} {st : Stmt} {rest : List Stmt} {t u : TS} (a : PS X st t) (b : PSs X rest u) : PSs X (st :: rest) (tMid t u) := by
  constructor
  rintro pins s σ H D I ⟨Mid, h1, h2⟩
  refine wpAny_execs_cons (thn (a.run pins s σ H { D with nx := Mid } I h1) ?_)
  intro fl s1 q
  match fl, q with
  | .next, ⟨σ', H', J, q⟩ => exact b.run pins s1 σ' H' D J (h2 σ' H' q)
  | .ret _, q => exact q
  | .brk, q => exact q
  | .cont, q => exact q

/-! ### heaps -/
def Keep (ex : List Addr) (H H' : Hp) : Prop := ∀ b o, b ∉ ex → H b = some o → H' b = some o
theorem Keep.refl (ex : List Addr) (H : Hp) : Keep ex H H := fun _ _ _ h => h
theorem Keep.trans {ex : List Addr} {H H1 H2 : Hp} (a : Keep ex H H1) (b : Keep ex H1 H2) : Keep ex H H2 := fun c o n h => b c o n (a c o n h)
theorem Keep.mono {ex ex' : List Addr} {H H1 : Hp} (a : Keep ex H H1) (h : ∀ b ∈ ex, b ∈ ex') : Keep ex' H H1 := fun c o n e => a c o (fun z => n (h c z)) e
theorem Keep.new {ex : List Addr} {H H1 : Hp} {p : Addr} {o : HO} (a : Keep ex H H1) (h : H1 p = none) : Keep ex H (upd H1 p o) := fun c u n e => by
  rw [upd_ne (ne_of_none (a c u n e) h)]
  exact a c u n e
theorem Keep.set {ex : List Addr} {H H1 : Hp} {p : Addr} {o : HO} (a : Keep ex H H1) (h : p ∈ ex) : Keep ex H (upd H1 p o) := fun c u n e => by
  rw [upd_ne (fun z => n (by rw [z]; exact h))]
  exact a c u n e
/-- an object that H did not know may change -/
theorem Keep.own {ex : List Addr} {H H1 : Hp} {p : Addr} {o : HO} (a : Keep ex H H1) (h : H p = none) : Keep ex H (upd H1 p o) := fun c u n e => by
  rw [upd_ne (ne_of_none e h)]
  exact a c u n e
theorem Keep.fresh {ex : List Addr} {H H1 : Hp} {p : Addr} (a : Keep ex H H1) (n : p ∉ ex) (h : H1 p = none) : H p = none := by
  cases e : H p with
  | none => rfl
  | some o =>
    rw [a p o n e] at h
    cases h
theorem Keep.rd {ex : List Addr} {H H1 : Hp} {a : Addr} {u : HO} (k : Keep ex H H1) (n : H a ≠ none → a ∉ ex) (h : Rd H a u) : Rd H1 a u := by
  rcases h with h | ⟨o, h⟩
  · exact .inl (k a _ (n (by rw [h]; simp)) h)
  · exact .inr ⟨o, k a _ (n (by rw [h]; simp)) h⟩
theorem Keep.sql {K : PySem.W.Frag} {ex : List Addr} {H H1 : Hp} {a : Addr} {xs : List V} (k : Keep ex H H1) (n : H a ≠ none → a ∉ ex) (h : SqL K H a xs) : SqL K H1 a xs := by
  rcases h with h | h
  · exact .inl (k.rd n h)
  · exact .inr h
theorem Keep.sqt {K : PySem.W.Frag} {ex : List Addr} {H H1 : Hp} {a : Addr} {xs : List V} (k : Keep ex H H1) (n : H a ≠ none → a ∉ ex) (h : SqT K H a xs) : SqT K H1 a xs := by
  rcases h with h | h
  · exact .inl (k.rd n h)
  · exact .inr h
/-- a tabled heap keeps all but the table -/
theorem tabbed_keep {P : Addr} {H H1 : Hp} (h : GxR.Tabbed P H H1) : Keep [P] H H1 := fun b o n e => by
  rw [h.2 b (fun z => n (by rw [z]; exact List.mem_singleton.mpr rfl))]
  exact e
theorem lt_size {n : Nat} (h : n ≤ 100000) : n ≤ sizeLine := Nat.le_trans h (by decide)
theorem lt_size' {n : Nat} (h : n < 100000) : n < sizeLine := Nat.lt_of_lt_of_le h (by decide)
end GL
set_option Elab.async false
set_option linter.all false
set_option maxRecDepth 100000
set_option maxHeartbeats 2000000
/-! Comprehensions whose element is reckoned without a change of the heap. -/
namespace GL
open PySem PySem.Spec PyProof.Rows L2
theorem lc_map {K : PySem.W.Frag} {a : Addr} {xs : List V} {te : TE} {k : Nat} {vs : List Nat} {σ : L2.St} {H1 : Hp} {D : Addr} {Qd : Hp → Prop} (f : V → V) (hS : SqL K H1 a xs) (hD : H1 D = none) (hz : xs.length ≤ 100000)
    (hw : ∀ x, wipe ((wipe σ vs).set k (some x)) vs = wipe σ vs)
    (hel : ∀ x ∈ xs, ∀ (H : Hp) (Q : VK), Keep [] H1 H → Q (f x) H → te ((wipe σ vs).set k (some x)) H Q)
    (hd : ∀ H, Keep [] H1 H → H D = some (.lst (xs.map f)) → Qd H) :
    ∃ W : Nat → Nat → Hp → Prop, (∃ m, W 0 m (upd H1 D (.lst []))) ∧ ∀ i m H, W i m H →
      ((Itl K a).stop i H ∧ Qd H) ∨ ((Itl K a).go i H ∧ ∃ Nx : Hp → Prop, (∀ H', Nx H' → ∃ m', m' < m ∧ W (i + 1) m' H') ∧ ∀ x H', (Itl K a).yld i H x H' → gName k x (wipe σ vs) H' fun σ2 H2 => wipe σ2 vs = wipe σ vs ∧ tYes σ2 H2 fun b H3 =>
        if b = true then te σ2 H3 fun y H4 => ∃ acc, H4 D = some (.lst acc) ∧ acc.length < sizeLine ∧ Nx (upd H4 D (.lst (acc ++ [y]))) else Nx H3) := by
  refine lc_list (xs := xs) (fun i H => Keep [] H1 H ∧ H D = some (.lst ((xs.take i).map f))) ⟨(Keep.refl [] H1).new hD, upd_same⟩ ?_ ?_ ?_
  · rintro i H _ ⟨k1, _⟩
    exact k1.sql (fun _ z => (nomatch z)) hS
  · rintro i x H hx ⟨k1, e1⟩
    refine ⟨hw x, hel x (List.mem_of_getElem? hx) H _ k1 ⟨_, e1, ?_, k1.own hD, ?_⟩⟩
    · rw [List.length_map, List.length_take]
      exact lt_size' (by have := (List.getElem?_eq_some_iff.mp hx).1; omega)
    · rw [upd_same, List.take_add_one, hx, List.map_append]
      rfl
  · rintro H ⟨k1, e1⟩
    rw [List.take_length] at e1
    exact hd H k1 e1
end GL
set_option Elab.async false
set_option linter.all false
set_option maxRecDepth 100000
set_option maxHeartbeats 2000000
/-! enumerate and sum of a list or a tuple; comprehensions with any target. -/
namespace GL
open PySem PySem.Spec PyProof.Rows L2
/-- a list, a tuple -/
def SqB (b : Bool) (K : PySem.W.Frag) (H : Hp) (a : Addr) (xs : List V) : Prop := match b with
  | true => SqL K H a xs
  | false => SqT K H a xs
theorem Keep.sqb {b : Bool} {K : PySem.W.Frag} {ex : List Addr} {H H1 : Hp} {a : Addr} {xs : List V} (k : Keep ex H H1) (n : H a ≠ none → a ∉ ex) (h : SqB b K H a xs) : SqB b K H1 a xs := by
  cases b with
  | true => exact k.sql n h
  | false => exact k.sqt n h
def rSumB (K : PySem.W.Frag) : List V → Hp → VK → Prop := fun vs H Q => ∃ (b : Bool) (a : Addr) (ns : List Int), vs = [V.ref a] ∧ SqB b K H a (ns.map V.int) ∧ Q (.int ns.sum) H
theorem cr_sumB {X : Cx} (hc : X.calm = true) : CallR X (.builtin "sum") (rSumB X.K) := by
  rintro pins s σ H vs us Q I r ⟨b, a, ns, e, hs, q⟩
  cases b with
  | true => exact cr_sum hc pins s σ H vs us Q I r ⟨a, ns, e, hs, q⟩
  | false => exact cr_sumT hc pins s σ H vs us Q I r ⟨a, ns, e, hs, q⟩

/-! ### enumerate -/
def IteB (b : Bool) (K : PySem.W.Frag) (a : Addr) : It :=
  ⟨fun i H => ∃ (xs : List V) (x : V), SqB b K H a xs ∧ xs[i]? = some x, fun i H v H' => ∃ T x, v = .ref T ∧ H T = none ∧ H' = upd H T (.tup [.int (i : Nat), x]) ∧ ∀ xs, SqB b K H a xs → xs[i]? = some x, fun i H => ∃ xs : List V, SqB b K H a xs ∧ xs.length = i⟩
theorem turn_enumL {P : Program} {w : World} {K : PySem.W.Frag} {elts : List Expr} {kk : Nat} {tpos : Pos} (a e it : Addr) :
    Turn P w K (.Tuple elts kk tpos) (IteB true K a) [e, it] e (fun i h => (∃ old, IsEnum h e it ((i : Nat) : Int) old) ∧ h.IsListIter it a i ∧ e ≠ it) := by
  have T := turn_enum (P := P) (w := w) (K := K) (elts := elts) (kk := kk) (tpos := tpos) a e it
  refine ⟨T.mem, T.obj, T.keep, T.item, ?_, T.self⟩
  intro X hP hw hK hc i pins s σ H E I hf st hg
  obtain ⟨xs, h1, h2⟩ := hg
  exact T.done X hP hw hK hc i pins s σ H E I hf st ⟨xs, h1, Nat.le_of_eq h2⟩
theorem turn_enumT {P : Program} {w : World} {K : PySem.W.Frag} {elts : List Expr} {kk : Nat} {tpos : Pos} (a e it : Addr) :
    Turn P w K (.Tuple elts kk tpos) (IteB false K a) [e, it] e (fun i h => (∃ old, IsEnum h e it ((i : Nat) : Int) old) ∧ h.IsTupleIter it a i ∧ e ≠ it) where
  mem := List.mem_cons_self
  obj := by
    rintro i h ⟨⟨old, he⟩, ⟨o, ho, hc, hd⟩, _⟩ b hb
    rcases List.mem_cons.mp hb with z | z
    · rw [z]
      exact ⟨_, he, fun v q => (nomatch q)⟩
    · rw [List.mem_singleton.mp z]
      exact ⟨o, ho, fun v q => by rw [hd] at q; cases q⟩
  keep := by
    rintro i h h' ⟨⟨old, he⟩, hi, hne⟩ k
    exact ⟨⟨old, k e List.mem_cons_self _ he⟩, hi.at (fun o q => k it (List.mem_cons_of_mem _ List.mem_cons_self) o q), hne⟩
  self := by
    rintro A i s Q E ⟨⟨_, he⟩, _⟩ h
    exact wpAny_pyIter_enum he h
  item := by
    intro X hP hw hK hc i pins s σ H E I hf st hg
    subst hP hw hK
    obtain ⟨⟨old, he⟩, hit, hne⟩ := st
    obtain ⟨xs, x, hq, hx⟩ := hg
    obtain ⟨its, rv, p, hz⟩ := I.tuple hq
    obtain ⟨u, hu, ru⟩ := rv.get hx
    have hu2 : its.toArray[i]? = some u := by simpa using hu
    have hel : e < s.heap.objs.size := Heap.lt_size he
    have hil : it < s.heap.objs.size := by obtain ⟨_, q, _⟩ := hit; exact Heap.lt_size q
    have hai : a ≠ it := fun z => by
      obtain ⟨o, e1, c1, _⟩ := p
      obtain ⟨o2, e2, c2, d2⟩ := hit
      rw [z, e2] at e1
      cases e1
      rw [c2] at c1
      exact absurd c1 (by decide)
    have hae : e ≠ a := fun z => by
      obtain ⟨o, e1, c1, _⟩ := p
      have e2 : s.heap.get? e = some _ := he
      rw [← z, e2] at e1
      cases e1
      have c2 : Value.type "enumerate" = Value.type "tuple" := c1
      exact absurd c2 (by decide)
    have nef : e ∉ [it, a] := fun z => by
      rcases List.mem_cons.mp z with z | z
      · exact hne z
      · exact hae (List.mem_singleton.mp z)
    refine wpAny_pyNext_enum_itemD (Draws.tuple (A := X.A.in1) (I.ok.hd hc) it a hai its.toArray) he ⟨hit, p⟩ (Array.getElem?_eq_some_iff.mp hu2).1 hne nef ?_
    intro x' h' tk hP ho hst hT hsz hk
    rw [hu2] at hP
    cases hP
    refine ⟨_, rfl, wpAny_letOwnedTupleGo_enum (s := { s with heap := h', toks := tk + 1 }) ho ?_⟩
    intro h'' he' sb
    have sb2 : ∀ b o, b ≠ e → h'.get? b = some o → h''.get? b = some o := fun b o hb q => (sb.2 b hb).trans q
    have hT2 := sb2 _ _ (Nat.ne_of_gt hel) hT
    have J : Inv X pins σ (upd H s.heap.objs.size (.tup [.int (i : Nat), x])) { s with heap := h'', toks := tk + 1 } :=
      I.turnedNew (ch := [e, it]) (fun b ob hb q => sb2 b ob (fun z => hb (by simp [z])) (hk b ob (fun z => hb (by simp [z])) (fun z => hb (by simp [z])) q)) hf (Nat.le_refl _)
        ⟨by show 2 ≤ sizeLine; decide, [.int i tk, u], .cons ⟨_, rfl⟩ (.cons ru .nil), ⟨_, hT2, rfl, _, rfl⟩⟩
    refine ⟨.ref s.heap.objs.size, _, J, rfl, ⟨_, x, rfl, I.hok.fresh (Nat.le_refl _), rfl, fun ys hy => by rw [I.tuple_inj hy hq]; exact hx⟩, ⟨⟨u, ?_⟩, hst.1.at (fun o q => sb2 it o (Ne.symm hne) q), hne⟩, ?_⟩
    · have e1 : ((i + 1 : Nat) : Int) = (i : Int) + 1 := by omega
      rw [e1]
      exact he'
    · intro b hb
      have lb : b < s.heap.objs.size := by
        rcases List.mem_cons.mp hb with z | z
        · rw [z]
          exact hel
        · rw [List.mem_singleton.mp z]
          exact hil
      rw [upd_ne (Nat.ne_of_lt lb)]
      exact (hf b hb).1
  done := by
    intro X hP hw hK hc i pins s σ H E I hf st hg
    subst hP hw hK
    obtain ⟨⟨old, he⟩, hit, hne⟩ := st
    obtain ⟨xs, hq, hx⟩ := hg
    obtain ⟨its, rv, p, hz⟩ := I.tuple hq
    have hai : a ≠ it := fun z => by
      obtain ⟨o, e1, c1, _⟩ := p
      obtain ⟨o2, e2, c2, d2⟩ := hit
      rw [z, e2] at e1
      cases e1
      rw [c2] at c1
      exact absurd c1 (by decide)
    obtain ⟨f0, f1, f2, f3, f4, f5⟩ := hf it (List.mem_cons_of_mem _ List.mem_cons_self)
    have hn : its.toArray.size = i := by rw [List.size_toArray, ← rv.length, hx]
    refine wpAny_pyNext_enum_endD (Draws.tuple (A := X.A.in1) (I.ok.hd hc) it a hai its.toArray) he (by rw [hn]; exact ⟨hit, p⟩) ?_
    intro h' eb
    exact ⟨rfl, I.turned (t' := s.toks) (fun b o hb q => eb b o hb q) f0 f1 f3 f4 f5⟩

set_option maxHeartbeats 4000000 in
theorem meets_enumT (l : Addr) (items : Array Value) :
    Meets (Builtin.«enumerate.__new__» ⟨[.type "enumerate", .ref l], []⟩) (fun _ R s => s.heap.IsTuple l items ∧
      R (.ok (.ret (.ref (s.heap.push { cls := .type "tuple_iterator", data := .fields #[.ref l, .int 0 0] }).objs.size)))
        { s with heap := (s.heap.push { cls := .type "tuple_iterator", data := .fields #[.ref l, .int 0 0] }).push { cls := .type "enumerate", data := .fields #[.none, .bool false, .ref s.heap.objs.size, rawInt 0, .none, .none] } }) :=
  .of_wp fun prog w A R s h => by
    obtain ⟨hp, g, d, tk, os⟩ := s
    obtain ⟨h1, h⟩ := h
    have hsub := sub_enumerate
    have q1 : ∀ {A' : Around} {E : Value → Shared → Prop} {Q : Value → Shared → Prop}, Q (.ref hp.objs.size) ⟨hp.push { cls := .type "tuple_iterator", data := .fields #[.ref l, .int 0 0] }, g, d, tk, os⟩ → wpAny (model prog w) A' (pyIter (.ref l)) Q E ⟨hp, g, d, tk, os⟩ :=
      fun q => wpAny_pyIter_tuple h1 q
    wp_walk using q1
    refine wpAny_stack_any fun st => wpAny_pure ?_
    split
    · rename_i c _ _ _ _ _
      cases (c == Value.type "enumerate")
      · wp_walk using q1
        exact ⟨_, rfl, h⟩
      · wp_walk using q1
        exact ⟨_, rfl, h⟩
    · wp_walk using q1
      exact ⟨_, rfl, h⟩
theorem call_enumT {prog : Program} {w : World} {A : Around} {E : Value → Shared → Prop} {s : Shared} {l : Addr} {items : Array Value} {Q : Value → Shared → Prop} (hL : s.heap.IsTuple l items)
    (h : ∀ h', IsEnum h' (s.heap.objs.size + 1) s.heap.objs.size 0 .none → h'.IsTupleIter s.heap.objs.size l 0 → h'.objs.size = s.heap.objs.size + 2 → (∀ b o, s.heap.get? b = some o → h'.get? b = some o) → Q (.ref (s.heap.objs.size + 1)) { s with heap := h' }) :
    wpAny (model prog w) A (call (.type "enumerate") [.ref l]) Q E s := by
  refine callType_new F.called_enumerate (by decide) (F.typeCall_enumerate_1 _) (F.newCall_enumerate_1 _) (fun obj => F.args_object_init_2 obj _) F.entry_enumerate_new (meets_enumT l items) ⟨hL, ?_⟩
  have hz : (s.heap.push { cls := .type "tuple_iterator", data := .fields #[.ref l, .int 0 0] }).objs.size = s.heap.objs.size + 1 := Heap.size_push ..
  show _ ∧ _
  rw [hz]
  generalize ho : ({ cls := .type "tuple_iterator", data := .fields #[.ref l, .int 0 0] } : Obj) = o at hz
  have g1 := Heap.get?_push_size (s.heap.push o) (o := { cls := .type "enumerate", data := .fields #[.none, .bool false, .ref s.heap.objs.size, rawInt 0, .none, .none] }) rfl
  rw [hz] at g1
  refine ⟨⟨_, g1, rfl⟩, h _ g1 ⟨o, Heap.get?_push_of_some _ (Heap.get?_push_size _ (by rw [← ho]; rfl)), by rw [← ho], by rw [← ho]; rfl⟩ (by rw [Heap.size_push, hz]) (fun b u x => Heap.get?_push_of_some _ (Heap.get?_push_of_some _ x))⟩
def iEnumB (K : PySem.W.Frag) (ta : TA) : TI := fun σ H R => ta σ H fun vs H1 => ∃ (b : Bool) (a : Addr) (xs : List V), vs = [.ref a] ∧ SqB b K H1 a xs ∧ R (IteB b K a) H1
theorem pi_enumB {X : Cx} {e : Expr} {ta : TA} {p pos tpos : Pos} {elts : List Expr} {kk : Nat} (hg : Gl X "enumerate") (hm : X.mg "enumerate" = none) (ha : PA X [e] ta) (hs : starEach [e] X.env = [(false, eval e X.env)] := by rfl) :
    PI X (.Tuple elts kk tpos) (.Call (.Name "enumerate" p) [e] [] pos) (iEnumB X.K ta) := by
  constructor
  intro pins s σ H R I h
  refine Call_ (ld_blt I hg hm boot_enumerate (PyProof.Rows.callWith_type1 (thn (ha.run pos pins s σ H _ I h) ?_) hs rfl))
  rintro us s1 ⟨vs, H1, I1, r1, b, a, xs, rfl, hq, q⟩
  obtain rfl : us = [Value.ref a] := by
    cases r1 with
    | cons r rr =>
      cases rr
      cases r
      rfl
  have fin : ∀ b, b ∈ [s1.heap.objs.size + 1, s1.heap.objs.size] → FpOk X pins H1 b := by
    intro b hb
    have hle : s1.heap.objs.size ≤ b := by
      rcases List.mem_cons.mp hb with z | z
      · rw [z]
        exact Nat.le_add_right _ _
      · rw [List.mem_singleton.mp z]
        exact Nat.le_refl _
    exact I1.fpOk hle (I1.hok.fresh hle)
  cases b with
  | true =>
    obtain ⟨its, rv, p', hz⟩ := I1.list hq
    refine call_enumerate_list p'.isList fun h' he hit hsz hk => wpAny_pyIter_enum he ?_
    exact ⟨_, _, _, _, H1, rfl, I1.kept (t' := s1.toks) hk, turn_enumL a _ _, ⟨⟨.none, he⟩, hit, Nat.succ_ne_self _⟩, fin, q⟩
  | false =>
    obtain ⟨its, rv, p', hz⟩ := I1.tuple hq
    refine call_enumT p' fun h' he hit hsz hk => wpAny_pyIter_enum he ?_
    exact ⟨_, _, _, _, H1, rfl, I1.kept (t' := s1.toks) hk, turn_enumT a _ _, ⟨⟨.none, he⟩, hit, Nat.succ_ne_self _⟩, fin, q⟩
theorem for_enumB {b : Bool} {K : PySem.W.Frag} {a : Addr} {xs : List V} {g : TG} {tb : TS} {D : Ends} {σ : L2.St} {H : Hp} (Pv : Nat → L2.St → Hp → Prop) (h0 : Pv 0 σ H) (hl : ∀ i σ H, i ≤ xs.length → Pv i σ H → SqB b K H a xs)
    (hs : ∀ i x σ H T, xs[i]? = some x → Pv i σ H → H T = none → g (.ref T) σ (upd H T (.tup [.int (i : Nat), x])) fun σ2 H2 => tb { D with nx := Pv (i + 1), ct := Pv (i + 1), bk := D.nx } σ2 H2) (hd : ∀ σ H, Pv xs.length σ H → D.nx σ H) :
    ∃ W : Nat → Nat → L2.St → Hp → Prop, (∃ m, W 0 m σ H) ∧ ∀ i m σ H, W i m σ H →
      ((IteB b K a).stop i H ∧ D.nx σ H) ∨ ((IteB b K a).go i H ∧ ∃ N : L2.St → Hp → Prop, (∀ σ' H', N σ' H' → ∃ m', m' < m ∧ W (i + 1) m' σ' H') ∧ ∀ x H', (IteB b K a).yld i H x H' → g x σ H' fun σ2 H2 => tb { D with nx := N, ct := N, bk := D.nx } σ2 H2) := by
  refine ⟨fun i m σ H => i + m = xs.length ∧ Pv i σ H, ⟨xs.length, Nat.zero_add _, h0⟩, ?_⟩
  rintro i m σ H ⟨em, p⟩
  have q := hl i σ H (by omega) p
  by_cases hi : i < xs.length
  · refine .inr ⟨⟨xs, xs[i], q, List.getElem?_eq_getElem hi⟩, Pv (i + 1), fun σ' H' p' => ⟨m - 1, by omega, by omega, p'⟩, ?_⟩
    rintro x H' ⟨T, y, rfl, hT, rfl, hy⟩
    exact hs i y σ H T (hy xs q) p hT
  · have e : i = xs.length := by omega
    subst e
    exact .inl ⟨⟨xs, q, rfl⟩, hd σ H p⟩

/-! ### comprehensions with any target -/
theorem lc_mapG {K : PySem.W.Frag} {a : Addr} {xs : List V} {g : TG} {te : TE} {vs : List Nat} {σ : L2.St} {H1 : Hp} {D : Addr} {Qd : Hp → Prop} (f : V → V) (hS : SqL K H1 a xs) (hD : H1 D = none) (hz : xs.length ≤ 100000)
    (hel : ∀ x ∈ xs, ∀ (H : Hp) (Q : VK), Keep [] H1 H → Q (f x) H → g x (wipe σ vs) H fun σ2 H2 => wipe σ2 vs = wipe σ vs ∧ te σ2 H2 Q)
    (hd : ∀ H, Keep [] H1 H → H D = some (.lst (xs.map f)) → Qd H) :
    ∃ W : Nat → Nat → Hp → Prop, (∃ m, W 0 m (upd H1 D (.lst []))) ∧ ∀ i m H, W i m H →
      ((Itl K a).stop i H ∧ Qd H) ∨ ((Itl K a).go i H ∧ ∃ Nx : Hp → Prop, (∀ H', Nx H' → ∃ m', m' < m ∧ W (i + 1) m' H') ∧ ∀ x H', (Itl K a).yld i H x H' → g x (wipe σ vs) H' fun σ2 H2 => wipe σ2 vs = wipe σ vs ∧ tYes σ2 H2 fun b H3 =>
        if b = true then te σ2 H3 fun y H4 => ∃ acc, H4 D = some (.lst acc) ∧ acc.length < sizeLine ∧ Nx (upd H4 D (.lst (acc ++ [y]))) else Nx H3) := by
  refine lc_list (xs := xs) (fun i H => Keep [] H1 H ∧ H D = some (.lst ((xs.take i).map f))) ⟨(Keep.refl [] H1).new hD, upd_same⟩ ?_ ?_ ?_
  · rintro i H _ ⟨k1, _⟩
    exact k1.sql (fun _ z => (nomatch z)) hS
  · rintro i x H hx ⟨k1, e1⟩
    refine hel x (List.mem_of_getElem? hx) H _ k1 ⟨_, e1, ?_, k1.own hD, ?_⟩
    · rw [List.length_map, List.length_take]
      exact lt_size' (by have := (List.getElem?_eq_some_iff.mp hx).1; omega)
    · rw [upd_same, List.take_add_one, hx, List.map_append]
      rfl
  · rintro H ⟨k1, e1⟩
    rw [List.take_length] at e1
    exact hd H k1 e1
end GL
set_option Elab.async false
set_option linter.all false
set_option maxRecDepth 100000
set_option maxHeartbeats 2000000
set_option exponentiation.threshold 10000
/-! What repr asks of data. -/
namespace GL
open PySem PySem.Spec PyProof.Rows L2
structure Show (d : PyData) : Prop where
  s : d.showable = true
  n : d.hasDict = false
  z : d.shown.length ≤ sizeLine
  dp : d.depth ≤ 60
theorem rRepr_of {K : PySem.W.Frag} {H : Hp} {a : Addr} {d : PyData} {Q : VK} (h : Dp K H (.ref a) d) (s : Show d) (q : Q (.str d.shown) H) : rRepr K [.ref a] H Q := ⟨a, d, rfl, h, s.s, s.n, s.dp, s.z, q⟩
/-- an int of not too many figures -/
def Fine (i : Int) : Prop := i.natAbs < 2 ^ 1900
theorem Fine.log {i : Int} (h : Fine i) : i.natAbs.log2 < 1920 := log2_small (Nat.lt_trans h (by decide))
theorem Fine.len {i : Int} (h : Fine i) : (PyData.shown (.int i)).length ≤ 600 := by
  have e := int_text_length_le10 (k := 599) (a := i) (by decide) (Nat.lt_trans h (by decide))
  show (Str.ofString (toString i)).length ≤ 600
  rw [PySem.ofString_length]
  exact e
theorem Fine.of {i : Int} (h0 : 0 ≤ i) (h : i < 2 ^ 1900) : Fine i := by
  unfold Fine
  have e : ((2 ^ 1900 : Nat) : Int) = (2 : Int) ^ 1900 := by simp
  omega
theorem leaves_ints : ∀ ns : List Int, (∀ n ∈ ns, Fine n) → PyData.leavesShortAll 600 (ns.map PyData.int) = true
  | [], _ => rfl
  | n :: r, h => by
    have h1 : PyData.leavesShort 600 (.int n) = true := decide_eq_true (h n List.mem_cons_self).len
    have h2 := leaves_ints r (fun m hm => h m (List.mem_cons_of_mem _ hm))
    simp only [List.map_cons, PyData.leavesShortAll, h1, h2, Bool.and_true]
theorem bulk_ints : ∀ ns : List Int, PyData.bulkAll (ns.map PyData.int) = ns.length
  | [] => rfl
  | n :: r => by
    simp only [List.map_cons, PyData.bulkAll, PyData.bulk, bulk_ints r, List.length_cons]
    omega
theorem noDict_ints : ∀ ns : List Int, PyData.hasDictAll (ns.map PyData.int) = false
  | [] => rfl
  | n :: r => by
    simp only [List.map_cons, PyData.hasDictAll, PyData.hasDict, noDict_ints r, Bool.or_false]
theorem depth_ints : ∀ ns : List Int, PyData.depthAll (ns.map PyData.int) = 0
  | [] => rfl
  | n :: r => by
    simp only [List.map_cons, PyData.depthAll, PyData.depth, depth_ints r, Nat.max_self]
theorem show_of {d : PyData} (h1 : d.showable = true) (h2 : d.hasDict = false) (h3 : d.depth ≤ 60) (h4 : d.leavesShort 600 = true) (h5 : d.bulk ≤ 20000) : Show d := by
  refine ⟨h1, h2, ?_, h3⟩
  have h := PyData.shown_le_bulk 600 (by decide) d h4
  have e : 13000000 ≤ sizeLine := by decide
  omega
theorem show_ints {ns : List Int} (h : ∀ n ∈ ns, Fine n) (hl : ns.length ≤ 1000) : Show (.tuple (ns.map PyData.int)) := by
  refine show_of ?_ ?_ ?_ ?_ ?_
  · simp only [PyData.showable]
    exact PyData.showableAll_ints ns (fun n hn => (h n hn).log)
  · simp only [PyData.hasDict, noDict_ints]
  · simp only [PyData.depth, depth_ints]
    omega
  · simp only [PyData.leavesShort, leaves_ints ns h]
  · simp only [PyData.bulk, bulk_ints]
    omega
/-- a tuple of a tuple of ints and an int -/
theorem show_split {ns : List Int} {t : Int} (h : ∀ n ∈ ns, Fine n) (ht : Fine t) (hl : ns.length ≤ 1000) : Show (.tuple [.tuple (ns.map PyData.int), .int t]) := by
  refine show_of ?_ ?_ ?_ ?_ ?_
  · simp only [PyData.showable, PyData.showableAll, PyData.showableAll_ints ns (fun n hn => (h n hn).log), decide_eq_true ht.log, Bool.and_self]
  · simp only [PyData.hasDict, PyData.hasDictAll, noDict_ints, Bool.or_self]
  · simp only [PyData.depth, PyData.depthAll, depth_ints]
    decide
  · have h1 : decide ((PyData.shown (.int t)).length ≤ 600) = true := decide_eq_true ht.len
    simp only [PyData.leavesShort, PyData.leavesShortAll, leaves_ints ns h, h1, Bool.and_self]
  · simp only [PyData.bulk, PyData.bulkAll, bulk_ints]
    omega
theorem dpAll_ints {K : PySem.W.Frag} {H : Hp} : ∀ ns : List Int, DpAll K H (ns.map V.int) (ns.map PyData.int)
  | [] => .nil
  | x :: r => .cons (.int x) (dpAll_ints r)
theorem dp_split {K : PySem.W.Frag} {H : Hp} {s t : Addr} {ns : List Int} {m : Int} (hs : SqT K H s [.ref t, .int m]) (ht : SqT K H t (ns.map V.int)) : Dp K H (.ref s) (.tuple [.tuple (ns.map PyData.int), .int m]) :=
  .tup hs (.cons (.tup ht (dpAll_ints ns)) (.cons (.int m) .nil))
end GL
set_option Elab.async false
set_option linter.all false
set_option maxRecDepth 100000
set_option maxHeartbeats 2000000
/-! sorted(d) of a dict whose keys are pairs of ints. -/
namespace GL
open PySem PySem.Spec PyProof.Rows L2
/-- the dict at d, by its entries -/
def RawD (h : Heap) (d : Addr) (es : Array DictEntry) (ep : Nat) : Prop := ∃ o, h.get? d = some o ∧ o.ExactDict ∧ o.data = .dict es ep
theorem walks_raw {prog : Program} {w : World} {A : Around} (hh : A.handled = none) (it d : Addr) (hne : d ≠ it) (es : Array DictEntry) (ep : Nat) :
    Walks prog w A it [it, d] [it] es.size (fun i v => ∃ en, es[i]? = some en ∧ v = en.key) (fun i h => h.IsKeyIter it d i es.size ep ∧ RawD h d es ep) where
  sub := fun b hb => by rw [List.mem_singleton.mp hb]; exact List.mem_cons_self
  frame := fun i h h' st k => ⟨st.1.at (fun o e => k it List.mem_cons_self o e), let ⟨o, e, r⟩ := st.2; ⟨o, k d (List.mem_cons_of_mem _ List.mem_cons_self) o e, r⟩⟩
  item := by
    rintro i s Q E hi ⟨st, o, ho, hx, hd⟩ hQ
    refine next_key_item st ho hd rfl (Array.getElem?_eq_getElem hi) ?_
    intro h' st' sb
    have kp : ∀ b u, b ∉ [it] → s.heap.get? b = some u → h'.get? b = some u := fun b u hb e => (sb.2 b (fun z => hb (List.mem_singleton.mpr z))).trans e
    exact hQ _ h' s.toks ⟨_, Array.getElem?_eq_getElem hi, rfl⟩ ⟨st', o, kp d o (fun z => hne (List.mem_singleton.mp z)) ho, hx, hd⟩ kp
  done := by
    rintro s Q E ⟨st, o, ho, hx, hd⟩ hQ
    exact next_key_end hh st ho hd rfl (Nat.le_refl _) fun h' eb => hQ h' s.toks fun b u hb e => eb b u (fun z => hb (List.mem_singleton.mpr z)) e
  self := fun i s Q E st h => wpAny_pyIter_keyiter st.1 h
theorem src_raw {prog : Program} {w : World} {d : Addr} (es : Array DictEntry) (ep : Nat) (lo : (d == sysModules) = false) : PySem.W.KdlSrc prog w "dict" d d es.size (fun i v => ∃ en, es[i]? = some en ∧ v = en.key) (fun h => RawD h d es ep) where
  type := fun _ ⟨o, ho, hx, _⟩ => ⟨o, ho, hx.1⟩
  there := fun _ ⟨o, ho, _⟩ => ⟨Heap.lt_size ho, Heap.lt_size ho⟩
  keep := fun _ _ ⟨o, ho, r⟩ hk => ⟨o, hk d (.inl rfl) o ho, r⟩
  notList := by decide
  notTuple := by decide
  hint := fun _ _ _ _ ⟨o, ho, hx, _⟩ hq => PySem.W.kdl_hint_dict ⟨o, ho, hx.1⟩ hq
  iter := fun _ s hh ⟨o, ho, hx, hd⟩ => ⟨_, _, (fun _ _ hq => iter_keys lo ho hx hd hq), walks_raw hh _ d (Nat.ne_of_lt (Heap.lt_size ho)) es ep, ⟨⟨_, Heap.get?_push_size _ rfl, rfl, rfl⟩, o, Heap.get?_push_of_some _ ho, hx, hd⟩⟩
/-- the two ints of the pair at a -/
def pairAt (H : Hp) (v : Value) : Int × Int := match v with
  | .ref q => (match H q with
    | some (.tup [.int i, .int j]) => (i, j)
    | _ => (0, 0))
  | _ => (0, 0)
theorem pairAt_ref {H : Hp} {q : Addr} {p : Int × Int} (h : H q = some (.tup [.int p.1, .int p.2])) : pairAt H (.ref q) = p := by
  show (match H q with
    | some (.tup [.int i, .int j]) => (i, j)
    | _ => (0, 0)) = p
  rw [h]
def key2 (p : Int × Int) : List Key := [.inl p.1, .inl p.2]
/-- sorted(d): the keys' own tuples, in rising order -/
def rSortedDT : List V → Hp → VK → Prop := fun vs H Q => ∃ (a : Addr) (kvs : List (List Key × V)) (ps : List (Int × Int)), vs = [.ref a] ∧ H a = some (.dT kvs) ∧ kvs.map (·.1) = ps.map key2 ∧
  ∀ (es : List (Addr × (Int × Int))) (p : Addr), (es.map (·.2)).Perm ps → (es.map (·.2)).Pairwise (fun x y => SrtO.lexB y x = false) → (∀ e ∈ es, H e.1 = some (.tup [.int e.2.1, .int e.2.2])) → H p = none → Q (.ref p) (upd H p (.lst (es.map fun e => V.ref e.1)))
theorem cr_sortedDT {X : Cx} (hc : X.calm = true) : CallR X (.builtin "sorted") rSortedDT := by
  rintro pins s σ H vs us Q I r ⟨a, kvs, ps, rfl, hd, hk, q⟩
  obtain ⟨u, rfl, ru⟩ := vals1 r
  obtain rfl : u = Value.ref a := ru
  obtain ⟨z, lo, xs, pr, o, es, ep, ho, hx, hdt, he, _⟩ := I.hok a _ hd
  have n1 : es.size = kvs.length := (size_of_entries he).trans (Paired.length pr).symm
  have n2 : kvs.length = ps.length := by
    have := congrArg List.length hk
    rw [List.length_map, List.length_map] at this
    exact this
  -- the i-th entry's key
  have ent : ∀ (i : Nat) (en : DictEntry), es[i]? = some en → ∃ (q : Addr) (p : Int × Int), en.key = .ref q ∧ ps[i]? = some p ∧ H q = some (.tup [.int p.1, .int p.2]) := by
    intro i en hen
    have hi : i < es.size := (Array.getElem?_eq_some_iff.mp hen).1
    obtain ⟨kv, ekv⟩ : ∃ kv, kvs[i]? = some kv := ⟨kvs[i]'(by omega), List.getElem?_eq_getElem _⟩
    obtain ⟨b, hb, e1, e2, _⟩ := paired_get pr ekv
    have qe := entry_at he i
    rw [hb, hen] at qe
    have ek : (kvs.map (·.1))[i]? = some kv.1 := by rw [List.getElem?_map, ekv]; rfl
    rw [hk, List.getElem?_map] at ek
    obtain ⟨p, hp, ep2⟩ := Option.map_eq_some_iff.mp ek
    refine ⟨b.2.1, p, ?_, hp, ?_⟩
    · have := Option.some.inj qe
      rw [this]
      rfl
    · rw [e2, ← ep2]
      rfl
  have h16 : es.size ≤ sizeLine := by rw [n1]; exact z
  refine Calls.call_function_entry PyProof.Rows.kind_sorted PyProof.Rows.plain_sorted PyProof.Rows.entry_sorted (PyProof.Rows.args_sorted1 _) ?_
  unfold Builtin.«sorted»
  refine wpAny_bind (m := checkCount "sorted" 1 1 _) (wpAny_pure ?_)
  refine wpAny_bind (PySem.W.kdu_collect (A := X.A.in1) (src_raw es ep lo) (I.ok.hd hc) ⟨o, ho, hx, hdt⟩ h16 fun h' tk acc kp hacc => ?_)
  have hal : acc.toList.length = es.size := by rw [Array.length_toList, hacc.1]
  have I1 : Inv X pins σ H { s with heap := h', toks := tk } := I.kept kp
  have each : ∀ (j : Nat) (v : Value), acc.toList[j]? = some v → ∃ (q : Addr) (p : Int × Int), v = .ref q ∧ ps[j]? = some p ∧ H q = some (.tup [.int p.1, .int p.2]) := by
    intro j v e
    obtain ⟨en, h1, rfl⟩ := hacc.2 j v (by rw [← Array.getElem?_toList]; exact e)
    exact ent j en h1
  have pairIs : ∀ v ∈ acc.toList, ∃ q p, v = .ref q ∧ H q = some (.tup [.int (p : Int × Int).1, .int p.2]) ∧ pairAt H v = p := by
    intro v hv
    obtain ⟨j, hj, rfl⟩ := List.getElem_of_mem hv
    obtain ⟨q, p, e1, _, e3⟩ := each j _ (List.getElem?_eq_getElem hj)
    refine ⟨q, p, e1, e3, ?_⟩
    rw [e1]
    exact pairAt_ref e3
  refine wpAny_bind (wpAny_newList ?_ (by rw [hal]; exact h16))
  have hoL : (h'.push (seqObj "list" acc.toList.toArray 0)).get? h'.objs.size = some (seqObj "list" acc.toList.toArray 0) := Heap.get?_push_size _ rfl
  show wpAny _ _ _ _ _ { s with heap := h'.push (seqObj "list" acc.toList.toArray 0), toks := tk }
  have isP : ∀ v ∈ acc.toList, Srt.IsPair (h'.push (seqObj "list" acc.toList.toArray 0)) v (pairAt H v).1 (pairAt H v).2 := by
    intro v hv
    obtain ⟨q, p, rfl, e2, e3⟩ := pairIs v hv
    rw [e3]
    obtain ⟨_, its, r2, o2, ho2, hc2, n, hd2⟩ := I1.hok q _ e2
    obtain ⟨u1, u2, rfl, ri, rj⟩ := vals2 r2
    obtain ⟨t1, rfl⟩ := ri
    obtain ⟨t2, rfl⟩ := rj
    exact ⟨q, o2, t1, t2, n, rfl, Heap.get?_push_of_some _ ho2, hc2, hd2⟩
  refine wpAny_bind (wpAny_holding (wpAny_call_entry PyProof.Rows.slot_list_sort ⟨_, hoL, rfl⟩ PyProof.Rows.entry_list_sort
    (SrtO.list_sort_ord (s := { s with heap := h'.push (seqObj "list" acc.toList.toArray 0), toks := tk }) (SrtO.swo_lex (pairAt H)) hoL (by rw [hal]; exact h16) (fun h2 => SrtO.pairs_sortableO (by omega) isP (fun o e => ?_)) fun out hs hb => ⟨_, rfl, ?_⟩) (PyProof.Rows.args_list_sort _)))
  · rw [hoL] at e
    cases e
    intro z2
    have z3 : Value.type "list" = Value.type "tuple" := z2
    exact absurd z3 (by decide)
  · obtain ⟨e', he'⟩ := PyProof.Rows.sortedHeap_at (vs := acc.toList) (out := out.toArray) hoL
    have pm := hb.perm
    have ol : out.length = es.size := by rw [pm.length_eq, hal]
    have inA : ∀ v ∈ out, v ∈ acc.toList := fun v hv => pm.mem_iff.mp hv
    let E : List (Addr × (Int × Int)) := out.map fun v => (match v with | .ref q => q | _ => 0, pairAt H v)
    have eV : ∀ l : List Value, (∀ v ∈ l, v ∈ acc.toList) → Vals ((l.map fun v => ((match v with | .ref q => q | _ => 0, pairAt H v) : Addr × (Int × Int))).map fun e => V.ref e.1) l := by
      intro l
      induction l with
      | nil => intro _; exact .nil
      | cons v l ih =>
        intro hv
        refine .cons ?_ (ih fun x hx => hv x (List.mem_cons_of_mem _ hx))
        obtain ⟨q, p, rfl, _, _⟩ := pairIs v (hv v List.mem_cons_self)
        exact rfl
    have accP : acc.toList.map (pairAt H) = ps := by
      refine List.ext_getElem? fun j => ?_
      rw [List.getElem?_map]
      by_cases hj : j < acc.toList.length
      · obtain ⟨q, p, e1, e2, e3⟩ := each j _ (List.getElem?_eq_getElem hj)
        rw [List.getElem?_eq_getElem hj, e2, e1]
        show some (pairAt H (.ref q)) = some p
        rw [pairAt_ref e3]
      · rw [List.getElem?_eq_none (by omega), List.getElem?_eq_none (by omega)]
        rfl
    have E2 : E.map (·.2) = out.map (pairAt H) := by
      show (out.map _).map _ = _
      rw [List.map_map]
      rfl
    refine wpAny_pure ⟨_, rfl, .ref h'.objs.size, upd H h'.objs.size (.lst (E.map fun e => V.ref e.1)), I1.laid (t' := tk) (fun b u e => ?_) (Nat.le_refl _)
      (show ObjOk X.prog X.w _ _ _ (.lst (E.map fun e => V.ref e.1)) from ⟨?_, out, e', eV out inA, he'⟩), rfl, q E _ ?_ ?_ ?_ (I1.hok.fresh (Nat.le_refl _))⟩
    · have hb2 : b < h'.objs.size := Heap.lt_size e
      rw [PyProof.Rows.sortedHeap_old (Nat.ne_of_lt hb2) (by rw [size_push']; exact Nat.lt_succ_of_lt hb2)]
      exact Heap.get?_push_of_some _ e
    · show ((out.map _).map _).length ≤ sizeLine
      rw [List.length_map, List.length_map, ol]
      exact h16
    · rw [E2, ← accP]
      exact pm.map _
    · rw [E2, List.pairwise_map]
      exact hs
    · intro e hem
      obtain ⟨v, hv, rfl⟩ := List.mem_map.mp hem
      obtain ⟨q, p, rfl, e2, e3⟩ := pairIs v (inA v hv)
      show H q = some (.tup [.int (pairAt H (.ref q)).1, .int (pairAt H (.ref q)).2])
      rw [e3]
      exact e2
end GL
set_option Elab.async false
set_option linter.all false
set_option maxRecDepth 100000
set_option maxHeartbeats 2000000
set_option exponentiation.threshold 10000
namespace GL
open PySem PySem.Spec PyProof.Rows L2
/-- a def by its body, the code object known -/
theorem okC {P : Program} {w : World} {K : PySem.W.Frag} {mg : Str → Option Value} {base : Heap} {k : Nat} {f : Addr} {fd : FuncData} {ps : List Str} {sp : Sp}
    {x qual : Str} {params : Arguments} {body : List Stmt} {scope : Scope} {dvs : List V} {kws : List (Str × V)} {N : List Str} (F : FunD K x qual params body scope dvs kws f fd) (S : FnScope N ps scope)
    (len : ∀ vs H Q E, sp vs H Q E → vs.length = ps.length)
    (hbody : ∀ (cdv : Value) (A : Around) (outer : List Env) (s : Shared) (H : Hp) (vs : List V) (Q : VK) (E : XK), fd.code = cdv →
      Room k (A.deeper (envOfC qual scope s.heap.objs.size f cdv)) → sp vs H Q E →
      ∃ t, PSs (cxOf CX0 P w K mg base N qual scope f cdv A outer s H E).nox body t ∧ t { nx := fun _ H' => Q .non H', rt := Q } (start N vs) H) :
    FnOk P w K mg base CX0 (k + 1) f fd ps sp := by
  obtain ⟨oc, od, dV, kV, doc, pm, an, cdv, ct, osl, rfl, lk, hcd, _, _⟩ := F.ex
  refine fn_of lk hcd S len ?_
  intro A outer s H vs Q E hr hsp
  obtain ⟨t, ht, hq⟩ := hbody cdv A outer s H vs Q E rfl hr hsp
  exact ⟨t, ht.nox, hq⟩
/-- the scope of a generator expression that captures cells of its def alone -/
theorem genS_mk {qual : Str} {sc scope : Scope} {n : Nat} {f : Addr} {cdv : Value} {x : Str} (h1 : scope.kind = .function) (h2 : scope.isCoroutine = false) (h3 : scope.names.all (fun y => decide (y.2 ≠ .cell)) = true)
    (h4 : scope.names.lookup (".0" : Str) = some NameKind.local) (h5 : scope.names.lookup x = some .local) (h6 : scope.names.all (fun y => decide (y.2 ≠ .free) || decide (sc.names.lookup y.1 = some .cell)) = true) :
    GxR.GenS (envOfC qual sc n f cdv) scope x := by
  refine ⟨h1, h2, fun y hy => of_decide_eq_true (List.all_eq_true.mp h3 y hy), h4, h5, fun y hy hf => ?_⟩
  have h := List.all_eq_true.mp h6 y hy
  rw [hf, Bool.or_eq_true] at h
  rcases h with h | h
  · exact absurd rfl (of_decide_eq_true h)
  · exact cell_has (of_decide_eq_true h)
section
variable {X : Cx}
theorem tuple_mul1 (l : Addr) (items : Array Value) (n : Nat) (dd : Option Addr) (sl : Array (Option Value)) (u : Tok) :
    Meets (Builtin.«tuple.__mul__» ⟨[.ref l, .int 1 u], []⟩) (fun _ R s => s.heap.get? l = some { cls := .type "tuple", dict := dd, data := .seq items n, slots := sl } ∧ R (.ok (.ret (Value.ref l))) s) :=
  .of_wp fun prog w A R s h => by
    obtain ⟨hp, g, d, tk, os⟩ := s
    obtain ⟨hl, h⟩ := h
    have f1 := AutoSeq1.idx_int
    wp_walk using wpAny_loadPart' hl
    repeat (first
      | (refine wpAny_ite_false (decide_eq_false (by decide)) ?_; wp_walk using wpAny_loadPart' hl)
      | (refine wpAny_ite_true (decide_eq_true (by rw [show ((1 : Int) == 1) = true from rfl, Bool.or_true])) ?_; wp_walk using wpAny_loadPart' hl))
    exact ⟨_, rfl, h⟩
/-- t * k, k from 1 on -/
def rRepA (K : PySem.W.Frag) : R2 := fun x y H Q => ∃ l k xs, x = .ref l ∧ y = .int k ∧ SqT K H l xs ∧ xs ≠ [] ∧ 1 ≤ k ∧ k ≤ 1000 ∧ xs.length ≤ 1000 ∧ (k = 1 → Q (.ref l) H) ∧ (2 ≤ k → ∀ p, H p = none → Q (.ref p) (upd H p (.tup (List.replicate k.toNat xs).flatten)))
theorem op_repA : OpR X (binaryOp .Mult) (rRepA X.K) := by
  intro pins s σ H x y v u Q I rx ry h
  obtain ⟨l, k, xs, rfl, rfl, hT, hne, h1, h2, hz, q1, q2⟩ := h
  by_cases e : k = 1
  · subst e
    cases rx
    obtain ⟨t, rfl⟩ := ry
    obtain ⟨its, r, ⟨⟨cls, dd, data, sl⟩, ho, hc, n, hd⟩, hs⟩ := I.tuple hT
    simp only at hc hd
    subst hc hd
    refine wpAny_binaryOp_repeat_ref (T := "tuple") (U := "int") (by decide) ⟨_, ho, rfl⟩ (fun s' => typeIs_int s' 1 t) noFill_tuple_mul F.fills_int_mul F.slot_int_rmul repeat_tuple F.slot_int_index.lookup
      (call_meets F.slot_int_rmul (typeIs_int s 1 t) F.entry_int_rmul (F.args_int_rmul_2 _ _) (int_rmul_tuple 1 t l its.toArray n dd sl)
        ⟨ho, rfl, ⟨_, ho, rfl⟩, call_meets F.slot_tuple_mul ⟨_, ho, rfl⟩ F.entry_tuple_mul (F.args_tuple_mul_2 _ _) (tuple_mul1 l its.toArray n dd sl t) ⟨ho, ?_⟩⟩)
    exact ⟨.ref l, H, I, rfl, q1 rfl⟩
  · exact op_repT pins s σ H _ _ v u Q I rx ry ⟨l, k, xs, rfl, rfl, hT, hne, by omega, h2, hz, q2 (by omega)⟩
end
end GL
set_option Elab.async false
set_option linter.all false
set_option maxRecDepth 100000
set_option maxHeartbeats 2000000
set_option exponentiation.threshold 10000
/-! Texts that are short; data that repr shows, put together of parts. -/
namespace GL
open PySem PySem.Spec PyProof.Rows L2
structure Lo (n : Nat) (s : Str) : Prop where
  len : s.cps.size ≤ n
  chars : ∀ c ∈ s.cps.toList, c < 16 ^ 8
theorem Lo.mono {n m : Nat} {s : Str} (h : Lo n s) (l : n ≤ m) : Lo m s := ⟨Nat.le_trans h.len l, h.chars⟩
theorem Lo.app {n m : Nat} {s t : Str} (a : Lo n s) (b : Lo m t) : Lo (n + m) (s ++ t) := by
  have e : (s ++ t).cps = s.cps ++ t.cps := rfl
  refine ⟨?_, fun c hc => ?_⟩
  · rw [e, Array.size_append]
    have := a.len
    have := b.len
    omega
  · rw [e, Array.toList_append] at hc
    rcases List.mem_append.mp hc with z | z
    · exact a.chars c z
    · exact b.chars c z
theorem Lo.one {c : Nat} (h : c < 16 ^ 8) : Lo 1 ⟨#[c]⟩ := ⟨Nat.le_refl _, fun x hx => by
  rw [List.mem_singleton.mp hx]
  exact h⟩
theorem Lo.fold (g : Str) (hg : g.cps = #[]) : ∀ (ps : List Str) (acc : Array Nat) (n : Nat), (∀ p ∈ ps, Lo 1 p) → Lo n ⟨acc⟩ → Lo (n + ps.length) ⟨ps.foldl (fun acc p => acc ++ g.cps ++ p.cps) acc⟩
  | [], acc, n, _, h => h
  | p :: r, acc, n, hp, h => by
    have h1 : Lo (n + 1) ⟨acc ++ g.cps ++ p.cps⟩ := by
      rw [hg, Array.append_empty]
      exact h.app (hp p List.mem_cons_self)
    have h2 := Lo.fold g hg r _ _ (fun q hq => hp q (List.mem_cons_of_mem _ hq)) h1
    rw [List.length_cons, Nat.add_comm r.length, ← Nat.add_assoc]
    exact h2
theorem Lo.join (g : Str) (hg : g.cps = #[]) (ps : List Str) (h : ∀ p ∈ ps, Lo 1 p) : Lo ps.length (Txt.join g ps) := by
  cases ps with
  | nil => exact ⟨Nat.le_refl _, fun c hc => (nomatch hc)⟩
  | cons p r =>
    have h1 : Lo 1 p := h p List.mem_cons_self
    have h2 := Lo.fold g hg r p.cps 1 (fun q hq => h q (List.mem_cons_of_mem _ hq)) h1
    rw [List.length_cons, Nat.add_comm]
    exact h2
theorem cut_map {α : Type} (f : α → V) (ws : List α) (lo hi : Option Int) : ∃ ys : List α, cutV (ws.map f) lo hi = ys.map f ∧ (∀ s ∈ ys, s ∈ ws) ∧ ys.length ≤ ws.length := by
  refine ⟨(ws.drop (HT.sIx (ws.map f).length 0 lo)).take (HT.sIx (ws.map f).length (ws.map f).length hi - HT.sIx (ws.map f).length 0 lo), ?_, fun s hs => List.mem_of_mem_drop (List.mem_of_mem_take hs), ?_⟩
  · unfold cutV
    rw [List.map_take, List.map_drop]
  · rw [List.length_take, List.length_drop]
    omega
theorem sum_one {ys : List Str} (h : ∀ s ∈ ys, Lo 1 s) : (ys.map (·.length)).sum ≤ ys.length := by
  induction ys with
  | nil => exact Nat.le_refl _
  | cons y r ih =>
    have h1 : y.length ≤ 1 := (h y List.mem_cons_self).len
    have h2 := ih (fun s hs => h s (List.mem_cons_of_mem _ hs))
    rw [List.map_cons, List.sum_cons, List.length_cons]
    omega
/-! ### what repr shows -/
structure Sm (k n : Nat) (d : PyData) : Prop where
  s : d.showable = true
  nd : d.hasDict = false
  dp : d.depth ≤ k
  z : d.leavesShort 600 = true
  b : d.bulk ≤ n
structure SmAll (k n : Nat) (ds : List PyData) : Prop where
  s : PyData.showableAll ds = true
  nd : PyData.hasDictAll ds = false
  dp : PyData.depthAll ds ≤ k
  z : PyData.leavesShortAll 600 ds = true
  b : PyData.bulkAll ds ≤ n
theorem Sm.mono {k k' n n' : Nat} {d : PyData} (h : Sm k n d) (h1 : k ≤ k') (h2 : n ≤ n') : Sm k' n' d := ⟨h.s, h.nd, Nat.le_trans h.dp h1, h.z, Nat.le_trans h.b h2⟩
theorem SmAll.mono {k k' n n' : Nat} {d : List PyData} (h : SmAll k n d) (h1 : k ≤ k') (h2 : n ≤ n') : SmAll k' n' d := ⟨h.s, h.nd, Nat.le_trans h.dp h1, h.z, Nat.le_trans h.b h2⟩
theorem Sm.int {i : Int} (h : Fine i) : Sm 0 0 (.int i) := ⟨decide_eq_true h.log, rfl, Nat.le_refl _, decide_eq_true h.len, Nat.le_refl _⟩
theorem Sm.str {n : Nat} {s : Str} (h : Lo n s) : Sm 0 n (.str s) := by
  refine ⟨rfl, rfl, Nat.le_refl _, ?_, h.len⟩
  simp only [PyData.leavesShort, List.all_eq_true, decide_eq_true_eq]
  exact h.chars
theorem SmAll.nil : SmAll 0 0 [] := ⟨rfl, rfl, Nat.le_refl _, rfl, Nat.le_refl _⟩
theorem SmAll.cons {k n m : Nat} {d : PyData} {ds : List PyData} (a : Sm k n d) (b : SmAll k m ds) : SmAll k (n + 1 + m) (d :: ds) := by
  refine ⟨?_, ?_, ?_, ?_, ?_⟩
  · simp only [PyData.showableAll, a.s, b.s, Bool.and_self]
  · simp only [PyData.hasDictAll, a.nd, b.nd, Bool.or_self]
  · have := a.dp
    have := b.dp
    simp only [PyData.depthAll]
    omega
  · simp only [PyData.leavesShortAll, a.z, b.z, Bool.and_self]
  · have := a.b
    have := b.b
    simp only [PyData.bulkAll]
    omega
theorem SmAll.map {α : Type} {k n : Nat} {f : α → PyData} : ∀ {xs : List α}, (∀ x ∈ xs, Sm k n (f x)) → SmAll k (xs.length * (n + 1)) (xs.map f)
  | [], _ => SmAll.nil.mono (Nat.zero_le _) (Nat.zero_le _)
  | x :: r, h => by
    have h2 := SmAll.cons (h x List.mem_cons_self) (SmAll.map (fun y hy => h y (List.mem_cons_of_mem _ hy)))
    rw [List.length_cons, Nat.add_mul, Nat.one_mul, Nat.add_comm]
    exact h2
theorem Sm.tup {k n : Nat} {ds : List PyData} (h : SmAll k n ds) : Sm (k + 1) n (.tuple ds) := by
  refine ⟨?_, ?_, ?_, ?_, ?_⟩
  · simp only [PyData.showable, h.s]
  · simp only [PyData.hasDict, h.nd]
  · have := h.dp
    simp only [PyData.depth]
    omega
  · simp only [PyData.leavesShort, h.z]
  · simp only [PyData.bulk]
    exact h.b
theorem Sm.lst {k n : Nat} {ds : List PyData} (h : SmAll k n ds) : Sm (k + 1) n (.list ds) := by
  refine ⟨?_, ?_, ?_, ?_, ?_⟩
  · simp only [PyData.showable, h.s]
  · simp only [PyData.hasDict, h.nd]
  · have := h.dp
    simp only [PyData.depth]
    omega
  · simp only [PyData.leavesShort, h.z]
  · simp only [PyData.bulk]
    exact h.b
theorem Sm.show {k n : Nat} {d : PyData} (h : Sm k n d) (h1 : k ≤ 60) (h2 : n ≤ 20000) : Show d := show_of h.s h.nd (Nat.le_trans h.dp h1) h.z (Nat.le_trans h.b h2)
/-! ### slices, sums of tuples, by what stands behind -/
def rSlH : V → Option Int → Option Int → Hp → VK → Prop := fun x lo hi H Q => ∃ a xs, x = .ref a ∧ H a = some (.tup xs) ∧ ∀ p H', Keep [] H H' → H' p = some (.tup (cutV xs lo hi)) → Q (.ref p) H'
theorem cut_whole {xs : List V} {lo hi : Option Int} (h : HT.sIx xs.length 0 lo = 0 ∧ HT.sIx xs.length xs.length hi = xs.length) : cutV xs lo hi = xs := by
  unfold cutV
  rw [h.1, h.2, List.drop_zero, Nat.sub_zero, List.take_length]
theorem sl_tupH {X : Cx} : SlR X rSlH := by
  intro pins s σ H x v vl vu lo hi sl Q I rx hs pl pu h
  obtain ⟨a, xs, rfl, hx, q⟩ := h
  exact sl_tupA pins s σ H _ v vl vu lo hi sl Q I rx hs pl pu ⟨a, xs, rfl, .of hx, fun hw => q a H (Keep.refl [] H) (by rw [cut_whole hw]; exact hx), fun _ p np => q p _ ((Keep.refl [] H).new np) upd_same⟩
def rCatH : R2 := fun x y H Q => ∃ a b xs ys, x = .ref a ∧ y = .ref b ∧ H a = some (.tup xs) ∧ H b = some (.tup ys) ∧ xs.length + ys.length ≤ sizeLine ∧ ∀ p H', Keep [] H H' → H' p = some (.tup (xs ++ ys)) → Q (.ref p) H'
theorem op_catH {X : Cx} : OpR X (binaryOp .Add) rCatH := by
  intro pins s σ H x y v u Q I rx ry h
  obtain ⟨a, b, xs, ys, rfl, rfl, ha, hb, hz, q⟩ := h
  refine op_catA pins s σ H _ _ v u Q I rx ry ⟨a, b, xs, ys, rfl, rfl, .of ha, .of hb, hz, fun e => q b H (Keep.refl [] H) (by rw [e]; exact hb), fun _ e => q a H (Keep.refl [] H) (by rw [e, List.append_nil]; exact ha), fun _ _ p np => q p _ ((Keep.refl [] H).new np) upd_same⟩
theorem dpAll_strs {K : PySem.W.Frag} {H : Hp} : ∀ ns : List Str, DpAll K H (ns.map V.str) (ns.map PyData.str)
  | [] => .nil
  | x :: r => .cons (.str x) (dpAll_strs r)
end GL
set_option Elab.async false
set_option linter.all false
set_option maxRecDepth 100000
set_option maxHeartbeats 2000000
/-! xs[i] += e, of a list. -/
namespace GL
open PySem PySem.Spec PyProof.Rows L2
section
variable {X : Cx}
def rGetL (K : PySem.W.Frag) : V → V → Hp → VK → Prop := fun x y H Q => ∃ p xs i v, x = .ref p ∧ y = .int i ∧ 0 ≤ i ∧ SqL K H p xs ∧ atI xs i = some v ∧ Q v H
theorem get_list : PGet X (rGetL X.K) := by
  intro pins s σ H x y v u Q I rx ry h
  obtain ⟨p, xs, i, z, rfl, rfl, h0, hq, he, q⟩ := h
  cases rx
  obtain ⟨t, rfl⟩ := ry
  obtain ⟨its, r, pl, hz⟩ := I.list hq
  obtain ⟨j, h1, h2, h3, h4, h5⟩ := atI_get he
  obtain ⟨w, ew, rw'⟩ := r.get h2
  have hl := r.length
  have hn := line63
  have hj : i.toNat = j := by
    rw [seqIndex_of h0 h5] at h1
    exact Option.some.inj h1
  exact wpAny_getItem_list pl.isList h0 (by omega) (by rw [hj]; simpa using ew) ⟨z, H, I, rw', q⟩
end
end GL
set_option Elab.async false
set_option linter.all false
set_option maxRecDepth 100000
set_option maxHeartbeats 4000000
/-! zip of two things, each a list or a tuple: by what is asked of an inner iterator. -/
namespace GL
open PySem PySem.Spec PyProof.Rows L2
/-- an iterator at it over the thing at l, whose items are xs; J k: k of them are gone -/
structure Inner (prog : Program) (w : World) (it l : Addr) (xs : Array Value) (J : Nat → Heap → Prop) : Prop where
  keep : ∀ k g g', J k g → (∀ o, g.get? it = some o → g'.get? it = some o) → (∀ o, g.get? l = some o → g'.get? l = some o) → J k g'
  here : ∀ k g, J k g → (∃ o, g.get? it = some o ∧ ∀ v, o.data ≠ .cell v) ∧ ∃ o, g.get? l = some o
  step : ∀ (A : Around) (E : Value → Shared → Prop) (t : Shared) (k : Nat) (x : Value) (Q : Value → Shared → Prop), J k t.heap → xs[k]? = some x →
    (∀ g', J (k + 1) g' → Heap.SameBut it t.heap g' → Q x { t with heap := g' }) → wpAny (model prog w) A (Builtin.SmallTypes.nextOf (.ref it)) Q E t
  stop : ∀ (A : Around) (E : Value → Shared → Prop) (t : Shared) (k : Nat) (Q : Value → Shared → Prop), A.handled = none → J k t.heap → xs[k]? = none →
    (∀ g' e, Heap.ExtBut it t.heap g' → (∃ o, g'.get? e = some o ∧ o.cls = .type "StopIteration") → E (.ref e) { t with heap := g' }) → wpAny (model prog w) A (Builtin.SmallTypes.nextOf (.ref it)) Q E t
theorem inner_list {prog : Program} {w : World} {it l : Addr} {xs : Array Value} (ne : l ≠ it) : Inner prog w it l xs (fun k g => g.IsListIter it l k ∧ g.IsList l xs) where
  keep := fun k g g' ⟨a, b⟩ e1 e2 => ⟨a.at e1, b.at e2⟩
  here := fun k g ⟨⟨o, ho, _, d⟩, ⟨u, hu, _⟩⟩ => ⟨⟨o, ho, fun v z => by rw [d] at z; cases z⟩, u, hu⟩
  step := fun A E t k x Q ⟨a, b⟩ hx q => wpAny_nextOf_list_item a b hx fun g' c d => q g' ⟨c, b.extBut d.extBut ne⟩ d
  stop := fun A E t k Q hh ⟨a, b⟩ hx q => wpAny_nextOf_list_end hh a b hx fun g' e c d => q g' e c d
theorem inner_tuple {prog : Program} {w : World} {it l : Addr} {xs : Array Value} (ne : l ≠ it) : Inner prog w it l xs (fun k g => g.IsTupleIter it l k ∧ g.IsTuple l xs) where
  keep := fun k g g' ⟨a, b⟩ e1 e2 => ⟨a.at e1, let ⟨o, ho, r⟩ := b; ⟨o, e2 o ho, r⟩⟩
  here := fun k g ⟨⟨o, ho, _, d⟩, ⟨u, hu, _⟩⟩ => ⟨⟨o, ho, fun v z => by rw [d] at z; cases z⟩, u, hu⟩
  step := fun A E t k x Q ⟨a, b⟩ hx q => RZ.nextOf_tuple_item a b hx fun g' c d => q g' ⟨c, b.extBut d.extBut ne⟩ d
  stop := fun A E t k Q hh ⟨a, b⟩ hx q => RZ.nextOf_tuple_end hh a b hx fun g' e c d => q g' e c d
/-- the state of such a zip: what it holds, at turn k of both -/
structure Zp (z ti to_ i j : Addr) (J1 J2 : Nat → Heap → Prop) (own : Value) (k : Nat) (g : Heap) : Prop where
  obj : IsZip g z ti to_ own
  its : IsPair g ti (.ref i) (.ref j)
  out : ∃ u v, IsPair g to_ u v
  one : J1 k g
  two : J2 k g
section
variable {prog : Program} {w : World} {z ti to_ i j l m : Addr} {xs ys : Array Value} {J1 J2 : Nat → Heap → Prop}
/-- a place that zip does not write -/
def Off (z to_ i j c : Addr) : Prop := c ≠ z ∧ c ≠ to_ ∧ c ≠ i ∧ c ≠ j
theorem Zp.keep {own : Value} {k : Nat} {g g' : Heap} (N1 : Inner prog w i l xs J1) (N2 : Inner prog w j m ys J2) (Z : Zp z ti to_ i j J1 J2 own k g) (h : ∀ c ∈ [z, ti, to_, i, j, l, m], ∀ o, g.get? c = some o → g'.get? c = some o) : Zp z ti to_ i j J1 J2 own k g' := by
  obtain ⟨a, b, ⟨u, v, c⟩, d, e⟩ := Z
  exact ⟨h z (by simp) _ a, h ti (by simp) _ b, ⟨u, v, h to_ (by simp) _ c⟩, N1.keep _ _ _ d (h i (by simp)) (h l (by simp)), N2.keep _ _ _ e (h j (by simp)) (h m (by simp))⟩
theorem zp_next {A : Around} {E : Value → Shared → Prop} {t : Shared} {k : Nat} {x y : Value} {Q : Value → Shared → Prop} (D : ZipApart z ti to_ i j l m) (N1 : Inner prog w i l xs J1) (N2 : Inner prog w j m ys J2) (Z : Zp z ti to_ i j J1 J2 .none k t.heap) (ex : xs[k]? = some x) (ey : ys[k]? = some y)
    (q : ∀ g', Zp z ti to_ i j J1 J2 (rawInt t.heap.objs.size) (k + 1) g' → IsPair g' t.heap.objs.size x y → g'.objs.size = t.heap.objs.size + 1 → (∀ c o, Off z to_ i j c → t.heap.get? c = some o → g'.get? c = some o) → Q (.ref t.heap.objs.size) { t with heap := g' }) :
    wpAny (model prog w) A (Builtin.«zip.__next__» ⟨[.ref z], []⟩) (fun fin t' => ∃ v, fin = .done (.ret v) ∧ Q v t') E t := by
  obtain ⟨Zo, Zi, ⟨u, v, Zu⟩, Z1, Z2⟩ := Z
  show wpAny _ _ (field (.ref z) 2 >>= fun _ => _) _ _ t
  refine wpAny_bind (wpAny_field (x := .bool false) Zo rfl rfl ?_)
  show wpAny _ _ (field (.ref z) 3 >>= fun _ => _) _ _ t
  refine wpAny_bind (wpAny_field (x := .ref ti) Zo rfl rfl (wpAny_bind (wpAny_seqItems Zi rfl ?_)))
  show wpAny _ _ (Builtin.SmallTypes.ownedTupleIsFree (.ref z) >>= fun _ => _) _ _ t
  refine wpAny_bind ?free
  case free =>
    unfold Builtin.SmallTypes.ownedTupleIsFree
    refine wpAny_bind (wpAny_field (x := .none) Zo rfl rfl (wpAny_pure ?_))
    simp only [if_true]
    refine wpAny_bind (wpAny_rule (wpAny_bind (wpAny_field (x := .ref to_) Zo rfl rfl (wpAny_bind (wpAny_setField_rec Zo (by simp) fun g1 a1 b1 => ?_)))))
    have a1' : IsZip g1 z ti to_ .ellipsis := a1
    refine wpAny_bind ?_
    simp only [List.zipIdx_cons, List.zipIdx_nil, List.forIn_cons, List.forIn_nil]
    refine wpAny_bind (wpAny_bind (wpAny_onRaise ?_))
    show wpAny _ _ (Builtin.SmallTypes.nextOf (.ref i) >>= fun _ => _) _ _ _
    have Z1g1 : J1 k g1 := N1.keep _ _ _ Z1 (fun o e => b1.extBut _ _ D.i1z e) (fun o e => b1.extBut _ _ D.l1z e)
    have Z2g1 : J2 k g1 := N2.keep _ _ _ Z2 (fun o e => b1.extBut _ _ D.i2z e) (fun o e => b1.extBut _ _ D.l2z e)
    refine wpAny_bind (N1.step _ _ _ _ _ _ Z1g1 ex fun g2 c2 b2 => wpAny_pure ?_)
    have Zu2 : IsPair g2 to_ u v := b2.extBut _ _ D.TOi1 (b1.extBut _ _ D.TOz Zu)
    refine wpAny_bind (wpAny_seqItems Zu2 rfl (wpAny_bind (wpAny_updateSeq_pair Zu2 fun g3 a3 b3 => ?_)))
    have Zu3 : IsPair g3 to_ x v := a3
    refine wpAny_bind (wpAny_letGo (wpAny_pure (wpAny_bind (wpAny_bind (wpAny_onRaise ?_)))))
    show wpAny _ _ (Builtin.SmallTypes.nextOf (.ref j) >>= fun _ => _) _ _ _
    have Z2g3 : J2 k g3 := N2.keep _ _ _ Z2g1 (fun o e => b3.extBut _ _ D.TOi2.symm (b2.extBut _ _ D.i12.symm e)) (fun o e => b3.extBut _ _ D.l2TO (b2.extBut _ _ D.l2i1 e))
    refine wpAny_bind (N2.step _ _ _ _ _ _ Z2g3 ey fun g4 c4 b4 => wpAny_pure ?_)
    have Zu4 : IsPair g4 to_ x v := b4.extBut _ _ D.TOi2 Zu3
    refine wpAny_bind (wpAny_seqItems Zu4 rfl (wpAny_bind (wpAny_updateSeq_pair Zu4 fun g5 a5 b5 => ?_)))
    have Zu5 : IsPair g5 to_ x y := a5
    refine wpAny_bind (wpAny_letGo (wpAny_pure (wpAny_pure (wpAny_bind (wpAny_seqItems Zu5 rfl (wpAny_bind (wpAny_newTuple ?_)))))))
    have same : g5.objs.size = t.heap.objs.size := by rw [b5.1, b4.1, b3.1, b2.1, b1.1]
    have Zo5 : IsZip g5 z ti to_ .ellipsis := b5.extBut _ _ D.TOz.symm (b4.extBut _ _ D.i2z.symm (b3.extBut _ _ D.TOz.symm (b2.extBut _ _ D.i1z.symm a1')))
    have far : ∀ c o, Off z to_ i j c → t.heap.get? c = some o → g5.get? c = some o := fun c o ⟨n1, n2, n3, n4⟩ e => b5.extBut _ _ n2 (b4.extBut _ _ n4 (b3.extBut _ _ n2 (b2.extBut _ _ n3 (b1.extBut _ _ n1 e))))
    have Z15 : J1 (k + 1) g5 := N1.keep _ _ _ c2 (fun o e => b5.extBut _ _ D.TOi1.symm (b4.extBut _ _ D.i12 (b3.extBut _ _ D.TOi1.symm e))) (fun o e => b5.extBut _ _ D.l1TO (b4.extBut _ _ D.l1i2 (b3.extBut _ _ D.l1TO e)))
    have Z25 : J2 (k + 1) g5 := N2.keep _ _ _ c4 (fun o e => b5.extBut _ _ D.TOi2.symm e) (fun o e => b5.extBut _ _ D.l2TO e)
    have big : z < g5.objs.size := Heap.lt_size Zo5
    show wpAny _ _ (Builtin.SmallTypes.ownedTupleHandOut (.ref z) (.ref g5.objs.size) >>= fun _ => _) _ _ _
    refine wpAny_bind ?_
    unfold Builtin.SmallTypes.ownedTupleHandOut
    have Zo6 : IsZip (g5.push { cls := .type "tuple", data := .seq #[x, y] }) z ti to_ .ellipsis := Heap.get?_push_of_some _ Zo5
    refine wpAny_bind (wpAny_setField_rec Zo6 (by simp) fun g7 a7 b7 => ?_)
    have Zo7 : IsZip g7 z ti to_ (rawInt g5.objs.size) := a7
    refine wpAny_setField_rec Zo7 (by simp) fun g8 a8 b8 => ?_
    have Zo8 : IsZip g8 z ti to_ (rawInt g5.objs.size) := a8
    have up8 : ∀ c o, c ≠ z → g5.get? c = some o → g8.get? c = some o := fun c o n e => b8.extBut _ _ n (b7.extBut _ _ n (Heap.get?_push_of_some _ e))
    have pr8 : IsPair g8 g5.objs.size x y := b8.extBut _ _ (Nat.ne_of_gt big) (b7.extBut _ _ (Nat.ne_of_gt big) (Heap.get?_push_size _ rfl))
    have sz8 : g8.objs.size = g5.objs.size + 1 := by rw [b8.1, b7.1, Heap.size_push]
    refine wpAny_pure ⟨_, rfl, ?_⟩
    show Q (.ref g5.objs.size) _
    rw [same] at Zo8 pr8 sz8 ⊢
    have ti8 : IsPair g8 ti (.ref i) (.ref j) := up8 _ _ D.TIz (far _ _ ⟨D.TIz, D.TITO, D.TIi1, D.TIi2⟩ Zi)
    exact q g8 ⟨Zo8, ti8, ⟨x, y, up8 _ _ D.TOz Zu5⟩, N1.keep _ _ _ Z15 (fun o e => up8 _ o D.i1z e) (fun o e => up8 _ o D.l1z e), N2.keep _ _ _ Z25 (fun o e => up8 _ o D.i2z e) (fun o e => up8 _ o D.l2z e)⟩ pr8 sz8 fun c o n e => up8 c o n.1 (far c o n e)
theorem zp_end {A : Around} {E : Value → Shared → Prop} {t : Shared} {k : Nat} {Q : Fin → Shared → Prop} (hh : A.handled = none) (D : ZipApart z ti to_ i j l m) (N1 : Inner prog w i l xs J1) (N2 : Inner prog w j m ys J2) (Z : Zp z ti to_ i j J1 J2 .none k t.heap) (out : xs[k]? = none ∨ ys[k]? = none)
    (q : ∀ g' e, (∀ c o, Off z to_ i j c → t.heap.get? c = some o → g'.get? c = some o) → (∃ o, g'.get? e = some o ∧ o.cls = .type "StopIteration") → E (.ref e) { t with heap := g' }) :
    wpAny (model prog w) A (Builtin.«zip.__next__» ⟨[.ref z], []⟩) Q E t := by
  obtain ⟨Zo, Zi, ⟨u, v, Zu⟩, Z1, Z2⟩ := Z
  show wpAny _ _ (field (.ref z) 2 >>= fun _ => _) _ _ t
  refine wpAny_bind (wpAny_field (x := .bool false) Zo rfl rfl ?_)
  show wpAny _ _ (field (.ref z) 3 >>= fun _ => _) _ _ t
  refine wpAny_bind (wpAny_field (x := .ref ti) Zo rfl rfl (wpAny_bind (wpAny_seqItems Zi rfl ?_)))
  show wpAny _ _ (Builtin.SmallTypes.ownedTupleIsFree (.ref z) >>= fun _ => _) _ _ t
  refine wpAny_bind ?free
  case free =>
    unfold Builtin.SmallTypes.ownedTupleIsFree
    refine wpAny_bind (wpAny_field (x := .none) Zo rfl rfl (wpAny_pure ?_))
    simp only [if_true]
    refine wpAny_bind (wpAny_rule (wpAny_bind (wpAny_field (x := .ref to_) Zo rfl rfl (wpAny_bind (wpAny_setField_rec Zo (by simp) fun g1 a1 b1 => ?_)))))
    have a1' : IsZip g1 z ti to_ .ellipsis := a1
    refine wpAny_bind ?_
    simp only [List.zipIdx_cons, List.zipIdx_nil, List.forIn_cons, List.forIn_nil]
    refine wpAny_bind (wpAny_bind (wpAny_onRaise ?_))
    show wpAny _ _ (Builtin.SmallTypes.nextOf (.ref i) >>= fun _ => _) _ _ _
    have Z1g1 : J1 k g1 := N1.keep _ _ _ Z1 (fun o e => b1.extBut _ _ D.i1z e) (fun o e => b1.extBut _ _ D.l1z e)
    have Z2g1 : J2 k g1 := N2.keep _ _ _ Z2 (fun o e => b1.extBut _ _ D.i2z e) (fun o e => b1.extBut _ _ D.l2z e)
    cases ex : xs[k]? with
    | none =>
      refine wpAny_bind (N1.stop _ _ _ _ _ hh Z1g1 ex fun g2 e b2 ⟨oe, he, ce⟩ => ?_)
      have Zo2 : IsZip g2 z ti to_ .ellipsis := b2 _ _ D.i1z.symm a1'
      have ez : e ≠ z := fun r => by
        rw [r, Zo2] at he
        cases he
        exact absurd (show Value.type "zip" = Value.type "StopIteration" from ce) (by decide)
      exact wpAny_setField_rec Zo2 (by simp) fun g3 _ b3 => q g3 e (fun c o n r => b3.extBut _ _ n.1 (b2 _ _ n.2.2.1 (b1.extBut _ _ n.1 r))) ⟨oe, b3.extBut _ _ ez he, ce⟩
    | some x =>
      have ey : ys[k]? = none := out.resolve_left (fun r => by rw [ex] at r; cases r)
      refine wpAny_bind (N1.step _ _ _ _ _ _ Z1g1 ex fun g2 c2 b2 => wpAny_pure ?_)
      have Zu2 : IsPair g2 to_ u v := b2.extBut _ _ D.TOi1 (b1.extBut _ _ D.TOz Zu)
      refine wpAny_bind (wpAny_seqItems Zu2 rfl (wpAny_bind (wpAny_updateSeq_pair Zu2 fun g3 a3 b3 => ?_)))
      refine wpAny_bind (wpAny_letGo (wpAny_pure (wpAny_bind (wpAny_bind (wpAny_onRaise ?_)))))
      show wpAny _ _ (Builtin.SmallTypes.nextOf (.ref j) >>= fun _ => _) _ _ _
      have Z2g3 : J2 k g3 := N2.keep _ _ _ Z2g1 (fun o e => b3.extBut _ _ D.TOi2.symm (b2.extBut _ _ D.i12.symm e)) (fun o e => b3.extBut _ _ D.l2TO (b2.extBut _ _ D.l2i1 e))
      refine wpAny_bind (N2.stop _ _ _ _ _ hh Z2g3 ey fun g4 e b4 ⟨oe, he, ce⟩ => ?_)
      have Zo4 : IsZip g4 z ti to_ .ellipsis := b4 _ _ D.i2z.symm (b3.extBut _ _ D.TOz.symm (b2.extBut _ _ D.i1z.symm a1'))
      have ez : e ≠ z := fun r => by
        rw [r, Zo4] at he
        cases he
        exact absurd (show Value.type "zip" = Value.type "StopIteration" from ce) (by decide)
      exact wpAny_setField_rec Zo4 (by simp) fun g5 _ b5 => q g5 e (fun c o n r => b5.extBut _ _ n.1 (b4 _ _ n.2.2.2 (b3.extBut _ _ n.2.1 (b2.extBut _ _ n.2.2.1 (b1.extBut _ _ n.1 r))))) ⟨oe, b5.extBut _ _ ez he, ce⟩
theorem zp_pyNext {A : Around} {E : Value → Shared → Prop} {t : Shared} {k : Nat} {x y : Value} {Q : Option Value → Shared → Prop} (D : ZipApart z ti to_ i j l m) (N1 : Inner prog w i l xs J1) (N2 : Inner prog w j m ys J2) (Z : Zp z ti to_ i j J1 J2 .none k t.heap) (ex : xs[k]? = some x) (ey : ys[k]? = some y)
    (q : ∀ g', Zp z ti to_ i j J1 J2 (rawInt t.heap.objs.size) (k + 1) g' → IsPair g' t.heap.objs.size x y → g'.objs.size = t.heap.objs.size + 1 → (∀ c o, Off z to_ i j c → t.heap.get? c = some o → g'.get? c = some o) → Q (some (.ref t.heap.objs.size)) { t with heap := g' }) :
    wpAny (model prog w) A (pyNext (.ref z)) Q E t := by
  have ty : t.TypeIs (.ref z) "zip" := ⟨_, Z.obj, rfl⟩
  unfold pyNext
  exact wpAny_bind (wpAny_attempt (wpAny_callSpecial?_slot (name := Str.ofString "__next__") ty F.slot_zip_next (wpAny_call_entry F.slot_zip_next ty F.entry_zip_next (zp_next D N1 N2 Z ex ey fun g' a b c d => wpAny_pure (q g' a b c d)) (F.args_zip_next_1 _))))
theorem zp_pyEnd {A : Around} {E : Value → Shared → Prop} {t : Shared} {k : Nat} {Q : Option Value → Shared → Prop} (hh : A.handled = none) (D : ZipApart z ti to_ i j l m) (N1 : Inner prog w i l xs J1) (N2 : Inner prog w j m ys J2) (Z : Zp z ti to_ i j J1 J2 .none k t.heap) (out : xs[k]? = none ∨ ys[k]? = none)
    (q : ∀ g', (∀ c o, Off z to_ i j c → t.heap.get? c = some o → g'.get? c = some o) → Q none { t with heap := g' }) : wpAny (model prog w) A (pyNext (.ref z)) Q E t := by
  have ty : t.TypeIs (.ref z) "zip" := ⟨_, Z.obj, rfl⟩
  unfold pyNext
  refine wpAny_bind (wpAny_attempt (wpAny_callSpecial?_slot (name := Str.ofString "__next__") ty F.slot_zip_next (wpAny_call_entry F.slot_zip_next ty F.entry_zip_next (zp_end hh D N1 N2 Z out fun g' e hk ⟨o, ho, co⟩ => ?_) (F.args_zip_next_1 _))))
  exact wpAny_bind (wpAny_isInstance (T := "StopIteration") (b := true) ⟨o, ho, co⟩ isSubtype_stop (wpAny_pure (q _ hk)))
end
end GL
set_option Elab.async false
set_option linter.all false
set_option maxRecDepth 100000
set_option maxHeartbeats 4000000
namespace GL
open PySem PySem.Spec PyProof.Rows L2
/-- the inner iterator's state, by the kind of the thing -/
def InJ (b : Bool) (it l : Addr) (xs : Array Value) : Nat → Heap → Prop := match b with
  | true => fun k g => g.IsListIter it l k ∧ g.IsList l xs
  | false => fun k g => g.IsTupleIter it l k ∧ g.IsTuple l xs
theorem inner_of {prog : Program} {w : World} {it l : Addr} {xs : Array Value} (b : Bool) (ne : l ≠ it) : Inner prog w it l xs (InJ b it l xs) := by
  cases b with
  | true => exact inner_list ne
  | false => exact inner_tuple ne
def RawB (b : Bool) (g : Heap) (l : Addr) (xs : Array Value) : Prop := match b with
  | true => g.IsList l xs
  | false => g.IsTuple l xs
theorem RawB.lt {b : Bool} {g : Heap} {l : Addr} {xs : Array Value} (h : RawB b g l xs) : l < g.objs.size := by
  cases b with
  | true => obtain ⟨o, ho, _⟩ := h; exact Heap.lt_size ho
  | false => obtain ⟨o, ho, _⟩ := h; exact Heap.lt_size ho
theorem RawB.push {b : Bool} {g : Heap} {l : Addr} {xs : Array Value} (h : RawB b g l xs) (o : Obj) : RawB b (g.push o) l xs := by
  cases b with
  | true => obtain ⟨u, hu, r⟩ := h; exact ⟨u, Heap.get?_push_of_some _ hu, r⟩
  | false => exact Heap.IsTuple.push h _
theorem RawB.keeps {b : Bool} {g g' : Heap} {l : Addr} {xs : Array Value} (h : RawB b g l xs) (k : ∀ c o, g.get? c = some o → g'.get? c = some o) : RawB b g' l xs := by
  cases b with
  | true => obtain ⟨u, hu, r⟩ := h; exact ⟨u, k _ _ hu, r⟩
  | false => obtain ⟨u, hu, r⟩ := h; exact ⟨u, k _ _ hu, r⟩
def itO (b : Bool) (l : Addr) : Obj := { cls := .type (if b = true then "list_iterator" else "tuple_iterator"), data := .fields #[.ref l, .int 0 0] }
theorem iter_raw {prog : Program} {w : World} {A : Around} {E : Value → Shared → Prop} {t : Shared} {b : Bool} {l : Addr} {xs : Array Value} {Q : Value → Shared → Prop} (h : RawB b t.heap l xs) (q : Q (.ref t.heap.objs.size) { t with heap := t.heap.push (itO b l) }) :
    wpAny (model prog w) A (pyIter (.ref l)) Q E t := by
  cases b with
  | true => exact wpAny_pyIter_list h q
  | false => exact wpAny_pyIter_tuple h q
def z1 (g : Heap) (a : Bool) (l : Addr) : Heap := g.push (itO a l)
def z2 (g : Heap) (a b : Bool) (l m : Addr) : Heap := (z1 g a l).push (itO b m)
def z3 (g : Heap) (a b : Bool) (l m : Addr) : Heap := (z2 g a b l m).push { cls := .type "tuple", data := .seq #[.ref g.objs.size, .ref (z1 g a l).objs.size] }
def z4 (g : Heap) (a b : Bool) (l m : Addr) : Heap := (z3 g a b l m).push { cls := .type "tuple", data := .seq #[.none, .none] }
def z5 (g : Heap) (a b : Bool) (l m : Addr) : Heap := (z4 g a b l m).push { cls := .type "zip", data := .fields #[.none, .bool false, .bool false, .ref (z2 g a b l m).objs.size, .ref (z3 g a b l m).objs.size] }
theorem zip_made (a b : Bool) (l m : Addr) (xs ys : Array Value) :
    Meets (Builtin.«zip.__new__» ⟨[.type "zip", .ref l, .ref m], []⟩) (fun _ R t => RawB a t.heap l xs ∧ RawB b t.heap m ys ∧ R (.ok (.ret (.ref (z4 t.heap a b l m).objs.size))) { t with heap := z5 t.heap a b l m }) :=
  .of_wp fun prog w A R t h => by
    obtain ⟨hp, g, d, tk, os⟩ := t
    obtain ⟨r1, r2, q⟩ := h
    have sb := sub_zip
    have r1' : RawB a (Shared.heap ⟨hp, g, d, tk, os⟩) l xs := r1
    have r2' : RawB b (Shared.heap ⟨hp.push (itO a l), g, d, tk, os⟩) m ys := r2.push _
    wp_walk using iter_raw r1', iter_raw r2'
    exact ⟨_, rfl, q⟩
theorem call_zipB {prog : Program} {w : World} {A : Around} {E : Value → Shared → Prop} {t : Shared} {a b : Bool} {l m : Addr} {xs ys : Array Value} {Q : Value → Shared → Prop} (r1 : RawB a t.heap l xs) (r2 : RawB b t.heap m ys)
    (q : ∀ g', Zp (t.heap.objs.size + 4) (t.heap.objs.size + 2) (t.heap.objs.size + 3) t.heap.objs.size (t.heap.objs.size + 1) (InJ a t.heap.objs.size l xs) (InJ b (t.heap.objs.size + 1) m ys) .none 0 g' → g'.objs.size = t.heap.objs.size + 5 → (∀ c o, t.heap.get? c = some o → g'.get? c = some o) → Q (.ref (t.heap.objs.size + 4)) { t with heap := g' }) :
    wpAny (model prog w) A (call (.type "zip") [.ref l, .ref m]) Q E t := by
  refine callType_new F.called_zip (by decide) (F.typeCall_zip_2 _ _) (F.newCall_zip_2 _ _) (fun ob => F.args_object_init_3 ob _ _) F.entry_zip_new (zip_made a b l m xs ys) ⟨r1, r2, ?_⟩
  have n1 : (z1 t.heap a l).objs.size = t.heap.objs.size + 1 := Heap.size_push ..
  have n2 : (z2 t.heap a b l m).objs.size = t.heap.objs.size + 2 := by unfold z2; rw [Heap.size_push, n1]
  have n3 : (z3 t.heap a b l m).objs.size = t.heap.objs.size + 3 := by unfold z3; rw [Heap.size_push, n2]
  have n4 : (z4 t.heap a b l m).objs.size = t.heap.objs.size + 4 := by unfold z4; rw [Heap.size_push, n3]
  have n5 : (z5 t.heap a b l m).objs.size = t.heap.objs.size + 5 := by unfold z5; rw [Heap.size_push, n4]
  have k5 : ∀ {c o}, (z4 t.heap a b l m).get? c = some o → (z5 t.heap a b l m).get? c = some o := fun e => Heap.get?_push_of_some _ e
  have k4 : ∀ {c o}, (z3 t.heap a b l m).get? c = some o → (z5 t.heap a b l m).get? c = some o := fun e => k5 (Heap.get?_push_of_some _ e)
  have k3 : ∀ {c o}, (z2 t.heap a b l m).get? c = some o → (z5 t.heap a b l m).get? c = some o := fun e => k4 (Heap.get?_push_of_some _ e)
  have k2 : ∀ {c o}, (z1 t.heap a l).get? c = some o → (z5 t.heap a b l m).get? c = some o := fun e => k3 (Heap.get?_push_of_some _ e)
  have k1 : ∀ c o, t.heap.get? c = some o → (z5 t.heap a b l m).get? c = some o := fun c o e => k2 (Heap.get?_push_of_some _ e)
  have ob : IsZip (z5 t.heap a b l m) (t.heap.objs.size + 4) (t.heap.objs.size + 2) (t.heap.objs.size + 3) .none := by
    have e : (z5 t.heap a b l m).get? (z4 t.heap a b l m).objs.size = some { cls := .type "zip", data := .fields #[.none, .bool false, .bool false, .ref (z2 t.heap a b l m).objs.size, .ref (z3 t.heap a b l m).objs.size] } := Heap.get?_push_size _ rfl
    rw [n4, n2, n3] at e
    exact e
  have its : IsPair (z5 t.heap a b l m) (t.heap.objs.size + 2) (.ref t.heap.objs.size) (.ref (t.heap.objs.size + 1)) := by
    have e : (z5 t.heap a b l m).get? (z2 t.heap a b l m).objs.size = some { cls := .type "tuple", data := .seq #[.ref t.heap.objs.size, .ref (z1 t.heap a l).objs.size] } := k4 (Heap.get?_push_size _ rfl)
    rw [n2, n1] at e
    exact e
  have out : IsPair (z5 t.heap a b l m) (t.heap.objs.size + 3) .none .none := by
    have e : (z5 t.heap a b l m).get? (z3 t.heap a b l m).objs.size = some { cls := .type "tuple", data := .seq #[.none, .none] } := k5 (Heap.get?_push_size _ rfl)
    rw [n3] at e
    exact e
  have o1 : (z5 t.heap a b l m).get? t.heap.objs.size = some (itO a l) := k2 (Heap.get?_push_size _ rfl)
  have o2 : (z5 t.heap a b l m).get? (t.heap.objs.size + 1) = some (itO b m) := by
    have e : (z5 t.heap a b l m).get? (z1 t.heap a l).objs.size = some (itO b m) := k3 (Heap.get?_push_size _ rfl)
    rw [n1] at e
    exact e
  have j1 : InJ a t.heap.objs.size l xs 0 (z5 t.heap a b l m) := by
    have r := r1.keeps k1
    cases a with
    | true => exact ⟨⟨_, o1, rfl, rfl⟩, r⟩
    | false => exact ⟨⟨_, o1, rfl, rfl⟩, r⟩
  have j2 : InJ b (t.heap.objs.size + 1) m ys 0 (z5 t.heap a b l m) := by
    have r := r2.keeps k1
    cases b with
    | true => exact ⟨⟨_, o2, rfl, rfl⟩, r⟩
    | false => exact ⟨⟨_, o2, rfl, rfl⟩, r⟩
  show _ ∧ _
  rw [n4]
  exact ⟨⟨_, ob, rfl⟩, q _ ⟨ob, its, ⟨_, _, out⟩, j1, j2⟩ n5 k1⟩
section
variable {prog : Program} {w : World} {z ti to_ i j l m : Addr} {xs ys : Array Value} {J1 J2 : Nat → Heap → Prop}
theorem zp_walks {A : Around} (hh : A.handled = none) (D : ZipApart z ti to_ i j l m) (N1 : Inner prog w i l xs J1) (N2 : Inner prog w j m ys J2) :
    WalksU prog w A z [z, ti, to_, i, j, l, m] [z, to_, i, j] (min xs.size ys.size) (fun k vals => ∃ x y, xs[k]? = some x ∧ ys[k]? = some y ∧ vals = #[x, y]) (fun k g => Zp z ti to_ i j J1 J2 .none k g)
      (fun k T g => Zp z ti to_ i j J1 J2 (rawInt T) (k + 1) g ∧ Off z to_ i j T) where
  sub := by
    intro c hc
    simp only [List.mem_cons, List.not_mem_nil, or_false] at hc ⊢
    rcases hc with h | h | h | h <;> simp [h]
  frame := fun k g g' Z h => Z.keep N1 N2 h
  item := by
    intro k t Q E hk Z q
    have h1 : k < xs.size := Nat.lt_of_lt_of_le hk (Nat.min_le_left ..)
    have h2 : k < ys.size := Nat.lt_of_lt_of_le hk (Nat.min_le_right ..)
    have e1 := Array.getElem?_eq_getElem h1
    have e2 := Array.getElem?_eq_getElem h2
    refine zp_pyNext D N1 N2 Z e1 e2 fun g' a b c d => q t.heap.objs.size #[xs[k], ys[k]] g' t.toks ⟨_, _, e1, e2, rfl⟩ ⟨_, b, rfl, _, rfl⟩ ⟨a, ?_⟩ fun c o n e => d c o ?_ e
    · have big : ∀ {c o}, t.heap.get? c = some o → t.heap.objs.size ≠ c := fun e => Nat.ne_of_gt (Heap.lt_size e)
      obtain ⟨u, v, hu⟩ := Z.out
      obtain ⟨⟨o1, ho1, _⟩, _⟩ := N1.here _ _ Z.one
      obtain ⟨⟨o2, ho2, _⟩, _⟩ := N2.here _ _ Z.two
      exact ⟨big Z.obj, big hu, big ho1, big ho2⟩
    · exact ⟨fun z => n (by simp [z]), fun z => n (by simp [z]), fun z => n (by simp [z]), fun z => n (by simp [z])⟩
  go := by
    intro elts kk pos k T t Q E h q
    obtain ⟨⟨a, b, ⟨u, v, c⟩, d, e⟩, n⟩ := h
    refine wpAny_letOwnedTupleGo_zip a fun g' a' s' => q g' ⟨a', s'.extBut _ _ D.TIz b, ⟨u, v, s'.extBut _ _ D.TOz c⟩, ?_, ?_⟩ fun c o n e => s'.extBut _ _ (fun z => n (by simp [z])) e
    · exact N1.keep _ _ _ d (fun o e => s'.extBut _ _ D.i1z e) (fun o e => s'.extBut _ _ D.l1z e)
    · exact N2.keep _ _ _ e (fun o e => s'.extBut _ _ D.i2z e) (fun o e => s'.extBut _ _ D.l2z e)
  apart := by
    intro k T g h hT
    obtain ⟨_, n1, n2, n3, n4⟩ := h
    simp only [List.mem_cons, List.not_mem_nil, or_false] at hT
    rcases hT with h | h | h | h
    · exact n1 h
    · exact n2 h
    · exact n3 h
    · exact n4 h
  done := by
    intro t Q E Z q
    refine zp_pyEnd hh D N1 N2 Z ?_ fun g' d => q g' t.toks fun c o n e => d c o ⟨fun z => n (by simp [z]), fun z => n (by simp [z]), fun z => n (by simp [z]), fun z => n (by simp [z])⟩ e
    rcases Nat.le_total xs.size ys.size with h | h
    · exact .inl (by rw [Nat.min_eq_left h]; exact Array.getElem?_eq_none (Nat.le_refl _))
    · exact .inr (by rw [Nat.min_eq_right h]; exact Array.getElem?_eq_none (Nat.le_refl _))
  self := fun k t Q E Z q => wpAny_pyIter_zip Z.obj q
end
/-- the i-th pair of the two, new at each turn -/
def ItzB (a b : Bool) (K : PySem.W.Frag) (l m : Addr) : It :=
  ⟨fun i H => ∃ (xs ys : List V) (x y : V), SqB a K H l xs ∧ SqB b K H m ys ∧ xs[i]? = some x ∧ ys[i]? = some y,
    fun i H v H' => ∃ T x y, v = .ref T ∧ H T = none ∧ H' = upd H T (.tup [x, y]) ∧ (∀ xs, SqB a K H l xs → xs[i]? = some x) ∧ ∀ ys, SqB b K H m ys → ys[i]? = some y,
    fun i H => ∃ xs ys : List V, SqB a K H l xs ∧ SqB b K H m ys ∧ (xs.length ≤ i ∨ ys.length ≤ i)⟩
theorem sqb_raw {X : Cx} {pins : List (Addr × Obj)} {σ : L2.St} {H : Hp} {s : Shared} {b : Bool} {l : Addr} {xs : List V} (I : Inv X pins σ H s) (h : SqB b X.K H l xs) : ∃ its : List Value, Vals xs its ∧ RawB b s.heap l its.toArray := by
  cases b with
  | true =>
    obtain ⟨its, r, p, _⟩ := I.list h
    exact ⟨its, r, p.isList⟩
  | false =>
    obtain ⟨its, r, p, _⟩ := I.tuple h
    exact ⟨its, r, p⟩
theorem sqb_inj {X : Cx} {pins : List (Addr × Obj)} {σ : L2.St} {H : Hp} {s : Shared} {b : Bool} {l : Addr} {xs ys : List V} (I : Inv X pins σ H s) (h : SqB b X.K H l xs) (h' : SqB b X.K H l ys) : xs = ys := by
  cases b with
  | true => exact I.list_inj h h'
  | false => exact I.tuple_inj h h'
theorem raw_inj {b : Bool} {g : Heap} {l : Addr} {xs ys : Array Value} (h : RawB b g l xs) (h' : RawB b g l ys) : xs = ys := by
  cases b with
  | true =>
    obtain ⟨o, e, _, n, d⟩ := h
    obtain ⟨o', e', _, n', d'⟩ := h'
    rw [e] at e'
    cases e'
    rw [d] at d'
    injection d'
  | false =>
    obtain ⟨o, e, _, n, d⟩ := h
    obtain ⟨o', e', _, n', d'⟩ := h'
    rw [e] at e'
    cases e'
    rw [d] at d'
    injection d'
end GL
set_option Elab.async false
set_option linter.all false
set_option maxRecDepth 100000
set_option maxHeartbeats 4000000
/-! zip in loops, comprehensions, generator expressions. -/
namespace GL
open PySem PySem.Spec PyProof.Rows L2
def ItJ (b : Bool) (it l : Addr) (k : Nat) (g : Heap) : Prop := match b with
  | true => g.IsListIter it l k
  | false => g.IsTupleIter it l k
theorem inJ_mk {b : Bool} {it l : Addr} {xs : Array Value} {k : Nat} {g : Heap} (h : ItJ b it l k g) (r : RawB b g l xs) : InJ b it l xs k g := by
  cases b with
  | true => exact ⟨h, r⟩
  | false => exact ⟨h, r⟩
theorem inJ_it {b : Bool} {it l : Addr} {xs : Array Value} {k : Nat} {g : Heap} (h : InJ b it l xs k g) : ItJ b it l k g := by
  cases b with
  | true => exact h.1
  | false => exact h.1
theorem itJ_keep {b : Bool} {it l : Addr} {k : Nat} {g g' : Heap} (h : ItJ b it l k g) (e : ∀ o, g.get? it = some o → g'.get? it = some o) : ItJ b it l k g' := by
  cases b with
  | true => exact Heap.IsListIter.at h e
  | false => exact Heap.IsTupleIter.at h e
theorem itJ_obj {b : Bool} {it l : Addr} {k : Nat} {g : Heap} (h : ItJ b it l k g) : ∃ o, g.get? it = some o ∧ ∀ v, o.data ≠ .cell v := by
  cases b with
  | true => obtain ⟨o, ho, _, d⟩ := h; exact ⟨o, ho, fun v z => by rw [d] at z; cases z⟩
  | false => obtain ⟨o, ho, _, d⟩ := h; exact ⟨o, ho, fun v z => by rw [d] at z; cases z⟩
theorem turn_zipB {P : Program} {w : World} {K : PySem.W.Frag} {elts : List Expr} {kk : Nat} {tpos : Pos} {a b : Bool} {l m z ti to_ i j : Addr} (D : ZipApart z ti to_ i j l m) :
    Turn P w K (.Tuple elts kk tpos) (ItzB a b K l m) [z, ti, to_, i, j] z (fun k g => Zp z ti to_ i j (ItJ a i l) (ItJ b j m) .none k g) where
  mem := List.mem_cons_self
  obj := by
    intro k g Z c hc
    obtain ⟨u, v, hu⟩ := Z.out
    simp only [List.mem_cons, List.not_mem_nil, or_false] at hc
    rcases hc with e | e | e | e | e
    · rw [e]; exact ⟨_, Z.obj, fun v q => (nomatch q)⟩
    · rw [e]; exact ⟨_, Z.its, fun v q => (nomatch q)⟩
    · rw [e]; exact ⟨_, hu, fun v q => (nomatch q)⟩
    · rw [e]; exact itJ_obj Z.one
    · rw [e]; exact itJ_obj Z.two
  keep := by
    intro k g g' Z h
    obtain ⟨u, v, hu⟩ := Z.out
    exact ⟨h z (by simp) _ Z.obj, h ti (by simp) _ Z.its, ⟨u, v, h to_ (by simp) _ hu⟩, itJ_keep Z.one (h i (by simp)), itJ_keep Z.two (h j (by simp))⟩
  item := by
    intro X hP hw hK hc k pins s σ H E I hf Z hg
    subst hP hw hK
    obtain ⟨xs, ys, x, y, qx, qy, ex, ey⟩ := hg
    obtain ⟨its, rv, r1⟩ := sqb_raw I qx
    obtain ⟨its2, rv2, r2⟩ := sqb_raw I qy
    obtain ⟨u, hu, ru⟩ := rv.get ex
    obtain ⟨u2, hu2, ru2⟩ := rv2.get ey
    have big : z < s.heap.objs.size := Heap.lt_size Z.obj
    have Z' : Zp z ti to_ i j (InJ a i l its.toArray) (InJ b j m its2.toArray) .none k s.heap := ⟨Z.obj, Z.its, Z.out, inJ_mk Z.one r1, inJ_mk Z.two r2⟩
    refine zp_pyNext D (inner_of a D.l1i1) (inner_of b D.l2i2) Z' (x := u) (y := u2) (by simpa using hu) (by simpa using hu2) fun g1 Z1 pr sz far => ?_
    refine ⟨_, rfl, wpAny_letOwnedTupleGo_zip (s := { s with heap := g1 }) Z1.obj fun g2 z2' sb => ?_⟩
    have pr2 : g2.get? s.heap.objs.size = some { cls := .type "tuple", data := .seq #[u, u2] } := (sb.2 _ (Nat.ne_of_gt big)).trans pr
    have J : Inv X pins σ (upd H s.heap.objs.size (.tup [x, y])) { s with heap := g2 } := by
      refine I.turnedNew (t' := s.toks) (ch := [z, ti, to_, i, j]) (fun c o n e => ?_) hf (Nat.le_refl _) ⟨by show 2 ≤ sizeLine; decide, [u, u2], .cons ru (.cons ru2 .nil), ⟨_, pr2, rfl, _, rfl⟩⟩
      refine (sb.2 c (fun q => n (by simp [q]))).trans (far c o ⟨fun q => n (by simp [q]), fun q => n (by simp [q]), fun q => n (by simp [q]), fun q => n (by simp [q])⟩ e)
    obtain ⟨v1, v2, hv⟩ := Z1.out
    refine ⟨.ref s.heap.objs.size, _, J, rfl, ⟨_, x, y, rfl, I.hok.fresh (Nat.le_refl _), rfl, fun zs hz => by rw [sqb_inj I hz qx]; exact ex, fun zs hz => by rw [sqb_inj I hz qy]; exact ey⟩, ?_, fun c hcm => ?_⟩
    · exact ⟨z2', (sb.2 _ D.TIz).trans Z1.its, ⟨v1, v2, (sb.2 _ D.TOz).trans hv⟩, itJ_keep (inJ_it Z1.one) (fun o e => (sb.2 _ D.i1z).trans e), itJ_keep (inJ_it Z1.two) (fun o e => (sb.2 _ D.i2z).trans e)⟩
    · have lt : c < s.heap.objs.size := by
        obtain ⟨w1, w2, hw⟩ := Z.out
        obtain ⟨o1, e1, _⟩ := itJ_obj Z.one
        obtain ⟨o2, e2, _⟩ := itJ_obj Z.two
        simp only [List.mem_cons, List.not_mem_nil, or_false] at hcm
        rcases hcm with e | e | e | e | e
        · rw [e]; exact big
        · rw [e]; exact Heap.lt_size Z.its
        · rw [e]; exact Heap.lt_size hw
        · rw [e]; exact Heap.lt_size e1
        · rw [e]; exact Heap.lt_size e2
      rw [upd_ne (Nat.ne_of_lt lt)]
      exact (hf c hcm).1
  done := by
    intro X hP hw hK hc k pins s σ H E I hf Z hg
    subst hP hw hK
    obtain ⟨xs, ys, qx, qy, out⟩ := hg
    obtain ⟨its, rv, r1⟩ := sqb_raw I qx
    obtain ⟨its2, rv2, r2⟩ := sqb_raw I qy
    have l1 := rv.length
    have l2 := rv2.length
    have Z' : Zp z ti to_ i j (InJ a i l its.toArray) (InJ b j m its2.toArray) .none k s.heap := ⟨Z.obj, Z.its, Z.out, inJ_mk Z.one r1, inJ_mk Z.two r2⟩
    refine zp_pyEnd (I.ok.hd hc) D (inner_of a D.l1i1) (inner_of b D.l2i2) Z' ?_ fun g' far => ⟨rfl, I.turnedL (t' := s.toks) (ch := [z, ti, to_, i, j]) (fun c o n e => far c o ⟨fun q => n (by simp [q]), fun q => n (by simp [q]), fun q => n (by simp [q]), fun q => n (by simp [q])⟩ e) hf⟩
    rcases out with q | q
    · exact .inl (by simp; omega)
    · exact .inr (by simp; omega)
  self := fun A k s Q E Z h => wpAny_pyIter_zip Z.obj h
def iZipB (K : PySem.W.Frag) (ta : TA) : TI := fun σ H R => ta σ H fun vs H1 => ∃ (a b : Bool) (l m : Addr) (xs ys : List V), vs = [.ref l, .ref m] ∧ SqB a K H1 l xs ∧ SqB b K H1 m ys ∧ R (ItzB a b K l m) H1
theorem vals_refs {l m : Addr} {us : List Value} (r : Vals [V.ref l, V.ref m] us) : us = [.ref l, .ref m] := by
  obtain ⟨u1, u2, rfl, a, b⟩ := vals2 r
  rw [show u1 = Value.ref l from a, show u2 = Value.ref m from b]
theorem pi_zipB {X : Cx} {e e2 : Expr} {ta : TA} {p pos tpos : Pos} {elts : List Expr} {kk : Nat} (hg : Gl X "zip") (hm : X.mg "zip" = none) (ha : PA X [e, e2] ta)
    (hs : starEach [e, e2] X.env = (false, eval e X.env) :: starEach [e2] X.env := by rfl) (hpl : (backTo pos (starEach [e2] X.env)).any (·.1) = false := by rfl) :
    PI X (.Tuple elts kk tpos) (.Call (.Name "zip" p) [e, e2] [] pos) (iZipB X.K ta) := by
  constructor
  intro pins s σ H R I h
  refine Call_ (ld_blt I hg hm PyProof.Rows.boot_zip (PyProof.Rows.callWith_type1 (thn (ha.run pos pins s σ H _ I h) ?_) hs hpl))
  rintro us s1 ⟨vs, H1, I1, r1, a, b, l, m, xs, ys, rfl, qx, qy, q⟩
  rw [vals_refs r1]
  obtain ⟨its, rv, w1⟩ := sqb_raw I1 qx
  obtain ⟨its2, rv2, w2⟩ := sqb_raw I1 qy
  refine call_zipB w1 w2 fun g' Z sz far => wpAny_pyIter_zip Z.obj ?_
  refine ⟨_, [s1.heap.objs.size + 4, s1.heap.objs.size + 2, s1.heap.objs.size + 3, s1.heap.objs.size, s1.heap.objs.size + 1], _, _, H1, rfl, I1.kept (t' := s1.toks) far, turn_zipB (PySem.W.ktu_apart s1.heap.objs.size l m w1.lt w2.lt), ⟨Z.obj, Z.its, Z.out, inJ_it Z.one, inJ_it Z.two⟩, ?_, q⟩
  intro c hc
  have le : s1.heap.objs.size ≤ c := by
    simp only [List.mem_cons, List.not_mem_nil, or_false] at hc
    rcases hc with e | e | e | e | e
    · rw [e]; exact Nat.le_add_right _ _
    · rw [e]; exact Nat.le_add_right _ _
    · rw [e]; exact Nat.le_add_right _ _
    · rw [e]; exact Nat.le_refl _
    · rw [e]; exact Nat.le_add_right _ _
  exact I1.fpOk le (I1.hok.fresh le)
theorem for_zipB {a b : Bool} {K : PySem.W.Frag} {l m : Addr} {xs ys : List V} {g : TG} {tb : TS} {D : Ends} {σ : L2.St} {H : Hp} (hl : xs.length = ys.length) (Pv : Nat → L2.St → Hp → Prop) (h0 : Pv 0 σ H) (hq : ∀ i σ H, Pv i σ H → SqB a K H l xs ∧ SqB b K H m ys)
    (hs : ∀ (i : Nat) (x y : V) (T : Addr) (σ : L2.St) (H : Hp), xs[i]? = some x → ys[i]? = some y → Pv i σ H → H T = none → g (.ref T) σ (upd H T (.tup [x, y])) fun σ2 H2 => tb { D with nx := Pv (i + 1), ct := Pv (i + 1), bk := D.nx } σ2 H2) (hd : ∀ σ H, Pv xs.length σ H → D.nx σ H) :
    ∃ W : Nat → Nat → L2.St → Hp → Prop, (∃ m, W 0 m σ H) ∧ ∀ i k σ H, W i k σ H →
      ((ItzB a b K l m).stop i H ∧ D.nx σ H) ∨ ((ItzB a b K l m).go i H ∧ ∃ N : L2.St → Hp → Prop, (∀ σ' H', N σ' H' → ∃ m', m' < k ∧ W (i + 1) m' σ' H') ∧ ∀ v H', (ItzB a b K l m).yld i H v H' → g v σ H' fun σ2 H2 => tb { D with nx := N, ct := N, bk := D.nx } σ2 H2) := by
  refine ⟨fun i k σ H => i + k = xs.length ∧ Pv i σ H, ⟨xs.length, Nat.zero_add _, h0⟩, ?_⟩
  rintro i k σ H ⟨em, p⟩
  obtain ⟨qx, qy⟩ := hq i σ H p
  by_cases hi : i < xs.length
  · refine .inr ⟨⟨xs, ys, xs[i], ys[i], qx, qy, List.getElem?_eq_getElem hi, List.getElem?_eq_getElem (by omega)⟩, Pv (i + 1), fun σ' H' p' => ⟨k - 1, by omega, by omega, p'⟩, ?_⟩
    rintro v H' ⟨T, x, y, rfl, hT, rfl, f1, f2⟩
    exact hs i x y T σ H (f1 xs qx) (f2 ys qy) p hT
  · have e : i = xs.length := by omega
    subst e
    exact .inl ⟨⟨xs, ys, qx, qy, .inl (Nat.le_refl _)⟩, hd σ H p⟩
theorem lc_zip {a b : Bool} {K : PySem.W.Frag} {l m : Addr} {xs ys : List V} {g : TG} {tt : TT} {te : TE} {vs : List Nat} {σ : L2.St} {H1 : Hp} {D : Addr} {Qd : Hp → Prop} (hl : xs.length = ys.length) (Pv : Nat → Hp → Prop) (h0 : Pv 0 (upd H1 D (.lst []))) (hq : ∀ i H, Pv i H → SqB a K H l xs ∧ SqB b K H m ys)
    (hs : ∀ (i : Nat) (x y : V) (T : Addr) (H : Hp), xs[i]? = some x → ys[i]? = some y → Pv i H → H T = none → g (.ref T) (wipe σ vs) (upd H T (.tup [x, y])) fun σ2 H2 => wipe σ2 vs = wipe σ vs ∧ tt σ2 H2 fun b H3 =>
      if b = true then te σ2 H3 fun y H4 => ∃ acc, H4 D = some (.lst acc) ∧ acc.length < sizeLine ∧ Pv (i + 1) (upd H4 D (.lst (acc ++ [y]))) else Pv (i + 1) H3) (hd : ∀ H, Pv xs.length H → Qd H) :
    ∃ W : Nat → Nat → Hp → Prop, (∃ m, W 0 m (upd H1 D (.lst []))) ∧ ∀ i k H, W i k H →
      ((ItzB a b K l m).stop i H ∧ Qd H) ∨ ((ItzB a b K l m).go i H ∧ ∃ Nx : Hp → Prop, (∀ H', Nx H' → ∃ m', m' < k ∧ W (i + 1) m' H') ∧ ∀ x H', (ItzB a b K l m).yld i H x H' → g x (wipe σ vs) H' fun σ2 H2 => wipe σ2 vs = wipe σ vs ∧ tt σ2 H2 fun b H3 =>
        if b = true then te σ2 H3 fun y H4 => ∃ acc, H4 D = some (.lst acc) ∧ acc.length < sizeLine ∧ Nx (upd H4 D (.lst (acc ++ [y]))) else Nx H3) := by
  refine ⟨fun i k H => i + k = xs.length ∧ Pv i H, ⟨xs.length, Nat.zero_add _, h0⟩, ?_⟩
  rintro i k H ⟨em, p⟩
  obtain ⟨qx, qy⟩ := hq i H p
  by_cases hi : i < xs.length
  · refine .inr ⟨⟨xs, ys, xs[i], ys[i], qx, qy, List.getElem?_eq_getElem hi, List.getElem?_eq_getElem (by omega)⟩, Pv (i + 1), fun H' p' => ⟨k - 1, by omega, by omega, p'⟩, ?_⟩
    rintro v H' ⟨T, x, y, rfl, hT, rfl, f1, f2⟩
    exact hs i x y T H (f1 xs qx) (f2 ys qy) p hT
  · have e : i = xs.length := by omega
    subst e
    exact .inl ⟨⟨xs, ys, qx, qy, .inl (Nat.le_refl _)⟩, hd H p⟩

/-! ### generator expressions over zip -/
section
variable {X : Cx} {pins : List (Addr × Obj)} {σ : L2.St} {H : Hp} {s : Shared}
def EltZ (X : Cx) (P : Addr) (scope : Scope) (x y : Str) (elt : Expr) (σ : L2.St) (dom : V → V → Prop) (f : V → V → V) : Prop :=
  ∀ (pins : List (Addr × Obj)) (H1 : Hp) (s1 : Shared) (cenv : Env) (A' : Around) (E' : Value → Shared → Prop) (v v2 : V) (u u2 : Value) (s2 : Shared) (m2 : Str → Option Value),
    Inv X pins σ H1 s1 → GxR.TabG H1 P → cenv.scope = scope → cenv.cells = cloFrom X.env.cells scope.names [] → A'.handled = none → A'.depth ≤ X.A.depth + 1 → A'.units ≤ X.A.units + 8 → dom v v2 → RelV v u → RelV v2 u2 →
    s2.heap.Ns cenv.locals m2 → m2 x = some u → m2 y = some u2 → (∀ b o, b ≠ P → s1.heap.get? b = some o → s2.heap.get? b = some o) → cenv.globals = X.env.globals →
    wpAny (model X.prog X.w) A' (eval elt cenv) (fun r s3 => RelV (f v v2) r ∧ Keeps s2 s3) E' s2
theorem gen_zip {c P : Addr} {elt e e2 : Expr} {x y : Str} {pa pb pt p pos gpos : Pos} {kt : Nat} {scope : Scope} {dom : V → V → Prop} {f : V → V → V} {ta : TA} {k : Nat} {Q' : Value → Shared → Prop} {R : List V → List V → Hp → Prop}
    (hr : Room k X.A) (hg : Gl X "zip") (hm : X.mg "zip" = none) (TB : GxR.TabB X.base X.mg c P) (hcode : X.env.code = .ref c) (S : GxR.GenS X.env scope x) (Sy : scope.names.lookup y = some .local) (hxy : x ≠ y) (ha : PA X [e, e2] ta) (hel : EltZ X P scope x y elt σ dom f)
    (hs0 : starEach [e, e2] X.env = (false, eval e X.env) :: starEach [e2] X.env) (hpl : (backTo pos (starEach [e2] X.env)).any (·.1) = false)
    (hs : ∀ v, genFold (.Call (.Name "zip" p) [e, e2] [] pos) X.env v = pure v) (I : Inv X pins σ H s)
    (h : ta σ H fun vs H1 => ∃ (a b : Bool) (l m : Addr) (xs ys : List V), vs = [.ref l, .ref m] ∧ SqB a X.K H1 l xs ∧ SqB b X.K H1 m ys ∧ xs.length = ys.length ∧ (∀ (i : Nat) (v v2 : V), xs[i]? = some v → ys[i]? = some v2 → dom v v2) ∧ GxR.TabG H1 P ∧ R xs ys H1)
    (hQ : ∀ xs ys H1 g s5, R xs ys H1 → ReadyG X pins σ H1 P (List.zipWith f xs ys) (fun v => v) g s5 → Q' (.ref g) s5) :
    wpAny (model X.prog X.w) X.A (eval (.GeneratorExp elt [⟨.Tuple [.Name x pa, .Name y pb] kt pt, .Call (.Name "zip" p) [e, e2] [] pos, [], 0⟩] scope gpos) X.env) Q' X.xe s := by
  refine wpAny_GeneratorExp_walksQTD hr.hd S.co (closure_ok S.free) S.cell S.dot S.loc Sy hxy S.kind (by have := hr.dp; omega) ?_ hs
  refine Call_ (ld_blt I hg hm PyProof.Rows.boot_zip (PyProof.Rows.callWith_type1 (thn (ha.run pos pins s σ H _ I h) ?_) hs0 hpl))
  rintro us s1 ⟨vs, H1, I1, r1, a, b, l, m, xs, ys, rfl, qx, qy, hlen, hdom, hT, q1⟩
  rw [vals_refs r1]
  obtain ⟨its, rv, w1⟩ := sqb_raw I1 qx
  obtain ⟨its2, rv2, w2⟩ := sqb_raw I1 qy
  refine call_zipB w1 w2 fun g1 Z sz1 far => wpAny_pyIter_zip Z.obj ?_
  have DD : ZipApart (s1.heap.objs.size + 4) (s1.heap.objs.size + 2) (s1.heap.objs.size + 3) s1.heap.objs.size (s1.heap.objs.size + 1) l m := PySem.W.ktu_apart s1.heap.objs.size l m w1.lt w2.lt
  have W := fun (A' : Around) (hA : A'.handled = none) => zp_walks (prog := X.prog) (w := X.w) hA DD (inner_of a DD.l1i1) (inner_of b DD.l2i2) (xs := its.toArray) (ys := its2.toArray)
  have nmin : min its.toArray.size its2.toArray.size = (List.zipWith f xs ys).length := by
    rw [List.size_toArray, List.size_toArray, List.length_zipWith, rv.length, rv2.length]
  obtain ⟨ps, hP, ht⟩ := _root_.id hT
  have gP : s1.heap.get? P = some { cls := .none, data := .fields ps } := I1.hok P _ hP
  have gP1 := far _ _ gP
  have ltP : P < s1.heap.objs.size := Heap.lt_size gP
  have lim : g1.NoLimit := I1.nolimit.keeps far
  have cd : PySem.W.CodeHd g1 c P := TB.code.keeps fun b u e => far b u (I1.bk b u e)
  have lP : ∀ {d : Bool} {q : Addr} {zs : Array Value}, RawB d s1.heap q zs → q ≠ P := fun {d q zs} r z => by
    cases d with
    | true =>
      obtain ⟨o, e, _, n, dd⟩ := r
      rw [z, gP] at e
      cases e
      cases dd
    | false =>
      obtain ⟨o, e, _, n, dd⟩ := r
      rw [z, gP] at e
      cases e
      cases dd
  have onP : ∀ c' ∈ [s1.heap.objs.size + 4, s1.heap.objs.size + 2, s1.heap.objs.size + 3, s1.heap.objs.size, s1.heap.objs.size + 1, l, m], c' ≠ P := by
    intro c' hc z
    simp only [List.mem_cons, List.not_mem_nil, or_false] at hc
    have lt2 : c' < s1.heap.objs.size := by rw [z]; exact ltP
    rcases hc with e | e | e | e | e | e | e
    · rw [e] at lt2; exact absurd lt2 (Nat.not_lt_of_le (Nat.le_add_right _ _))
    · rw [e] at lt2; exact absurd lt2 (Nat.not_lt_of_le (Nat.le_add_right _ _))
    · rw [e] at lt2; exact absurd lt2 (Nat.not_lt_of_le (Nat.le_add_right _ _))
    · rw [e] at lt2; exact absurd lt2 (Nat.lt_irrefl _)
    · rw [e] at lt2; exact absurd lt2 (Nat.not_lt_of_le (Nat.le_add_right _ _))
    · exact lP w1 (e.symm.trans z)
    · exact lP w2 (e.symm.trans z)
  have go : ∀ (code : Value) (h3 : Heap) (tk : Nat) (ps' : Array Value), Heap.ExtBut P g1 h3 → g1.objs.size ≤ h3.objs.size → h3.get? P = some { cls := .none, data := .fields ps' } →
      (∃ more, ps' = ps ++ more) → TriplesOk ps'.toList → wpAny (model X.prog X.w) X.A (builtinsFor X.env.globals X.env.builtins) (fun bi s4 =>
        ∃ Ia fp wr n0 Pt St0 Mid pz F, Value.ref (s1.heap.objs.size + 4) = .ref Ia ∧ (∀ A' : Around, A'.handled = none → WalksU X.prog X.w A' Ia fp wr n0 Pt St0 Mid) ∧ (∀ i vals, Pt i vals → ∃ va vb, vals = #[va, vb]) ∧ St0 0 s4.heap ∧ (∀ b ∈ fp, b < s4.heap.objs.size) ∧ s4.heap.NoLimit ∧ cStatics ∉ wr ∧
          (∀ href : Heap, (∀ b o, s4.heap.get? b = some o → href.get? b = some o) →
            QuietGenTD X.prog X.w (genEnv scope (cloFrom X.env.cells scope.names []) s4.heap.objs.size code bi X.env) x y [] elt (List.range s4.heap.objs.size) wr Pt pz F href (X.A.depth + 1) (X.A.units + 8)) ∧
          (∀ a h5 tk gs, gs.bare = true → s4.heap.objs.size < a → h5.objs.size = a + 1 → (∀ b o, s4.heap.get? b = some o → h5.get? b = some o) →
            WalksS X.prog X.w X.A.in4 a (a :: s4.heap.objs.size :: List.range s4.heap.objs.size) (s4.heap.objs.size :: wr) (GenOnlyQ s4.gens.size) (passing pz n0 0).length
              (fun j y => ∃ i, (passing pz n0 0)[j]? = some i ∧ F i y) (GenAt X.prog X.w X.A.in4 a s4.gens.size s4.heap.objs.size (List.range s4.heap.objs.size) wr pz n0 F) →
            GenAt X.prog X.w X.A.in4 a s4.gens.size s4.heap.objs.size (List.range s4.heap.objs.size) wr pz n0 F 0 { s4 with gens := s4.gens.push gs, toks := tk, heap := h5 } →
            Q' (.ref a) { s4 with gens := s4.gens.push gs, toks := tk, heap := h5 })) X.xe { s1 with heap := h3, toks := tk } := by
    intro code h3 tk ps' ext sz P3 more tr
    obtain ⟨bm, ob', b1, b2, b3, b4, b5, b6, b7, b8⟩ := TB.bm
    have keep3 : ∀ b u, b ≠ P → s1.heap.get? b = some u → h3.get? b = some u := fun b u hb e => ext b u hb (far b u e)
    obtain ⟨mc, lns, _⟩ := _root_.id I1.nolimit
    have ltC : cStatics < s1.heap.objs.size := lns.lt
    have cP : cStatics ≠ P := by
      obtain ⟨o', es, ep, e, d, _⟩ := lns
      intro z
      rw [z, gP] at e
      cases e
      cases d
    refine wpAny_builtinsFor (m := X.mg) (by rw [I1.ok.glob]; exact ((I1.mod.glob.keeps I1.bk).keeps far).extBut ext TB.gP) b1 b2 (keep3 _ _ b4 (I1.bk _ _ b5)) b6 b7 b8 ?_
    refine ⟨s1.heap.objs.size + 4, _, _, _, _, _, _, (fun _ => true), (fun i r => ∃ v v2, xs[i]? = some v ∧ ys[i]? = some v2 ∧ RelV (f v v2) r), rfl, W, ?_, ?_, ?_, lim.extBut ext cP, ?_, ?_, ?_⟩
    · rintro i vals ⟨u1, u2, _, _, e⟩
      exact ⟨u1, u2, e⟩
    · exact (W X.A hr.hd).frame _ _ _ Z fun b hb u e => ext b u (onP b hb) e
    · intro b hb
      show b < h3.objs.size
      have lt1 : b < g1.objs.size := by
        rw [sz1]
        simp only [List.mem_cons, List.not_mem_nil, or_false] at hb
        rcases hb with e | e | e | e | e | e | e
        · rw [e]; exact Nat.add_lt_add_left (by decide) _
        · rw [e]; exact Nat.add_lt_add_left (by decide) _
        · rw [e]; exact Nat.add_lt_add_left (by decide) _
        · rw [e]; exact Nat.lt_add_of_pos_right (by decide)
        · rw [e]; exact Nat.add_lt_add_left (by decide) _
        · rw [e]; exact Nat.lt_of_lt_of_le w1.lt (Nat.le_add_right _ _)
        · rw [e]; exact Nat.lt_of_lt_of_le w2.lt (Nat.le_add_right _ _)
      exact Nat.lt_of_lt_of_le lt1 sz
    · intro z
      simp only [List.mem_cons, List.not_mem_nil, or_false] at z
      rcases z with e | e | e | e
      · rw [e] at ltC; exact absurd ltC (Nat.not_lt_of_le (Nat.le_add_right _ _))
      · rw [e] at ltC; exact absurd ltC (Nat.not_lt_of_le (Nat.le_add_right _ _))
      · rw [e] at ltC; exact absurd ltC (Nat.lt_irrefl _)
      · rw [e] at ltC; exact absurd ltC (Nat.not_lt_of_le (Nat.le_add_right _ _))
    · intro href hh
      refine ⟨?_, ?_⟩
      · intro A' E' i va vb s2 m2 _ _ _ _ _ _ _ _
        simp only [List.forIn_nil]
        exact wpAny_pure ⟨rfl, GxR.keeps_refl _⟩
      · intro A' E' i va vb s2 m2 hA hD hU hPt _ hn hmx hmy hk
        obtain ⟨u1, u2, eu1, eu2, epr⟩ := hPt
        obtain ⟨e1, e2⟩ : va = u1 ∧ vb = u2 := by simpa using congrArg Array.toList epr
        subst e1 e2
        have hi1 : i < xs.length := by
          rw [rv.length]
          simpa using (Array.getElem?_eq_some_iff.mp eu1).1
        have hi2 : i < ys.length := by omega
        obtain ⟨w1', ew1, rw1⟩ := rv.get (List.getElem?_eq_getElem hi1)
        obtain ⟨w2', ew2, rw2⟩ := rv2.get (List.getElem?_eq_getElem hi2)
        have q1' : w1' = va := by
          have : its[i]? = some va := by simpa using eu1
          rw [ew1] at this
          exact Option.some.inj this
        have q2' : w2' = vb := by
          have : its2[i]? = some vb := by simpa using eu2
          rw [ew2] at this
          exact Option.some.inj this
        subst q1' q2'
        refine wpAny_mono (hel pins H1 s1 _ A' E' _ _ w1' w2' s2 m2 I1 ⟨ps, hP, ht⟩ rfl rfl hA hD hU (hdom i _ _ (List.getElem?_eq_getElem hi1) (List.getElem?_eq_getElem hi2)) rw1 rw2 hn hmx hmy ?_ rfl) (fun r s3 z => ⟨⟨_, _, List.getElem?_eq_getElem hi1, List.getElem?_eq_getElem hi2, z.1⟩, z.2⟩) (fun _ _ e => e)
        intro b o hb e
        have e3 := keep3 b o hb e
        refine hk b (List.mem_range.mpr (Heap.lt_size e3)) ?_ o (hh b o e3)
        intro z
        have lb := Heap.lt_size e
        simp only [List.mem_cons, List.not_mem_nil, or_false] at z
        rcases z with e | e | e | e
        · rw [e] at lb; exact absurd lb (Nat.not_lt_of_le (Nat.le_add_right _ _))
        · rw [e] at lb; exact absurd lb (Nat.not_lt_of_le (Nat.le_add_right _ _))
        · rw [e] at lb; exact absurd lb (Nat.lt_irrefl _)
        · rw [e] at lb; exact absurd lb (Nat.not_lt_of_le (Nat.le_add_right _ _))
    · intro g h5 tk5 gs hgb hag hsz5 hk5 W5 hgat
      simp only [GxR.passing_true, List.length_range] at W5
      rw [nmin] at W5 hgat
      refine hQ xs ys H1 g _ q1 ⟨_, _, _, _, _, W5, hgat, ?_, List.mem_cons_self, (fun i s9 h9 => h9.1.typeIs), ?_, ?_⟩
      · intro b hb
        show b < h5.objs.size
        have h8 : h3.objs.size < g := hag
        rw [hsz5]
        rcases List.mem_cons.mp hb with z | z
        · rw [z]
          exact Nat.lt_succ_self g
        · rcases List.mem_cons.mp z with z | z
          · rw [z]
            exact Nat.lt_succ_of_lt h8
          · exact Nat.lt_succ_of_lt (Nat.lt_trans (List.mem_range.mp z) h8)
      · rintro jj r ⟨i, hij, v, v2, hv, hv2, rel⟩
        obtain ⟨hj, ej⟩ := List.getElem?_eq_some_iff.mp hij
        rw [List.getElem_range] at ej
        subst ej
        refine ⟨f v v2, ?_, rel⟩
        rw [List.getElem?_zipWith, hv, hv2]
      · intro s' hm'
        obtain ⟨mr, rfl⟩ := more
        have old : ∀ b u, s1.heap.get? b = some u → b ∉ h3.objs.size :: [s1.heap.objs.size + 4, s1.heap.objs.size + 3, s1.heap.objs.size, s1.heap.objs.size + 1] := by
          intro b u e hb
          have lb := Heap.lt_size e
          have l3 : s1.heap.objs.size ≤ h3.objs.size := by omega
          simp only [List.mem_cons, List.not_mem_nil, or_false] at hb
          rcases hb with z | z | z | z | z
          · rw [z] at lb; exact absurd lb (Nat.not_lt_of_le l3)
          · rw [z] at lb; exact absurd lb (Nat.not_lt_of_le (Nat.le_add_right _ _))
          · rw [z] at lb; exact absurd lb (Nat.not_lt_of_le (Nat.le_add_right _ _))
          · rw [z] at lb; exact absurd lb (Nat.lt_irrefl _)
          · rw [z] at lb; exact absurd lb (Nat.not_lt_of_le (Nat.le_add_right _ _))
        have J := GxR.inv_tab (more := mr) (h' := s'.heap) (g' := s'.gens) (d' := s'.drawn) (t' := s'.toks) I1 hP (fun b u hb e => hm'.heap b u (old b u e) (hk5 b u (keep3 b u hb e)))
          (hm'.heap P _ (old P _ gP) (hk5 P _ P3)) (AllBare.movedS (I1.bare.push hgb) hm')
        rw [GxR.sh_eta s1 s' hm'.os] at J
        exact ⟨_, ⟨⟨_, upd_same, tr⟩, fun b hb => upd_ne hb⟩, J⟩
  refine ⟨lim, ?_⟩
  cases hf : codeAmong gpos ps.toList with
  | some cv => exact wpAny_genexprCode_hit hcode (cd.code gP1 ht) hf (go cv _ s1.toks ps (Heap.ExtBut.refl _ _) (Nat.le_refl _) gP1 ⟨#[], by simp⟩ ht)
  | none =>
    refine wpAny_genexprCodeX hcode (cd.code gP1 ht) (cd.tab gP1) hf ?_
    intro c' h' tk ext ge lt co _ tab _
    obtain ⟨o1, vs, f1, tf, fl, tg, inF, tx, tt, op, _, _, _, _, _, _, _, _, _, tr, _⟩ := co
    exact go _ h' tk _ ext (Nat.le_trans ge (Nat.le_of_lt lt)) tab.2 ⟨_, rfl⟩ tr
end
end GL
set_option Elab.async false
set_option linter.all false
set_option maxRecDepth 100000
set_option maxHeartbeats 4000000
/-! tuple and sum of a generator expression over zip. -/
namespace GL
open PySem PySem.Spec PyProof.Rows L2
theorem vals_key {f : V → V} : ∀ (ys : List V) (us : List Value), ys.length = us.length → (∀ (j : Nat) (u : Value), us[j]? = some u → ∃ v, ys[j]? = some v ∧ RelV (f v) u) → Vals (ys.map f) us
  | [], [], _, _ => .nil
  | y :: ys, u :: us, hl, hv => .cons (by
      obtain ⟨v, h1, h2⟩ := hv 0 u rfl
      cases h1
      exact h2) (vals_key ys us (Nat.succ.inj hl) fun j w hw => hv (j + 1) w hw)
section
variable {X : Cx}
/-- what a consumer asks of the two things -/
def tGenZ (K : PySem.W.Frag) (P : Addr) (dom : L2.St → V → V → Prop) (ta : TA) (R : List V → List V → L2.St → Hp → VK → Prop) : TE := fun σ H Q => ta σ H fun vs H1 => ∃ (a b : Bool) (l m : Addr) (xs ys : List V), vs = [.ref l, .ref m] ∧ SqB a K H1 l xs ∧ SqB b K H1 m ys ∧ xs.length = ys.length ∧
  (∀ (i : Nat) (v v2 : V), xs[i]? = some v → ys[i]? = some v2 → dom σ v v2) ∧ GxR.TabG H1 P ∧ R xs ys σ H1 Q
def rTupZ (P : Addr) (f : L2.St → V → V → V) : List V → List V → L2.St → Hp → VK → Prop := fun xs ys σ H1 Q => xs.length ≤ sizeLine ∧ ∀ H2, GxR.Tabbed P H1 H2 → ∀ D, H2 D = none → Q (.ref D) (upd H2 D (.tup (List.zipWith (f σ) xs ys)))
theorem pe_tupZ {c P : Addr} {elt e e2 : Expr} {x y : Str} {pa pb pt p p0 pos pos0 gpos : Pos} {kt : Nat} {scope : Scope} {dom : L2.St → V → V → Prop} {f : L2.St → V → V → V} {ta : TA} {k : Nat}
    (hr : Room k X.A) (ht : Gl X "tuple") (hmt : X.mg "tuple" = none) (hg : Gl X "zip") (hm : X.mg "zip" = none) (TB : GxR.TabB X.base X.mg c P) (hcode : X.env.code = .ref c) (S : GxR.GenS X.env scope x) (Sy : scope.names.lookup y = some .local) (hxy : x ≠ y) (ha : PA X [e, e2] ta) (hel : ∀ σ, EltZ X P scope x y elt σ (dom σ) (f σ))
    (hs : ∀ v, genFold (.Call (.Name "zip" p) [e, e2] [] pos) X.env v = pure v) (hs0 : starEach [e, e2] X.env = (false, eval e X.env) :: starEach [e2] X.env := by rfl) (hpl : (backTo pos (starEach [e2] X.env)).any (·.1) = false := by rfl)
    (hb : bootBuiltins "tuple" = some (.type "tuple") := by decide +kernel)
    (he : starEach [.GeneratorExp elt [⟨.Tuple [.Name x pa, .Name y pb] kt pt, .Call (.Name "zip" p) [e, e2] [] pos, [], 0⟩] scope gpos] X.env = (false, eval (.GeneratorExp elt [⟨.Tuple [.Name x pa, .Name y pb] kt pt, .Call (.Name "zip" p) [e, e2] [] pos, [], 0⟩] scope gpos) X.env) :: starEach [] X.env := by rfl) :
    PE X (.Call (.Name "tuple" p0) [.GeneratorExp elt [⟨.Tuple [.Name x pa, .Name y pb] kt pt, .Call (.Name "zip" p) [e, e2] [] pos, [], 0⟩] scope gpos] [] pos0) (tGenZ X.K P dom ta (rTupZ P f)) := by
  constructor
  intro pins s σ H Q I h
  refine wpAny_Call_Name_kw (ld_blt I ht hmt hb (PyProof.Rows.callWith_type1 ?_ he (by rfl)))
  rw [he]
  show wpAny _ _ (spliced ((false, eval (.GeneratorExp elt [⟨.Tuple [.Name x pa, .Name y pb] kt pt, .Call (.Name "zip" p) [e, e2] [] pos, [], 0⟩] scope gpos) X.env) :: backTo pos0 (starEach [] X.env))) _ _ s
  refine Calls.spliced_cons (gen_zip (R := fun xs ys H1 => rTupZ P f xs ys σ H1 Q) hr hg hm TB hcode S Sy hxy ha (hel σ) hs0 hpl hs I h ?_)
  rintro xs ys H1 g s5 ⟨hz, hR⟩ ⟨fp, wr, G, F, St, W, hst, hfp, hgf, hty, hF, hI⟩
  have nz : (List.zipWith (f σ) xs ys).length ≤ sizeLine := by
    rw [List.length_zipWith]
    omega
  refine Calls.spliced_nil (call_tuple_gen (hsz := nz) W.in4_3 hty hst hfp hgf ?_)
  intro s' acc hmv hacc
  obtain ⟨H2, hT, J⟩ := hI s' hmv
  have rel : Vals ((List.zipWith (f σ) xs ys).map fun v => v) acc.toList := vals_key _ _ (by rw [Array.length_toList]; exact hacc.1.symm) fun j u hu => hF j u (hacc.2 j u (by simpa using hu))
  rw [List.map_id'] at rel
  refine ⟨.ref s'.heap.objs.size, _, J.laid (t' := s'.toks) (fun b u e => Heap.get?_push_of_some _ e) (Nat.le_refl _) ?_, rfl, hR H2 hT _ (J.hok.fresh (Nat.le_refl _))⟩
  refine ⟨nz, acc.toList, rel, _, Heap.get?_push_size _ rfl, rfl, 0, ?_⟩
  simp
/-- sum of such whole numbers -/
def rSumZ (P : Addr) (f : L2.St → V → V → Int) : List V → List V → L2.St → Hp → VK → Prop := fun xs ys σ H1 Q => ∀ H2, GxR.Tabbed P H1 H2 → Q (.int (List.zipWith (f σ) xs ys).sum) H2
theorem preSum_list (zs : List Int) : ∀ n, preSum (fun i => (zs[i]?).getD 0) n = (zs.take n).sum
  | 0 => by simp [preSum]
  | n + 1 => by
    have ih := preSum_list zs n
    rw [List.take_add_one, List.sum_append, ← ih]
    show preSum _ n + (zs[n]?).getD 0 = _
    congr 1
    cases zs[n]? with
    | none => rfl
    | some v => simp
theorem pe_sumZ {c P : Addr} {elt e e2 : Expr} {x y : Str} {pa pb pt p p0 pos pos0 gpos : Pos} {kt : Nat} {scope : Scope} {dom : L2.St → V → V → Prop} {f : L2.St → V → V → Int} {ta : TA} {k : Nat}
    (hr : Room k X.A) (ht : Gl X "sum") (hmt : X.mg "sum" = none) (hg : Gl X "zip") (hm : X.mg "zip" = none) (TB : GxR.TabB X.base X.mg c P) (hcode : X.env.code = .ref c) (S : GxR.GenS X.env scope x) (Sy : scope.names.lookup y = some .local) (hxy : x ≠ y) (ha : PA X [e, e2] ta) (hel : ∀ σ, EltZ X P scope x y elt σ (dom σ) (fun v v2 => .int (f σ v v2)))
    (hs : ∀ v, genFold (.Call (.Name "zip" p) [e, e2] [] pos) X.env v = pure v) (hs0 : starEach [e, e2] X.env = (false, eval e X.env) :: starEach [e2] X.env := by rfl) (hpl : (backTo pos (starEach [e2] X.env)).any (·.1) = false := by rfl)
    (hb : bootBuiltins "sum" = some (.builtin "sum") := by decide +kernel)
    (he : starEach [.GeneratorExp elt [⟨.Tuple [.Name x pa, .Name y pb] kt pt, .Call (.Name "zip" p) [e, e2] [] pos, [], 0⟩] scope gpos] X.env = (false, eval (.GeneratorExp elt [⟨.Tuple [.Name x pa, .Name y pb] kt pt, .Call (.Name "zip" p) [e, e2] [] pos, [], 0⟩] scope gpos) X.env) :: starEach [] X.env := by rfl) :
    PE X (.Call (.Name "sum" p0) [.GeneratorExp elt [⟨.Tuple [.Name x pa, .Name y pb] kt pt, .Call (.Name "zip" p) [e, e2] [] pos, [], 0⟩] scope gpos] [] pos0) (tGenZ X.K P dom ta (rSumZ P f)) := by
  constructor
  intro pins s σ H Q I h
  refine wpAny_Call_Name_kw (ld_blt I ht hmt hb (PyProof.Rows.callWith_builtin1 ?_ he (by rfl)))
  rw [he]
  show wpAny _ _ (spliced ((false, eval (.GeneratorExp elt [⟨.Tuple [.Name x pa, .Name y pb] kt pt, .Call (.Name "zip" p) [e, e2] [] pos, [], 0⟩] scope gpos) X.env) :: backTo pos0 (starEach [] X.env))) _ _ s
  refine Calls.spliced_cons (gen_zip (R := fun xs ys H1 => rSumZ P f xs ys σ H1 Q) hr hg hm TB hcode S Sy hxy ha (hel σ) hs0 hpl hs I h ?_)
  rintro xs ys H1 g s5 hR ⟨fp, wr, G, F, St, W, hst, hfp, hgf, hty, hF, hI⟩
  refine Calls.spliced_nil (call_sum_walkAnyS (W.in4_1.self 0 _ _ _ hst ⟨g, fp, wr, G, _, F, St, (fun i => ((List.zipWith (f σ) xs ys)[i]?).getD 0), rfl, W.in4_1, hst, hfp, ?_, ?_⟩))
  · intro j u hu
    obtain ⟨v, hv, r⟩ := hF j u hu
    rw [List.getElem?_zipWith] at hv
    cases ex : xs[j]? with
    | none =>
      rw [ex] at hv
      cases hv
    | some a =>
      cases ey : ys[j]? with
      | none =>
        rw [ex, ey] at hv
        cases hv
      | some b =>
        rw [ex, ey] at hv
        have ev : V.int (f σ a b) = v := Option.some.inj hv
        rw [← ev] at r
        obtain ⟨tk, rfl⟩ := r
        refine ⟨tk, ?_⟩
        show Value.int _ _ = Value.int (((List.zipWith (f σ) xs ys)[j]?).getD 0) _
        rw [List.getElem?_zipWith, ex, ey]
        rfl
  · intro s' t' hmv
    obtain ⟨H2, hT, J⟩ := hI s' hmv
    rw [preSum_list, List.take_of_length_le (by rw [List.length_zipWith, List.length_zipWith]; exact Nat.le_refl _)]
    exact ⟨.int _, H2, J, ⟨_, rfl⟩, hR H2 hT⟩
end
end GL
set_option Elab.async false
set_option linter.all false
set_option maxRecDepth 100000
set_option maxHeartbeats 4000000
/-! is_whole within a generator expression: a def of one return, called where no invariant is at hand. -/
namespace GL
open PySem PySem.Spec PyProof.Rows L2
theorem keeps_trans {a b c : Shared} (h : Keeps a b) (k : Keeps b c) : Keeps a c := by
  obtain ⟨g, t, rfl, e⟩ := h
  obtain ⟨g', t', rfl, e'⟩ := k
  exact ⟨g', t', rfl, fun x o z => e' x o (e x o z)⟩
/-- what a call of a def asks of the heap -/
structure Base (K : PySem.W.Frag) (mg : Str → Option Value) (h : Heap) : Prop where
  kin : K.In h
  glo : h.Ns mainGlobals mg
  blt : ∃ mb, h.Ns builtinsNs mb ∧ ∀ y : Str, y ≠ "__name__" → mb y = bootBuiltins y
  lim : h.NoLimit
theorem Base.keeps {K : PySem.W.Frag} {mg : Str → Option Value} {h h' : Heap} (b : Base K mg h) (k : ∀ c o, h.get? c = some o → h'.get? c = some o) : Base K mg h' :=
  ⟨b.kin.keeps k, b.glo.keeps k, let ⟨mb, x, y⟩ := b.blt; ⟨mb, x.keeps k, y⟩, b.lim.keeps k⟩
section
variable {prog : Program} {w : World} {K : PySem.W.Frag} {mg : Str → Option Value}
/-- isinstance(x, T) in a frame whose name x stands for u -/
theorem isi_low {A : Around} {E : Value → Shared → Prop} {t : Shared} {env : Env} {x T : Str} {Tn : String} {p1 p2 p3 pos : Pos} {u ty : Value} {PP : Heap → Prop} {b : Bool} {m : Str → Option Value} {Q : Value → Shared → Prop} (B : Base K mg t.heap) (hk : env.scope.kind = .function) (hgl : env.globals = mainGlobals) (hbl : env.builtins = builtinsNs)
    (hx : env.scope.names.lookup x = some .local) (hi : env.scope.names.lookup ("isinstance" : Str) = some NameKind.globalImplicit) (hT : env.scope.names.lookup T = some .globalImplicit) (mi : mg "isinstance" = none) (mT : mg T = none) (bT : bootBuiltins T = some (.type Tn)) (nT : T ≠ "__name__") (dT : (T == ("__debug__" : Str)) = false) (dx : (x == ("__debug__" : Str)) = false)
    (hn : t.heap.Ns env.locals m) (hm : m x = some u) (Z : PySem.W.KitX K u ty PP) (p : PP t.heap) (e : PySem.W.kitOne K ty (.type Tn) = some b) (ne : u ≠ .builtin "__main__.__loader__#opaque")
    (hs : starEach [.Name x p2, .Name T p3] env = (false, eval (.Name x p2) env) :: starEach [.Name T p3] env) (hs2 : starEach [.Name T p3] env = (false, eval (.Name T p3) env) :: starEach [] env) (hpl : (backTo pos (starEach [.Name T p3] env)).any (·.1) = false)
    (q : ∀ tk, Q (.bool b) { t with toks := tk }) : wpAny (model prog w) A (eval (.Call (.Name "isinstance" p1) [.Name x p2, .Name T p3] [] pos) env) Q E t := by
  obtain ⟨mb, h1, h2⟩ := B.blt
  have bi : bootBuiltins ("isinstance" : Str) = some (.builtin "isinstance") := by decide +kernel
  refine wpAny_Call_Name_kw (Calls.Name_function_global hk hi (Calls.loadGlobal_builtin (by rw [hgl]; exact B.glo) mi (by rw [hbl]; exact h1) ((h2 _ (by decide)).trans bi) (PyProof.Rows.callWith_builtin1 ?_ hs hpl)))
  rw [hs, hs2]
  show wpAny _ _ (spliced ((false, eval (.Name x p2) env) :: (false, eval (.Name T p3) env) :: backTo pos (starEach [] env))) _ _ t
  refine Calls.spliced_cons (wpAny_Name (wpAny_loadName_local hk hx hn hm ?_) dx)
  refine Calls.spliced_cons (Calls.Name_function_global hk hT (Calls.loadGlobal_builtin (by rw [hgl]; exact B.glo) mT (by rw [hbl]; exact h1) ((h2 T nT).trans bT) ?_) dT)
  exact Calls.spliced_nil (PySem.W.kia_one Z B.kin p e ne fun tk => q tk)
theorem call_whole {A : Around} {E : Value → Shared → Prop} {t : Shared} {f : Addr} {fd : FuncData} {qual : Str} {params : Arguments} {scope : Scope} {p1 p2 p3 p4 p5 p6 p7 p8 p9 p10 p11 : Pos} {u ty : Value} {PP : Heap → Prop} {b1 b2 : Bool} {Q : Value → Shared → Prop}
    (F : FunD K qual qual params [.Return (some (.BoolOp .And [.Call (.Name "isinstance" p1) [.Name "thing" p2, .Name "int" p3] [] p4, .UnaryOp .Not (.Call (.Name "isinstance" p5) [.Name "thing" p6, .Name "bool" p7] [] p8) p9] p10)) p11] scope [] [] f fd)
    (S : FnScope ["thing"] ["thing"] scope) (hl : scope.names.lookup ("thing" : Str) = some NameKind.local) (hi : scope.names.lookup ("isinstance" : Str) = some NameKind.globalImplicit) (hT : scope.names.lookup ("int" : Str) = some NameKind.globalImplicit) (hB : scope.names.lookup ("bool" : Str) = some NameKind.globalImplicit) (hb : Binds K fd ["thing"] [])
    (mi : mg "isinstance" = none) (mT : mg "int" = none) (mB : mg "bool" = none) (B : Base K mg t.heap) (dp : A.depth < recursionLimit) (hh : A.handled = none)
    (Z : PySem.W.KitX K u ty PP) (pk : ∀ h', (∀ c o, t.heap.get? c = some o → h'.get? c = some o) → PP h') (e1 : PySem.W.kitOne K ty (.type "int") = some b1) (e2 : PySem.W.kitOne K ty (.type "bool") = some b2) (ne : u ≠ .builtin "__main__.__loader__#opaque")
    (q : ∀ t', Keeps t t' → Q (.bool (b1 && !b2)) t') : wpAny (model prog w) A (call (.ref f) [u]) Q E t := by
  obtain ⟨oc, od, dV, kV, doc, pm, an, cdv, ct, osl, rfl, lk, hcd, _, _⟩ := F.ex
  refine wpAny_call (codeAny_call_function dp (B.kin _ _ lk) rfl S.co S.gen rfl (PySem.W.codeRec_of B.kin hcd) (hb t [u] B.kin rfl _ _ _ _ ?_))
  refine wpAny_newFunctionEnv_cells S.kind ?_ ?_
  · intro y hy
    exact .inl (by
      rw [List.mem_singleton.mp hy]
      exact hl)
  intro env he s1 x
  have k1 := x.toInCall.keep
  have B1 : Base K mg s1.heap := B.keeps k1
  refine ⟨B1.lim, codeAny_func ?_⟩
  have hk : env.scope.kind = .function := by rw [he]; exact S.kind
  have sc : env.scope = scope := by rw [he]; rfl
  have hgl : env.globals = mainGlobals := by rw [he]; rfl
  have hbl : env.builtins = builtinsNs := by rw [he]; rfl
  have hm : (bindL env.kindOf [("thing", u)] fun _ => none) "thing" = some u := by
    have e : env.kindOf "thing" = some .local := by
      show env.scope.names.lookup ("thing" : Str) = some NameKind.local
      rw [sc]
      exact hl
    simp [bindL, e]
  obtain ⟨g1, tk1, rfl⟩ := x.toInCall.same
  have fin : ∀ (v : Bool) (tk : Nat), v = (b1 && !b2) → Q (.bool v) { t with heap := g1, toks := tk } := fun v tk z => by
    rw [z]
    exact q _ ⟨g1, tk, rfl, k1⟩
  refine wpAny_execs_cons (wpAny_Return_some (wpAny_And2 (isi_low (x := "thing") (T := "int") (Tn := "int") B1 hk hgl hbl (by rw [sc]; exact hl) (by rw [sc]; exact hi) (by rw [sc]; exact hT) mi mT (by decide +kernel) (by decide) (by decide) (by decide) x.toInCall.ns hm Z (pk _ k1) e1 ne rfl rfl rfl fun tk => wpAny_truthy_bool ?_)))
  cases b1 with
  | false => exact fin false tk rfl
  | true =>
    refine UnaryOp_ (isi_low (x := "thing") (T := "bool") (Tn := "bool") (t := { t with heap := g1, toks := tk }) B1 hk hgl hbl (by rw [sc]; exact hl) (by rw [sc]; exact hi) (by rw [sc]; exact hB) mi mB (by decide +kernel) (by decide) (by decide) (by decide) x.toInCall.ns hm Z (pk _ k1) e2 ne rfl rfl rfl fun tk2 => ?_)
    exact not_of (wpAny_truthy_bool (fin (!b2) tk2 (by rw [Bool.true_and])))
end
end GL
set_option Elab.async false
set_option linter.all false
set_option maxRecDepth 100000
set_option maxHeartbeats 4000000
/-! all(is_whole(x) for x in thing): the element. -/
namespace GL
open PySem PySem.Spec PyProof.Rows L2
section
variable {X : Cx} {pins : List (Addr × Obj)} {σ : L2.St} {H1 : Hp} {s1 s2 : Shared}
theorem ns_but {h h' : Heap} {P a : Addr} {ps : Array Value} {m : Str → Option Value} (gP : h.get? P = some { cls := .none, data := .fields ps }) (n : h.Ns a m) (k : ∀ b o, b ≠ P → h.get? b = some o → h'.get? b = some o) : h'.Ns a m := by
  obtain ⟨o, es, ep, e, d, r⟩ := n
  refine ⟨o, es, ep, k a o (fun z => ?_) e, d, r⟩
  rw [z, gP] at e
  cases e
  cases d
theorem base_but {P : Addr} (I : Inv X pins σ H1 s1) (hT : GxR.TabG H1 P) (hP : X.K.lookup P = none) (k : ∀ b o, b ≠ P → s1.heap.get? b = some o → s2.heap.get? b = some o) : Base X.K X.mg s2.heap := by
  obtain ⟨ps, e, _⟩ := hT
  have gP : s1.heap.get? P = some { cls := .none, data := .fields ps } := I.hok P _ e
  obtain ⟨mb, h1, h2⟩ := I.mod.blt
  obtain ⟨mc, l1, l2⟩ := I.nolimit
  refine ⟨fun a o z => k a o (fun q => ?_) (I.kIn a o z), ns_but gP (I.mod.glob.keeps I.bk) k, ⟨mb, ns_but gP (h1.keeps I.bk) k, h2⟩, ⟨mc, ns_but gP l1 k, l2⟩⟩
  rw [q, hP] at z
  cases z
/-- what is_whole answers of a thing without an address -/
def flatV : V → Prop
  | .int _ => True
  | .bl _ => True
  | .str _ => True
  | .non => True
  | _ => False
def isInt : V → Bool
  | .int _ => true
  | _ => false
theorem elt_whole {P f : Addr} {fd : FuncData} {params : Arguments} {scope sc : Scope} {x : Str} {q1 q2 q3 p1 p2 p3 p4 p5 p6 p7 p8 p9 p10 p11 : Pos} {k : Nat} (hr : Room k X.A)
    (F : FunD X.K "is_whole" "is_whole" params [.Return (some (.BoolOp .And [.Call (.Name "isinstance" p1) [.Name "thing" p2, .Name "int" p3] [] p4, .UnaryOp .Not (.Call (.Name "isinstance" p5) [.Name "thing" p6, .Name "bool" p7] [] p8) p9] p10)) p11] sc [] [] f fd)
    (S : FnScope ["thing"] ["thing"] sc) (hl : sc.names.lookup ("thing" : Str) = some NameKind.local) (hi : sc.names.lookup ("isinstance" : Str) = some NameKind.globalImplicit) (hT : sc.names.lookup ("int" : Str) = some NameKind.globalImplicit) (hB : sc.names.lookup ("bool" : Str) = some NameKind.globalImplicit) (hb : Binds X.K fd ["thing"] [])
    (mf : X.mg "is_whole" = some (.ref f)) (mi : X.mg "isinstance" = none) (mT : X.mg "int" = none) (mB : X.mg "bool" = none) (hP : X.K.lookup P = none) (hgl : X.env.globals = mainGlobals)
    (kd : scope.kind = .function) (lx : scope.names.lookup x = some .local) (lf : scope.names.lookup ("is_whole" : Str) = some NameKind.globalImplicit) (dx : (x == ("__debug__" : Str)) = false) :
    EltG X P scope x (.Call (.Name "is_whole" q1) [.Name x q2] [] q3) σ flatV (fun v => .bl (isInt v)) := by
  intro pins H1 s1 cenv A' E' v u s2 m2 I hTb hsc hce hA hD hU hdom ru hn hm hk hg
  have B := base_but (s2 := s2) I hTb hP hk
  have hk' : cenv.scope.kind = .function := by rw [hsc]; exact kd
  have he : starEach [.Name x q2] cenv = (false, eval (.Name x q2) cenv) :: starEach [] cenv := rfl
  refine wpAny_Call_Name_kw (Calls.Name_function_global hk' (show cenv.scope.names.lookup _ = _ by rw [hsc]; exact lf) (Calls.loadGlobal_global (by rw [hg, hgl]; exact B.glo) mf ?_))
  refine PySem.W.callWith_K (h₀ := s2.heap) B.kin F.kp ?_ he (by rfl)
  rw [he]
  show wpAny _ _ (spliced ((false, eval (.Name x q2) cenv) :: backTo q3 (starEach [] cenv))) _ _ s2
  refine Calls.spliced_cons (elt_own hsc kd lx hn hm (Calls.spliced_nil ?_) dx)
  refine ⟨B.kin, ?_⟩
  have dp : A'.depth < recursionLimit := by
    have := hr.dp
    omega
  have go : ∀ {ty : Value} {PP : Heap → Prop} {b1 b2 : Bool}, PySem.W.KitX X.K u ty PP → (∀ h', PP h') → PySem.W.kitOne X.K ty (.type "int") = some b1 → PySem.W.kitOne X.K ty (.type "bool") = some b2 → u ≠ .builtin "__main__.__loader__#opaque" → (b1 && !b2) = isInt v →
      wpAny (model X.prog X.w) A' (call (.ref f) [u]) (fun y s3 => RelV (.bl (isInt v)) y ∧ Keeps s2 s3) E' s2 := by
    intro ty PP b1 b2 Z p e1 e2 ne eb
    refine call_whole F S hl hi hT hB hb mi mT mB B dp hA Z (fun h' _ => p h') e1 e2 ne fun t' kp => ⟨?_, kp⟩
    rw [eb]
    rfl
  cases v with
  | int n => obtain ⟨t, rfl⟩ := ru; exact go PySem.W.kitx_int (fun _ => trivial) (by rfl) (by rfl) (fun z => nomatch z) rfl
  | bl b => obtain rfl : u = Value.bool b := ru; exact go PySem.W.kitx_bool (fun _ => trivial) (by rfl) (by rfl) (fun z => nomatch z) rfl
  | str y => obtain ⟨t, rfl⟩ := ru; exact go PySem.W.kitx_str (fun _ => trivial) (by rfl) (by rfl) (fun z => nomatch z) rfl
  | non => obtain rfl : u = Value.none := ru; exact go PySem.W.kitx_none (fun _ => trivial) (by rfl) (by rfl) (fun z => nomatch z) rfl
  | _ => exact hdom.elim
theorem op_isB : OpR X (compareOp .Is) (fun x y H Q => ∃ a b, x = .bl a ∧ y = .bl b ∧ Q (.bl (a == b)) H) := by
  rintro pins s σ H x y v u Q I rx ry ⟨a, b, rfl, rfl, q⟩
  cases (show v = Value.bool a from rx)
  cases (show u = Value.bool b from ry)
  exact wpAny_is_plain rfl (fin_bl I q (by cases a <;> cases b <;> rfl))
theorem op_notB : OpR X (compareOp .IsNot) (fun x y H Q => ∃ a b, x = .bl a ∧ y = .bl b ∧ Q (.bl (!(a == b))) H) := by
  rintro pins s σ H x y v u Q I rx ry ⟨a, b, rfl, rfl, q⟩
  cases (show v = Value.bool a from rx)
  cases (show u = Value.bool b from ry)
  exact wpAny_isNot_plain rfl (fin_bl I q (by cases a <;> cases b <;> rfl))
end
end GL
set_option Elab.async false
set_option linter.all false
set_option maxRecDepth 100000
set_option maxHeartbeats 2000000
set_option pp.maxSteps 300
set_option pp.deepTerms false
namespace K20
open PySem PySem.Spec PyProof.Rows L2 GL
def top (i : Nat) : Stmt := PySem.Challenge.pw_leapranks_k20_lots_told.main.body.getD i (.Pass ⟨0, 0, 0, 0⟩)
abbrev FnP (K : PySem.W.Frag) (x : Str) (st : Stmt) (f : Addr) (fd : FuncData) : Prop := FunD K x x (defArgs st) (defBody st) (defScope st) [] [] f fd
abbrev s_row_of : Stmt := top 1
abbrev N_row_of : List Str := ["web", "a", "names", "ties", "leaps", "chance", "falls", "row", "start", "goal", "weight"]
theorem sc_row_of : FnScope N_row_of ["web", "a"] (defScope s_row_of) := ⟨rfl, rfl, rfl, by decide +kernel, rfl, by decide +kernel, by decide +kernel⟩
abbrev s_column_of : Stmt := top 3
abbrev N_column_of : List Str := ["web", "a", "p", "q", "row", "column", "number"]
theorem sc_column_of : FnScope N_column_of ["web", "a"] (defScope s_column_of) := ⟨rfl, rfl, rfl, by decide +kernel, rfl, by decide +kernel, by decide +kernel⟩
abbrev s_is_whole : Stmt := top 5
abbrev N_is_whole : List Str := ["thing"]
theorem sc_is_whole : FnScope N_is_whole ["thing"] (defScope s_is_whole) := ⟨rfl, rfl, rfl, by decide +kernel, rfl, by decide +kernel, by decide +kernel⟩
abbrev s_are_wholes : Stmt := top 6
abbrev N_are_wholes : List Str := ["many", "thing"]
theorem sc_are_wholes : FnScope N_are_wholes ["many", "thing"] (defScope s_are_wholes) := ⟨rfl, rfl, rfl, by decide +kernel, rfl, by decide +kernel, by decide +kernel⟩
abbrev s_is_lot : Stmt := top 8
abbrev N_is_lot : List Str := ["web", "thing", "grains", "goings", "rest"]
theorem sc_is_lot : FnScope N_is_lot ["web", "thing"] (defScope s_is_lot) := ⟨rfl, rfl, rfl, by decide +kernel, rfl, by decide +kernel, by decide +kernel⟩
abbrev s_has_form : Stmt := top 9
abbrev N_has_form : List Str := ["many", "thing", "grains", "goings", "rest"]
theorem sc_has_form : FnScope N_has_form ["many", "thing"] (defScope s_has_form) := ⟨rfl, rfl, rfl, by decide +kernel, rfl, by decide +kernel, by decide +kernel⟩
abbrev s_lot_by : Stmt := top 10
abbrev N_lot_by : List Str := ["web", "grains", "goings", "rest", "a", "going", "leap"]
theorem sc_lot_by : FnScope N_lot_by ["web", "grains", "goings"] (defScope s_lot_by) := ⟨rfl, rfl, rfl, by decide +kernel, rfl, by decide +kernel, by decide +kernel⟩
abbrev s_rest_behind : Stmt := top 11
abbrev N_rest_behind : List Str := ["rest", "going", "column", "number", "part"]
theorem sc_rest_behind : FnScope N_rest_behind ["rest", "going", "column"] (defScope s_rest_behind) := ⟨rfl, rfl, rfl, by decide +kernel, rfl, by decide +kernel, by decide +kernel⟩
abbrev s_begun : Stmt := top 12
abbrev N_begun : List Str := ["web", "grains"]
theorem sc_begun : FnScope N_begun ["web", "grains"] (defScope s_begun) := ⟨rfl, rfl, rfl, by decide +kernel, rfl, by decide +kernel, by decide +kernel⟩
abbrev s_joined : Stmt := top 13
abbrev N_joined : List Str := ["one", "other", "grains_one", "goings_one", "rest_one", "grains_other", "goings_other", "rest_other"]
theorem sc_joined : FnScope N_joined ["one", "other"] (defScope s_joined) := ⟨rfl, rfl, rfl, by decide +kernel, rfl, by decide +kernel, by decide +kernel⟩
abbrev s_sums : Stmt := top 14
abbrev N_sums : List Str := ["ones", "others"]
theorem sc_sums : FnScope N_sums ["ones", "others"] (defScope s_sums) := ⟨rfl, rfl, rfl, by decide +kernel, rfl, by decide +kernel, by decide +kernel⟩
abbrev s__law_pen : Stmt := top 16
abbrev N__law_pen : List Str := ["_law_script"]
theorem sc__law_pen : FnScope N__law_pen ["_law_script"] (defScope s__law_pen) := ⟨rfl, rfl, rfl, by decide +kernel, rfl, by decide +kernel, by decide +kernel⟩
abbrev s__law_draw : Stmt := top 17
abbrev N__law_draw : List Str := ["_law_pen_here", "_law_many", "_law_digit", "_law_at", "_law_cell", "_law_primes", "_law_number_here"]
theorem sc__law_draw : FnScope N__law_draw ["_law_pen_here", "_law_many"] (defScope s__law_draw) := ⟨rfl, rfl, rfl, by decide +kernel, rfl, by decide +kernel, by decide +kernel⟩
abbrev s__law_pick : Stmt := top 18
abbrev N__law_pick : List Str := ["_law_pen_here", "_law_some"]
theorem sc__law_pick : FnScope N__law_pick ["_law_pen_here", "_law_some"] (defScope s__law_pick) := ⟨rfl, rfl, rfl, by decide +kernel, rfl, by decide +kernel, by decide +kernel⟩
abbrev s__law_names : Stmt := top 19
abbrev N__law_names : List Str := ["_law_pen_here", "_law_many", "_law_letters", "_law_step", "_law_first", "_law_base", "_law_at", "_law_ahead", "_law_behind", "_law_k"]
theorem sc__law_names : FnScope N__law_names ["_law_pen_here", "_law_many"] (defScope s__law_names) := ⟨rfl, rfl, rfl, by decide +kernel, rfl, by decide +kernel, by decide +kernel⟩
abbrev s__law_leaps : Stmt := top 20
abbrev N__law_leaps : List Str := ["_law_pen_here", "_law_many", "_law_way", "_law_spot", "_law_some", "_law_k", "_law_number_here"]
theorem sc__law_leaps : FnScope N__law_leaps ["_law_pen_here", "_law_many"] (defScope s__law_leaps) := ⟨rfl, rfl, rfl, by decide +kernel, rfl, by decide +kernel, by decide +kernel⟩
abbrev s__law_ties : Stmt := top 21
abbrev N__law_ties : List Str := ["_law_pen_here", "_law_many", "_law_way", "_law_top", "_law_bare", "_law_found", "_law_a", "_law_k", "_law_pair", "_law_b"]
theorem sc__law_ties : FnScope N__law_ties ["_law_pen_here", "_law_many"] (defScope s__law_ties) := ⟨rfl, rfl, rfl, by decide +kernel, rfl, by decide +kernel, by decide +kernel⟩
abbrev s__law_web : Stmt := top 22
abbrev N__law_web : List Str := ["_law_pen_here", "_law_most", "_law_many", "_law_q", "_law_p", "_law_falls"]
theorem sc__law_web : FnScope N__law_web ["_law_pen_here", "_law_most"] (defScope s__law_web) := ⟨rfl, rfl, rfl, by decide +kernel, rfl, by decide +kernel, by decide +kernel⟩
abbrev s__law_row : Stmt := top 23
abbrev N__law_row : List Str := ["_law_web_here", "_law_a", "_law_row_here", "_law_here", "_law_there", "_law_weight", "_law_name"]
theorem sc__law_row : FnScope N__law_row ["_law_web_here", "_law_a"] (defScope s__law_row) := ⟨rfl, rfl, rfl, by decide +kernel, rfl, by decide +kernel, by decide +kernel⟩
abbrev s__law_column : Stmt := top 24
abbrev N__law_column : List Str := ["_law_web_here", "_law_a", "_law_p", "_law_q", "_law_row_here", "_law_found", "_law_number_here"]
theorem sc__law_column : FnScope N__law_column ["_law_web_here", "_law_a"] (defScope s__law_column) := ⟨rfl, rfl, rfl, by decide +kernel, rfl, by decide +kernel, by decide +kernel⟩
abbrev s__law_lot : Stmt := top 25
abbrev N__law_lot : List Str := ["_law_web_here", "_law_grains_here", "_law_goings", "_law_left", "_law_a", "_law_going", "_law_leap", "_law_one", "_law_number_here"]
theorem sc__law_lot : FnScope N__law_lot ["_law_web_here", "_law_grains_here", "_law_goings"] (defScope s__law_lot) := ⟨rfl, rfl, rfl, by decide +kernel, rfl, by decide +kernel, by decide +kernel⟩
abbrev s__law_number : Stmt := top 26
abbrev N__law_number : List Str := ["_law_pen_here", "_law_way", "_law_sign"]
theorem sc__law_number : FnScope N__law_number ["_law_pen_here"] (defScope s__law_number) := ⟨rfl, rfl, rfl, by decide +kernel, rfl, by decide +kernel, by decide +kernel⟩
abbrev s__law_grains : Stmt := top 27
abbrev N__law_grains : List Str := ["_law_pen_here"]
theorem sc__law_grains : FnScope N__law_grains ["_law_pen_here"] (defScope s__law_grains) := ⟨rfl, rfl, rfl, by decide +kernel, rfl, by decide +kernel, by decide +kernel⟩
abbrev s__law_same : Stmt := top 28
abbrev N__law_same : List Str := ["_law_found", "_law_due"]
theorem sc__law_same : FnScope N__law_same ["_law_found", "_law_due"] (defScope s__law_same) := ⟨rfl, rfl, rfl, by decide +kernel, rfl, by decide +kernel, by decide +kernel⟩
abbrev s__law_told_right : Stmt := top 29
abbrev N__law_told_right : List Str := ["_law_web_here", "_law_lot_here", "_law_found", "_law_first", "_law_name"]
theorem sc__law_told_right : FnScope N__law_told_right ["_law_web_here", "_law_lot_here"] (defScope s__law_told_right) := ⟨rfl, rfl, rfl, by decide +kernel, rfl, by decide +kernel, by decide +kernel⟩
abbrev s__law_sum : Stmt := top 30
abbrev N__law_sum : List Str := ["_law_one", "_law_other", "_law_goings", "_law_k"]
theorem sc__law_sum : FnScope N__law_sum ["_law_one", "_law_other"] (defScope s__law_sum) := ⟨rfl, rfl, rfl, by decide +kernel, rfl, by decide +kernel, by decide +kernel⟩
abbrev s__law_joined_right : Stmt := top 31
abbrev N__law_joined_right : List Str := ["_law_web_here", "_law_one", "_law_other", "_law_due"]
theorem sc__law_joined_right : FnScope N__law_joined_right ["_law_web_here", "_law_one", "_law_other"] (defScope s__law_joined_right) := ⟨rfl, rfl, rfl, by decide +kernel, rfl, by decide +kernel, by decide +kernel⟩
abbrev s_law : Stmt := top 32
abbrev N_law : List Str := ["_law_script", "_law_pen_here", "_law_turn", "_law_web_here", "_law_shown", "_law_lots", "_law_again", "_law_lot_here", "_law_kept", "_law_name"]
theorem sc_law : FnScope N_law ["_law_script"] (defScope s_law) := ⟨rfl, rfl, rfl, by decide +kernel, rfl, by decide +kernel, by decide +kernel⟩
/-! ### webs -/
structure Web where
  names : List Str
  ties : List (Int × Int × Int)
  leaps : List Int
  p : Int
  q : Int
  falls : List Int
def tieT (t : Int × Int × Int) : HO := .tup [.int t.1, .int t.2.1, .int t.2.2]
/-- the web w stands at a, in tuples -/
structure WebAt (H : Hp) (a : Addr) (w : Web) : Prop where
  ex : ∃ (n t l c f : Addr) (ts : List Addr), H a = some (.tup [.ref n, .ref t, .ref l, .ref c, .ref f]) ∧ H n = some (.tup (w.names.map V.str)) ∧ H t = some (.tup (ts.map V.ref)) ∧ ts.length = w.ties.length ∧
    (∀ (j : Nat) (b : Addr) (x : Int × Int × Int), ts[j]? = some b → w.ties[j]? = some x → H b = some (tieT x)) ∧ H l = some (.tup (w.leaps.map V.int)) ∧ H c = some (.tup [.int w.p, .int w.q]) ∧ H f = some (.tup (w.falls.map V.int))
/-- no tuple stands at these places -/
def NoT (H : Hp) (ex : List Addr) : Prop := ∀ e ∈ ex, ∀ xs, H e ≠ some (.tup xs)
theorem Keep.tup {ex : List Addr} {H H' : Hp} (k : Keep ex H H') (n : NoT H ex) {b : Addr} {xs : List V} (h : H b = some (.tup xs)) : H' b = some (.tup xs) := k b _ (fun z => n b z xs h) h
theorem WebAt.keep {ex : List Addr} {H H' : Hp} {a : Addr} {w : Web} (x : WebAt H a w) (k : Keep ex H H') (nt : NoT H ex) : WebAt H' a w := by
  obtain ⟨n, t, l, c, f, ts, h1, h2, h3, h4, h5, h6, h7, h8⟩ := x.ex
  exact ⟨n, t, l, c, f, ts, Keep.tup k nt h1, Keep.tup k nt h2, Keep.tup k nt h3, h4, fun j b x hj hx => Keep.tup k nt (h5 j b x hj hx), Keep.tup k nt h6, Keep.tup k nt h7, Keep.tup k nt h8⟩
theorem noT_nil (H : Hp) : NoT H [] := fun _ h => (nomatch h)
theorem noT_tab {H : Hp} {T : Addr} (h : GxR.TabG H T) : NoT H [T] := fun e he xs z => by
  obtain ⟨ps, e1, _⟩ := h
  rw [List.mem_singleton.mp he, e1] at z
  cases z
/-! ### rows -/
def fillRow (a : Int) (ties : List (Int × Int × Int)) (r : List Int) : List Int := ties.foldl (fun row t => if t.1 = a then row.set t.2.1.toNat t.2.2 else row) r
def rowOf (w : Web) (a : Int) : List Int :=
  let r := fillRow a w.ties (List.replicate w.names.length 0)
  if r.any (fun n => decide (0 < n)) = true then r else if w.falls = [] then r.set a.toNat 1 else w.falls
theorem fill_len (a : Int) : ∀ (ties : List (Int × Int × Int)) (r : List Int), (fillRow a ties r).length = r.length
  | [], _ => rfl
  | t :: ts, r => by
    show (fillRow a ts (if t.1 = a then r.set t.2.1.toNat t.2.2 else r)).length = _
    rw [fill_len a ts]
    split
    · rw [List.length_set]
    · rfl
theorem fill_take (a : Int) (ties : List (Int × Int × Int)) (r : List Int) {i : Nat} {t : Int × Int × Int} (h : ties[i]? = some t) :
    fillRow a (ties.take (i + 1)) r = (if t.1 = a then (fillRow a (ties.take i) r).set t.2.1.toNat t.2.2 else fillRow a (ties.take i) r) := by
  unfold fillRow
  rw [List.take_add_one, h]
  simp
/-- what is known of a web's parts -/
structure Fits (w : Web) : Prop where
  many : 1 ≤ w.names.length ∧ w.names.length ≤ 1000
  ties : ∀ t ∈ w.ties, 0 ≤ t.2.1 ∧ t.2.1 < w.names.length
  falls : w.falls = [] ∨ w.falls.length = w.names.length
theorem row_len {w : Web} (h : Fits w) (a : Int) : (rowOf w a).length = w.names.length := by
  unfold rowOf
  have e := fill_len a w.ties (List.replicate w.names.length 0)
  rw [List.length_replicate] at e
  simp only
  split
  · exact e
  · split
    · rw [List.length_set]
      exact e
    · rename_i _ hf
      rcases h.falls with z | z
      · exact absurd z hf
      · exact z
theorem ixN_nat {n j : Nat} (h : j < n) : ixN n (j : Int) = some j := by
  unfold ixN
  rw [if_pos (by omega), if_pos (by omega)]
  simp
theorem ixN_int {n : Nat} {j : Int} (h0 : 0 ≤ j) (h : j < n) : ixN n j = some j.toNat := by
  obtain ⟨k, rfl⟩ := Int.eq_ofNat_of_zero_le h0
  exact ixN_nat (by omega)
theorem canLay_ints : ∀ ns : List Int, PyData.canLayAll0 (ns.map PyData.int) = true
  | [] => rfl
  | _ :: r => by
    show (PyData.canLay0 (.int _) && PyData.canLayAll0 (r.map PyData.int)) = true
    rw [canLay_ints r]
    rfl
theorem shaped_tup (ns : List Int) : SeqAt.shaped (.tuple (ns.map PyData.int)) = true := by
  unfold SeqAt.shaped
  rw [Bool.and_eq_true]
  refine ⟨canLay_ints ns, ?_⟩
  have := GL.depth_ints ns
  simp only [PyData.depth, this]
  decide
theorem eqv_tnil (ns : List Int) : PyData.eqv (.tuple (ns.map PyData.int)) (.tuple []) = ns.isEmpty := by
  cases ns <;> rfl
theorem rep_ints (n : Nat) : (List.replicate n [V.int 0]).flatten = (List.replicate n (0 : Int)).map V.int := by
  induction n with
  | zero => rfl
  | succ i ih =>
    rw [List.replicate_succ, List.flatten_cons, ih, List.replicate_succ]
    rfl
theorem nilX {z : Addr} {X : Prop} (h : z ∈ ([] : List Addr)) : X := (nomatch h)
section
variable {P : Program} {w : World} {K : PySem.W.Frag} {mg : Str → Option Value} {base : Heap}
def spRow (T : Addr) : Sp := fun vs H Q _ => ∃ (x : Addr) (a : Int) (W : Web), vs = [.ref x, .int a] ∧ WebAt H x W ∧ Fits W ∧ 0 ≤ a ∧ a < W.names.length ∧ GxR.TabG H T ∧
  ∀ p H', Keep [T] H H' → GxR.TabG H' T → H' p = some (.tup ((rowOf W a).map V.int)) → Q (.ref p) H'
def bPos (_ : L2.St) (v : V) : Bool := match v with
  | .int n => decide (0 < n)
  | _ => false
theorem ok_row {f c T : Addr} {fd : FuncData} (F : FnP K "row_of" s_row_of f fd) (hcd : fd.code = .ref c) (TB : GxR.TabB base mg c T) (m_len : mg "len" = none) (m_any : mg "any" = none) (m_tuple : mg "tuple" = none) :
    FnOk P w K mg base CX0 1 f fd ["web", "a"] (spRow T) := by
  refine okC F sc_row_of (fun vs H Q E h => ?_) (fun cdv A outer s H vs Q E hcv hr h => ?_)
  · obtain ⟨x, a, W, rfl, _⟩ := h
    rfl
  · obtain ⟨x, a, W, rfl, hW, hF, a0, a1, hT, q⟩ := h
    obtain rfl : cdv = .ref c := hcv.symm.trans hcd
    obtain ⟨n, t, l, ch, fa, ts, h1, h2, h3, h4, h5, h6, h7, h8⟩ := hW.ex
    refine ⟨_, PSs.nox (pss_cons (ps_asg (pv 0) (pg_tup rfl (pgs_cons (pg_name (i := 2) sc_row_of.nd rfl (.inl rfl)) (pgs_cons (pg_name (i := 3) sc_row_of.nd rfl (.inl rfl)) (pgs_cons (pg_name (i := 4) sc_row_of.nd rfl (.inl rfl)) (pgs_cons (pg_name (i := 5) sc_row_of.nd rfl (.inl rfl)) (pgs_cons (pg_name (i := 6) sc_row_of.nd rfl (.inl rfl)) pgs_nil)))))))
    (pss_cons (ps_set (i := 7) sc_row_of.nd rfl (.inl rfl) (pe_op op_rep (pe_lst (pa_cons pe_int pa_nil)) (pe_callB call_len_seq (by rfl) m_len (by decide +kernel) (pa_cons (pv 2) pa_nil))))
    (pss_cons (ps_for PassesOwn.never rfl (pi_tup (pv 3)) (pg_tup rfl (pgs_cons (pg_name (i := 8) sc_row_of.nd rfl (.inl rfl)) (pgs_cons (pg_name (i := 9) sc_row_of.nd rfl (.inl rfl)) (pgs_cons (pg_name (i := 10) sc_row_of.nd rfl (.inl rfl)) pgs_nil))))
      (pss_one (ps_if (pt_cmpR op_eq (pv 8) (pv 1) (nomark _))
      (pss_one (ps_asg (pv 10) (pg_sub (pv 7) (pv 9) set_list)))
      pss_nil)))
    (pss_cons (ps_if (pt_val (pe_anyG (dom := fun _ v => ∃ n : Int, v = .int n) (b := bPos) hr (by rfl) m_any TB rfl (genS_mk (by rfl) (by rfl) (by decide +kernel) (by rfl) (by rfl) (by decide +kernel)) (pv 7) (by
        intro σ pins H1 s1 cenv A' E' v u s2 m2 I hTb hsc hce hA hD hU hdom ru hn hm hk _
        obtain ⟨n, rfl⟩ := hdom
        obtain ⟨tn, rfl⟩ := ru
        refine wpAny_Compare1 (elt_own hsc (by rfl) (by rfl) hn hm (wpAny_Constant_int (gt_int ⟨?_, GxR.keeps_tok _ _⟩)))
        rfl) (fun _ => rfl)))
      (pss_one (ps_ret (pe_callTy call_tuple_of (by rfl) m_tuple (by decide +kernel) (pa_cons (pv 7) pa_nil))))
      pss_nil)
    (pss_cons (ps_if (pt_cmpR (op_neD hr.units) (pv 6) (pe_tup pa_nil) (nomark _))
      (pss_one (ps_ret (pe_callTy call_tuple_of (by rfl) m_tuple (by decide +kernel) (pa_cons (pv 6) pa_nil))))
      pss_nil)
    (pss_cons (ps_asg pe_int (pg_sub (pv 7) (pv 1) set_list))
    (pss_one (ps_ret (pe_callTy call_tuple_of (by rfl) m_tuple (by decide +kernel) (pa_cons (pv 7) pa_nil)))))))))), ?_⟩
    -- names, ties, leaps, chance, falls = web
    refine ⟨_, rfl, x, _, rfl, .of h1, rfl, _, _, rfl, _, _, rfl, _, _, rfl, _, _, rfl, _, _, rfl, rfl, ?_⟩
    -- row = [0] * len(names)
    refine ⟨(by show 1 ≤ sizeLine; decide), fun p0 np0 => ?_⟩
    have k0 : Keep [] H (upd H p0 (.lst [.int 0])) := (Keep.refl [] H).new np0
    refine ⟨_, rfl, n, _, rfl, .inr (.of (k0 n _ (fun z => nilX z) h2)), p0, _, _, rfl, rfl, upd_same, by omega, ?_, ?_, fun p np => ?_⟩
    · rw [List.length_map]
      have := hF.many
      omega
    · show 1 * ((W.names.map V.str).length : Int).toNat ≤ sizeLine
      rw [List.length_map]
      have := hF.many
      exact lt_size (by omega)
    have e0 : (List.replicate (((W.names.map V.str).length : Int)).toNat [V.int 0]).flatten = (List.replicate W.names.length (0 : Int)).map V.int := by
      rw [List.length_map, Int.toNat_natCast, rep_ints]
    have np' : H p = none := k0.fresh (fun z => nilX z) np
    rw [e0]
    have k1 := k0.new (o := .lst ((List.replicate W.names.length (0 : Int)).map V.int)) np
    have ep : upd (upd H p0 (.lst [.int 0])) p (.lst ((List.replicate W.names.length (0 : Int)).map V.int)) p = some (.lst ((List.replicate W.names.length (0 : Int)).map V.int)) := upd_same
    generalize upd (upd H p0 (.lst [.int 0])) p (.lst ((List.replicate W.names.length (0 : Int)).map V.int)) = H1 at k1 ep
    -- the loop
    refine ⟨_, rfl, t, rfl, ⟨_, .of (k1 t _ (fun z => nilX z) h3)⟩, for_tup (xs := ts.map V.ref) (fun i σ H' => ∃ y8 y9 y10 : Option V, σ = [some (.ref x), some (.int a), some (.ref n), some (.ref t), some (.ref l), some (.ref ch), some (.ref fa), some (.ref p), y8, y9, y10] ∧ Keep [] H H' ∧ H' p = some (.lst ((fillRow a (W.ties.take i) (List.replicate W.names.length 0)).map V.int)))
      ⟨none, none, none, rfl, k1, ep⟩ ?_ ?_ ?_⟩
    · rintro i σ H' _ ⟨_, _, _, rfl, k, _⟩
      exact .of (k t _ (fun z => nilX z) h3)
    · rintro i v σ H' hv ⟨y8, y9, y10, rfl, k, e⟩
      rw [List.getElem?_map] at hv
      obtain ⟨b, hb, rfl⟩ := Option.map_eq_some_iff.mp hv
      have hi : i < W.ties.length := by
        rw [← h4]
        exact (List.getElem?_eq_some_iff.mp hb).1
      have ht := List.getElem?_eq_getElem hi
      have eb := k b _ (fun z => nilX z) (h5 i b _ hb ht)
      have hg := hF.ties _ (List.getElem_mem hi)
      generalize W.ties[i] = tt at ht eb hg
      refine ⟨b, _, rfl, .of eb, rfl, _, _, rfl, _, _, rfl, _, _, rfl, rfl, ?_⟩
      have ef := fill_take a W.ties (List.replicate W.names.length 0) ht
      refine ⟨_, rfl, _, rfl, rfl, _, rfl, ite2 (fun c => ?_) (fun c => ?_)⟩
      · have ea : tt.1 = a := V.int.inj (of_decide_eq_true c)
        refine ⟨_, rfl, _, rfl, _, rfl, p, _, _, tt.2.1.toNat, rfl, rfl, e, ixN_int hg.1 ?_, _, _, _, rfl, k.own np', ?_⟩
        · rw [List.length_map, fill_len, List.length_replicate]
          exact hg.2
        · rw [upd_same, ef, if_pos ea, List.map_set]
      · have ea : ¬ tt.1 = a := fun z => c (decide_eq_true (congrArg V.int z))
        exact ⟨_, _, _, rfl, k, by rw [e, ef, if_neg ea]⟩
    · rintro σ H' ⟨y8, y9, y10, rfl, k, e⟩
      rw [List.length_map, h4, List.take_length] at e
      have nt := noT_tab hT
      have hT1 : GxR.TabG H' T := by
        obtain ⟨ps, e1, tr⟩ := hT
        exact ⟨ps, k T _ (fun z => nilX z) e1, tr⟩
      have pT : p ∉ [T] := fun z => by
        obtain ⟨ps, e1, _⟩ := hT1
        rw [← List.mem_singleton.mp z, e] at e1
        cases e1
      -- any(number > 0 for number in row)
      refine ⟨_, rfl, p, _, rfl, .inl (.of e), ?_, hT1, fun H2 hTb => ?_⟩
      · intro v hv
        obtain ⟨m, _, rfl⟩ := List.mem_map.mp hv
        exact ⟨m, rfl⟩
      have k2 := tabbed_keep hTb
      have e2 := k2 p _ pT e
      have kT : Keep [T] H H2 := (k.mono (fun _ z => nilX z)).trans k2
      have ea : ((fillRow a W.ties (List.replicate W.names.length 0)).map V.int).any (bPos [some (V.ref x), some (V.int a), some (V.ref n), some (V.ref t), some (V.ref l), some (V.ref ch), some (V.ref fa), some (V.ref p), y8, y9, y10]) = (fillRow a W.ties (List.replicate W.names.length 0)).any (fun n => decide (0 < n)) := by
        rw [List.any_map]
        rfl
      rw [ea]
      have tup_new : ∀ (zs : List Int) (H3 : Hp), Keep [T] H H3 → GxR.TabG H3 T → ∀ r, H3 r = none → zs = rowOf W a → Q (.ref r) (upd H3 r (.tup (zs.map V.int))) := by
        intro zs H3 k3 t3 r hr3 ez
        subst ez
        refine q r _ (k3.new hr3) ?_ upd_same
        obtain ⟨ps, e3, tr⟩ := t3
        exact ⟨ps, by rw [upd_ne (ne_of_none e3 hr3)]; exact e3, tr⟩
      refine ⟨_, rfl, ite2 (fun c1 => ?_) (fun c1 => ?_)⟩
      · refine ⟨_, rfl, p, _, rfl, .inl ⟨.of e2, fun r nr => tup_new _ H2 kT hTb.1 r nr ?_⟩⟩
        unfold rowOf
        rw [if_pos c1]
      · -- falls
        have ef := Keep.tup k2 (noT_tab hT1) (k fa _ (fun z => nilX z) h8)
        refine ⟨_, rfl, Nat.zero_le _, fun ne nne => ?_⟩
        have kn : Keep [] H2 (upd H2 ne (.tup [])) := (Keep.refl [] H2).new nne
        refine ⟨.tuple (W.falls.map PyData.int), .tuple [], .tup (.of (kn fa _ (fun z => nilX z) ef)) (dpAll_ints _), .tup (.of upd_same) .nil, shaped_tup _, by decide +kernel, _, rfl, ?_⟩
        rw [eqv_tnil]
        have t4 : GxR.TabG (upd H2 ne (.tup [])) T := by
          obtain ⟨ps, e3, tr⟩ := hTb.1
          exact ⟨ps, kn T _ (fun z => nilX z) e3, tr⟩
        have k4 : Keep [T] H (upd H2 ne (.tup [])) := kT.new nne
        have e4 := kn p _ (fun z => nilX z) e2
        have ef4 := kn fa _ (fun z => nilX z) ef
        generalize upd H2 ne (.tup []) = H4 at t4 k4 e4 ef4
        refine ite2 (fun c2 => ?_) (fun c2 => ?_)
        · have hne : W.falls ≠ [] := fun z => by
            rw [z] at c2
            exact absurd c2 (by decide)
          refine ⟨_, rfl, fa, _, rfl, .inr ⟨.of ef4, q fa H4 k4 t4 ?_⟩⟩
          rw [ef4]
          unfold rowOf
          rw [if_neg c1, if_neg hne]
        · have he : W.falls = [] := by
            cases hf : W.falls with
            | nil => rfl
            | cons z zs =>
              rw [hf] at c2
              exact absurd rfl c2
          refine ⟨_, rfl, _, rfl, p, _, _, a.toNat, rfl, rfl, e4, ixN_int a0 ?_, ?_⟩
          · rw [List.length_map, fill_len, List.length_replicate]
            exact a1
          have p4T : T ≠ p := fun z => pT (List.mem_singleton.mpr z.symm)
          refine ⟨_, rfl, p, ((fillRow a W.ties (List.replicate W.names.length 0)).set a.toNat 1).map V.int, rfl, .inl ⟨.of (by rw [upd_same, List.map_set]), fun r nr => tup_new _ _ (k4.own np') ?_ r nr ?_⟩⟩
          · obtain ⟨ps, e3, tr⟩ := t4
            exact ⟨ps, by rw [upd_ne p4T]; exact e3, tr⟩
          · unfold rowOf
            rw [if_neg c1, if_pos he]
end
end K20
set_option Elab.async false
set_option linter.all false
set_option maxRecDepth 100000
set_option maxHeartbeats 2000000
set_option exponentiation.threshold 10000
set_option pp.maxSteps 300
set_option pp.deepTerms false
namespace K20
open PySem PySem.Spec PyProof.Rows L2 GL
/-! ### the pen -/
def penL (c : Addr) (i l : Int) : List V := [.ref c, .int i, .int l]
/-- the pen at d, over the cells at c, behind at most n draws -/
structure Pen (H : Hp) (d c : Addr) (ns : List Int) (n : Nat) : Prop where
  at_ : ∃ i l : Int, H d = some (.lst (penL c i l)) ∧ 0 ≤ i ∧ i ≤ n ∧ 0 ≤ l
  cells : H c = some (.lst (ns.map V.int))
  few : ns.length ≤ 63
theorem Pen.ex {H : Hp} {d c : Addr} {ns : List Int} {n : Nat} (p : Pen H d c ns n) : ∃ i l, H d = some (.lst (penL c i l)) := let ⟨i, l, h, _⟩ := p.at_; ⟨i, l, h⟩
theorem Pen.mono {H : Hp} {d c : Addr} {ns : List Int} {n m : Nat} (p : Pen H d c ns n) (h : n ≤ m) : Pen H d c ns m := by
  obtain ⟨i, l, h1, h2, h3, h4⟩ := p.at_
  exact ⟨⟨i, l, h1, h2, by omega, h4⟩, p.cells, p.few⟩
theorem Pen.ne {H : Hp} {d c : Addr} {ns : List Int} {n : Nat} (p : Pen H d c ns n) : c ≠ d := by
  intro z
  obtain ⟨i, l, e⟩ := p.ex
  have e2 := p.cells
  rw [z, e] at e2
  have e3 : penL c i l = ns.map V.int := HO.lst.inj (Option.some.inj e2)
  cases ns with
  | nil => exact absurd e3 (by intro z; cases z)
  | cons x r => exact absurd e3 (by intro z; cases z)
theorem Pen.keep {H H' : Hp} {d c : Addr} {ns : List Int} {n : Nat} {ex : List Addr} (p : Pen H d c ns n) (k : Keep ex H H') (h : ∀ b ∈ ex, ∀ xs, H b ≠ some (.lst xs)) : Pen H' d c ns n := by
  obtain ⟨i, l, h1, h2, h3, h4⟩ := p.at_
  exact ⟨⟨i, l, k d _ (fun z => h d z _ h1) h1, h2, h3, h4⟩, k c _ (fun z => h c z _ p.cells) p.cells, p.few⟩
theorem Pen.keep0 {H H' : Hp} {d c : Addr} {ns : List Int} {n : Nat} (p : Pen H d c ns n) (k : Keep [] H H') : Pen H' d c ns n := p.keep k (fun _ z => nilX z)
theorem Pen.new {H : Hp} {d c p : Addr} {ns : List Int} {n : Nat} {o : HO} (h : Pen H d c ns n) (hp : H p = none) : Pen (upd H p o) d c ns n := h.keep0 ((Keep.refl [] H).new hp)
theorem Pen.set {H : Hp} {d c : Addr} {ns : List Int} {n m : Nat} {i l : Int} (p : Pen H d c ns n) (h0 : 0 ≤ i) (h1 : i ≤ m) (h2 : 0 ≤ l) : Pen (upd H d (.lst (penL c i l))) d c ns m :=
  ⟨⟨i, l, upd_same, h0, h1, h2⟩, by rw [upd_ne p.ne]; exact p.cells, p.few⟩
section
variable {P : Program} {w : World} {K : PySem.W.Frag} {mg : Str → Option Value} {base : Heap}
def spPen (K : PySem.W.Frag) : Sp := fun vs H Q _ => ∃ (a : Addr) (ns : List Int), vs = [.ref a] ∧ SqL K H a (ns.map V.int) ∧ ns.length ≤ 63 ∧ ∀ d c H', Keep [] H H' → Pen H' d c ns 0 → Q (.ref d) H'
theorem cut_all {ns : List Int} (h : ns.length ≤ 63) : cutV (ns.map V.int) none (some 63) = ns.map V.int := by
  unfold cutV
  rw [List.length_map]
  have e1 : HT.sIx ns.length 0 none = 0 := rfl
  have e2 : HT.sIx ns.length ns.length (some 63) = ns.length := by
    unfold HT.sIx
    simp
    omega
  rw [e1, e2, List.drop_zero, Nat.sub_zero]
  exact List.take_of_length_le (by rw [List.length_map]; exact Nat.le_refl _)
theorem ok__law_pen {f : Addr} {fd : FuncData} {k : Nat} (F : FnP K "_law_pen" s__law_pen f fd) : FnOk P w K mg base CX0 (k + 1) f fd ["_law_script"] (spPen K) := by
  refine F.ok sc__law_pen (fun vs H Q E h => ?_) (fun cdv A outer s H vs Q E hr h => ?_)
  · obtain ⟨a, ns, rfl, _⟩ := h
    rfl
  · obtain ⟨a, ns, rfl, hS, hl, q⟩ := h
    refine ⟨_, PSs.nox (pss_one (ps_ret (pe_lst (pa_cons (pe_slice sl_list (pv 0) po_none (po_some pe_int)) (pa_cons pe_int (pa_cons pe_int pa_nil)))))), ?_⟩
    refine ⟨_, rfl, 63, rfl, a, _, rfl, hS, fun c nc => ⟨(by show 3 ≤ sizeLine; decide), fun d nd => ?_⟩⟩
    rw [cut_all hl] at nd ⊢
    have dc : c ≠ d := fun z => by
      rw [← z, upd_same] at nd
      cases nd
    exact q d c _ (((Keep.refl [] H).new nc).new nd) ⟨⟨0, 0, upd_same, by omega, by omega, by omega⟩, by rw [upd_ne dc, upd_same], hl⟩

/-! ### draws -/
def spDraw : Sp := fun vs H Q _ => ∃ (d c : Addr) (ns : List Int) (n : Nat) (m : Int), vs = [.ref d, .int m] ∧ Pen H d c ns n ∧ n ≤ 100000 ∧ 0 < m ∧ m ≤ 1000000 ∧
  ∀ (r : Int) (H' : Hp), 0 ≤ r → r < m → Keep [d] H H' → Pen H' d c ns (n + 1) → Q (.int r) H'
theorem small_div {i j : Int} (h0 : 0 < j) (h : j ≤ 1000000) : CDivW i j := wide_div h0 (b := 20) (by omega) (by decide) (by decide)
theorem abs_nat (x : Int) : (if x < 0 then -x else x) = (x.natAbs : Int) := by split <;> omega
theorem shaped_ints (ns : List Int) : SeqAt.shaped (.list (ns.map PyData.int)) = true := by
  unfold SeqAt.shaped
  rw [Bool.and_eq_true]
  refine ⟨canLay_ints ns, ?_⟩
  have := GL.depth_ints ns
  simp only [PyData.depth, this]
  decide
theorem eqv_nil (ns : List Int) : PyData.eqv (.list (ns.map PyData.int)) (.list []) = ns.isEmpty := by
  cases ns <;> rfl
def primes : List Int := [2147483647, 2147483629, 2147483587, 2147483579, 2147483563, 2147483549, 2147483543]
theorem primes_at (i : Int) (h : 0 ≤ i) : ∃ q : Int, atI (primes.map V.int) (i % 7) = some (.int q) ∧ 0 < q ∧ q < 2147483648 := by
  have h1 : 0 ≤ i % 7 := Int.emod_nonneg _ (by decide)
  have h2 : i % 7 < 7 := Int.emod_lt_of_pos _ (by decide)
  generalize i % 7 = j at h1 h2
  obtain ⟨k, rfl⟩ := Int.eq_ofNat_of_zero_le h1
  have h3 : k < 7 := by omega
  match k, h3 with
  | 0, _ => exact ⟨2147483647, rfl, by decide, by decide⟩
  | 1, _ => exact ⟨2147483629, rfl, by decide, by decide⟩
  | 2, _ => exact ⟨2147483587, rfl, by decide, by decide⟩
  | 3, _ => exact ⟨2147483579, rfl, by decide, by decide⟩
  | 4, _ => exact ⟨2147483563, rfl, by decide, by decide⟩
  | 5, _ => exact ⟨2147483549, rfl, by decide, by decide⟩
  | 6, _ => exact ⟨2147483543, rfl, by decide, by decide⟩
theorem ok__law_draw {f : Addr} {fd : FuncData} {k : Nat} (F : FnP K "_law_draw" s__law_draw f fd) (m_len : mg "len" = none) (m_abs : mg "abs" = none) : FnOk P w K mg base CX0 (k + 1) f fd ["_law_pen_here", "_law_many"] spDraw := by
  refine F.ok sc__law_draw (fun vs H Q E h => ?_) (fun cdv A outer s H vs Q E hr h => ?_)
  · obtain ⟨d, c, ns, n, m, rfl, _⟩ := h
    rfl
  · obtain ⟨d, a, ns, n, m, rfl, hp, hn, hm0, hm1, q⟩ := h
    obtain ⟨i, l, ed, hi0, hi1, hl0⟩ := hp.at_
    refine ⟨_, PSs.nox (pss_cons (ps_if (pt_cmpR op_gt (pe_ix ix_list (pv 0) pe_int (fun _ _ => rfl)) pe_int (nomark _))
      (pss_cons (ps_set (i := 2) sc__law_draw.nd rfl (.inl rfl) (pe_op op_mod (pe_ix ix_list (pv 0) pe_int (fun _ _ => rfl)) (pv 1)))
    (pss_cons (ps_asg (pe_op op_fdivW (pe_ix ix_list (pv 0) pe_int (fun _ _ => rfl)) (pv 1)) (pg_sub (pv 0) pe_int set_list))
    (pss_one (ps_ret (pv 2)))))
      pss_nil)
    (pss_cons (ps_set (i := 3) sc__law_draw.nd rfl (.inl rfl) (pe_ix ix_list (pv 0) pe_int (fun _ _ => rfl)))
    (pss_cons (ps_asg (pe_op op_add (pv 3) pe_int) (pg_sub (pv 0) pe_int set_list))
    (pss_cons (ps_set (i := 4) sc__law_draw.nd rfl (.inl rfl) (pe_op op_add (pe_op op_mul pe_int (pv 3)) pe_int))
    (pss_mid (ps_if (pt_cmpR (op_neD hr.units) (pe_ix ix_list (pv 0) pe_int (fun _ _ => rfl)) (pe_lst pa_nil) (nomark _))
      (pss_one (ps_set (i := 4) sc__law_draw.nd rfl (.inl rfl) (pe_ix ix_list (pe_ix ix_list (pv 0) pe_int (fun _ _ => rfl)) (pe_op op_mod (pv 3) (pe_callB call_len_seq (by rfl) m_len (by decide +kernel) (pa_cons (pe_ix ix_list (pv 0) pe_int (fun _ _ => rfl)) pa_nil))) (fun _ _ => rfl))))
      pss_nil)
    (pss_mid (ps_if (PW.pt (pw_and (pt_cmpR op_lt (pv 3) (pe_callB call_len_seq (by rfl) m_len (by decide +kernel) (pa_cons (pe_ix ix_list (pv 0) pe_int (fun _ _ => rfl)) pa_nil)) (nomark _)) (pw_and1 (pt_cmpR op_ge (pe_callB call_abs (by rfl) m_abs (by decide +kernel) (pa_cons (pv 4) pa_nil)) (pe_op op_pow pe_int pe_int) (nomark _)))))
      (pss_cons (ps_asg (pe_op op_fdivW (pe_callB call_abs (by rfl) m_abs (by decide +kernel) (pa_cons (pv 4) pa_nil)) (pv 1)) (pg_sub (pv 0) pe_int set_list))
    (pss_one (ps_ret (pe_op op_mod (pe_callB call_abs (by rfl) m_abs (by decide +kernel) (pa_cons (pv 4) pa_nil)) (pv 1)))))
      pss_nil)
    (pss_cons (ps_set (i := 5) sc__law_draw.nd rfl (.inl rfl) (pe_lst (pa_cons pe_int (pa_cons pe_int (pa_cons pe_int (pa_cons pe_int (pa_cons pe_int (pa_cons pe_int (pa_cons pe_int pa_nil)))))))))
    (pss_cons (ps_set (i := 6) sc__law_draw.nd rfl (.inl rfl) (pe_op op_mod (pe_op op_pow (pe_op op_add (pe_op op_mod (pv 4) (pe_ix ix_list (pv 5) (pe_op op_mod (pv 3) pe_int) (fun _ _ => rfl))) (pe_op op_mul (pe_op op_mul (pe_op op_add (pv 3) pe_int) (pe_op op_add (pv 3) pe_int)) pe_int)) pe_int) (pe_ix ix_list (pv 5) (pe_op op_mod (pv 3) pe_int) (fun _ _ => rfl))))
    (pss_cons (ps_set (i := 6) sc__law_draw.nd rfl (.inl rfl) (pe_op op_mod (pe_op op_pow (pe_op op_add (pe_op op_mul (pv 6) (pe_op op_add (pe_op op_mul pe_int (pv 3)) pe_int)) (pv 3)) pe_int) (pe_ix ix_list (pv 5) (pe_op op_mod (pe_op op_add (pv 3) pe_int) pe_int) (fun _ _ => rfl))))
    (pss_one (ps_ret (pe_op op_mod (pe_op op_fdivW (pv 6) pe_int) (pv 1))))))))))))), ?_⟩
    refine ⟨_, rfl, d, _, _, _, rfl, rfl, .of ed, rfl, l, 0, rfl, rfl, _, rfl, ite2 (fun c => ?_) (fun c => ?_)⟩
    · -- a digit of what is left
      refine ⟨_, rfl, d, _, _, _, rfl, rfl, .of ed, rfl, _, rfl, l, m, rfl, rfl, hm0, ?_⟩
      refine ⟨_, rfl, d, _, _, _, rfl, rfl, .of ed, rfl, _, rfl, l, m, rfl, rfl, small_div hm0 hm1, _, rfl, d, _, _, 2, rfl, rfl, ed, rfl, _, rfl, ?_⟩
      exact q _ _ (Int.emod_nonneg _ (by omega)) (Int.emod_lt_of_pos _ hm0) ((Keep.refl _ H).set (List.mem_singleton.mpr rfl)) (hp.set hi0 (by omega) (Int.ediv_nonneg hl0 (by omega)))
    · -- a cell
      refine ⟨_, rfl, d, _, _, _, rfl, rfl, .of ed, rfl, ?_⟩
      refine ⟨_, rfl, i, 1, rfl, rfl, _, rfl, d, _, _, 1, rfl, rfl, ed, rfl, ?_⟩
      refine ⟨_, rfl, 40503, i, rfl, rfl, .inl ⟨by decide, by decide⟩, _, 15485863, rfl, rfl, ?_⟩
      have s1 : (upd H d (.lst (penL a (i + 1) l))) a = some (.lst (ns.map V.int)) := by
        rw [upd_ne hp.ne]
        exact hp.cells
      have k1 : Keep [d] H (upd H d (.lst (penL a (i + 1) l))) := (Keep.refl _ H).set (List.mem_singleton.mpr rfl)
      have e1 : upd H d (.lst (penL a (i + 1) l)) d = some (.lst (penL a (i + 1) l)) := upd_same
      show tMid _ _ _ _ (upd H d (.lst (penL a (i + 1) l)))
      generalize upd H d (.lst (penL a (i + 1) l)) = H1 at s1 k1 e1
      refine ⟨fun σ' H' => ∃ c : Int, σ' = [some (.ref d), some (.int m), none, some (.int i), some (.int c), none, none] ∧ Keep [d] H H' ∧ H' a = some (.lst (ns.map V.int)) ∧ H' d = some (.lst (penL a (i + 1) l)), ?_, ?_⟩
      · refine ⟨_, rfl, d, _, _, _, rfl, rfl, .of e1, rfl, Nat.zero_le _, fun p np => ?_⟩
        have kp : Keep [] H1 (upd H1 p (.lst [])) := (Keep.refl [] H1).new np
        have s2 := kp a _ (fun z => nilX z) s1
        have k2 : Keep [d] H (upd H1 p (.lst [])) := k1.new np
        have e2 := kp d _ (fun z => nilX z) e1
        refine ⟨.list (ns.map PyData.int), .list [], .lst (.of s2) (dpAll_ints ns), .lst (.of upd_same) .nil, shaped_ints ns, by decide +kernel, _, rfl, ?_⟩
        rw [eqv_nil]
        refine ite2 (fun c2 => ?_) (fun c2 => ?_)
        · have hne : 0 < ns.length := by
            cases ns with
            | nil => exact absurd c2 (by decide)
            | cons _ _ => exact Nat.succ_pos _
          have g1 : 0 ≤ i % (ns.length : Int) := Int.emod_nonneg _ (by omega)
          have g2 : i % (ns.length : Int) < ns.length := Int.emod_lt_of_pos _ (by omega)
          obtain ⟨j, ej⟩ := Int.eq_ofNat_of_zero_le g1
          have hj : j < ns.length := by omega
          refine ⟨_, rfl, d, _, _, _, rfl, rfl, .of e2, rfl, _, rfl, _, rfl, d, _, _, _, rfl, rfl, .of e2, rfl, a, _, rfl, .inl (.of s2), i, ((ns.map V.int).length : Int), rfl, rfl, ?_, a, _, _, .int ns[j], rfl, rfl, .of s2, ?_, ns[j], rfl, k2, s2, e2⟩
          · rw [List.length_map]
            omega
          · rw [List.length_map, ej]
            exact atI_nat (by rw [List.getElem?_map, List.getElem?_eq_getElem hj]; rfl)
        · exact ⟨_, rfl, k2, s2, e2⟩
      · rintro σ2 H2 ⟨c, rfl, k2, s2, e2⟩
        have pen2 : Pen H2 d a ns (n + 1) := ⟨⟨i + 1, l, e2, by omega, by omega, hl0⟩, s2, hp.few⟩
        refine ⟨fun σ' H' => σ' = [some (.ref d), some (.int m), none, some (.int i), some (.int c), none, none] ∧ H2 = H', ?_, ?_⟩
        · refine ⟨_, rfl, _, rfl, d, _, _, _, rfl, rfl, .of e2, rfl, a, _, rfl, .inl (.of s2), i, _, rfl, rfl, _, rfl, ite2 (fun c3 => ?_) (fun c3 => ?_)⟩
          · refine ⟨_, rfl, c, rfl, 10, 18, rfl, rfl, ⟨by decide, by decide, by decide⟩, _, _, rfl, rfl, _, rfl, ite2 (fun c4 => ?_) (fun c4 => ?_)⟩
            · refine ⟨_, rfl, c, rfl, _, rfl, _, m, rfl, rfl, small_div hm0 hm1, _, rfl, d, _, _, 2, rfl, rfl, e2, rfl, _, rfl, c, rfl, _, rfl, _, m, rfl, rfl, hm0, ?_⟩
              rw [abs_nat c]
              exact q _ _ (Int.emod_nonneg _ (by omega)) (Int.emod_lt_of_pos _ hm0) (k2.set (List.mem_singleton.mpr rfl)) (pen2.set (by omega) (by omega) (Int.ediv_nonneg (by omega) (by omega)))
            · exact ⟨rfl, rfl⟩
          · exact iteF ⟨rfl, rfl⟩
        · rintro σ3 H3 ⟨rfl, rfl⟩
          obtain ⟨qp, eq, hq0, hq1⟩ := primes_at i hi0
          obtain ⟨q2, eq2, hq20, hq21⟩ := primes_at (i + 3) (by omega)
          refine ⟨(by show 7 ≤ sizeLine; decide), fun p np => ?_⟩
          have k3 : Keep [d] H (upd H2 p (.lst (primes.map V.int))) := k2.new np
          have pen3 : Pen (upd H2 p (.lst (primes.map V.int))) d a ns (n + 1) := pen2.new np
          have ep : upd H2 p (.lst (primes.map V.int)) p = some (.lst (primes.map V.int)) := upd_same
          have b1 : (i + 3) * (i + 5) ≤ 100003 * 100005 := Int.mul_le_mul (by omega) (by omega) (by omega) (by decide)
          have b0 : 0 ≤ (i + 3) * (i + 5) := Int.mul_nonneg (by omega) (by omega)
          have c0 : 0 ≤ c % qp := Int.emod_nonneg _ (by omega)
          have c1 : c % qp < qp := Int.emod_lt_of_pos _ hq0
          refine ⟨_, rfl, _, rfl, _, rfl, i, 7, rfl, rfl, (by show (0 : Int) < 7; decide), p, _, _, .int qp, rfl, rfl, .of ep, eq, c, qp, rfl, rfl, hq0, _, rfl, i, 3, rfl, rfl, _, rfl, i, 5, rfl, rfl, i + 3, i + 5, rfl, rfl, .inl ⟨by omega, by omega⟩, (i + 3) * (i + 5), 50021, rfl, rfl, .inr ⟨by decide, by decide⟩,
            c % qp, (i + 3) * (i + 5) * 50021, rfl, rfl, c % qp + (i + 3) * (i + 5) * 50021, 5, rfl, rfl, ⟨by decide, by decide, by omega⟩, _, rfl, _, rfl, i, 7, rfl, rfl, (by show (0 : Int) < 7; decide), p, _, _, .int qp, rfl, rfl, .of ep, eq, (c % qp + (i + 3) * (i + 5) * 50021) ^ (5 : Int).toNat, qp, rfl, rfl, hq0, ?_⟩
          obtain ⟨x, hx⟩ : ∃ x : Int, (c % qp + (i + 3) * (i + 5) * 50021) ^ (5 : Int).toNat % qp = x := ⟨_, rfl⟩
          have hx0 : 0 ≤ x := by
            rw [← hx]
            exact Int.emod_nonneg _ (by omega)
          have hx1 : x < 2147483648 := by
            have := Int.emod_lt_of_pos ((c % qp + (i + 3) * (i + 5) * 50021) ^ (5 : Int).toNat) hq0
            omega
          have b2 : x * (2 * i + 69621) ≤ 2147483648 * 269621 := Int.mul_le_mul (by omega) (by omega) (by omega) (by decide)
          have b3 : 0 ≤ x * (2 * i + 69621) := Int.mul_nonneg (by omega) (by omega)
          refine ⟨_, rfl, _, rfl, 2, i, rfl, rfl, .inl ⟨by decide, by decide⟩, 2 * i, 69621, rfl, rfl, x, 2 * i + 69621, congrArg V.int hx, rfl, .inl ⟨by omega, by omega⟩, _, rfl, x * (2 * i + 69621), i, rfl, rfl, x * (2 * i + 69621) + i, 3, rfl, rfl, ⟨by decide, by decide, by omega⟩,
            _, rfl, _, rfl, i, 3, rfl, rfl, i + 3, 7, rfl, rfl, (by show (0 : Int) < 7; decide), p, _, _, .int q2, rfl, rfl, .of ep, eq2, (x * (2 * i + 69621) + i) ^ (3 : Int).toNat, q2, rfl, rfl, hq20, ?_⟩
          refine ⟨_, rfl, _, 64, rfl, rfl, ⟨by decide, by decide⟩, _, rfl, _, m, rfl, rfl, hm0, ?_⟩
          exact q _ _ (Int.emod_nonneg _ (by omega)) (Int.emod_lt_of_pos _ hm0) k3 pen3
end
end K20
set_option Elab.async false
set_option linter.all false
set_option maxRecDepth 100000
set_option maxHeartbeats 2000000
set_option exponentiation.threshold 10000
set_option pp.maxSteps 300
set_option pp.deepTerms false
namespace K20
open PySem PySem.Spec PyProof.Rows L2 GL
theorem Pen.own {H H' : Hp} {d c p : Addr} {ns : List Int} {n n0 : Nat} {o : HO} (p' : Pen H' d c ns n) (p0 : Pen H d c ns n0) (hp : H p = none) : Pen (upd H' p o) d c ns n := by
  obtain ⟨i0, l0, e0⟩ := p0.ex
  have pd : d ≠ p := ne_of_none e0 hp
  have pc : c ≠ p := ne_of_none p0.cells hp
  obtain ⟨i, l, h1, h2, h3, h4⟩ := p'.at_
  exact ⟨⟨i, l, by rw [upd_ne pd]; exact h1, h2, h3, h4⟩, by rw [upd_ne pc]; exact p'.cells, p'.few⟩
theorem Pen.not {H : Hp} {d c p : Addr} {ns : List Int} {n : Nat} (h : Pen H d c ns n) (hp : H p = none) : p ∉ [d] := fun z => by
  obtain ⟨i, l, e⟩ := h.ex
  rw [List.mem_singleton.mp z, e] at hp
  cases hp
/-- of a place that the pen's heap did not know, behind -/
theorem Pen.fresh {H H' : Hp} {d c p : Addr} {ns : List Int} {n : Nat} (h : Pen H d c ns n) (k : Keep [d] H H') (hp : H' p = none) (h' : Pen H' d c ns n) : H p = none := k.fresh (h'.not hp) hp
theorem ex_at {xs : List V} {r : Int} (h0 : 0 ≤ r) (h : r < xs.length) : ∃ (j : Nat) (v : V), xs[j]? = some v ∧ atI xs r = some v ∧ (j : Int) = r := by
  obtain ⟨j, rfl⟩ := Int.eq_ofNat_of_zero_le h0
  have hj : j < xs.length := by omega
  exact ⟨j, xs[j], List.getElem?_eq_getElem hj, atI_nat (List.getElem?_eq_getElem hj), rfl⟩
theorem at_int {xs : List Int} {r : Int} (h0 : 0 ≤ r) (h : r < xs.length) : ∃ x : Int, x ∈ xs ∧ xs[r.toNat]? = some x ∧ atI (xs.map V.int) r = some (.int x) := by
  obtain ⟨j, rfl⟩ := Int.eq_ofNat_of_zero_le h0
  have hj : j < xs.length := by omega
  exact ⟨xs[j], List.getElem_mem hj, List.getElem?_eq_getElem hj, atI_nat (by rw [List.getElem?_map, List.getElem?_eq_getElem hj]; rfl)⟩
section
variable {P : Program} {w : World} {K : PySem.W.Frag} {mg : Str → Option Value} {base : Heap}
/-! ### _law_pick -/
def spPick : Sp := fun vs H Q _ => ∃ (d c : Addr) (ns : List Int) (n : Nat) (s : Addr) (xs : List V), vs = [.ref d, .ref s] ∧ Pen H d c ns n ∧ n ≤ 100000 ∧ H s = some (.lst xs) ∧ s ≠ d ∧ 0 < xs.length ∧ xs.length ≤ 1000 ∧
  ∀ (v : V) (H' : Hp), v ∈ xs → Keep [d] H H' → Pen H' d c ns (n + 1) → Q v H'
theorem ok__law_pick {f : Addr} {fd : FuncData} (F : FnP K "_law_pick" s__law_pick f fd) (m_len : mg "len" = none) (c__law_draw : Cal P w K mg base 1 "_law_draw" spDraw) :
    FnOk P w K mg base CX0 2 f fd ["_law_pen_here", "_law_some"] spPick := by
  refine F.ok sc__law_pick (fun vs H Q E h => ?_) (fun cdv A outer s H vs Q E hr h => ?_)
  · obtain ⟨d, c, ns, n, s, xs, rfl, _⟩ := h
    rfl
  · obtain ⟨d, c, ns, n, s, xs, rfl, hp, hn, hs, sd, h0, h1, q⟩ := h
    refine ⟨_, PSs.nox (pss_one (ps_ret (pe_ix ix_list (pv 1) (pe_k c__law_draw (hr.mono (by decide)) (by rfl) (pa_cons (pv 0) (pa_cons (pe_callB call_len_seq (by rfl) m_len (by decide +kernel) (pa_cons (pv 1) pa_nil)) pa_nil))) (fun _ _ => rfl)))), ?_⟩
    refine ⟨_, rfl, _, rfl, _, rfl, s, xs, rfl, .inl (.of hs), d, c, ns, n, _, rfl, hp, hn, by omega, by omega, fun r H1 r0 r1 k1 p1 => ?_⟩
    obtain ⟨j, v, e1, e2, _⟩ := ex_at r0 r1
    exact ⟨s, xs, r, v, rfl, rfl, .of (k1 s _ (fun z => sd (List.mem_singleton.mp z)) hs), e2, q v H1 (List.mem_of_getElem? e1) k1 p1⟩

/-! ### _law_names -/
def letters : Str := "abcdefghijklmnopqrstuvwxyz"
theorem letter_at {r : Int} (h0 : 0 ≤ r) (h : r < 26) : ∃ ch : Nat, atI letters.cps.toList r = some ch ∧ ch < 16 ^ 8 := by
  have hl : letters.cps.toList.length = 26 := by decide +kernel
  have hc : ∀ ch ∈ letters.cps.toList, ch < 16 ^ 8 := by decide +kernel
  obtain ⟨j, rfl⟩ := Int.eq_ofNat_of_zero_le h0
  have hj : j < letters.cps.toList.length := by omega
  exact ⟨letters.cps.toList[j], atI_nat (List.getElem?_eq_getElem hj), hc _ (List.getElem_mem hj)⟩
def spNames : Sp := fun vs H Q _ => ∃ (d c : Addr) (ns : List Int) (n : Nat) (m : Int), vs = [.ref d, .int m] ∧ Pen H d c ns n ∧ n ≤ 90000 ∧ 1 ≤ m ∧ m ≤ 10 ∧
  ∀ (p : Addr) (xs : List Str) (H' : Hp), Keep [d] H H' → Pen H' d c ns (n + 20) → H' p = some (.tup (xs.map V.str)) → xs.length = m.toNat → (∀ x ∈ xs, Lo 15 x) → Q (.ref p) H'
theorem steps_mem {v : V} (h : v ∈ [1, 3, 5, 7, 9, 11, 15, 17, 19, 21, 23, 25].map V.int) : ∃ t : Int, v = .int t ∧ 0 ≤ t ∧ t ≤ 25 := by
  obtain ⟨t, ht, rfl⟩ := List.mem_map.mp h
  exact ⟨t, rfl, by revert t; decide, by revert t; decide⟩
theorem ok__law_names {f : Addr} {fd : FuncData} (F : FnP K "_law_names" s__law_names f fd) (m_len : mg "len" = none) (m_range : mg "range" = none) (m_tuple : mg "tuple" = none) (c__law_draw : Cal P w K mg base 1 "_law_draw" spDraw) (c__law_pick : Cal P w K mg base 2 "_law_pick" spPick) :
    FnOk P w K mg base CX0 3 f fd ["_law_pen_here", "_law_many"] spNames := by
  refine F.ok sc__law_names (fun vs H Q E h => ?_) (fun cdv A outer s H vs Q E hr h => ?_)
  · obtain ⟨d, c, ns, n, m, rfl, _⟩ := h
    rfl
  · obtain ⟨d, c, ns, n, m, rfl, hp, hn, hm0, hm1, q⟩ := h
    refine ⟨_, PSs.nox (pss_cons (ps_set (i := 2) sc__law_names.nd rfl (.inr rfl) pe_str)
    (pss_cons (ps_set (i := 3) sc__law_names.nd rfl (.inr rfl) (pe_k c__law_pick (hr.mono (by decide)) (by rfl) (pa_cons (pv 0) (pa_cons (pe_lst (pa_cons pe_int (pa_cons pe_int (pa_cons pe_int (pa_cons pe_int (pa_cons pe_int (pa_cons pe_int (pa_cons pe_int (pa_cons pe_int (pa_cons pe_int (pa_cons pe_int (pa_cons pe_int (pa_cons pe_int pa_nil))))))))))))) pa_nil))))
    (pss_cons (ps_set (i := 4) sc__law_names.nd rfl (.inr rfl) (pe_k c__law_draw (hr.mono (by decide)) (by rfl) (pa_cons (pv 0) (pa_cons pe_int pa_nil))))
    (pss_cons (ps_setLc (i := 5) (own := [("_law_k", 9)]) (g := gName 9) (by rfl) sc__law_names.nd rfl rfl (sw_true rfl rfl rfl (by decide +kernel)) (pi_range1 rfl m_range (pa_cons (pe_k c__law_draw (hr.mono (by decide)) (by rfl) (pa_cons (pv 0) (pa_cons pe_int pa_nil))) pa_nil)) (blkOk_by (own := [("_law_k", 9)]) (N := N__law_names) (sc := defScope s__law_names) (by decide +kernel)) (fun _ _ _ _ _ => (pg_name (i := 9) sc__law_names.nd rfl (.inl rfl))) (fun _ _ _ _ _ => pts_nil) (fun _ _ _ _ _ => (pe_ix ix_str (pv 2) (pe_k c__law_draw (hr.mono (by decide)) (by rfl) (pa_cons (pv 0) (pa_cons pe_int pa_nil))) (fun _ _ => rfl))))
    (pss_cons (ps_set (i := 6) sc__law_names.nd rfl (.inl rfl) (pe_k c__law_draw (hr.mono (by decide)) (by rfl) (pa_cons (pv 0) (pa_cons (pe_op op_add (pe_callB call_len_seq (by rfl) m_len (by decide +kernel) (pa_cons (pv 5) pa_nil)) pe_int) pa_nil))))
    (pss_cons (ps_set (i := 7) sc__law_names.nd rfl (.inr rfl) (pe_join pe_str (pe_slice sl_list (pv 5) po_none (po_some (pv 6)))))
    (pss_cons (ps_set (i := 8) sc__law_names.nd rfl (.inr rfl) (pe_join pe_str (pe_slice sl_list (pv 5) (po_some (pv 6)) po_none)))
    (pss_one (ps_ret (pe_callTy call_tuple_of (by rfl) m_tuple (by decide +kernel) (pa_cons (pe_lc (own := [("_law_k", 9)]) (g := gName 9) (by rfl) sc__law_names.nd (pi_range1 rfl m_range (pa_cons (pv 1) pa_nil)) (blkOk_by (own := [("_law_k", 9)]) (N := N__law_names) (sc := defScope s__law_names) (by decide +kernel)) (fun _ _ _ _ _ => (pg_name (i := 9) sc__law_names.nd rfl (.inl rfl))) (fun _ _ _ _ _ => pts_nil) (fun _ _ _ _ _ => (pe_op op_add_str (pe_op op_add_str (pv 7) (pe_ix ix_str (pv 2) (pe_op op_mod (pe_op op_add (pv 4) (pe_op op_mul (pv 3) (pv 9))) pe_int) (fun _ _ => rfl))) (pv 8)))) pa_nil))))))))))), ?_⟩
    -- step
    refine ⟨_, rfl, (by show 12 ≤ sizeLine; decide), fun s0 ns0 => ?_⟩
    have p0 := hp.new (o := .lst ([1, 3, 5, 7, 9, 11, 15, 17, 19, 21, 23, 25].map V.int)) ns0
    have k0 : Keep [d] H (upd H s0 (.lst ([1, 3, 5, 7, 9, 11, 15, 17, 19, 21, 23, 25].map V.int))) := (Keep.refl _ H).new ns0
    refine ⟨d, c, ns, n, s0, _, rfl, p0, by omega, upd_same, fun z => hp.not ns0 (List.mem_singleton.mpr z), (by show 0 < 12; decide), (by show 12 ≤ 1000; decide), fun v H1 hv k1 p1 => ?_⟩
    obtain ⟨step, rfl, st0, st1⟩ := steps_mem hv
    -- first
    refine ⟨_, rfl, d, c, ns, _, 26, rfl, p1, by omega, by decide, by decide, fun first H2 f0 f1 k2 p2 => ?_⟩
    -- base
    refine ⟨_, rfl, d, c, ns, _, 8, rfl, p2, by omega, by decide, by decide, fun r H3 r0 r1 k3 p3 => ?_⟩
    have kH3 : Keep [d] H H3 := ((k0.trans k1).trans k2).trans k3
    refine ⟨r, rfl, by omega, by omega, fun D hD => lc_range (n := r.toNat) (fun i H' => Keep [d] H H' ∧ Pen H' d c ns (n + 3 + i) ∧ i ≤ 8 ∧ ∃ ws : List Str, H' D = some (.lst (ws.map V.str)) ∧ ws.length = i ∧ ∀ s ∈ ws, Lo 1 s)
      ⟨kH3.new hD, p3.new hD, by omega, [], upd_same, rfl, fun _ z => (nomatch z)⟩ ?_ ?_⟩
    · rintro i H' hi ⟨k4, p4, _, ws, e4, hl4, hw4⟩
      refine ⟨rfl, _, rfl, _, rfl, d, c, ns, _, 26, rfl, p4, by omega, by decide, by decide, fun t H5 t0 t1 k5 p5 => ?_⟩
      obtain ⟨ch, ech, hch⟩ := letter_at t0 t1
      have nd : D ∉ [d] := p3.not hD
      refine ⟨letters, t, ch, rfl, rfl, (by decide +kernel), ech, _, k5 D _ nd e4, (by rw [List.length_map]; exact lt_size' (by omega)), (k4.trans k5).own (kH3.fresh nd hD), p5.own p3 hD, by omega, ws ++ [⟨#[ch]⟩], ?_, ?_, ?_⟩
      · rw [upd_same, List.map_append]
        rfl
      · rw [List.length_append, hl4]
        rfl
      · intro s hs
        rcases List.mem_append.mp hs with z | z
        · exact hw4 s z
        · rw [List.mem_singleton.mp z]
          exact .one hch
    · rintro H4 ⟨k4, p4, _, ws, e4, hl4, hw4⟩
      -- at
      have hr7 : ws.length ≤ 7 := by omega
      refine ⟨_, rfl, _, rfl, D, _, rfl, .inl (.of e4), _, 1, rfl, rfl, d, c, ns, _, _, rfl, p4, by omega, ?_, ?_, fun t H5 t0 t1 k5 p5 => ?_⟩
      · rw [List.length_map]
        omega
      · rw [List.length_map]
        omega
      have nd : D ∉ [d] := p3.not hD
      have e5 := k5 D _ nd e4
      -- ahead, behind
      obtain ⟨ya, ea, ma, la⟩ := cut_map V.str ws none (some t)
      obtain ⟨yb, eb, mb, lb⟩ := cut_map V.str ws (some t) none
      have wa : ∀ s ∈ ya, Lo 1 s := fun s hs => hw4 s (ma s hs)
      have wb : ∀ s ∈ yb, Lo 1 s := fun s hs => hw4 s (mb s hs)
      have sa := sum_one wa
      have sb := sum_one wb
      refine ⟨⟨_, rfl⟩, _, rfl, _, rfl, t, rfl, D, _, rfl, .of e5, fun b1 nb1 => ?_⟩
      have k6 : Keep [] H5 (upd H5 b1 (.lst (cutV (ws.map V.str) none (some t)))) := (Keep.refl [] H5).new nb1
      have eb1 : upd H5 b1 (.lst (cutV (ws.map V.str) none (some t))) b1 = some (.lst (ya.map V.str)) := by rw [upd_same, ea]
      refine ⟨_, b1, ya, rfl, rfl, .inl (.of eb1), ?_, ?_⟩
      · have e0 : ("" : Str).length = 0 := by decide +kernel
        rw [e0]
        omega
      have p6 := p5.keep0 k6
      have e6 := k6 D _ (fun z => nilX z) e5
      have kk6 : Keep [d] H4 (upd H5 b1 (.lst (cutV (ws.map V.str) none (some t)))) := k5.new nb1
      generalize upd H5 b1 (.lst (cutV (ws.map V.str) none (some t))) = H6 at p6 e6 kk6
      refine ⟨⟨_, rfl⟩, _, rfl, _, rfl, t, rfl, D, _, rfl, .of e6, fun b2 nb2 => ?_⟩
      have k7 : Keep [] H6 (upd H6 b2 (.lst (cutV (ws.map V.str) (some t) none))) := (Keep.refl [] H6).new nb2
      have eb2 : upd H6 b2 (.lst (cutV (ws.map V.str) (some t) none)) b2 = some (.lst (yb.map V.str)) := by rw [upd_same, eb]
      refine ⟨_, b2, yb, rfl, rfl, .inl (.of eb2), ?_, ?_⟩
      · have e0 : ("" : Str).length = 0 := by decide +kernel
        rw [e0]
        omega
      have p7 := p6.keep0 k7
      have kk7 : Keep [d] H (upd H6 b2 (.lst (cutV (ws.map V.str) (some t) none))) := (k4.trans kk6).new nb2
      generalize upd H6 b2 (.lst (cutV (ws.map V.str) (some t) none)) = H7 at p7 kk7
      have la' : Lo 7 (Txt.join "" ya) := (Lo.join "" (by decide +kernel) ya wa).mono (by omega)
      have lb' : Lo 7 (Txt.join "" yb) := (Lo.join "" (by decide +kernel) yb wb).mono (by omega)
      generalize Txt.join "" ya = ahead at la'
      generalize Txt.join "" yb = behind at lb'
      -- the names
      refine ⟨_, rfl, m, rfl, by omega, by omega, fun D2 hD2 => lc_range (n := m.toNat) (fun i H' => Keep [] H7 H' ∧ i ≤ 10 ∧ ∃ xs : List Str, H' D2 = some (.lst (xs.map V.str)) ∧ xs.length = i ∧ ∀ s ∈ xs, Lo 15 s)
        ⟨(Keep.refl [] H7).new hD2, by omega, [], upd_same, rfl, fun _ z => (nomatch z)⟩ ?_ ?_⟩
      · rintro i H' hi ⟨k8, _, xs, e8, hl8, hw8⟩
        have g0 : 0 ≤ (first + step * (0 + (i : Int))) % 26 := Int.emod_nonneg _ (by decide)
        have g1 : (first + step * (0 + (i : Int))) % 26 < 26 := Int.emod_lt_of_pos _ (by decide)
        obtain ⟨ch, ech, hch⟩ := letter_at g0 g1
        have l1 := la'.app (.one hch)
        have l2 := l1.app lb'
        refine ⟨rfl, _, rfl, _, rfl, _, rfl, _, rfl, _, rfl, step, _, rfl, rfl, .inl ⟨by omega, by omega⟩, first, _, rfl, rfl, _, 26, rfl, rfl, (by show (0 : Int) < 26; decide), letters, _, ch, rfl, rfl, (by decide +kernel), ech, ahead, _, rfl, rfl, ?_, _, rfl, _, behind, rfl, rfl, ?_, _, e8, (by rw [List.length_map]; exact lt_size' (by omega)), k8.own hD2, by omega, xs ++ [ahead ++ (⟨#[ch]⟩ : Str) ++ behind], ?_, ?_, ?_⟩
        · have h1 : ahead.length ≤ 7 := la'.len
          have h2 : (⟨#[ch]⟩ : Str).length = 1 := rfl
          exact lt_size (by omega)
        · have h1 : (ahead ++ (⟨#[ch]⟩ : Str)).length ≤ 7 + 1 := l1.len
          have h2 : behind.length ≤ 7 := lb'.len
          exact lt_size (by omega)
        · rw [upd_same, List.map_append]
          rfl
        · rw [List.length_append, hl8]
          rfl
        · intro s hs
          rcases List.mem_append.mp hs with z | z
          · exact hw8 s z
          · rw [List.mem_singleton.mp z]
            exact l2
      · rintro H8 ⟨k8, _, xs, e8, hl8, hw8⟩
        refine ⟨D2, _, rfl, .inl ⟨.of e8, fun l nl => q l xs _ ((kk7.trans (k8.mono (fun _ z => nilX z))).new nl) (((p7.keep0 k8).new nl).mono (by omega)) upd_same hl8 hw8⟩⟩

/-! ### _law_leaps -/
def spLeaps : Sp := fun vs H Q _ => ∃ (d c : Addr) (ns : List Int) (n : Nat) (m : Int), vs = [.ref d, .int m] ∧ Pen H d c ns n ∧ n ≤ 90000 ∧ 1 ≤ m ∧ m ≤ 10 ∧
  ∀ (p : Addr) (xs : List Int) (H' : Hp), Keep [d] H H' → Pen H' d c ns (n + 20) → H' p = some (.tup (xs.map V.int)) → xs.length = m.toNat → (∀ x ∈ xs, 0 ≤ x ∧ x ≤ 30) → (∃ x ∈ xs, 0 < x) → Q (.ref p) H'
theorem rep_one (m : Nat) (t : Int) : (List.replicate m [V.int t]).flatten = (List.replicate m t).map V.int := by
  induction m with
  | zero => rfl
  | succ i ih =>
    rw [List.replicate_succ, List.flatten_cons, ih, List.replicate_succ]
    rfl
def fMod3 (v : V) : V := match v with
  | .int x => .int (x % 3)
  | _ => .non
theorem ok__law_leaps {f : Addr} {fd : FuncData} (F : FnP K "_law_leaps" s__law_leaps f fd) (m_range : mg "range" = none) (m_int : mg "int" = none) (m_max : mg "max" = none) (m_tuple : mg "tuple" = none) (c__law_draw : Cal P w K mg base 1 "_law_draw" spDraw) (c__law_pick : Cal P w K mg base 2 "_law_pick" spPick) :
    FnOk P w K mg base CX0 3 f fd ["_law_pen_here", "_law_many"] spLeaps := by
  refine F.ok sc__law_leaps (fun vs H Q E h => ?_) (fun cdv A outer s H vs Q E hr h => ?_)
  · obtain ⟨d, c, ns, n, m, rfl, _⟩ := h
    rfl
  · obtain ⟨d, c, ns, n, m, rfl, hp, hn, hm0, hm1, q⟩ := h
    refine ⟨_, PSs.nox (pss_cons (ps_set (i := 2) sc__law_leaps.nd rfl (.inr rfl) (pe_k c__law_draw (hr.mono (by decide)) (by rfl) (pa_cons (pv 0) (pa_cons pe_int pa_nil))))
    (pss_cons (ps_set (i := 3) sc__law_leaps.nd rfl (.inl rfl) (pe_k c__law_draw (hr.mono (by decide)) (by rfl) (pa_cons (pv 0) (pa_cons (pv 1) pa_nil))))
    (pss_cons (ps_setLc (i := 4) (own := [("_law_k", 5)]) (g := gName 5) (by rfl) sc__law_leaps.nd rfl rfl (sw_true rfl rfl rfl (by decide +kernel)) (pi_range1 rfl m_range (pa_cons (pv 1) pa_nil)) (blkOk_by (own := [("_law_k", 5)]) (N := N__law_leaps) (sc := defScope s__law_leaps) (by decide +kernel)) (fun _ _ _ _ _ => (pg_name (i := 5) sc__law_leaps.nd rfl (.inl rfl))) (fun _ _ _ _ _ => pts_nil) (fun _ _ _ _ _ => (pe_op op_mul (pe_k c__law_draw (hr.mono (by decide)) (by rfl) (pa_cons (pv 0) (pa_cons pe_int pa_nil))) (pe_callTy call_int1 (by rfl) m_int (by decide +kernel) (pa_cons (pe_cmpR op_gt (pv 2) pe_int (nomark _)) pa_nil)))))
    (pss_cons (ps_if (pt_cmpR op_eq (pv 2) pe_int (nomark _))
      (pss_one (ps_ret (pe_op op_repA (pe_tup (pa_cons (pe_k c__law_pick (hr.mono (by decide)) (by rfl) (pa_cons (pv 0) (pa_cons (pe_lst (pa_cons pe_int (pa_cons pe_int (pa_cons pe_int pa_nil)))) pa_nil))) pa_nil)) (pv 1))))
      pss_nil)
    (pss_mid (ps_if (pt_cmpR op_eq (pv 2) pe_int (nomark _))
      (pss_one (ps_setLc (i := 4) (own := [("_law_number_here", 6)]) (g := gName 6) (by rfl) sc__law_leaps.nd rfl rfl (sw_true rfl rfl rfl (by decide +kernel)) (pi_list (pv 4)) (blkOk_by (own := [("_law_number_here", 6)]) (N := N__law_leaps) (sc := defScope s__law_leaps) (by decide +kernel)) (fun _ _ _ _ _ => (pg_name (i := 6) sc__law_leaps.nd rfl (.inl rfl))) (fun _ _ _ _ _ => pts_nil) (fun _ _ _ _ _ => (pe_op op_mod (pv 6) pe_int))))
      pss_nil)
    (pss_cons (ps_asg (pe_callB (call_max2 rfl) (by rfl) m_max (by decide +kernel) (pa_cons pe_int (pa_cons (pe_ix ix_list (pv 4) (pv 3) (fun _ _ => rfl)) pa_nil))) (pg_sub (pv 4) (pv 3) set_list))
    (pss_one (ps_ret (pe_callTy call_tuple_of (by rfl) m_tuple (by decide +kernel) (pa_cons (pv 4) pa_nil)))))))))), ?_⟩
    refine ⟨_, rfl, d, c, ns, n, 6, rfl, hp, by omega, by decide, by decide, fun way H1 w0 w1 k1 p1 => ?_⟩
    refine ⟨_, rfl, _, rfl, d, c, ns, _, m, rfl, p1, by omega, by omega, by omega, fun spot H2 s0 s1 k2 p2 => ?_⟩
    have kH2 : Keep [d] H H2 := k1.trans k2
    refine ⟨_, rfl, m, rfl, by omega, by omega, fun D hD => lc_range (n := m.toNat) (fun i H' => Keep [d] H H' ∧ Pen H' d c ns (n + 2 + i) ∧ i ≤ 10 ∧ ∃ xs : List Int, H' D = some (.lst (xs.map V.int)) ∧ xs.length = i ∧ ∀ x ∈ xs, 0 ≤ x ∧ x ≤ 30)
      ⟨kH2.new hD, p2.new hD, by omega, [], upd_same, rfl, fun _ z => (nomatch z)⟩ ?_ ?_⟩
    · rintro i H' hi ⟨k4, p4, _, xs, e4, hl4, hw4⟩
      refine ⟨rfl, _, rfl, d, c, ns, _, 31, rfl, p4, by omega, by decide, by decide, fun t H5 t0 t1 k5 p5 => ?_⟩
      have nd : D ∉ [d] := p2.not hD
      refine ⟨_, rfl, way, 1, rfl, rfl, .inr ⟨_, rfl, t, _, rfl, rfl, .inl ⟨by omega, by omega⟩, _, k5 D _ nd e4, (by rw [List.length_map]; exact lt_size' (by omega)), (k4.trans k5).own (kH2.fresh nd hD), p5.own p2 hD, by omega, xs ++ [t * (if decide (1 < way) = true then 1 else 0)], ?_, ?_, ?_⟩⟩
      · rw [upd_same, List.map_append]
        rfl
      · rw [List.length_append, hl4]
        rfl
      · intro x hx
        rcases List.mem_append.mp hx with z | z
        · exact hw4 x z
        · rw [List.mem_singleton.mp z]
          split <;> omega
    · rintro H3 ⟨k3, p3, _, xs, e3, hl3, hw3⟩
      have nD : H D = none := kH2.fresh (p2.not hD) hD
      have dD : D ∉ [d] := p2.not hD
      refine ⟨_, rfl, rfl, _, rfl, ite2 (fun c0 => ?_) (fun c0 => ?_)⟩
      · -- alike
        refine ⟨_, rfl, (by show 3 ≤ sizeLine; decide), fun s0 ns0 => ?_⟩
        have p4 := p3.new (o := .lst ([1, 30, 7].map V.int)) ns0
        refine ⟨d, c, ns, _, s0, [1, 30, 7].map V.int, rfl, p4, by omega, upd_same, fun z => p3.not ns0 (List.mem_singleton.mpr z), (by show 0 < 3; decide), (by show 3 ≤ 1000; decide), fun v H4 hv k4 p5 => ?_⟩
        obtain ⟨t, ht, rfl⟩ := List.mem_map.mp hv
        have t0 : 0 < t ∧ t ≤ 30 := by revert t; decide
        have kH4 : Keep [d] H H4 := (k3.new ns0).trans k4
        refine ⟨(by show 1 ≤ sizeLine; decide), fun b nb => ⟨_, rfl, b, m, [.int t], rfl, rfl, .of upd_same, by simp, hm0, by omega, (by show 1 ≤ 1000; decide), fun e => ?_, fun e p np => ?_⟩⟩
        · subst e
          refine q b [t] _ (kH4.new nb) ((p5.new nb).mono (by omega)) upd_same rfl (fun x hx => ?_) ⟨t, List.mem_singleton.mpr rfl, t0.1⟩
          rw [List.mem_singleton.mp hx]
          omega
        · rw [rep_one]
          refine q p (List.replicate m.toNat t) _ ((kH4.new nb).new np) (((p5.new nb).new np).mono (by omega)) upd_same (List.length_replicate ..) (fun x hx => ?_) ⟨t, List.mem_replicate.mpr ⟨by omega, rfl⟩, t0.1⟩
          rw [(List.mem_replicate.mp hx).2]
          omega
      · refine ⟨fun σ' H' => ∃ (D' : Addr) (xs : List Int), σ' = [some (.ref d), some (.int m), some (.int way), some (.int spot), some (.ref D'), none, none] ∧ Keep [d] H H' ∧ Pen H' d c ns (n + 2 + m.toNat) ∧ H D' = none ∧ H' D' = some (.lst (xs.map V.int)) ∧ xs.length = m.toNat ∧ ∀ x ∈ xs, 0 ≤ x ∧ x ≤ 30, ?_, ?_⟩
        · refine ⟨_, rfl, rfl, _, rfl, ite2 (fun c1 => ?_) (fun c1 => ?_)⟩
          · refine ⟨_, rfl, D, rfl, ⟨_, .of e3⟩, fun D2 hD2 => lc_map fMod3 (SqL.of e3) hD2 (by rw [List.length_map]; omega) (fun x => rfl) ?_ ?_⟩
            · intro v hv H5 Q5 k5 hq
              obtain ⟨x, _, rfl⟩ := List.mem_map.mp hv
              exact ⟨_, rfl, x, 3, rfl, rfl, (by show (0 : Int) < 3; decide), hq⟩
            · intro H5 k5 e5
              refine ⟨D2, xs.map fun x => x % 3, rfl, k3.trans (k5.mono (fun _ z => nilX z)), p3.keep0 k5, k3.fresh (p3.not hD2) hD2, ?_, ?_, ?_⟩
              · rw [e5, List.map_map, List.map_map]
                rfl
              · rw [List.length_map]
                exact hl3
              · intro x hx
                obtain ⟨y, _, rfl⟩ := List.mem_map.mp hx
                have := Int.emod_nonneg y (b := 3) (by decide)
                have := Int.emod_lt_of_pos y (b := 3) (by decide)
                omega
          · exact ⟨D, xs, rfl, k3, p3, nD, e3, hl3, hw3⟩
        · rintro σ' H4 ⟨D', xs', rfl, k4, p4, nD', e4, hl4, hw4⟩
          have hj : spot.toNat < xs'.length := by omega
          obtain ⟨x, hx, _, ea⟩ := at_int s0 (show spot < (xs'.length : Int) by omega)
          have hw := hw4 x hx
          refine ⟨_, rfl, _, rfl, D', _, _, .int x, rfl, rfl, .of e4, ea, 1, x, rfl, _, rfl, _, rfl, D', _, _, spot.toNat, rfl, rfl, e4, ixN_int s0 (by rw [List.length_map]; omega), ?_⟩
          have e5 : (upd H4 D' (.lst ((xs'.map V.int).set spot.toNat (.int (if x > 1 then x else 1))))) D' = some (.lst ((xs'.set spot.toNat (if x > 1 then x else 1)).map V.int)) := by
            rw [upd_same, List.map_set]
          have k5 : Keep [d] H (upd H4 D' (.lst ((xs'.map V.int).set spot.toNat (.int (if x > 1 then x else 1))))) := k4.own nD'
          have p5 : Pen (upd H4 D' (.lst ((xs'.map V.int).set spot.toNat (.int (if x > 1 then x else 1))))) d c ns (n + 2 + m.toNat) := p4.own hp nD'
          refine ⟨_, rfl, D', _, rfl, .inl ⟨.of e5, fun p np => q p (xs'.set spot.toNat (if x > 1 then x else 1)) _ (k5.new np) ((p5.new np).mono (by omega)) upd_same ?_ ?_ ?_⟩⟩
          · rw [List.length_set]
            exact hl4
          · intro z hz
            rcases List.mem_or_eq_of_mem_set hz with h | h
            · exact hw4 z h
            · rw [h]
              split <;> omega
          · refine ⟨_, List.mem_set hj _, ?_⟩
            split <;> omega
end
end K20
set_option Elab.async false
set_option linter.all false
set_option maxRecDepth 100000
set_option maxHeartbeats 2000000
set_option exponentiation.threshold 10000
set_option pp.maxSteps 300
set_option pp.deepTerms false
namespace K20
open PySem PySem.Spec PyProof.Rows L2 GL
/-! ### ties -/
theorem putK_len (kvs : List (List Key × V)) (k : List Key) (v : V) : (putK kvs k v).length ≤ kvs.length + 1 := by
  unfold putK
  split
  · rw [List.length_map]
    omega
  · rw [List.length_append]
    exact Nat.le_refl _
structure Found (m : Int) (kvs : List (List Key × V)) : Prop where
  keys : ∃ ps : List (Int × Int), kvs.map (·.1) = ps.map key2 ∧ ps.Nodup ∧ ∀ p ∈ ps, (0 ≤ p.1 ∧ p.1 < m) ∧ 0 ≤ p.2 ∧ p.2 < m
  vals : ∀ k v, valV kvs k = some v → ∃ t : Int, v = .int t ∧ 1 ≤ t ∧ t ≤ 30
theorem key2_inj {p q : Int × Int} (h : key2 p = key2 q) : p = q := by
  obtain ⟨a, b⟩ := p
  obtain ⟨c, d⟩ := q
  unfold key2 at h
  injection h with h1 h2
  injection h2 with h3 _
  injection h1 with h1
  injection h3 with h3
  simp only at h1 h3
  rw [h1, h3]
theorem found_nil (m : Int) : Found m [] := ⟨⟨[], rfl, List.nodup_nil, fun _ z => (nomatch z)⟩, fun k v z => by
  rw [valV_nil] at z
  cases z⟩
theorem Found.put {m : Int} {kvs : List (List Key × V)} (h : Found m kvs) {p : Int × Int} {t : Int} (hp : (0 ≤ p.1 ∧ p.1 < m) ∧ 0 ≤ p.2 ∧ p.2 < m) (ht : 1 ≤ t ∧ t ≤ 30) : Found m (putK kvs (key2 p) (.int t)) := by
  obtain ⟨ps, hk, hn, hr⟩ := h.keys
  refine ⟨?_, ?_⟩
  · unfold putK
    split
    · refine ⟨ps, ?_, hn, hr⟩
      rw [← hk, List.map_map]
      refine List.map_congr_left fun kv _ => ?_
      show (if kv.1 = key2 p then (kv.1, V.int t) else kv).1 = kv.1
      split <;> rfl
    · rename_i hnot
      refine ⟨ps ++ [p], ?_, ?_, ?_⟩
      · rw [List.map_append, List.map_append, hk]
        rfl
      · rw [List.nodup_append]
        refine ⟨hn, List.nodup_cons.mpr ⟨List.not_mem_nil, List.nodup_nil⟩, fun a ha b hb e => hnot ?_⟩
        rw [List.mem_singleton.mp hb] at e
        subst e
        have h1 : key2 a ∈ kvs.map (·.1) := by
          rw [hk]
          exact List.mem_map.mpr ⟨a, ha, rfl⟩
        obtain ⟨kv, hkv, ekv⟩ := List.mem_map.mp h1
        exact List.any_eq_true.mpr ⟨kv, hkv, decide_eq_true ekv⟩
      · intro q hq
        rcases List.mem_append.mp hq with z | z
        · exact hr q z
        · rw [List.mem_singleton.mp z]
          exact hp
  · intro k v hv
    rw [valV_put] at hv
    split at hv
    · injection hv with hv
      exact ⟨t, hv.symm, ht⟩
    · exact h.vals k v hv
structure TiesOk (m : Int) (ties : List (Int × Int × Int)) : Prop where
  inn : ∀ t ∈ ties, (0 ≤ t.1 ∧ t.1 < m) ∧ (0 ≤ t.2.1 ∧ t.2.1 < m) ∧ 1 ≤ t.2.2 ∧ t.2.2 ≤ 30
  few : ties.length ≤ 40
  rise : ties.Pairwise fun x y => x.1 < y.1 ∨ (x.1 = y.1 ∧ x.2.1 < y.2.1)
def TiesAt (H : Hp) (p : Addr) (ties : List (Int × Int × Int)) : Prop := ∃ ts : List Addr, H p = some (.tup (ts.map V.ref)) ∧ ts.length = ties.length ∧ ∀ (j : Nat) (b : Addr) (x : Int × Int × Int), ts[j]? = some b → ties[j]? = some x → H b = some (tieT x)
def wtOf (kvs : List (List Key × V)) (p : Int × Int) : Int := match valV kvs (key2 p) with
  | some (.int t) => t
  | _ => 0
theorem Found.at_ {m : Int} {kvs : List (List Key × V)} (h : Found m kvs) {ps : List (Int × Int)} (hk : kvs.map (·.1) = ps.map key2) {p : Int × Int} (hp : p ∈ ps) : valV kvs (key2 p) = some (.int (wtOf kvs p)) ∧ 1 ≤ wtOf kvs p ∧ wtOf kvs p ≤ 30 := by
  have h1 : key2 p ∈ kvs.map (·.1) := by
    rw [hk]
    exact List.mem_map.mpr ⟨p, hp, rfl⟩
  obtain ⟨kv, hkv, ekv⟩ := List.mem_map.mp h1
  have h2 : (kvs.any fun kv => decide (kv.1 = key2 p)) = true := List.any_eq_true.mpr ⟨kv, hkv, decide_eq_true ekv⟩
  rw [valV_any] at h2
  obtain ⟨v, hv⟩ := Option.isSome_iff_exists.mp h2
  obtain ⟨t, rfl, ht⟩ := h.vals _ _ hv
  have e : wtOf kvs p = t := by
    unfold wtOf
    rw [hv]
  rw [e]
  exact ⟨hv, ht⟩
theorem ways_at {m way : Int} (h0 : 0 ≤ way) (h1 : way < 8) (m0 : 1 ≤ m) (m1 : m ≤ 10) : ∃ t : Int, atI [V.int 0, .int 0, .int m, .int (2 * m), .int (3 * m), .int 40, .int 40, .int 60] way = some (.int t) ∧ 0 ≤ t ∧ t ≤ 60 := by
  obtain ⟨k, rfl⟩ := Int.eq_ofNat_of_zero_le h0
  have h3 : k < 8 := by omega
  match k, h3 with
  | 0, _ => exact ⟨0, rfl, by decide, by decide⟩
  | 1, _ => exact ⟨0, rfl, by decide, by decide⟩
  | 2, _ => exact ⟨m, rfl, by omega, by omega⟩
  | 3, _ => exact ⟨2 * m, rfl, by omega, by omega⟩
  | 4, _ => exact ⟨3 * m, rfl, by omega, by omega⟩
  | 5, _ => exact ⟨40, rfl, by decide, by decide⟩
  | 6, _ => exact ⟨40, rfl, by decide, by decide⟩
  | 7, _ => exact ⟨60, rfl, by decide, by decide⟩
section
variable {P : Program} {w : World} {K : PySem.W.Frag} {mg : Str → Option Value} {base : Heap}
def spTies : Sp := fun vs H Q _ => ∃ (d c : Addr) (ns : List Int) (n : Nat) (m : Int), vs = [.ref d, .int m] ∧ Pen H d c ns n ∧ n ≤ 90000 ∧ 1 ≤ m ∧ m ≤ 10 ∧
  ∀ (p : Addr) (ties : List (Int × Int × Int)) (H' : Hp), Keep [d] H H' → Pen H' d c ns (n + 200) → TiesAt H' p ties → TiesOk m ties → Q (.ref p) H'
theorem ok__law_ties {f : Addr} {fd : FuncData} (F : FnP K "_law_ties" s__law_ties f fd) (m_len : mg "len" = none) (m_range : mg "range" = none) (m_tuple : mg "tuple" = none) (m_sorted : mg "sorted" = none) (c__law_draw : Cal P w K mg base 1 "_law_draw" spDraw) (c__law_pick : Cal P w K mg base 2 "_law_pick" spPick) :
    FnOk P w K mg base CX0 3 f fd ["_law_pen_here", "_law_many"] spTies := by
  refine F.ok sc__law_ties (fun vs H Q E h => ?_) (fun cdv A outer s H vs Q E hr h => ?_)
  · obtain ⟨d, c, ns, n, m, rfl, _⟩ := h
    rfl
  · obtain ⟨d, c, ns, n, m, rfl, hp, hn, hm0, hm1, q⟩ := h
    refine ⟨_, PSs.nox (pss_cons (ps_set (i := 2) sc__law_ties.nd rfl (.inl rfl) (pe_k c__law_draw (hr.mono (by decide)) (by rfl) (pa_cons (pv 0) (pa_cons pe_int pa_nil))))
    (pss_cons (ps_set (i := 3) sc__law_ties.nd rfl (.inl rfl) (pe_k c__law_pick (hr.mono (by decide)) (by rfl) (pa_cons (pv 0) (pa_cons (pe_lst (pa_cons pe_int (pa_cons pe_int (pa_cons pe_int pa_nil)))) pa_nil))))
    (pss_cons (ps_set (i := 4) sc__law_ties.nd rfl (.inl rfl) (pe_k c__law_draw (hr.mono (by decide)) (by rfl) (pa_cons (pv 0) (pa_cons (pv 1) pa_nil))))
    (pss_cons (ps_set (i := 5) sc__law_ties.nd rfl (.inr rfl) pe_dnewT)
    (pss_cons (ps_if (pt_cmpR op_eq (pv 2) pe_int (nomark _))
      (pss_one (ps_ret (pe_tup pa_nil)))
      pss_nil)
    (pss_mid (ps_if (pt_cmpR op_eq (pv 2) pe_int (nomark _))
      (pss_one (ps_for PassesOwn.never rfl (pi_range1 rfl m_range (pa_cons (pv 1) pa_nil)) (pg_name (i := 6) sc__law_ties.nd rfl (.inl rfl))
      (pss_one (ps_dput (hu_of hr) (pv 5) (pe_tup (pa_cons (pv 6) (pa_cons (pe_op op_mod (pe_op op_add (pv 6) pe_int) (pv 1)) pa_nil))) (pe_op op_add pe_int (pe_k c__law_draw (hr.mono (by decide)) (by rfl) (pa_cons (pv 0) (pa_cons (pv 3) pa_nil)))) rfl))))
      pss_nil)
    (pss_cons (ps_for PassesOwn.never rfl (pi_range1 rfl m_range (pa_cons (pe_ix ix_list (pe_lst (pa_cons pe_int (pa_cons pe_int (pa_cons (pv 1) (pa_cons (pe_op op_mul pe_int (pv 1)) (pa_cons (pe_op op_mul pe_int (pv 1)) (pa_cons pe_int (pa_cons pe_int (pa_cons pe_int pa_nil))))))))) (pv 2) (fun _ _ => rfl)) pa_nil)) (pg_name (i := 7) sc__law_ties.nd rfl (.inl rfl))
      (pss_cons (ps_set (i := 8) sc__law_ties.nd rfl (.inl rfl) (pe_tup (pa_cons (pe_k c__law_draw (hr.mono (by decide)) (by rfl) (pa_cons (pv 0) (pa_cons (pv 1) pa_nil))) (pa_cons (pe_k c__law_draw (hr.mono (by decide)) (by rfl) (pa_cons (pv 0) (pa_cons (pv 1) pa_nil))) pa_nil))))
    (pss_one (ps_if (PW.pt (pw_and (pt_cmpR op_lt (pe_callB call_len_dT (by rfl) m_len (by decide +kernel) (pa_cons (pv 5) pa_nil)) pe_int (nomark _)) (pw_and1 (PW.pt (pw_or (pt_cmpR op_eq (pv 2) pe_int (nomark _)) (pw_or1 (pt_cmpR op_ne (pe_ix ix_tup (pv 8) pe_int (fun _ _ => rfl)) (pv 4) (nomark _))))))))
      (pss_one (ps_dput (hu_of hr) (pv 5) (pv 8) (pe_op op_add pe_int (pe_k c__law_draw (hr.mono (by decide)) (by rfl) (pa_cons (pv 0) (pa_cons (pv 3) pa_nil)))) rfl))
      pss_nil))))
    (pss_one (ps_ret (pe_callTy call_tuple_of (by rfl) m_tuple (by decide +kernel) (pa_cons (pe_lc (own := [("_law_a", 6), ("_law_b", 9)]) (g := gTup K 2 (gCons (gName 6) (gCons (gName 9) gNil))) (by rfl) sc__law_ties.nd (pi_list (pe_callB (cr_sortedDT rfl) (by rfl) m_sorted (by decide +kernel) (pa_cons (pv 5) pa_nil))) (blkOk_by (own := [("_law_a", 6), ("_law_b", 9)]) (N := N__law_ties) (sc := defScope s__law_ties) (by decide +kernel)) (fun _ _ _ _ _ => (pg_tup rfl (pgs_cons (pg_name (i := 6) sc__law_ties.nd rfl (.inl rfl)) (pgs_cons (pg_name (i := 9) sc__law_ties.nd rfl (.inl rfl)) pgs_nil)))) (fun _ _ _ _ _ => pts_nil) (fun _ _ _ _ _ => (pe_tup (pa_cons (pv 6) (pa_cons (pv 9) (pa_cons (pe_dget (hu_of hr) (pv 5) (pe_tup (pa_cons (pv 6) (pa_cons (pv 9) pa_nil))) (fun _ _ => rfl)) pa_nil)))))) pa_nil))))))))))), ?_⟩
    refine ⟨_, rfl, d, c, ns, n, 8, rfl, hp, by omega, by decide, by decide, fun way H1 w0 w1 k1 p1 => ?_⟩
    refine ⟨_, rfl, (by show 3 ≤ sizeLine; decide), fun s0 ns0 => ?_⟩
    refine ⟨d, c, ns, _, s0, [1, 3, 30].map V.int, rfl, p1.new ns0, by omega, upd_same, fun z => p1.not ns0 (List.mem_singleton.mpr z), (by show 0 < 3; decide), (by show 3 ≤ 1000; decide), fun v H2 hv k2 p2 => ?_⟩
    obtain ⟨top, ht, rfl⟩ := List.mem_map.mp hv
    have top0 : 0 < top ∧ top ≤ 30 := by
      clear hv
      revert top
      decide
    refine ⟨_, rfl, _, rfl, d, c, ns, _, m, rfl, p2, by omega, by omega, by omega, fun bare H3 b0 b1 k3 p3 => ?_⟩
    have kH3 : Keep [d] H H3 := ((k1.new ns0).trans k2).trans k3
    intro D hD
    have nD : H D = none := kH3.fresh (p3.not hD) hD
    have dD : D ∉ [d] := p3.not hD
    have k4 : Keep [d] H (upd H3 D (.dT [])) := kH3.new hD
    have p4 : Pen (upd H3 D (.dT [])) d c ns (n + 3) := p3.new hD
    have e4 : upd H3 D (.dT []) D = some (.dT []) := upd_same
    generalize upd H3 D (.dT []) = H4 at k4 p4 e4
    refine ⟨_, rfl, rfl, _, rfl, ite2 (fun c0 => ?_) (fun c0 => ?_)⟩
    · refine ⟨Nat.zero_le _, fun t nt => ?_⟩
      exact q t [] _ (k4.new nt) ((p4.new nt).mono (by omega)) ⟨[], upd_same, rfl, fun j b x hj => by cases hj⟩ ⟨fun _ z => (nomatch z), by decide, List.Pairwise.nil⟩
    · refine ⟨fun σ' H' => ∃ (y6 : Option V) (kvs : List (List Key × V)), σ' = [some (.ref d), some (.int m), some (.int way), some (.int top), some (.int bare), some (.ref D), y6, none, none, none] ∧ Keep [d] H H' ∧ Pen H' d c ns (n + 13) ∧ H' D = some (.dT kvs) ∧ Found m kvs ∧ kvs.length ≤ 40, ?_, ?_⟩
      · refine ⟨_, rfl, rfl, _, rfl, ite2 (fun c1 => ?_) (fun c1 => ?_)⟩
        · -- a ring
          refine ⟨_, rfl, m, rfl, by omega, by omega, for_range (n := m.toNat) (fun i σ' H' => ∃ (y6 : Option V) (kvs : List (List Key × V)), σ' = [some (.ref d), some (.int m), some (.int way), some (.int top), some (.int bare), some (.ref D), y6, none, none, none] ∧ Keep [d] H H' ∧ Pen H' d c ns (n + 3 + i) ∧ H' D = some (.dT kvs) ∧ Found m kvs ∧ kvs.length ≤ i)
            ⟨none, [], rfl, k4, p4, e4, found_nil m, Nat.le_refl _⟩ ?_ ?_⟩
          · rintro i σ' H' hi ⟨y6, kvs, rfl, k5, p5, e5, f5, l5⟩
            refine ⟨_, rfl, _, rfl, d, c, ns, _, top, rfl, p5, by omega, by omega, by omega, fun t H6 t0 t1 k6 p6 => ⟨1, t, rfl, rfl, ?_⟩⟩
            have e6 := k6 D _ dD e5
            refine ⟨_, rfl, _, rfl, _, rfl, 0 + (i : Int), 1, rfl, rfl, _, rfl, _, m, rfl, rfl, by omega, (by show 2 ≤ sizeLine; decide), fun b nb => ?_⟩
            have k7 : Keep [] H6 (upd H6 b (.tup [.int (0 + (i : Int)), .int ((0 + (i : Int) + 1) % m)])) := (Keep.refl [] H6).new nb
            refine ⟨D, _, rfl, DPut.t (k := key2 (0 + (i : Int), (0 + (i : Int) + 1) % m)) (k7 D _ (fun z => nilX z) e6) upd_same (lt_size' (by omega)), ?_⟩
            have g1 := Int.emod_nonneg (0 + (i : Int) + 1) (b := m) (by omega)
            have g2 := Int.emod_lt_of_pos (0 + (i : Int) + 1) (b := m) (by omega)
            refine ⟨some (.int (0 + (i : Int))), putK kvs (key2 (0 + (i : Int), (0 + (i : Int) + 1) % m)) (.int (1 + t)), rfl, ((k5.trans k6).new nb).own nD, (p6.keep0 k7).own hp nD, upd_same, f5.put ⟨⟨by show 0 ≤ 0 + (i : Int); omega, by show 0 + (i : Int) < m; omega⟩, g1, g2⟩ ⟨by omega, by omega⟩, ?_⟩
            have := putK_len kvs (key2 (0 + (i : Int), (0 + (i : Int) + 1) % m)) (.int (1 + t))
            omega
          · rintro σ' H' ⟨y6, kvs, rfl, k5, p5, e5, f5, l5⟩
            exact ⟨y6, kvs, rfl, k5, p5.mono (by omega), e5, f5, by omega⟩
        · exact ⟨none, [], rfl, k4, p4.mono (by omega), e4, found_nil m, by decide⟩
      · rintro σ5 H5 ⟨y6, kvs, rfl, k5, p5, e5, f5, l5⟩
        obtain ⟨t, et, t0, t1⟩ := ways_at w0 w1 hm0 hm1
        refine ⟨_, rfl, _, rfl, 2, m, rfl, rfl, .inl ⟨by decide, by decide⟩, _, rfl, 3, m, rfl, rfl, .inl ⟨by decide, by decide⟩, (by show 8 ≤ sizeLine; decide), fun l nl => ⟨_, rfl, l, _, way, .int t, rfl, rfl, .of upd_same, et, t, rfl, by omega, by omega, for_range (n := t.toNat) (fun i σ' H' => ∃ (y6 y7 y8 : Option V) (kvs : List (List Key × V)), σ' = [some (.ref d), some (.int m), some (.int way), some (.int top), some (.int bare), some (.ref D), y6, y7, y8, none] ∧ Keep [d] H H' ∧ Pen H' d c ns (n + 13 + 3 * i) ∧ H' D = some (.dT kvs) ∧ Found m kvs ∧ kvs.length ≤ 40)
          ⟨y6, none, none, kvs, rfl, k5.new nl, p5.new nl, ((Keep.refl [] H5).new nl) D _ (fun z => nilX z) e5, f5, l5⟩ ?_ ?_⟩⟩
        · rintro i σ' H' hi ⟨y6, y7, y8, kvs, rfl, k6, p6, e6, f6, l6⟩
          refine ⟨_, rfl, _, rfl, d, c, ns, _, m, rfl, p6, by omega, by omega, by omega, fun x H7 x0 x1 k7 p7 => ⟨_, rfl, _, rfl, d, c, ns, _, m, rfl, p7, by omega, by omega, by omega, fun y H8 h0 h1 k8 p8 => ⟨(by show 2 ≤ sizeLine; decide), fun b nb => ?_⟩⟩⟩
          have e8 := k8 D _ dD (k7 D _ dD e6)
          have k9 : Keep [] H8 (upd H8 b (.tup [.int x, .int y])) := (Keep.refl [] H8).new nb
          have e9 := k9 D _ (fun z => nilX z) e8
          have eb : upd H8 b (.tup [.int x, .int y]) b = some (.tup [.int x, .int y]) := upd_same
          have p9 := p8.keep0 k9
          have kk9 : Keep [d] H (upd H8 b (.tup [.int x, .int y])) := ((k6.trans k7).trans k8).new nb
          generalize upd H8 b (.tup [.int x, .int y]) = H9 at e9 eb p9 kk9
          have dB : b ∉ [d] := fun z => by
            obtain ⟨i, l, e⟩ := p9.ex
            rw [List.mem_singleton.mp z, e] at eb
            cases eb
          have done : ∀ (t : Int) (Ha : Hp), 0 ≤ t → t < top → Keep [d] H9 Ha → Pen Ha d c ns (n + 13 + 3 * i + 1 + 1 + 1) → kvs.length < 40 →
              DPut Ha D (.ref b) (.int (1 + t)) (upd Ha D (.dT (putK kvs (key2 (x, y)) (.int (1 + t))))) ∧ Keep [d] H (upd Ha D (.dT (putK kvs (key2 (x, y)) (.int (1 + t))))) ∧ Pen (upd Ha D (.dT (putK kvs (key2 (x, y)) (.int (1 + t))))) d c ns (n + 13 + 3 * (i + 1)) ∧
              upd Ha D (.dT (putK kvs (key2 (x, y)) (.int (1 + t)))) D = some (.dT (putK kvs (key2 (x, y)) (.int (1 + t)))) ∧ Found m (putK kvs (key2 (x, y)) (.int (1 + t))) ∧ (putK kvs (key2 (x, y)) (.int (1 + t))).length ≤ 40 := by
            intro t Ha t0 t1 ka pa hl
            refine ⟨DPut.t (ka D _ dD e9) (ka b _ dB eb) (lt_size' (by omega)), (kk9.trans ka).own nD, (pa.own hp nD).mono (by omega), upd_same, f6.put ⟨⟨x0, x1⟩, h0, h1⟩ ⟨by omega, by omega⟩, ?_⟩
            have := putK_len kvs (key2 (x, y)) (.int (1 + t))
            omega
          refine ⟨_, rfl, D, _, rfl, e9, _, 40, rfl, rfl, _, rfl, ite2 (fun c1 => ?_) (fun c1 => ?_)⟩
          · have hl : kvs.length < 40 := by
              have := of_decide_eq_true c1
              omega
            refine ⟨_, rfl, rfl, _, rfl, ite2 (fun c2 => ?_) (fun c2 => ?_)⟩
            · refine iteT ?_
              refine ⟨_, rfl, _, rfl, d, c, ns, _, top, rfl, p9, by omega, by omega, by omega, fun t Ha t0 t1 ka pa => ⟨1, t, rfl, rfl, _, rfl, _, rfl, D, upd Ha D (.dT (putK kvs (key2 (x, y)) (.int (1 + t)))), rfl, ?_⟩⟩
              obtain ⟨g1, g2, g3, g4, g5, g6⟩ := done t Ha t0 t1 ka pa hl
              exact ⟨g1, y6, _, _, _, rfl, g2, g3, g4, g5, g6⟩
            · refine ⟨_, rfl, b, _, _, .int x, rfl, rfl, .of eb, rfl, _, rfl, rfl, _, rfl, ite2 (fun c3 => ?_) (fun c3 => ?_)⟩
              · refine ⟨_, rfl, _, rfl, d, c, ns, _, top, rfl, p9, by omega, by omega, by omega, fun t Ha t0 t1 ka pa => ⟨1, t, rfl, rfl, _, rfl, _, rfl, D, upd Ha D (.dT (putK kvs (key2 (x, y)) (.int (1 + t)))), rfl, ?_⟩⟩
                obtain ⟨g1, g2, g3, g4, g5, g6⟩ := done t Ha t0 t1 ka pa hl
                exact ⟨g1, y6, _, _, _, rfl, g2, g3, g4, g5, g6⟩
              · exact ⟨y6, _, _, kvs, rfl, kk9, p9.mono (by omega), e9, f6, l6⟩
          · exact iteF ⟨y6, _, _, kvs, rfl, kk9, p9.mono (by omega), e9, f6, l6⟩
        · rintro σ' H6 ⟨y6, y7, y8, kvs, rfl, k6, p6, e6, f6, l6⟩
          obtain ⟨ps, hk, hn2, hr2⟩ := f6.keys
          refine ⟨_, rfl, D, kvs, ps, rfl, e6, hk, fun es so hperm hsort hes nso => ?_⟩
          have k7 : Keep [] H6 (upd H6 so (.lst (es.map fun e => V.ref e.1))) := (Keep.refl [] H6).new nso
          have e7 := k7 D _ (fun z => nilX z) e6
          have eso : upd H6 so (.lst (es.map fun e => V.ref e.1)) so = some (.lst (es.map fun e => V.ref e.1)) := upd_same
          have p7 := p6.keep0 k7
          have kk7 : Keep [d] H (upd H6 so (.lst (es.map fun e => V.ref e.1))) := k6.new nso
          generalize upd H6 so (.lst (es.map fun e => V.ref e.1)) = H7 at k7 e7 eso p7 kk7
          have eslen : es.length = kvs.length := by
            have h1 := hperm.length_eq
            have h2 := congrArg List.length hk
            rw [List.length_map] at h1
            rw [List.length_map, List.length_map] at h2
            omega
          let tie : Addr × (Int × Int) → Int × Int × Int := fun e => (e.2.1, e.2.2, wtOf kvs e.2)
          refine ⟨so, rfl, ⟨_, .of eso⟩, fun D2 hD2 => lc_list (xs := es.map fun e => V.ref e.1) (fun i H' => Keep [] H7 H' ∧ ∃ ts : List Addr, H' D2 = some (.lst (ts.map V.ref)) ∧ ts.length = i ∧ ∀ (j : Nat) (b : Addr) (e : Addr × (Int × Int)), ts[j]? = some b → es[j]? = some e → H' b = some (tieT (tie e)))
            ⟨(Keep.refl [] H7).new hD2, [], upd_same, rfl, fun j b e hj => by cases hj⟩ ?_ ?_ ?_⟩
          · rintro i H' _ ⟨k8, _⟩
            exact .of (k8 so _ (fun z => nilX z) eso)
          · rintro i v H' hv ⟨k8, ts, e8, hl8, ht8⟩
            rw [List.getElem?_map] at hv
            obtain ⟨e, he, rfl⟩ := Option.map_eq_some_iff.mp hv
            have hem := List.mem_of_getElem? he
            have hil : i < es.length := (List.getElem?_eq_some_iff.mp he).1
            have hps : e.2 ∈ ps := hperm.mem_iff.mp (List.mem_map.mpr ⟨e, hem, rfl⟩)
            obtain ⟨gv, _, _⟩ := f6.at_ hk hps
            refine ⟨e.1, _, rfl, .of (k8 e.1 _ (fun z => nilX z) (k7 e.1 _ (fun z => nilX z) (hes e hem))), rfl, _, _, rfl, _, _, rfl, rfl, rfl, _, rfl, _, rfl, _, rfl, _, rfl, _, rfl, (by show 2 ≤ sizeLine; decide), fun kt nkt => ?_⟩
            have k9 : Keep [] H' (upd H' kt (.tup [.int e.2.1, .int e.2.2])) := (Keep.refl [] H').new nkt
            have g : DGet (upd H' kt (.tup [.int e.2.1, .int e.2.2])) D (.ref kt) (valV kvs (key2 e.2)) := DGet.t (k9 D _ (fun z => nilX z) (k8 D _ (fun z => nilX z) e7)) upd_same
            rw [gv] at g
            refine ⟨D, _, rfl, g, (by show 3 ≤ sizeLine; decide), fun tt ntt => ?_⟩
            have k10 := k9.new (o := .tup [.int e.2.1, .int e.2.2, .int (wtOf kvs e.2)]) ntt
            have e10 := k10 D2 _ (fun z => nilX z) e8
            have et10 : upd (upd H' kt (.tup [.int e.2.1, .int e.2.2])) tt (.tup [.int e.2.1, .int e.2.2, .int (wtOf kvs e.2)]) tt = some (tieT (tie e)) := upd_same
            have dt : tt ≠ D2 := (ne_of_none (k9 D2 _ (fun z => nilX z) e8) ntt).symm
            refine ⟨_, e10, (by rw [List.length_map]; exact lt_size' (by omega)), (k8.trans k10).own hD2, ts ++ [tt], ?_, ?_, ?_⟩
            · rw [upd_same, List.map_append]
              rfl
            · rw [List.length_append, hl8]
              rfl
            · intro j b e' hj he'
              by_cases z : j < i
              · rw [List.getElem?_append_left (by omega)] at hj
                have hb := ht8 j b e' hj he'
                have hb10 := k10 b _ (fun z => nilX z) hb
                have bD : b ≠ D2 := fun z => by
                  rw [z, e8] at hb
                  cases hb
                rw [upd_ne bD]
                exact hb10
              · have hji : j < (ts ++ [tt]).length := (List.getElem?_eq_some_iff.mp hj).1
                rw [List.length_append, hl8] at hji
                have ej : j = i := by
                  have : ([tt] : List Addr).length = 1 := rfl
                  omega
                subst ej
                rw [List.getElem?_append_right (by omega), hl8, Nat.sub_self] at hj
                have eb : tt = b := Option.some.inj hj
                rw [he] at he'
                cases he'
                rw [← eb, upd_ne dt]
                exact et10
          · rintro H8 ⟨k8, ts, e8, hl8, ht8⟩
            rw [List.length_map] at hl8
            refine ⟨D2, _, rfl, .inl ⟨.of e8, fun l nl => ?_⟩⟩
            have k9 : Keep [] H8 (upd H8 l (.tup (ts.map V.ref))) := (Keep.refl [] H8).new nl
            refine q l (es.map tie) _ ((kk7.trans (k8.mono (fun _ z => nilX z))).new nl) (((p7.keep0 k8).keep0 k9).mono (by omega)) ⟨ts, upd_same, by rw [List.length_map]; exact hl8, ?_⟩ ⟨?_, by rw [List.length_map]; omega, ?_⟩
            · intro j b x hj hx
              rw [List.getElem?_map] at hx
              obtain ⟨e, he, rfl⟩ := Option.map_eq_some_iff.mp hx
              exact k9 b _ (fun z => nilX z) (ht8 j b e hj he)
            · intro t ht
              obtain ⟨e, hem, rfl⟩ := List.mem_map.mp ht
              have hps : e.2 ∈ ps := hperm.mem_iff.mp (List.mem_map.mpr ⟨e, hem, rfl⟩)
              obtain ⟨_, g1, g2⟩ := f6.at_ hk hps
              exact ⟨(hr2 _ hps).1, (hr2 _ hps).2, g1, g2⟩
            · have nd : (es.map (·.2)).Nodup := hperm.nodup_iff.mpr hn2
              rw [List.pairwise_map]
              have h1 := List.pairwise_map.mp hsort
              have h2 := List.pairwise_map.mp nd
              refine (h1.and h2).imp ?_
              rintro a b ⟨h3, h4⟩
              have h5 : ¬ (b.2.1 < a.2.1 ∨ (b.2.1 = a.2.1 ∧ b.2.2 < a.2.2)) := fun z => by
                rw [SrtO.lexB_iff.mpr z] at h3
                cases h3
              have h6 : ¬ (a.2.1 = b.2.1 ∧ a.2.2 = b.2.2) := fun z => h4 (Prod.ext z.1 z.2)
              show a.2.1 < b.2.1 ∨ (a.2.1 = b.2.1 ∧ a.2.2 < b.2.2)
              omega
end
end K20
set_option Elab.async false
set_option linter.all false
set_option maxRecDepth 100000
set_option maxHeartbeats 2000000
set_option exponentiation.threshold 10000
set_option pp.maxSteps 300
set_option pp.deepTerms false
namespace K20
open PySem PySem.Spec PyProof.Rows L2 GL
/-- numbers for m places, not all nought -/
structure NumsOk (m : Int) (xs : List Int) : Prop where
  len : (xs.length : Int) = m
  rng : ∀ x ∈ xs, 0 ≤ x ∧ x ≤ 30
  pos : ∃ x ∈ xs, 0 < x
structure WebOk (W : Web) : Prop where
  many : 1 ≤ W.names.length ∧ W.names.length ≤ 10
  names : ∀ x ∈ W.names, Lo 15 x
  ties : TiesOk W.names.length W.ties
  leaps : NumsOk W.names.length W.leaps
  chance : 1 ≤ W.p ∧ W.p ≤ W.q ∧ W.q ≤ 12
  falls : W.falls = [] ∨ NumsOk W.names.length W.falls
theorem WebOk.fits {W : Web} (h : WebOk W) : Fits W := by
  refine ⟨⟨h.many.1, by have := h.many.2; omega⟩, fun t ht => (h.ties.inn t ht).2.1, ?_⟩
  rcases h.falls with z | z
  · exact .inl z
  · exact .inr (by have := z.len; omega)
theorem noT_pen {H : Hp} {d c : Addr} {ns : List Int} {n : Nat} (p : Pen H d c ns n) : NoT H [d] := fun e he xs z => by
  obtain ⟨i, l, e1⟩ := p.ex
  rw [List.mem_singleton.mp he, e1] at z
  cases z
theorem TiesAt.keep {H H' : Hp} {p : Addr} {ties : List (Int × Int × Int)} {ex : List Addr} (h : TiesAt H p ties) (k : Keep ex H H') (nt : NoT H ex) : TiesAt H' p ties := by
  obtain ⟨ts, h1, h2, h3⟩ := h
  exact ⟨ts, Keep.tup k nt h1, h2, fun j b x hj hx => Keep.tup k nt (h3 j b x hj hx)⟩
theorem webAt_mk {H : Hp} {a n t l c f : Addr} {W : Web} (h1 : H a = some (.tup [.ref n, .ref t, .ref l, .ref c, .ref f])) (h2 : H n = some (.tup (W.names.map V.str))) (h3 : TiesAt H t W.ties) (h4 : H l = some (.tup (W.leaps.map V.int)))
    (h5 : H c = some (.tup [.int W.p, .int W.q])) (h6 : H f = some (.tup (W.falls.map V.int))) : WebAt H a W := by
  obtain ⟨ts, g1, g2, g3⟩ := h3
  exact ⟨⟨n, t, l, c, f, ts, h1, h2, g1, g2, g3, h4, h5, h6⟩⟩
theorem ne_at {H : Hp} {a b : Addr} {u v : HO} (ha : H a = some u) (hb : H b = some v) (h : u ≠ v) : a ≠ b := fun z => by
  rw [z, hb] at ha
  exact h (Option.some.inj ha).symm
theorem mem4 {v : V} {a b c d : Int} (h : v ∈ [V.int a, .int b, .int c, .int d]) : ∃ t : Int, v = .int t ∧ (t = a ∨ t = b ∨ t = c ∨ t = d) := by
  rcases List.mem_cons.mp h with e | h
  · exact ⟨a, e, .inl rfl⟩
  rcases List.mem_cons.mp h with e | h
  · exact ⟨b, e, .inr (.inl rfl)⟩
  rcases List.mem_cons.mp h with e | h
  · exact ⟨c, e, .inr (.inr (.inl rfl))⟩
  · exact ⟨d, List.mem_singleton.mp h, .inr (.inr (.inr rfl))⟩
section
variable {P : Program} {w : World} {K : PySem.W.Frag} {mg : Str → Option Value} {base : Heap}
def spWeb : Sp := fun vs H Q _ => ∃ (d c : Addr) (ns : List Int) (n : Nat) (m : Int), vs = [.ref d, .int m] ∧ Pen H d c ns n ∧ n ≤ 80000 ∧ 2 ≤ m ∧ m ≤ 10 ∧
  ∀ (p : Addr) (W : Web) (H' : Hp), Keep [d] H H' → Pen H' d c ns (n + 300) → WebAt H' p W → WebOk W → (W.names.length : Int) ≤ m → Q (.ref p) H'
theorem ok__law_web {f : Addr} {fd : FuncData} (F : FnP K "_law_web" s__law_web f fd) (c__law_draw : Cal P w K mg base 1 "_law_draw" spDraw) (c__law_pick : Cal P w K mg base 2 "_law_pick" spPick)
    (c__law_names : Cal P w K mg base 3 "_law_names" spNames) (c__law_leaps : Cal P w K mg base 3 "_law_leaps" spLeaps) (c__law_ties : Cal P w K mg base 3 "_law_ties" spTies) :
    FnOk P w K mg base CX0 4 f fd ["_law_pen_here", "_law_most"] spWeb := by
  refine F.ok sc__law_web (fun vs H Q E h => ?_) (fun cdv A outer s H vs Q E hr h => ?_)
  · obtain ⟨d, c, ns, n, m, rfl, _⟩ := h
    rfl
  · obtain ⟨d, c, ns, n, m, rfl, hp, hn, hm0, hm1, q⟩ := h
    refine ⟨_, PSs.nox (pss_cons (ps_set (i := 2) sc__law_web.nd rfl (.inl rfl) (pe_k c__law_pick (hr.mono (by decide)) (by rfl) (pa_cons (pv 0) (pa_cons (pe_lst (pa_cons (pe_op op_add pe_int (pe_k c__law_draw (hr.mono (by decide)) (by rfl) (pa_cons (pv 0) (pa_cons (pv 1) pa_nil)))) (pa_cons (pe_op op_add pe_int (pe_k c__law_draw (hr.mono (by decide)) (by rfl) (pa_cons (pv 0) (pa_cons (pv 1) pa_nil)))) (pa_cons (pv 1) (pa_cons pe_int pa_nil))))) pa_nil))))
    (pss_cons (ps_set (i := 3) sc__law_web.nd rfl (.inl rfl) (pe_k c__law_pick (hr.mono (by decide)) (by rfl) (pa_cons (pv 0) (pa_cons (pe_lst (pa_cons pe_int (pa_cons pe_int (pa_cons (pe_op op_add pe_int (pe_k c__law_draw (hr.mono (by decide)) (by rfl) (pa_cons (pv 0) (pa_cons pe_int pa_nil)))) (pa_cons pe_int pa_nil))))) pa_nil))))
    (pss_cons (ps_set (i := 4) sc__law_web.nd rfl (.inl rfl) (pe_k c__law_pick (hr.mono (by decide)) (by rfl) (pa_cons (pv 0) (pa_cons (pe_lst (pa_cons pe_int (pa_cons pe_int (pa_cons (pv 3) (pa_cons (pe_op op_add pe_int (pe_k c__law_draw (hr.mono (by decide)) (by rfl) (pa_cons (pv 0) (pa_cons (pv 3) pa_nil)))) pa_nil))))) pa_nil))))
    (pss_cons (ps_set (i := 5) sc__law_web.nd rfl (.inl rfl) (pe_tup pa_nil))
    (pss_mid (ps_if (pt_cmpR op_eq (pe_k c__law_draw (hr.mono (by decide)) (by rfl) (pa_cons (pv 0) (pa_cons pe_int pa_nil))) pe_int (nomark _))
      (pss_one (ps_set (i := 5) sc__law_web.nd rfl (.inl rfl) (pe_k c__law_leaps (hr.mono (by decide)) (by rfl) (pa_cons (pv 0) (pa_cons (pv 2) pa_nil)))))
      pss_nil)
    (pss_one (ps_ret (pe_tup (pa_cons (pe_k c__law_names (hr.mono (by decide)) (by rfl) (pa_cons (pv 0) (pa_cons (pv 2) pa_nil))) (pa_cons (pe_k c__law_ties (hr.mono (by decide)) (by rfl) (pa_cons (pv 0) (pa_cons (pv 2) pa_nil))) (pa_cons (pe_k c__law_leaps (hr.mono (by decide)) (by rfl) (pa_cons (pv 0) (pa_cons (pv 2) pa_nil))) (pa_cons (pe_tup (pa_cons (pv 4) (pa_cons (pv 3) pa_nil))) (pa_cons (pv 5) pa_nil))))))))))))), ?_⟩
    -- many
    refine ⟨_, rfl, _, rfl, _, rfl, d, c, ns, n, m, rfl, hp, by omega, by omega, by omega, fun x H1 x0 x1 k1 p1 => ⟨1, x, rfl, rfl, _, rfl, _, rfl, d, c, ns, _, m, rfl, p1, by omega, by omega, by omega, fun y H2 y0 y1 k2 p2 => ⟨1, y, rfl, rfl, _, rfl, (by show 4 ≤ sizeLine; decide), fun s0 ns0 =>
      ⟨d, c, ns, _, s0, _, rfl, p2.new ns0, by omega, upd_same, fun z => p2.not ns0 (List.mem_singleton.mpr z), (by show 0 < 4; decide), (by show 4 ≤ 1000; decide), fun v H3 hv k3 p3 => ?_⟩⟩⟩⟩
    obtain ⟨M, rfl, hM⟩ := mem4 hv
    have hM0 : 1 ≤ M ∧ M ≤ m := by omega
    have kH3 : Keep [d] H H3 := ((k1.trans k2).new ns0).trans k3
    clear hv hM k1 k2 k3 ns0
    -- q
    refine ⟨_, rfl, _, rfl, d, c, ns, _, 12, rfl, p3, by omega, by decide, by decide, fun x4 H4 x40 x41 k4 p4 => ⟨1, x4, rfl, rfl, (by show 4 ≤ sizeLine; decide), fun s1 ns1 =>
      ⟨d, c, ns, _, s1, _, rfl, p4.new ns1, by omega, upd_same, fun z => p4.not ns1 (List.mem_singleton.mpr z), (by show 0 < 4; decide), (by show 4 ≤ 1000; decide), fun v H5 hv k5 p5 => ?_⟩⟩⟩
    obtain ⟨qq, rfl, hq⟩ := mem4 hv
    have hq0 : 1 ≤ qq ∧ qq ≤ 12 := by omega
    have kH5 : Keep [d] H H5 := ((kH3.trans k4).new ns1).trans k5
    clear hv hq k4 k5 ns1
    -- p
    refine ⟨_, rfl, _, rfl, _, rfl, _, rfl, d, c, ns, _, qq, rfl, p5, by omega, by omega, by omega, fun x6 H6 x60 x61 k6 p6 => ⟨1, x6, rfl, rfl, (by show 4 ≤ sizeLine; decide), fun s1 ns1 =>
      ⟨d, c, ns, _, s1, _, rfl, p6.new ns1, by omega, upd_same, fun z => p6.not ns1 (List.mem_singleton.mpr z), (by show 0 < 4; decide), (by show 4 ≤ 1000; decide), fun v H7 hv k7 p7 => ?_⟩⟩⟩
    obtain ⟨pp, rfl, hpp⟩ := mem4 hv
    have hpp0 : 1 ≤ pp ∧ pp ≤ qq := by omega
    have kH7 : Keep [d] H H7 := ((kH5.trans k6).new ns1).trans k7
    clear hv hpp k6 k7 ns1
    -- falls
    refine ⟨Nat.zero_le _, fun f0 nf0 => ?_⟩
    have k8 : Keep [d] H (upd H7 f0 (.tup [])) := kH7.new nf0
    have p8 := p7.new (o := .tup []) nf0
    have e8 : upd H7 f0 (.tup []) f0 = some (.tup []) := upd_same
    generalize upd H7 f0 (.tup []) = H8 at k8 p8 e8
    refine ⟨fun σ' H' => ∃ (fa : Addr) (fs : List Int), σ' = [some (.ref d), some (.int m), some (.int M), some (.int qq), some (.int pp), some (.ref fa)] ∧ Keep [d] H H' ∧ Pen H' d c ns (n + 30) ∧ H' fa = some (.tup (fs.map V.int)) ∧ (fs = [] ∨ NumsOk M fs), ?_, ?_⟩
    · refine ⟨_, rfl, d, c, ns, _, 2, rfl, p8, by omega, by decide, by decide, fun z H9 z0 z1 k9 p9 => ⟨rfl, _, rfl, ite2 (fun c1 => ?_) (fun c1 => ?_)⟩⟩
      · refine ⟨_, rfl, _, rfl, d, c, ns, _, M, rfl, p9, by omega, by omega, by omega, fun p xs Ha ka pa ea hl hb hpos => ?_⟩
        exact ⟨p, xs, rfl, (k8.trans k9).trans ka, pa.mono (by omega), ea, .inr ⟨by omega, hb, hpos⟩⟩
      · exact ⟨f0, [], rfl, k8.trans k9, p9.mono (by omega), Keep.tup k9 (noT_pen p8) e8, .inl rfl⟩
    · rintro σ9 H9 ⟨fa, fs, rfl, k9, p9, e9, hf⟩
      refine ⟨_, rfl, _, rfl, d, c, ns, _, M, rfl, p9, by omega, by omega, by omega, fun na xs Hn kn pn en ln lon => ?_⟩
      refine ⟨_, rfl, _, rfl, d, c, ns, _, M, rfl, pn, by omega, by omega, by omega, fun ta ties Ht kt pt tat tok => ?_⟩
      refine ⟨_, rfl, _, rfl, d, c, ns, _, M, rfl, pt, by omega, by omega, by omega, fun la ls Hl kl pl el ll lb lpos => ?_⟩
      refine ⟨_, rfl, _, rfl, (by show 2 ≤ sizeLine; decide), fun ca nca => ⟨_, rfl, (by show 5 ≤ sizeLine; decide), fun wa nwa => ?_⟩⟩
      have kc : Keep [] Hl (upd Hl ca (.tup [.int pp, .int qq])) := (Keep.refl [] Hl).new nca
      have ec : upd Hl ca (.tup [.int pp, .int qq]) ca = some (.tup [.int pp, .int qq]) := upd_same
      have kw := (Keep.refl [] (upd Hl ca (.tup [.int pp, .int qq]))).new (o := .tup [.ref na, .ref ta, .ref la, .ref ca, .ref fa]) nwa
      have k2 := kc.trans kw
      have f1 := Keep.tup kl (noT_pen pt) (Keep.tup kt (noT_pen pn) (Keep.tup kn (noT_pen p9) e9))
      have n1 := Keep.tup kl (noT_pen pt) (Keep.tup kt (noT_pen pn) en)
      have t1 := tat.keep kl (noT_pen pt)
      have lenM : (xs.length : Int) = M := by omega
      refine q wa ⟨xs, ties, ls, pp, qq, fs⟩ _ ((((k9.trans kn).trans kt).trans kl).trans (k2.mono (fun _ z => nilX z))) ((pl.keep0 k2).mono (by omega)) ?_ ⟨⟨?_, ?_⟩, lon, ?_, ⟨?_, lb, lpos⟩, ⟨hpp0.1, hpp0.2, hq0.2⟩, ?_⟩ ?_
      · exact webAt_mk upd_same (k2 na _ (fun z => nilX z) n1) (t1.keep k2 (noT_nil _)) (k2 la _ (fun z => nilX z) el) (kw ca _ (fun z => nilX z) ec) (k2 fa _ (fun z => nilX z) f1)
      · show 1 ≤ xs.length
        omega
      · show xs.length ≤ 10
        omega
      · show TiesOk (xs.length : Int) ties
        rw [lenM]
        exact tok
      · show (ls.length : Int) = (xs.length : Int)
        omega
      · show fs = [] ∨ NumsOk (xs.length : Int) fs
        rw [lenM]
        exact hf
      · show (xs.length : Int) ≤ m
        omega
end
end K20
set_option Elab.async false
set_option linter.all false
set_option maxRecDepth 100000
set_option maxHeartbeats 2000000
set_option exponentiation.threshold 10000
set_option pp.maxSteps 300
set_option pp.deepTerms false
namespace K20
open PySem PySem.Spec PyProof.Rows L2 GL
abbrev Tie := Int × Int × Int
def tieD (t : Tie) : PyData := .tuple [.int t.1, .int t.2.1, .int t.2.2]
theorem fill_rng (a : Int) (B : Int) : ∀ (ts : List Tie) (r : List Int), (∀ t ∈ ts, 1 ≤ t.2.2 ∧ t.2.2 ≤ B) → (∀ x ∈ r, 0 ≤ x ∧ x ≤ B) → ∀ x ∈ fillRow a ts r, 0 ≤ x ∧ x ≤ B
  | [], _, _, h => h
  | t :: ts, r, ht, h => by
    have h1 := ht t List.mem_cons_self
    refine fill_rng a B ts _ (fun u hu => ht u (List.mem_cons_of_mem _ hu)) ?_
    intro x hx
    have hx : x ∈ (if t.1 = a then r.set t.2.1.toNat t.2.2 else r) := hx
    split at hx
    · rcases List.mem_or_eq_of_mem_set hx with z | z
      · exact h x z
      · rw [z]
        omega
    · exact h x hx
theorem row_rng {W : Web} (h : WebOk W) (a : Int) : ∀ x ∈ rowOf W a, 0 ≤ x ∧ x ≤ 30 := by
  have hf := fill_rng a 30 W.ties (List.replicate W.names.length 0) (fun t ht => (h.ties.inn t ht).2.2) (fun x hx => by
    rw [(List.mem_replicate.mp hx).2]
    decide)
  intro x hx
  unfold rowOf at hx
  simp only at hx
  split at hx
  · exact hf x hx
  · split at hx
    · rcases List.mem_or_eq_of_mem_set hx with z | z
      · exact hf x z
      · rw [z]
        decide
    · rename_i _ hne
      rcases h.falls with z | z
      · exact absurd z hne
      · exact z.rng x hx
theorem fine30 {x : Int} (h : 0 ≤ x ∧ x ≤ 1000000) : Fine x := Fine.of h.1 (Int.lt_of_le_of_lt h.2 (by decide))
theorem sum_rng : ∀ {xs : List Int}, (∀ x ∈ xs, 0 ≤ x ∧ x ≤ 30) → 0 ≤ xs.sum ∧ xs.sum ≤ 30 * xs.length
  | [], _ => by decide
  | x :: r, h => by
    have ih := sum_rng (fun y hy => h y (List.mem_cons_of_mem _ hy))
    have h1 := h x List.mem_cons_self
    rw [List.sum_cons, List.length_cons]
    omega
theorem tab_keep {H H' : Hp} {T : Addr} {ex : List Addr} (h : GxR.TabG H T) (k : Keep ex H H') (n : T ∉ ex) : GxR.TabG H' T := by
  obtain ⟨ps, e, t⟩ := h
  exact ⟨ps, k T _ n e, t⟩
theorem tab_ne {H : Hp} {T b : Addr} {o : HO} (h : GxR.TabG H T) (hb : H b = some o) (ho : ∀ q, o ≠ .tbl q) : b ∉ [T] := fun z => by
  obtain ⟨ps, e, _⟩ := h
  rw [List.mem_singleton.mp z, e] at hb
  exact ho ps (Option.some.inj hb).symm
/-! ### webs, for repr -/
def webD (W : Web) : PyData := .tuple [.tuple (W.names.map PyData.str), .tuple (W.ties.map tieD), .tuple (W.leaps.map PyData.int), .tuple [.int W.p, .int W.q], .tuple (W.falls.map PyData.int)]
theorem dp_tiesAt {K : PySem.W.Frag} {H : Hp} : ∀ {ts : List Addr} {ties : List Tie}, ts.length = ties.length → (∀ (j : Nat) (b : Addr) (x : Tie), ts[j]? = some b → ties[j]? = some x → H b = some (tieT x)) → DpAll K H (ts.map V.ref) (ties.map tieD)
  | [], [], _, _ => .nil
  | b :: ts, x :: ties, hl, h => .cons (.tup (.of (h 0 b x rfl rfl)) (.cons (.int _) (.cons (.int _) (.cons (.int _) .nil)))) (dp_tiesAt (Nat.succ.inj hl) fun j b x hj hx => h (j + 1) b x hj hx)
theorem dp_web {K : PySem.W.Frag} {H : Hp} {a : Addr} {W : Web} (h : WebAt H a W) : Dp K H (.ref a) (webD W) := by
  obtain ⟨na, ta, la, ca, fa, ts, h1, h2, h3, h4, h5, h6, h7, h8⟩ := h.ex
  exact .tup (.of h1) (.cons (.tup (.of h2) (dpAll_strs _)) (.cons (.tup (.of h3) (dp_tiesAt h4 h5)) (.cons (.tup (.of h6) (dpAll_ints _)) (.cons (.tup (.of h7) (.cons (.int _) (.cons (.int _) .nil))) (.cons (.tup (.of h8) (dpAll_ints _)) .nil)))))
theorem sm_nums {m : Int} {xs : List Int} (h : NumsOk m xs) (hm : m ≤ 10) : SmAll 2 20 (xs.map PyData.int) := by
  refine (SmAll.map (k := 0) (n := 0) fun x hx => Sm.int (fine30 ?_)).mono (by decide) ?_
  · have := h.rng x hx
    omega
  · have := h.len
    omega
theorem sm_web {W : Web} (h : WebOk W) : Sm 4 500 (webD W) := by
  have hM := h.many
  have a1 : Sm 3 200 (.tuple (W.names.map PyData.str)) := (Sm.tup (SmAll.map (k := 0) (n := 15) fun x hx => Sm.str (h.names x hx))).mono (by decide) (by
    have : W.names.length * 16 ≤ 10 * 16 := Nat.mul_le_mul_right _ hM.2
    omega)
  have a2 : Sm 3 200 (.tuple (W.ties.map tieD)) := by
    refine (Sm.tup (SmAll.map (k := 1) (n := 3) fun x hx => ?_)).mono (by decide) (by
      have : W.ties.length * 4 ≤ 40 * 4 := Nat.mul_le_mul_right _ h.ties.few
      omega)
    obtain ⟨i1, i2, i3⟩ := h.ties.inn x hx
    exact Sm.tup ((SmAll.cons (Sm.int (fine30 (by omega))) (.cons (Sm.int (fine30 (by omega))) (.cons (Sm.int (fine30 (by omega))) .nil))).mono (by decide) (by decide))
  have a3 : Sm 3 20 (.tuple (W.leaps.map PyData.int)) := Sm.tup (sm_nums h.leaps (by omega))
  have a4 : Sm 3 20 (.tuple [.int W.p, .int W.q]) := by
    have := h.chance
    exact (Sm.tup (SmAll.cons (Sm.int (fine30 (by omega))) (.cons (Sm.int (fine30 (by omega))) .nil))).mono (by decide) (by decide)
  have a5 : Sm 3 20 (.tuple (W.falls.map PyData.int)) := by
    rcases h.falls with z | z
    · rw [z]
      exact (Sm.tup SmAll.nil).mono (by decide) (by decide)
    · exact Sm.tup (sm_nums z (by omega))
  exact (Sm.tup (SmAll.cons a1 (.cons a2 (.cons a3 (.cons a4 (.cons a5 (SmAll.nil.mono (Nat.zero_le _) (Nat.le_refl _)))))))).mono (by decide) (by decide)
theorem cut_mem {xs : List V} {lo hi : Option Int} {v : V} (h : v ∈ cutV xs lo hi) : v ∈ xs := List.mem_of_mem_drop (List.mem_of_mem_take h)

/-! ### columns -/
theorem le_sum : ∀ {xs : List Int} {x : Int}, (∀ y ∈ xs, 0 ≤ y) → x ∈ xs → x ≤ xs.sum
  | y :: r, x, h, hx => by
    have h0 := h y List.mem_cons_self
    have hr : ∀ z ∈ r, 0 ≤ z := fun z hz => h z (List.mem_cons_of_mem _ hz)
    have hs : 0 ≤ r.sum := by
      clear hx
      induction r with
      | nil => exact Int.le_refl _
      | cons z r ih =>
        rw [List.sum_cons]
        have h1 := hr z List.mem_cons_self
        have h2 := ih (fun y' hy => h y' (by
          rcases List.mem_cons.mp hy with e | e
          · rw [e]
            exact List.mem_cons_self
          · exact List.mem_cons_of_mem _ (List.mem_cons_of_mem _ e))) (fun z' hz => hr z' (List.mem_cons_of_mem _ hz))
        omega
    rw [List.sum_cons]
    rcases List.mem_cons.mp hx with e | e
    · omega
    · have := le_sum hr e
      omega
theorem row_has {W : Web} (h : WebOk W) {a : Int} (a0 : 0 ≤ a) (a1 : a < W.names.length) : ∃ x ∈ rowOf W a, 0 < x := by
  unfold rowOf
  simp only
  split
  · rename_i h1
    obtain ⟨x, hx, px⟩ := List.any_eq_true.mp h1
    exact ⟨x, hx, of_decide_eq_true px⟩
  · split
    · exact ⟨1, List.mem_set (by rw [fill_len, List.length_replicate]; omega) _, by decide⟩
    · rename_i _ hne
      rcases h.falls with z | z
      · exact absurd z hne
      · exact z.pos
theorem row_sum {W : Web} (h : WebOk W) {a : Int} (a0 : 0 ≤ a) (a1 : a < W.names.length) : 1 ≤ (rowOf W a).sum := by
  obtain ⟨x, hx, px⟩ := row_has h a0 a1
  have := le_sum (fun y hy => (row_rng h a y hy).1) hx
  omega
/-- what stands at b of a's column, v the row's number there -/
def colN (W : Web) (a b v : Int) : Int := if b = a then 0 - (W.q - W.p) * v + W.q * (rowOf W a).sum else 0 - (W.q - W.p) * v
def colOf (W : Web) (a : Int) : List Int := (rowOf W a).zipIdx.map fun z => colN W a (z.2 : Int) z.1
theorem col_at (W : Web) (a : Int) (b : Nat) : (colOf W a)[b]? = ((rowOf W a)[b]?).map fun v => colN W a (b : Int) v := by
  unfold colOf
  rw [List.getElem?_map, List.getElem?_zipIdx]
  cases (rowOf W a)[b]? with
  | none => rfl
  | some v =>
    show some (colN W a ((0 + b : Nat) : Int) v) = _
    rw [Nat.zero_add]
    rfl
theorem col_len (W : Web) (a : Int) : (colOf W a).length = (rowOf W a).length := by
  unfold colOf
  rw [List.length_map, List.length_zipIdx]
theorem col_prog (W : Web) {a : Int} (a0 : 0 ≤ a) {v : Int} (hv : (rowOf W a)[a.toNat]? = some v) :
    ((rowOf W a).map fun n => -(W.q - W.p) * n).set a.toNat (-(W.q - W.p) * v + W.q * (rowOf W a).sum) = colOf W a := by
  refine List.ext_getElem? fun b => ?_
  rw [col_at, List.getElem?_set, List.length_map]
  have hl := (List.getElem?_eq_some_iff.mp hv).1
  by_cases e : a.toNat = b
  · subst e
    rw [if_pos rfl, if_pos hl, hv]
    show some _ = some (colN W a _ v)
    unfold colN
    rw [if_pos (by omega), Int.neg_mul]
    congr 1
    omega
  · rw [if_neg e, List.getElem?_map]
    cases (rowOf W a)[b]? with
    | none => rfl
    | some u =>
      show some (-(W.q - W.p) * u) = some (colN W a (b : Int) u)
      unfold colN
      rw [if_neg (by omega), Int.neg_mul]
      congr 1
      omega
theorem sum_col (p q s : Int) (a : Int) : ∀ (r : List Int) (k : Nat), ((r.zipIdx k).map fun z => if ((z.2 : Nat) : Int) = a then 0 - (q - p) * z.1 + q * s else 0 - (q - p) * z.1).sum = (0 - (q - p) * r.sum) + (if (k : Int) ≤ a ∧ a < (k : Int) + r.length then q * s else 0)
  | [], k => by
    rw [if_neg (fun z => by
      have h1 := z.1
      have h2 := z.2
      rw [List.length_nil] at h2
      omega)]
    simp
  | x :: r, k => by
    have ih := sum_col p q s a r (k + 1)
    rw [List.zipIdx_cons, List.map_cons, List.sum_cons, ih, List.sum_cons, Int.mul_add, List.length_cons]
    generalize (q - p) * r.sum = A
    generalize (q - p) * x = B
    generalize q * s = C
    simp only
    by_cases e : (k : Int) = a
    · rw [if_pos e, if_neg (by omega), if_pos (by omega)]
      omega
    · rw [if_neg e]
      by_cases e2 : ((k + 1 : Nat) : Int) ≤ a ∧ a < ((k + 1 : Nat) : Int) + r.length
      · rw [if_pos e2, if_pos (by omega)]
        omega
      · rw [if_neg e2, if_neg (by omega)]
        omega
theorem col_sum {W : Web} (h : WebOk W) {a : Int} (a0 : 0 ≤ a) (a1 : a < W.names.length) : (colOf W a).sum = W.p * (rowOf W a).sum := by
  have e := sum_col W.p W.q (rowOf W a).sum a (rowOf W a) 0
  have hl := row_len h.fits a
  rw [if_pos (by omega)] at e
  have e2 : (colOf W a).sum = _ := e
  rw [e2, Int.sub_mul]
  omega
theorem col_own {W : Web} (h : WebOk W) {a : Int} (a0 : 0 ≤ a) (a1 : a < W.names.length) : ∃ v : Int, (colOf W a)[a.toNat]? = some v ∧ 1 ≤ v := by
  have hl := row_len h.fits a
  have hj : a.toNat < (rowOf W a).length := by omega
  have hv := List.getElem?_eq_getElem hj
  have hm := List.getElem_mem hj
  generalize (rowOf W a)[a.toNat] = v at hv hm
  have hr := row_rng h a
  have g1 := le_sum (fun y hy => (hr y hy).1) hm
  have g2 := row_sum h a0 a1
  have g3 := (hr v hm).1
  have hc := h.chance
  refine ⟨_, by rw [col_at, hv]; rfl, ?_⟩
  show 1 ≤ colN W a _ v
  unfold colN
  rw [if_pos (by omega)]
  have h1 : (W.q - W.p) * v ≤ (W.q - W.p) * (rowOf W a).sum := Int.mul_le_mul_of_nonneg_left g1 (by omega)
  have h2 : 1 * (rowOf W a).sum ≤ W.p * (rowOf W a).sum := Int.mul_le_mul_of_nonneg_right hc.1 (by omega)
  rw [Int.sub_mul] at h1
  rw [Int.sub_mul] at h1 ⊢
  omega
theorem col_other {W : Web} (h : WebOk W) {a : Int} {b : Nat} (hb : (b : Int) ≠ a) {v : Int} (hv : (colOf W a)[b]? = some v) : v ≤ 0 := by
  rw [col_at] at hv
  obtain ⟨u, hu, rfl⟩ := Option.map_eq_some_iff.mp hv
  have hr := row_rng h a u (List.mem_of_getElem? hu)
  have hc := h.chance
  show colN W a (b : Int) u ≤ 0
  unfold colN
  rw [if_neg hb]
  have := Int.mul_nonneg (show 0 ≤ W.q - W.p by omega) hr.1
  omega
theorem col_rng {W : Web} (h : WebOk W) (a : Int) : ∀ x ∈ colOf W a, -1000 ≤ x ∧ x ≤ 100000 := by
  intro x hx
  obtain ⟨b, hb, e⟩ := List.getElem_of_mem hx
  have hv := List.getElem?_eq_getElem hb
  rw [e, col_at] at hv
  obtain ⟨u, hu, rfl⟩ := Option.map_eq_some_iff.mp hv
  have hr := row_rng h a u (List.mem_of_getElem? hu)
  have hc := h.chance
  have hs := sum_rng (row_rng h a)
  have hl := row_len h.fits a
  have hM := h.many
  have g1 := Int.mul_nonneg (show 0 ≤ W.q - W.p by omega) hr.1
  have g2 : (W.q - W.p) * u ≤ 12 * 30 := Int.mul_le_mul (by omega) hr.2 hr.1 (by decide)
  have g3 := Int.mul_nonneg (show 0 ≤ W.q by omega) hs.1
  have g4 : W.q * (rowOf W a).sum ≤ 12 * 300 := Int.mul_le_mul hc.2.2 (by omega) hs.1 (by decide)
  show -1000 ≤ colN W a (b : Int) u ∧ colN W a (b : Int) u ≤ 100000
  unfold colN
  split <;> omega
theorem fineAbs {x : Int} (h : -1000000 ≤ x ∧ x ≤ 1000000) : Fine x := by
  have e : x.natAbs ≤ 1000000 := by omega
  exact Nat.lt_of_le_of_lt e (by decide)
theorem at_col {xs : List Int} {a v : Int} (a0 : 0 ≤ a) (h : xs[a.toNat]? = some v) : atI (xs.map V.int) a = some (.int v) := by
  obtain ⟨j, rfl⟩ := Int.eq_ofNat_of_zero_le a0
  have h2 : xs[j]? = some v := h
  exact atI_nat (by rw [List.getElem?_map, h2]; rfl)
section
variable {P : Program} {w : World} {K : PySem.W.Frag} {mg : Str → Option Value} {base : Heap}
def spCol (T : Addr) : Sp := fun vs H Q _ => ∃ (x : Addr) (a : Int) (W : Web), vs = [.ref x, .int a] ∧ WebAt H x W ∧ WebOk W ∧ 0 ≤ a ∧ a < W.names.length ∧ GxR.TabG H T ∧
  ∀ p H', Keep [T] H H' → GxR.TabG H' T → H' p = some (.tup ((colOf W a).map V.int)) → Q (.ref p) H'
def fNeg (p q : Int) (v : V) : V := match v with
  | .int n => .int (-(q - p) * n)
  | _ => .non
theorem ok_column_of {f T : Addr} {fd : FuncData} (F : FnP K "column_of" s_column_of f fd) (m_sum : mg "sum" = none) (m_tuple : mg "tuple" = none) (c_row_of : Cal P w K mg base 1 "row_of" (spRow T)) : FnOk P w K mg base CX0 2 f fd ["web", "a"] (spCol T) := by
  refine F.ok sc_column_of (fun vs H Q E h => ?_) (fun cdv A outer s H vs Q E hr h => ?_)
  · obtain ⟨x, a, W, rfl, _⟩ := h
    rfl
  · obtain ⟨x, a, W, rfl, hW, hok, a0, a1, hT, q⟩ := h
    obtain ⟨na, ta, la, ca, fa, ts, h1, h2, h3, h4, h5, h6, h7, h8⟩ := hW.ex
    have hc := hok.chance
    have hl := row_len hok.fits a
    have hM := hok.many
    refine ⟨_, PSs.nox (pss_cons (ps_asg (pe_ix ix_tup (pv 0) pe_int (fun _ _ => rfl)) (pg_tup rfl (pgs_cons (pg_name (i := 2) sc_column_of.nd rfl (.inr rfl)) (pgs_cons (pg_name (i := 3) sc_column_of.nd rfl (.inr rfl)) pgs_nil))))
    (pss_cons (ps_set (i := 4) sc_column_of.nd rfl (.inl rfl) (pe_k c_row_of (hr.mono (by decide)) (by rfl) (pa_cons (pv 0) (pa_cons (pv 1) pa_nil))))
    (pss_cons (ps_setLc (i := 5) (own := [("number", 6)]) (g := gName 6) (by rfl) sc_column_of.nd rfl rfl (sw_true rfl rfl rfl (by decide +kernel)) (pi_tup (pv 4)) (blkOk_by (own := [("number", 6)]) (N := N_column_of) (sc := defScope s_column_of) (by decide +kernel)) (fun _ _ _ _ _ => (pg_name (i := 6) sc_column_of.nd rfl (.inl rfl))) (fun _ _ _ _ _ => pts_nil) (fun _ _ _ _ _ => (pe_op op_mul (pe_un un_neg (pe_op op_sub (pv 3) (pv 2))) (pv 6))))
    (pss_cons (ps_augS (pv 5) (pv 1) get_list (pe_op op_mul (pv 3) (pe_callB (cr_sumT rfl) (by rfl) m_sum (by decide +kernel) (pa_cons (pv 4) pa_nil))) ip_add set_list)
    (pss_one (ps_ret (pe_callTy call_tuple_of (by rfl) m_tuple (by decide +kernel) (pa_cons (pv 5) pa_nil)))))))), ?_⟩
    refine ⟨_, rfl, x, _, _, .ref ca, rfl, rfl, .of h1, rfl, ca, _, rfl, .of h7, rfl, _, _, rfl, _, _, rfl, rfl, ?_⟩
    refine ⟨_, rfl, _, rfl, x, a, W, rfl, hW, hok.fits, a0, a1, hT, fun r H1 k1 T1 e1 => ?_⟩
    refine ⟨_, rfl, r, rfl, ⟨_, .of e1⟩, fun D hD => lc_tup (xs := (rowOf W a).map V.int) (fun i H' => Keep [] H1 H' ∧ H' D = some (.lst ((((rowOf W a).take i).map fun n => -(W.q - W.p) * n).map V.int)))
      ⟨(Keep.refl [] H1).new hD, upd_same⟩ ?_ ?_ ?_⟩
    · rintro i H' _ ⟨k2, _⟩
      exact .of (k2 r _ (fun z => nilX z) e1)
    · rintro i v H' hv ⟨k2, e2⟩
      rw [List.getElem?_map] at hv
      obtain ⟨n, hn, rfl⟩ := Option.map_eq_some_iff.mp hv
      have hi := (List.getElem?_eq_some_iff.mp hn).1
      refine ⟨rfl, _, rfl, _, rfl, W.q, W.p, rfl, rfl, W.q - W.p, rfl, _, rfl, -(W.q - W.p), n, rfl, rfl, .inl ⟨by omega, by omega⟩, _, e2, ?_, k2.own hD, ?_⟩
      · rw [List.length_map, List.length_map, List.length_take]
        exact lt_size' (by omega)
      · rw [upd_same, List.take_add_one, hn, List.map_append, List.map_append]
        rfl
    · rintro H2 ⟨k2, e2⟩
      rw [List.length_map, List.take_length] at e2
      obtain ⟨v, hvm, hv, hvA⟩ := at_int a0 (show a < ((rowOf W a).length : Int) by omega)
      have e12 := k2 r _ (fun z => nilX z) e1
      have eA : atI (((rowOf W a).map fun n => -(W.q - W.p) * n).map V.int) a = some (.int (-(W.q - W.p) * v)) := at_col a0 (by rw [List.getElem?_map, hv]; rfl)
      refine ⟨_, rfl, _, rfl, D, _, a, .int (-(W.q - W.p) * v), rfl, rfl, a0, .of e2, eA, _, rfl, _, rfl, r, _, rfl, .of e12, W.q, _, rfl, rfl, .inl ⟨by omega, by omega⟩, _, _, rfl, rfl, D, _, a, a.toNat, rfl, rfl, e2, ixN_int a0 (by rw [List.length_map, List.length_map]; omega), ?_⟩
      have e3 : upd H2 D (.lst ((((rowOf W a).map fun n => -(W.q - W.p) * n).map V.int).set a.toNat (.int (-(W.q - W.p) * v + W.q * (rowOf W a).sum)))) D = some (.lst ((colOf W a).map V.int)) := by
        rw [upd_same, ← col_prog W a0 hv, List.map_set]
      have dT : D ∉ [T] := fun z => by
        obtain ⟨ps, e, _⟩ := T1
        rw [List.mem_singleton.mp z, e] at hD
        cases hD
      have k3 : Keep [] H1 (upd H2 D (.lst ((((rowOf W a).map fun n => -(W.q - W.p) * n).map V.int).set a.toNat (.int (-(W.q - W.p) * v + W.q * (rowOf W a).sum))))) := k2.own hD
      refine ⟨_, rfl, D, _, rfl, .inl ⟨.of e3, fun l nl => ?_⟩⟩
      exact q l _ ((k1.trans (k3.mono (fun _ z => nilX z))).new nl) (tab_keep T1 (k3.new nl) (fun z => nilX z)) upd_same
end
end K20
set_option Elab.async false
set_option linter.all false
set_option maxRecDepth 100000
set_option maxHeartbeats 2000000
set_option exponentiation.threshold 10000
set_option pp.maxSteps 300
set_option pp.deepTerms false
namespace K20
open PySem PySem.Spec PyProof.Rows L2 GL
/-! ### several tables -/
def Tb (H : Hp) (Ts : List Addr) : Prop := ∀ T ∈ Ts, GxR.TabG H T
theorem Tb.of {H H' : Hp} {Ts : List Addr} {T : Addr} (b : Tb H Ts) (k : Keep [T] H H') (t : GxR.TabG H' T) : Tb H' Ts := fun T' h => by
  by_cases e : T' = T
  · rw [e]
    exact t
  · exact tab_keep (b T' h) k (fun z => e (List.mem_singleton.mp z))
theorem Tb.keep0 {H H' : Hp} {Ts : List Addr} (b : Tb H Ts) (k : Keep [] H H') : Tb H' Ts := fun T h => tab_keep (b T h) k (fun z => nilX z)
theorem noT_tabs {H : Hp} {Ts : List Addr} (b : Tb H Ts) : NoT H Ts := fun e he xs z => by
  obtain ⟨ps, e1, _⟩ := b e he
  rw [e1] at z
  cases z
theorem one_of {T : Addr} {Ts : List Addr} {H H' : Hp} (h : T ∈ Ts) (k : Keep [T] H H') : Keep Ts H H' := k.mono fun b hb => by
  rw [List.mem_singleton.mp hb]
  exact h
theorem zero_of {Ts : List Addr} {H H' : Hp} (k : Keep [] H H') : Keep Ts H H' := k.mono fun _ z => nilX z
theorem Keep.ob {H H' : Hp} {Ts : List Addr} (k : Keep Ts H H') (b : Tb H Ts) {a : Addr} {o : HO} (h : H a = some o) (ne : ∀ q, o ≠ .tbl q) : H' a = some o := k a o (fun z => by
  obtain ⟨ps, e, _⟩ := b a z
  rw [e] at h
  exact ne ps (Option.some.inj h).symm) h
/-- a list or a tuple that stands in the heap -/
def SqH (b : Bool) (H : Hp) (a : Addr) (xs : List V) : Prop := match b with
  | true => H a = some (.lst xs)
  | false => H a = some (.tup xs)
theorem SqH.sqb {b : Bool} {K : PySem.W.Frag} {H : Hp} {a : Addr} {xs : List V} (h : SqH b H a xs) : SqB b K H a xs := by
  cases b with
  | true => exact .of h
  | false => exact .of h
theorem SqH.keep0 {b : Bool} {H H' : Hp} {a : Addr} {xs : List V} (h : SqH b H a xs) (k : Keep [] H H') : SqH b H' a xs := by
  cases b with
  | true => exact k a _ (fun z => nilX z) h
  | false => exact k a _ (fun z => nilX z) h
theorem SqH.keepT {b : Bool} {H H' : Hp} {a : Addr} {xs : List V} {Ts : List Addr} (h : SqH b H a xs) (k : Keep Ts H H') (t : Tb H Ts) : SqH b H' a xs := by
  cases b with
  | true => exact Keep.ob k t (o := .lst xs) h (by intro q z; cases z)
  | false => exact Keep.ob k t (o := .tup xs) h (by intro q z; cases z)
/-! ### lots -/
structure Lot where
  g : Int
  goings : List Int
  rest : List Int
structure LotAt (H : Hp) (a : Addr) (L : Lot) : Prop where
  ex : ∃ gs r : Addr, H a = some (.tup [.int L.g, .ref gs, .ref r]) ∧ H gs = some (.tup (L.goings.map V.int)) ∧ H r = some (.tup (L.rest.map V.int))
theorem LotAt.keep {ex : List Addr} {H H' : Hp} {a : Addr} {L : Lot} (x : LotAt H a L) (k : Keep ex H H') (nt : NoT H ex) : LotAt H' a L := by
  obtain ⟨gs, r, h1, h2, h3⟩ := x.ex
  exact ⟨gs, r, Keep.tup k nt h1, Keep.tup k nt h2, Keep.tup k nt h3⟩
def stepR (col : List Int) (going : Int) (rest : List Int) : List Int := List.zipWith (fun n c => n - going * c) rest col
def restN (W : Web) (g : Int) (goings : List Int) : Nat → List Int
  | 0 => W.leaps.map fun x => g * x
  | i + 1 => stepR (colOf W i) (goings.getD i 0) (restN W g goings i)
def lotRest (W : Web) (g : Int) (goings : List Int) : List Int := restN W g goings goings.length
theorem restN_len {W : Web} (h : WebOk W) (g : Int) (goings : List Int) : ∀ i, (restN W g goings i).length = W.names.length
  | 0 => by
    show (W.leaps.map _).length = _
    rw [List.length_map]
    have := h.leaps.len
    omega
  | i + 1 => by
    show (stepR _ _ _).length = _
    unfold stepR
    rw [List.length_zipWith, restN_len h g goings i, col_len, row_len h.fits]
    omega
theorem zip_ints (f : Int → Int → Int) : ∀ (xs ys : List Int), List.zipWith (fun v v2 => match v, v2 with | V.int a, V.int b => V.int (f a b) | _, _ => V.non) (xs.map V.int) (ys.map V.int) = (List.zipWith f xs ys).map V.int
  | [], _ => rfl
  | _ :: _, [] => rfl
  | x :: xs, y :: ys => by
    show V.int (f x y) :: _ = V.int (f x y) :: _
    exact congrArg _ (zip_ints f xs ys)
section
variable {P : Program} {w : World} {K : PySem.W.Frag} {mg : Str → Option Value} {base : Heap}
def spBehind : Sp := fun vs H Q _ => ∃ (b : Bool) (r c : Addr) (going : Int) (ns cs : List Int), vs = [.ref r, .int going, .ref c] ∧ SqH b H r (ns.map V.int) ∧ H c = some (.tup (cs.map V.int)) ∧ ns.length = cs.length ∧ ns.length ≤ 1000 ∧ (∀ x ∈ cs, -1000000 ≤ x ∧ x ≤ 1000000) ∧
  ∀ p H', Keep [] H H' → H' p = some (.lst ((stepR cs going ns).map V.int)) → Q (.ref p) H'
theorem ok_rest_behind {f : Addr} {fd : FuncData} {k : Nat} (F : FnP K "rest_behind" s_rest_behind f fd) (m_zip : mg "zip" = none) : FnOk P w K mg base CX0 (k + 1) f fd ["rest", "going", "column"] spBehind := by
  refine F.ok sc_rest_behind (fun vs H Q E h => ?_) (fun cdv A outer s H vs Q E hr h => ?_)
  · obtain ⟨b, r, c, going, ns, cs, rfl, _⟩ := h
    rfl
  · obtain ⟨b, r, c, going, ns, cs, rfl, hR, hC, hl, hn, hc, q⟩ := h
    refine ⟨_, PSs.nox (pss_one (ps_ret (pe_lc (own := [("number", 3), ("part", 4)]) (g := gTup K 2 (gCons (gName 3) (gCons (gName 4) gNil))) (by rfl) sc_rest_behind.nd (pi_zipB (by rfl) m_zip (pa_cons (pv 0) (pa_cons (pv 2) pa_nil))) (blkOk_by (own := [("number", 3), ("part", 4)]) (N := N_rest_behind) (sc := defScope s_rest_behind) (by decide +kernel)) (fun _ _ _ _ _ => (pg_tup rfl (pgs_cons (pg_name (i := 3) sc_rest_behind.nd rfl (.inl rfl)) (pgs_cons (pg_name (i := 4) sc_rest_behind.nd rfl (.inl rfl)) pgs_nil)))) (fun _ _ _ _ _ => pts_nil) (fun _ _ _ _ _ => (pe_op op_sub (pv 3) (pe_op op_mul (pv 1) (pv 4))))))), ?_⟩
    refine ⟨_, rfl, _, rfl, b, false, r, c, _, _, rfl, hR.sqb, .of hC, fun D hD => lc_zip (xs := ns.map V.int) (ys := cs.map V.int) (by rw [List.length_map, List.length_map]; exact hl) (fun i H' => Keep [] H H' ∧ H' D = some (.lst ((stepR (cs.take i) going (ns.take i)).map V.int)))
      ⟨(Keep.refl [] H).new hD, upd_same⟩ ?_ ?_ ?_⟩
    · rintro i H' ⟨k1, _⟩
      exact ⟨(hR.keep0 k1).sqb, .of (k1 c _ (fun z => nilX z) hC)⟩
    · rintro i x y T H' hx hy ⟨k1, e1⟩ hT
      rw [List.getElem?_map] at hx hy
      obtain ⟨n, hn2, rfl⟩ := Option.map_eq_some_iff.mp hx
      obtain ⟨m, hm, rfl⟩ := Option.map_eq_some_iff.mp hy
      have hb := hc m (List.mem_of_getElem? hm)
      have hi := (List.getElem?_eq_some_iff.mp hn2).1
      have k2 := (Keep.refl [] H').new (o := .tup [.int n, .int m]) hT
      refine ⟨T, _, rfl, .of upd_same, rfl, _, _, rfl, _, _, rfl, rfl, rfl, _, rfl, _, rfl, _, rfl, going, m, rfl, rfl, .inr ⟨by omega, by omega⟩, n, going * m, rfl, rfl, _, k2 D _ (fun z => nilX z) e1, ?_, (k1.trans k2).own hD, ?_⟩
      · rw [List.length_map]
        unfold stepR
        rw [List.length_zipWith, List.length_take, List.length_take]
        exact lt_size' (by omega)
      · rw [upd_same]
        unfold stepR
        rw [List.take_add_one, List.take_add_one, hn2, hm, List.zipWith_append (by rw [List.length_take, List.length_take]; omega), List.map_append]
        rfl
    · rintro H' ⟨k1, e1⟩
      rw [List.length_map, List.take_length, List.take_of_length_le (by omega)] at e1
      exact q D H' k1 e1
def spLotBy (Ts : List Addr) : Sp := fun vs H Q _ => ∃ (x gs : Addr) (g : Int) (b : Bool) (goings : List Int) (W : Web), vs = [.ref x, .int g, .ref gs] ∧ WebAt H x W ∧ WebOk W ∧ SqH b H gs (goings.map V.int) ∧ goings.length = W.names.length ∧ Tb H Ts ∧
  ∀ p H', Keep Ts H H' → Tb H' Ts → LotAt H' p ⟨g, goings, lotRest W g goings⟩ → Q (.ref p) H'
theorem ok_lot_by {f T : Addr} {Ts : List Addr} {fd : FuncData} (F : FnP K "lot_by" s_lot_by f fd) (m_enumerate : mg "enumerate" = none) (m_tuple : mg "tuple" = none) (i_T : T ∈ Ts) (c_rest_behind : Cal P w K mg base 1 "rest_behind" spBehind) (c_column_of : Cal P w K mg base 2 "column_of" (spCol T)) :
    FnOk P w K mg base CX0 3 f fd ["web", "grains", "goings"] (spLotBy Ts) := by
  refine F.ok sc_lot_by (fun vs H Q E h => ?_) (fun cdv A outer s H vs Q E hr h => ?_)
  · obtain ⟨x, gs, g, b, goings, W, rfl, _⟩ := h
    rfl
  · obtain ⟨x, gs, g, b, goings, W, rfl, hW, hok, hG, hl, hT, q⟩ := h
    obtain ⟨na, ta, la, ca, fa, ts, h1, h2, h3, h4, h5, h6, h7, h8⟩ := hW.ex
    have hM := hok.many
    refine ⟨_, PSs.nox (pss_cons (ps_setLc (i := 3) (own := [("leap", 6)]) (g := gName 6) (by rfl) sc_lot_by.nd rfl rfl (sw_true rfl rfl rfl (by decide +kernel)) (pi_tup (pe_ix ix_tup (pv 0) pe_int (fun _ _ => rfl))) (blkOk_by (own := [("leap", 6)]) (N := N_lot_by) (sc := defScope s_lot_by) (by decide +kernel)) (fun _ _ _ _ _ => (pg_name (i := 6) sc_lot_by.nd rfl (.inl rfl))) (fun _ _ _ _ _ => pts_nil) (fun _ _ _ _ _ => (pe_op op_mul (pv 1) (pv 6))))
    (pss_cons (ps_for PassesOwn.never rfl (pi_enumB (by rfl) m_enumerate (pa_cons (pv 2) pa_nil)) (pg_tup rfl (pgs_cons (pg_name (i := 4) sc_lot_by.nd rfl (.inl rfl)) (pgs_cons (pg_name (i := 5) sc_lot_by.nd rfl (.inl rfl)) pgs_nil)))
      (pss_one (ps_set (i := 3) sc_lot_by.nd rfl (.inl rfl) (pe_k c_rest_behind (hr.mono (by decide)) (by rfl) (pa_cons (pv 3) (pa_cons (pv 5) (pa_cons (pe_k c_column_of (hr.mono (by decide)) (by rfl) (pa_cons (pv 0) (pa_cons (pv 4) pa_nil))) pa_nil)))))))
    (pss_one (ps_ret (pe_tup (pa_cons (pv 1) (pa_cons (pe_callTy call_tuple_of (by rfl) m_tuple (by decide +kernel) (pa_cons (pv 2) pa_nil)) (pa_cons (pe_callTy call_tuple_of (by rfl) m_tuple (by decide +kernel) (pa_cons (pv 3) pa_nil)) pa_nil)))))))), ?_⟩
    -- rest
    refine ⟨_, rfl, x, _, _, .ref la, rfl, rfl, .of h1, rfl, la, rfl, ⟨_, .of h6⟩, fun D hD => lc_tup (xs := W.leaps.map V.int) (fun i H' => Keep [] H H' ∧ H' D = some (.lst (((W.leaps.take i).map fun x => g * x).map V.int)))
      ⟨(Keep.refl [] H).new hD, upd_same⟩ ?_ ?_ ?_⟩
    · rintro i H' _ ⟨k1, _⟩
      exact .of (k1 la _ (fun z => nilX z) h6)
    · rintro i v H' hv ⟨k1, e1⟩
      rw [List.getElem?_map] at hv
      obtain ⟨n, hn, rfl⟩ := Option.map_eq_some_iff.mp hv
      have hr1 := hok.leaps.rng n (List.mem_of_getElem? hn)
      have hll := hok.leaps.len
      have hi := (List.getElem?_eq_some_iff.mp hn).1
      refine ⟨rfl, _, rfl, _, rfl, g, n, rfl, rfl, .inr ⟨by omega, by omega⟩, _, e1, ?_, k1.own hD, ?_⟩
      · rw [List.length_map, List.length_map, List.length_take]
        exact lt_size' (by omega)
      · rw [upd_same, List.take_add_one, hn, List.map_append, List.map_append]
        rfl
    · rintro H1 ⟨k1, e1⟩
      rw [List.length_map, List.take_length] at e1
      have hG1 := hG.keep0 k1
      refine ⟨_, rfl, b, gs, _, rfl, hG1.sqb, for_enumB (xs := goings.map V.int) (fun i σ H' => ∃ (D' : Addr) (y4 y5 : Option V), σ = [some (.ref x), some (.int g), some (.ref gs), some (.ref D'), y4, y5, none] ∧ Keep Ts H H' ∧ Tb H' Ts ∧ H' D' = some (.lst ((restN W g goings i).map V.int)))
        ⟨D, none, none, rfl, zero_of k1, hT.keep0 k1, e1⟩ ?_ ?_ ?_⟩
      · rintro i σ H' _ ⟨D', y4, y5, rfl, k2, t2, _⟩
        exact (hG.keepT k2 hT).sqb
      · rintro i v σ H' T0 hv ⟨D', y4, y5, rfl, k2, t2, e2⟩ hT0
        rw [List.getElem?_map] at hv
        obtain ⟨going, hgo, rfl⟩ := Option.map_eq_some_iff.mp hv
        have hi := (List.getElem?_eq_some_iff.mp hgo).1
        have k3 := (Keep.refl [] H').new (o := .tup [.int (i : Nat), .int going]) hT0
        refine ⟨T0, _, rfl, .of upd_same, rfl, _, _, rfl, _, _, rfl, rfl, ?_⟩
        have t3 := t2.keep0 k3
        have kk3 : Keep Ts H (upd H' T0 (.tup [.int (i : Nat), .int going])) := k2.trans (zero_of k3)
        have e3 := k3 D' _ (fun z => nilX z) e2
        generalize upd H' T0 (.tup [.int (i : Nat), .int going]) = H3 at k3 t3 kk3 e3
        refine ⟨_, rfl, _, rfl, _, rfl, _, rfl, x, (i : Int), W, rfl, hW.keep kk3 (noT_tabs hT), hok, by omega, by omega, t3 T i_T, fun c H4 k4 t4 e4 => ?_⟩
        have tb4 := t3.of k4 t4
        have e34 := Keep.ob (one_of i_T k4) t3 e3 (by intro q z; cases z)
        refine ⟨true, D', c, going, _, _, rfl, e34, e4, ?_, ?_, fun z hz => ?_, fun p H5 k5 e5 => ?_⟩
        · rw [restN_len hok, col_len, row_len hok.fits]
        · rw [restN_len hok]
          omega
        · have := col_rng hok i z hz
          omega
        · refine ⟨p, _, _, rfl, (kk3.trans (one_of i_T k4)).trans (zero_of k5), tb4.keep0 k5, ?_⟩
          rw [e5]
          show _ = some (HO.lst ((stepR (colOf W (i : Nat)) (goings.getD i 0) (restN W g goings i)).map V.int))
          rw [List.getD_eq_getElem?_getD, hgo]
          rfl
      · rintro σ H2 ⟨D', y4, y5, rfl, k2, t2, e2⟩
        rw [List.length_map] at e2
        have hG2 := hG.keepT k2 hT
        have tail : ∀ (t : Addr) (G : Hp), Keep [] H2 G → G t = some (.tup (goings.map V.int)) → ∀ l, G l = none → ∀ p, (upd G l (.tup ((lotRest W g goings).map V.int))) p = none →
            Q (.ref p) (upd (upd G l (.tup ((lotRest W g goings).map V.int))) p (.tup [.int g, .ref t, .ref l])) := by
          intro t G kG et l nl p np
          have k8 := (Keep.refl [] G).new (o := .tup ((lotRest W g goings).map V.int)) nl
          have k9 := (Keep.refl [] (upd G l (.tup ((lotRest W g goings).map V.int)))).new (o := .tup [.int g, .ref t, .ref l]) np
          have kk := kG.trans (k8.trans k9)
          exact q p _ (k2.trans (zero_of kk)) (t2.keep0 kk) ⟨t, l, upd_same, k9 t _ (fun z => nilX z) (k8 t _ (fun z => nilX z) et), k9 l _ (fun z => nilX z) upd_same⟩
        cases b with
        | true =>
          refine ⟨_, rfl, _, rfl, gs, _, rfl, .inl ⟨.of hG2, fun t nt => ?_⟩⟩
          have k3 := (Keep.refl [] H2).new (o := .tup (goings.map V.int)) nt
          exact ⟨_, rfl, D', _, rfl, .inl ⟨.of (k3 D' _ (fun z => nilX z) e2), fun l nl => ⟨(by show 3 ≤ sizeLine; decide), fun p np => tail t _ k3 upd_same l nl p np⟩⟩⟩
        | false =>
          exact ⟨_, rfl, _, rfl, gs, _, rfl, .inr ⟨.of hG2, _, rfl, D', _, rfl, .inl ⟨.of e2, fun l nl => ⟨(by show 3 ≤ sizeLine; decide), fun p np => tail gs _ (Keep.refl [] H2) hG2 l nl p np⟩⟩⟩⟩
def spBegun (Ts : List Addr) : Sp := fun vs H Q _ => ∃ (x : Addr) (g : Int) (W : Web), vs = [.ref x, .int g] ∧ WebAt H x W ∧ WebOk W ∧ Tb H Ts ∧
  ∀ p H', Keep Ts H H' → Tb H' Ts → LotAt H' p ⟨g, List.replicate W.names.length 0, lotRest W g (List.replicate W.names.length 0)⟩ → Q (.ref p) H'
theorem ok_begun {f : Addr} {Ts : List Addr} {fd : FuncData} (F : FnP K "begun" s_begun f fd) (m_len : mg "len" = none) (c_lot_by : Cal P w K mg base 3 "lot_by" (spLotBy Ts)) :
    FnOk P w K mg base CX0 4 f fd ["web", "grains"] (spBegun Ts) := by
  refine F.ok sc_begun (fun vs H Q E h => ?_) (fun cdv A outer s H vs Q E hr h => ?_)
  · obtain ⟨x, g, W, rfl, _⟩ := h
    rfl
  · obtain ⟨x, g, W, rfl, hW, hok, hT, q⟩ := h
    obtain ⟨na, ta, la, ca, fa, ts, h1, h2, h3, h4, h5, h6, h7, h8⟩ := hW.ex
    have hM := hok.many
    refine ⟨_, PSs.nox (pss_one (ps_ret (pe_k c_lot_by (hr.mono (by decide)) (by rfl) (pa_cons (pv 0) (pa_cons (pv 1) (pa_cons (pe_op op_repA (pe_tup (pa_cons pe_int pa_nil)) (pe_callB call_len_seq (by rfl) m_len (by decide +kernel) (pa_cons (pe_ix ix_tup (pv 0) pe_int (fun _ _ => rfl)) pa_nil))) pa_nil)))))), ?_⟩
    refine ⟨_, rfl, _, rfl, (by show 1 ≤ sizeLine; decide), fun t0 nt0 => ?_⟩
    have k0 := (Keep.refl [] H).new (o := .tup [.int 0]) nt0
    have e0 : upd H t0 (.tup [.int 0]) t0 = some (.tup [.int 0]) := upd_same
    generalize upd H t0 (.tup [.int 0]) = H0 at k0 e0
    refine ⟨_, rfl, x, _, _, .ref na, rfl, rfl, .of (k0 x _ (fun z => nilX z) h1), rfl, na, _, rfl, .inr (.of (k0 na _ (fun z => nilX z) h2)), t0, _, [.int 0], rfl, rfl, .of e0, by simp, ?_, ?_, (by show 1 ≤ 1000; decide), fun e => ?_, fun e p np => ?_⟩
    · rw [List.length_map]
      omega
    · rw [List.length_map]
      omega
    · have eM : W.names.length = 1 := by
        rw [List.length_map] at e
        omega
      have e0' : H0 t0 = some (.tup ((List.replicate W.names.length (0 : Int)).map V.int)) := by
        rw [eM]
        exact e0
      exact ⟨x, t0, g, false, _, W, rfl, hW.keep k0 (noT_nil _), hok, e0', List.length_replicate .., hT.keep0 k0, fun p H' k t l => q p H' ((zero_of k0).trans k) t l⟩
    · have k1 := k0.new (o := .tup ((List.replicate (((W.names.map V.str).length : Nat) : Int).toNat [V.int 0]).flatten)) np
      have e1 : upd H0 p (.tup ((List.replicate (((W.names.map V.str).length : Nat) : Int).toNat [V.int 0]).flatten)) p = some (.tup ((List.replicate W.names.length (0 : Int)).map V.int)) := by
        rw [upd_same, List.length_map, Int.toNat_natCast, rep_ints]
      exact ⟨x, p, g, false, _, W, rfl, hW.keep k1 (noT_nil _), hok, e1, List.length_replicate .., hT.keep0 k1, fun p' H' k t l => q p' H' ((zero_of k1).trans k) t l⟩
/-! ### sums, joined -/
def dInts (v v2 : V) : Prop := ∃ a b : Int, v = .int a ∧ v2 = .int b
def fAdd (v v2 : V) : V := match v, v2 with
  | .int a, .int b => .int (a + b)
  | _, _ => .non
def plus (xs ys : List Int) : List Int := List.zipWith (fun a b => a + b) xs ys
def spSums (T : Addr) : Sp := fun vs H Q _ => ∃ (a b : Addr) (xs ys : List Int), vs = [.ref a, .ref b] ∧ H a = some (.tup (xs.map V.int)) ∧ H b = some (.tup (ys.map V.int)) ∧ xs.length = ys.length ∧ xs.length ≤ 1000 ∧ GxR.TabG H T ∧
  ∀ p H', Keep [T] H H' → GxR.TabG H' T → H' p = some (.tup ((plus xs ys).map V.int)) → Q (.ref p) H'
theorem ok_sums {f c T3 : Addr} {fd : FuncData} {k : Nat} (F : FnP K "sums" s_sums f fd) (hcd : fd.code = .ref c) (TB : GxR.TabB base mg c T3) (m_tuple : mg "tuple" = none) (m_zip : mg "zip" = none) : FnOk P w K mg base CX0 (k + 1) f fd ["ones", "others"] (spSums T3) := by
  refine okC F sc_sums (fun vs H Q E h => ?_) (fun cdv A outer s H vs Q E hcv hr h => ?_)
  · obtain ⟨a, b, xs, ys, rfl, _⟩ := h
    rfl
  · obtain ⟨a, b, xs, ys, rfl, ha, hb, hl, hn, hT, q⟩ := h
    obtain rfl : cdv = .ref c := hcv.symm.trans hcd
    refine ⟨_, PSs.nox (pss_one (ps_ret (pe_tupZ (dom := fun _ => dInts) (f := fun _ => fAdd) hr (by rfl) m_tuple (by rfl) m_zip TB rfl (genS_mk (by rfl) (by rfl) (by decide +kernel) (by rfl) (by rfl) (by decide +kernel)) (by rfl) (by decide) (pa_cons (pv 0) (pa_cons (pv 1) pa_nil)) (by
        intro σ pins H1 s1 cenv A' E' v v2 u u2 s2 m2 I hTb hsc hce hA hD hU hdom ru ru2 hn hmx hmy hk _
        obtain ⟨a, b, rfl, rfl⟩ := hdom
        obtain ⟨ta, rfl⟩ := ru
        obtain ⟨tb, rfl⟩ := ru2
        refine wpAny_BinOp (elt_own hsc (by rfl) (by rfl) hn hmx (elt_own hsc (by rfl) (by rfl) hn hmy ?_))
        exact add_int ⟨⟨_, rfl⟩, GxR.keeps_tok _ _⟩) (fun _ => rfl)))), ?_⟩
    refine ⟨_, rfl, _, rfl, false, false, a, b, xs.map V.int, ys.map V.int, rfl, .of ha, .of hb, (by rw [List.length_map, List.length_map]; exact hl), ?_, hT, ?_, ?_⟩
    · intro i v v2 hv hv2
      rw [List.getElem?_map] at hv hv2
      obtain ⟨n, _, rfl⟩ := Option.map_eq_some_iff.mp hv
      obtain ⟨m, _, rfl⟩ := Option.map_eq_some_iff.mp hv2
      exact ⟨n, m, rfl, rfl⟩
    · rw [List.length_map]
      exact lt_size (by omega)
    · intro H2 hTb D hD
      have e : List.zipWith fAdd (xs.map V.int) (ys.map V.int) = (plus xs ys).map V.int := zip_ints (fun a b => a + b) xs ys
      have k2 := tabbed_keep hTb
      refine q D _ (k2.new hD) (tab_keep hTb.1 ((Keep.refl [] H2).new hD) (fun z => nilX z)) ?_
      rw [upd_same, e]
def joinL (L L' : Lot) : Lot := ⟨L.g + L'.g, plus L.goings L'.goings, plus L.rest L'.rest⟩
def spJoined (Ts : List Addr) : Sp := fun vs H Q _ => ∃ (a b : Addr) (L L' : Lot), vs = [.ref a, .ref b] ∧ LotAt H a L ∧ LotAt H b L' ∧ L.goings.length = L'.goings.length ∧ L.rest.length = L'.rest.length ∧ L.goings.length ≤ 1000 ∧ L.rest.length ≤ 1000 ∧ Tb H Ts ∧
  ∀ p H', Keep Ts H H' → Tb H' Ts → LotAt H' p (joinL L L') → Q (.ref p) H'
theorem ok_joined {f T3 : Addr} {Ts : List Addr} {fd : FuncData} (F : FnP K "joined" s_joined f fd) (i_T3 : T3 ∈ Ts) (c_sums : Cal P w K mg base 1 "sums" (spSums T3)) : FnOk P w K mg base CX0 2 f fd ["one", "other"] (spJoined Ts) := by
  refine F.ok sc_joined (fun vs H Q E h => ?_) (fun cdv A outer s H vs Q E hr h => ?_)
  · obtain ⟨a, b, L, L', rfl, _⟩ := h
    rfl
  · obtain ⟨a, b, L, L', rfl, hL, hL', l1, l2, l3, l4, hT, q⟩ := h
    obtain ⟨gs, r, a1, a2, a3⟩ := hL.ex
    obtain ⟨gs', r', b1, b2, b3⟩ := hL'.ex
    refine ⟨_, PSs.nox (pss_cons (ps_asg (pv 0) (pg_tup rfl (pgs_cons (pg_name (i := 2) sc_joined.nd rfl (.inl rfl)) (pgs_cons (pg_name (i := 3) sc_joined.nd rfl (.inl rfl)) (pgs_cons (pg_name (i := 4) sc_joined.nd rfl (.inl rfl)) pgs_nil)))))
    (pss_cons (ps_asg (pv 1) (pg_tup rfl (pgs_cons (pg_name (i := 5) sc_joined.nd rfl (.inl rfl)) (pgs_cons (pg_name (i := 6) sc_joined.nd rfl (.inl rfl)) (pgs_cons (pg_name (i := 7) sc_joined.nd rfl (.inl rfl)) pgs_nil)))))
    (pss_one (ps_ret (pe_tup (pa_cons (pe_op op_add (pv 2) (pv 5)) (pa_cons (pe_k c_sums (hr.mono (by decide)) (by rfl) (pa_cons (pv 3) (pa_cons (pv 6) pa_nil))) (pa_cons (pe_k c_sums (hr.mono (by decide)) (by rfl) (pa_cons (pv 4) (pa_cons (pv 7) pa_nil))) pa_nil)))))))), ?_⟩
    refine ⟨_, rfl, a, _, rfl, .of a1, rfl, _, _, rfl, _, _, rfl, _, _, rfl, rfl, ?_⟩
    refine ⟨_, rfl, b, _, rfl, .of b1, rfl, _, _, rfl, _, _, rfl, _, _, rfl, rfl, ?_⟩
    refine ⟨_, rfl, _, rfl, L.g, L'.g, rfl, rfl, _, rfl, _, rfl, gs, gs', L.goings, L'.goings, rfl, a2, b2, l1, l3, hT T3 i_T3, fun p1 H1 k1 t1 e1 => ?_⟩
    have tb1 := hT.of k1 t1
    have nt := noT_tabs hT
    have kk1 := one_of i_T3 k1
    refine ⟨_, rfl, _, rfl, r, r', L.rest, L'.rest, rfl, Keep.tup kk1 nt a3, Keep.tup kk1 nt b3, l2, l4, t1, fun p2 H2 k2 t2 e2 => ?_⟩
    have kk2 := one_of i_T3 k2
    have e12 := Keep.tup kk2 (noT_tabs tb1) e1
    refine ⟨(by show 3 ≤ sizeLine; decide), fun p np => ?_⟩
    have k3 := (Keep.refl [] H2).new (o := .tup [.int (L.g + L'.g), .ref p1, .ref p2]) np
    exact q p _ ((kk1.trans kk2).trans (zero_of k3)) ((tb1.of k2 t2).keep0 k3) ⟨p1, p2, upd_same, k3 p1 _ (fun z => nilX z) e12, k3 p2 _ (fun z => nilX z) e2⟩
/-! ### forms -/
def spWhole : Sp := fun vs H Q _ => ∃ n : Int, vs = [.int n] ∧ Q (.bl true) H
theorem ok_is_whole {f : Addr} {fd : FuncData} {k : Nat} (F : FnP K "is_whole" s_is_whole f fd) (m_isinstance : mg "isinstance" = none) (m_int : mg "int" = none) (m_bool : mg "bool" = none) : FnOk P w K mg base CX0 (k + 1) f fd ["thing"] spWhole := by
  refine F.ok sc_is_whole (fun vs H Q E h => ?_) (fun cdv A outer s H vs Q E hr h => ?_)
  · obtain ⟨n, rfl, _⟩ := h
    rfl
  · obtain ⟨n, rfl, q⟩ := h
    refine ⟨_, PSs.nox (pss_one (ps_ret (pe_and (pe_callB call_isi (by rfl) m_isinstance (by decide +kernel) (pa_cons (pv 0) (pa_cons (pe_bltn (v := .ty "int") (by rfl) m_int (by decide +kernel) rfl) pa_nil))) (pe_one (pe_not (pe_callB call_isi (by rfl) m_isinstance (by decide +kernel) (pa_cons (pv 0) (pa_cons (pe_bltn (v := .ty "bool") (by rfl) m_bool (by decide +kernel) rfl) pa_nil)))))))), ?_⟩
    exact ⟨_, rfl, .int n, .ty "int", .type "int", .type "int", true, rfl, .ty _, .base (.int n), (by rfl), _, rfl, iteT ⟨_, rfl, .int n, .ty "bool", .type "int", .type "bool", false, rfl, .ty _, .base (.int n), (by rfl), false, rfl, q⟩⟩
/-- the def is_whole, as a generator expression calls it -/
structure WholeDef (K : PySem.W.Frag) (mg : Str → Option Value) : Prop where
  ex : ∃ (fw : Addr) (fdw : FuncData), FnP K "is_whole" s_is_whole fw fdw ∧ Binds K fdw ["thing"] [] ∧ mg "is_whole" = some (.ref fw)
def spWholes (T : Addr) : Sp := fun vs H Q _ => ∃ (t : Addr) (ns : List Int), vs = [.int (ns.length : Int), .ref t] ∧ H t = some (.tup (ns.map V.int)) ∧ GxR.TabG H T ∧ ∀ H', Keep [T] H H' → GxR.TabG H' T → Q (.bl true) H'
theorem ok_are_wholes {f c T2 : Addr} {fd : FuncData} (F : FnP K "are_wholes" s_are_wholes f fd) (hcd : fd.code = .ref c) (TB : GxR.TabB base mg c T2) (hW : WholeDef K mg) (hP : K.lookup T2 = none) (m_isinstance : mg "isinstance" = none) (m_int : mg "int" = none) (m_bool : mg "bool" = none) (m_tuple : mg "tuple" = none) (m_len : mg "len" = none) (m_all : mg "all" = none) :
    FnOk P w K mg base CX0 2 f fd ["many", "thing"] (spWholes T2) := by
  refine okC F sc_are_wholes (fun vs H Q E h => ?_) (fun cdv A outer s H vs Q E hcv hr h => ?_)
  · obtain ⟨t, ns, rfl, _⟩ := h
    rfl
  · obtain ⟨t, ns, rfl, ht, hT, q⟩ := h
    obtain rfl : cdv = .ref c := hcv.symm.trans hcd
    obtain ⟨fw, fdw, FW, BW, mW⟩ := hW.ex
    refine ⟨_, PSs.nox (pss_one (ps_ret (pe_and (pe_callB call_isi (by rfl) m_isinstance (by decide +kernel) (pa_cons (pv 1) (pa_cons (pe_bltn (v := .ty "tuple") (by rfl) m_tuple (by decide +kernel) rfl) pa_nil))) (pe_and (pe_cmpR op_eq (pe_callB call_len_seq (by rfl) m_len (by decide +kernel) (pa_cons (pv 1) pa_nil)) (pv 0) (nomark _)) (pe_one (pe_allG (dom := fun _ => flatV) (b := fun _ => isInt) hr (by rfl) m_all TB rfl (genS_mk (by rfl) (by rfl) (by decide +kernel) (by rfl) (by rfl) (by decide +kernel)) (pv 1) (fun σ => elt_whole hr FW sc_is_whole (by rfl) (by rfl) (by rfl) (by rfl) BW mW m_isinstance m_int m_bool hP rfl (by rfl) (by rfl) (by rfl) (by decide)) (fun _ => rfl))))))), ?_⟩
    refine ⟨_, rfl, .ref t, .ty "tuple", .type "tuple", .type "tuple", true, rfl, .ty _, .base (.tup ht), (by rfl), _, rfl, iteT ?_⟩
    refine ⟨_, rfl, t, _, rfl, .inr (.of ht), _, rfl, rfl, _, rfl, ite2 (fun _ => ?_) (fun z => absurd (decide_eq_true (congrArg V.int (by rw [List.length_map]))) z)⟩
    refine ⟨_, rfl, t, _, rfl, .inr (.of ht), fun v hv => ?_, hT, fun H2 hTb => ?_⟩
    · obtain ⟨n, _, rfl⟩ := List.mem_map.mp hv
      exact trivial
    · have e : (ns.map V.int).all isInt = true := by
        rw [List.all_eq_true]
        intro v hv
        obtain ⟨n, _, rfl⟩ := List.mem_map.mp hv
        rfl
      show Q (.bl ((ns.map V.int).all isInt)) H2
      rw [e]
      exact q H2 (tabbed_keep hTb) hTb.1
def spForm (Ts : List Addr) : Sp := fun vs H Q _ => ∃ (t : Addr) (L : Lot) (m : Nat), vs = [.int (m : Int), .ref t] ∧ LotAt H t L ∧ 1 ≤ L.g ∧ L.goings.length = m ∧ L.rest.length = m ∧ Tb H Ts ∧ ∀ H', Keep Ts H H' → Tb H' Ts → Q (.bl true) H'
theorem ok_has_form {f T2 : Addr} {Ts : List Addr} {fd : FuncData} (F : FnP K "has_form" s_has_form f fd) (m_isinstance : mg "isinstance" = none) (m_tuple : mg "tuple" = none) (m_len : mg "len" = none) (i_T2 : T2 ∈ Ts) (c_is_whole : Cal P w K mg base 1 "is_whole" spWhole) (c_are_wholes : Cal P w K mg base 2 "are_wholes" (spWholes T2)) :
    FnOk P w K mg base CX0 3 f fd ["many", "thing"] (spForm Ts) := by
  refine F.ok sc_has_form (fun vs H Q E h => ?_) (fun cdv A outer s H vs Q E hr h => ?_)
  · obtain ⟨t, L, m, rfl, _⟩ := h
    rfl
  · obtain ⟨t, L, m, rfl, hL, g1, l1, l2, hT, q⟩ := h
    obtain ⟨gs, r, a1, a2, a3⟩ := hL.ex
    refine ⟨_, PSs.nox (pss_mid (ps_if (PW.pt (pw_or (pt_not (pt_val (pe_callB call_isi (by rfl) m_isinstance (by decide +kernel) (pa_cons (pv 1) (pa_cons (pe_bltn (v := .ty "tuple") (by rfl) m_tuple (by decide +kernel) rfl) pa_nil))))) (pw_or1 (pt_cmpR op_ne (pe_callB call_len_seq (by rfl) m_len (by decide +kernel) (pa_cons (pv 1) pa_nil)) pe_int (nomark _)))))
      (pss_one (ps_ret pe_bl))
      pss_nil)
    (pss_cons (ps_asg (pv 1) (pg_tup rfl (pgs_cons (pg_name (i := 2) sc_has_form.nd rfl (.inl rfl)) (pgs_cons (pg_name (i := 3) sc_has_form.nd rfl (.inl rfl)) (pgs_cons (pg_name (i := 4) sc_has_form.nd rfl (.inl rfl)) pgs_nil)))))
    (pss_one (ps_ret (pe_and (pe_k c_is_whole (hr.mono (by decide)) (by rfl) (pa_cons (pv 2) pa_nil)) (pe_and (pe_cmpR op_ge (pv 2) pe_int (nomark _)) (pe_and (pe_k c_are_wholes (hr.mono (by decide)) (by rfl) (pa_cons (pv 0) (pa_cons (pv 3) pa_nil))) (pe_one (pe_k c_are_wholes (hr.mono (by decide)) (by rfl) (pa_cons (pv 0) (pa_cons (pv 4) pa_nil))))))))))), ?_⟩
    refine ⟨fun σ' H' => σ' = [some (.int (m : Int)), some (.ref t), none, none, none] ∧ H = H', ?_, ?_⟩
    · exact ⟨_, rfl, .ref t, .ty "tuple", .type "tuple", .type "tuple", true, rfl, .ty _, .base (.tup a1), (by rfl), true, rfl, iteF ⟨_, rfl, t, _, rfl, .inr (.of a1), rfl, _, rfl, iteNS rfl ⟨rfl, rfl⟩⟩⟩
    · rintro σ' H' ⟨rfl, rfl⟩
      refine ⟨_, rfl, t, _, rfl, .of a1, rfl, _, _, rfl, _, _, rfl, _, _, rfl, rfl, ?_⟩
      refine ⟨_, rfl, L.g, rfl, _, rfl, iteT ⟨_, rfl, L.g, 1, rfl, rfl, _, rfl, ite2 (fun _ => ?_) (fun z => absurd (decide_eq_true g1) z)⟩⟩
      refine ⟨_, rfl, _, rfl, gs, L.goings, ?_, a2, hT T2 i_T2, fun H1 k1 t1 => ⟨_, rfl, iteT ?_⟩⟩
      · rw [l1]
        rfl
      have tb1 := hT.of k1 t1
      have kk1 := one_of i_T2 k1
      refine ⟨_, rfl, _, rfl, r, L.rest, ?_, Keep.tup kk1 (noT_tabs hT) a3, t1, fun H2 k2 t2 => q H2 (kk1.trans (one_of i_T2 k2)) (tb1.of k2 t2)⟩
      rw [l2]
      rfl
def spIsLot (Ts : List Addr) : Sp := fun vs H Q _ => ∃ (x t : Addr) (W : Web) (L : Lot), vs = [.ref x, .ref t] ∧ WebAt H x W ∧ WebOk W ∧ LotAt H t L ∧ 1 ≤ L.g ∧ L.goings.length = W.names.length ∧ L.rest = lotRest W L.g L.goings ∧ Tb H Ts ∧ ∀ H', Keep Ts H H' → Tb H' Ts → Q (.bl true) H'
theorem lotRest_len {W : Web} (h : WebOk W) (g : Int) (goings : List Int) : (lotRest W g goings).length = W.names.length := restN_len h g goings _
theorem ok_is_lot {f : Addr} {Ts : List Addr} {fd : FuncData} (F : FnP K "is_lot" s_is_lot f fd) (m_len : mg "len" = none) (c_has_form : Cal P w K mg base 3 "has_form" (spForm Ts)) (c_lot_by : Cal P w K mg base 3 "lot_by" (spLotBy Ts)) :
    FnOk P w K mg base CX0 4 f fd ["web", "thing"] (spIsLot Ts) := by
  refine F.ok sc_is_lot (fun vs H Q E h => ?_) (fun cdv A outer s H vs Q E hr h => ?_)
  · obtain ⟨x, t, W, L, rfl, _⟩ := h
    rfl
  · obtain ⟨x, t, W, L, rfl, hW, hok, hL, g1, l1, l2, hT, q⟩ := h
    obtain ⟨na, ta, la, ca, fa, ts, h1, h2, h3, h4, h5, h6, h7, h8⟩ := hW.ex
    refine ⟨_, PSs.nox (pss_cons (ps_if (pt_not (pt_val (pe_k c_has_form (hr.mono (by decide)) (by rfl) (pa_cons (pe_callB call_len_seq (by rfl) m_len (by decide +kernel) (pa_cons (pe_ix ix_tup (pv 0) pe_int (fun _ _ => rfl)) pa_nil)) (pa_cons (pv 1) pa_nil)))))
      (pss_one (ps_ret pe_bl))
      pss_nil)
    (pss_cons (ps_asg (pv 1) (pg_tup rfl (pgs_cons (pg_name (i := 2) sc_is_lot.nd rfl (.inl rfl)) (pgs_cons (pg_name (i := 3) sc_is_lot.nd rfl (.inl rfl)) (pgs_cons (pg_name (i := 4) sc_is_lot.nd rfl (.inl rfl)) pgs_nil)))))
    (pss_one (ps_ret (pe_cmpR (op_eqD hr.units) (pv 4) (pe_ix ix_tup (pe_k c_lot_by (hr.mono (by decide)) (by rfl) (pa_cons (pv 0) (pa_cons (pv 2) (pa_cons (pv 3) pa_nil)))) pe_int (fun _ _ => rfl)) (nomark _)))))), ?_⟩
    refine ⟨_, rfl, x, _, _, .ref na, rfl, rfl, .of h1, rfl, na, _, rfl, .inr (.of h2), _, rfl, t, L, W.names.length, ?_, hL, g1, l1, ?_, hT, fun H1 k1 t1 => ⟨true, rfl, iteF ?_⟩⟩
    · rw [List.length_map]
      rfl
    · rw [l2, lotRest_len hok]
    have nt := noT_tabs hT
    have hL1 := hL.keep k1 nt
    obtain ⟨gs, r, a1, a2, a3⟩ := hL1.ex
    refine ⟨_, rfl, t, _, rfl, .of a1, rfl, _, _, rfl, _, _, rfl, _, _, rfl, rfl, ?_⟩
    refine ⟨_, rfl, _, rfl, _, rfl, _, rfl, x, gs, L.g, false, L.goings, W, rfl, hW.keep k1 nt, hok, a2, l1, t1, fun p H2 k2 t2 hL2 => ?_⟩
    obtain ⟨gs2, r2, b1, b2, b3⟩ := hL2.ex
    have a32 := Keep.tup k2 (noT_tabs t1) a3
    refine ⟨p, _, _, .ref r2, rfl, rfl, .of b1, rfl, .tuple (L.rest.map PyData.int), .tuple ((lotRest W L.g L.goings).map PyData.int), .tup (.of a32) (dpAll_ints _), .tup (.of b3) (dpAll_ints _), shaped_tup _, shaped_tup _, ?_⟩
    rw [l2, SeqAt.eqv_refl (.tuple ((lotRest W L.g L.goings).map PyData.int)) (canLay_ints _)]
    exact q H2 (k1.trans k2) t2
end
end K20
set_option Elab.async false
set_option linter.all false
set_option maxRecDepth 100000
set_option maxHeartbeats 2000000
set_option exponentiation.threshold 10000
set_option pp.maxSteps 300
set_option pp.deepTerms false
namespace K20
open PySem PySem.Spec PyProof.Rows L2 GL
/-! ### bounds, sums of lots -/
theorem abs_mul_le {a c G B : Int} (ha : -G ≤ a ∧ a ≤ G) (hc : -B ≤ c ∧ c ≤ B) : -(G * B) ≤ a * c ∧ a * c ≤ G * B := by
  have h1 : (a * c).natAbs ≤ G.natAbs * B.natAbs := by
    rw [Int.natAbs_mul]
    exact Nat.mul_le_mul (by omega) (by omega)
  have h2 : ((G.natAbs * B.natAbs : Nat) : Int) = G * B := by
    rw [Int.natCast_mul]
    congr 1 <;> omega
  omega
theorem zw_mem {f : Int → Int → Int} : ∀ {xs ys : List Int} {z : Int}, z ∈ List.zipWith f xs ys → ∃ x ∈ xs, ∃ y ∈ ys, z = f x y
  | x :: xs, y :: ys, z, h => by
    rcases List.mem_cons.mp h with e | e
    · exact ⟨x, List.mem_cons_self, y, List.mem_cons_self, e⟩
    · obtain ⟨a, ha, b, hb, e2⟩ := zw_mem e
      exact ⟨a, List.mem_cons_of_mem _ ha, b, List.mem_cons_of_mem _ hb, e2⟩
def big : Int := 1000000000000000000000000000000
theorem restN_rng {W : Web} (h : WebOk W) {g : Int} {goings : List Int} (hg : -big ≤ g ∧ g ≤ big) (hG : ∀ x ∈ goings, -big ≤ x ∧ x ≤ big) : ∀ i, ∀ x ∈ restN W g goings i, -(big * 100000 * (i + 1)) ≤ x ∧ x ≤ big * 100000 * (i + 1)
  | 0, x, hx => by
    obtain ⟨l, hl, rfl⟩ := List.mem_map.mp hx
    have h1 := h.leaps.rng l hl
    have h2 := abs_mul_le hg (c := l) (B := 30) (by omega)
    unfold big at h2 ⊢
    omega
  | i + 1, x, hx => by
    obtain ⟨n, hn, c, hc, rfl⟩ := zw_mem hx
    have h1 := restN_rng h hg hG i n hn
    have h2 := col_rng h i c hc
    have h3 : -big ≤ goings.getD i 0 ∧ goings.getD i 0 ≤ big := by
      rw [List.getD_eq_getElem?_getD]
      cases e : goings[i]? with
      | none => exact ⟨by decide, by decide⟩
      | some v => exact hG v (List.mem_of_getElem? e)
    have h4 := abs_mul_le h3 (c := c) (B := 100000) (by omega)
    unfold big at h1 h4 ⊢
    omega
structure Bd (B : Int) (L : Lot) : Prop where
  g : -B ≤ L.g ∧ L.g ≤ B
  goings : ∀ x ∈ L.goings, -B ≤ x ∧ x ≤ B
  rest : ∀ x ∈ L.rest, -B ≤ x ∧ x ≤ B
  l1 : L.goings.length ≤ 10
  l2 : L.rest.length ≤ 10
def bigL : Int := 1000000000000000000000000000000 * 100000 * 11
theorem bd_lot {W : Web} (h : WebOk W) {g : Int} {goings : List Int} (hg : -big ≤ g ∧ g ≤ big) (hG : ∀ x ∈ goings, -big ≤ x ∧ x ≤ big) (hl : goings.length = W.names.length) : Bd bigL ⟨g, goings, lotRest W g goings⟩ := by
  have hM := h.many
  refine ⟨?_, fun x hx => ?_, fun x hx => ?_, by show goings.length ≤ 10; omega, by show (lotRest W g goings).length ≤ 10; rw [lotRest_len h]; omega⟩
  · show -bigL ≤ g ∧ g ≤ bigL
    unfold big at hg
    unfold bigL
    omega
  · have := hG x hx
    unfold big at this
    unfold bigL
    omega
  · have := restN_rng h hg hG goings.length x hx
    unfold big at this
    unfold bigL
    omega
theorem bd_join {B B' : Int} {L L' : Lot} (h : Bd B L) (h' : Bd B' L') : Bd (B + B') (joinL L L') := by
  refine ⟨?_, fun x hx => ?_, fun x hx => ?_, ?_, ?_⟩
  · have := h.g
    have := h'.g
    show -(B + B') ≤ L.g + L'.g ∧ L.g + L'.g ≤ B + B'
    omega
  · obtain ⟨a, ha, b, hb, rfl⟩ := zw_mem hx
    have := h.goings a ha
    have := h'.goings b hb
    omega
  · obtain ⟨a, ha, b, hb, rfl⟩ := zw_mem hx
    have := h.rest a ha
    have := h'.rest b hb
    omega
  · show (plus L.goings L'.goings).length ≤ 10
    unfold plus
    rw [List.length_zipWith]
    have := h.l1
    omega
  · show (plus L.rest L'.rest).length ≤ 10
    unfold plus
    rw [List.length_zipWith]
    have := h.l2
    omega
def lotD (L : Lot) : PyData := .tuple [.int L.g, .tuple (L.goings.map PyData.int), .tuple (L.rest.map PyData.int)]
theorem dp_lot {K : PySem.W.Frag} {H : Hp} {a : Addr} {L : Lot} (h : LotAt H a L) : Dp K H (.ref a) (lotD L) := by
  obtain ⟨gs, r, h1, h2, h3⟩ := h.ex
  exact .tup (.of h1) (.cons (.int _) (.cons (.tup (.of h2) (dpAll_ints _)) (.cons (.tup (.of h3) (dpAll_ints _)) .nil)))
theorem fineB {B x : Int} (hB : B ≤ 8 * bigL) (h : -B ≤ x ∧ x ≤ B) : Fine x := by
  have e : x.natAbs ≤ 8 * 1100000000000000000000000000000000000 := by
    unfold bigL at hB
    omega
  exact Nat.lt_of_le_of_lt e (by decide)
theorem sm_lot {B : Int} {L : Lot} (hB : B ≤ 8 * bigL) (h : Bd B L) : Sm 2 50 (lotD L) := by
  have a1 : Sm 1 0 (.int L.g) := (Sm.int (fineB hB h.g)).mono (by decide) (by decide)
  have a2 : Sm 1 10 (.tuple (L.goings.map PyData.int)) := (Sm.tup (SmAll.map (k := 0) (n := 0) fun x hx => Sm.int (fineB hB (h.goings x hx)))).mono (by decide) (by have := h.l1; omega)
  have a3 : Sm 1 10 (.tuple (L.rest.map PyData.int)) := (Sm.tup (SmAll.map (k := 0) (n := 0) fun x hx => Sm.int (fineB hB (h.rest x hx)))).mono (by decide) (by have := h.l2; omega)
  exact (Sm.tup (SmAll.cons a1 (.cons a2 (.cons a3 (SmAll.nil.mono (Nat.zero_le _) (Nat.le_refl _)))))).mono (by decide) (by decide)
theorem step_plus (x y : Int) : ∀ (col r r' : List Int), stepR col (x + y) (plus r r') = plus (stepR col x r) (stepR col y r')
  | [], r, r' => by
    unfold stepR plus
    rw [List.zipWith_nil_right, List.zipWith_nil_right, List.zipWith_nil_right]
    rfl
  | _ :: _, [], r' => rfl
  | c :: cs, a :: r, [] => by
    unfold stepR plus
    rw [List.zipWith_nil_right]
    rfl
  | c :: cs, a :: r, b :: r' => by
    have ih := step_plus x y cs r r'
    show (a + b - (x + y) * c) :: stepR cs (x + y) (plus r r') = (a - x * c + (b - y * c)) :: plus (stepR cs x r) (stepR cs y r')
    rw [ih, Int.add_mul]
    congr 1
    omega
theorem getD_plus {a b : List Int} (hl : a.length = b.length) (i : Nat) : (plus a b).getD i 0 = a.getD i 0 + b.getD i 0 := by
  unfold plus
  rw [List.getD_eq_getElem?_getD, List.getD_eq_getElem?_getD, List.getD_eq_getElem?_getD, List.getElem?_zipWith]
  by_cases h : i < a.length
  · rw [List.getElem?_eq_getElem h, List.getElem?_eq_getElem (show i < b.length by omega)]
    rfl
  · rw [List.getElem?_eq_none (by omega), List.getElem?_eq_none (show b.length ≤ i by omega)]
    rfl
theorem restN_plus {W : Web} {g g' : Int} {a b : List Int} (hl : a.length = b.length) : ∀ i, restN W (g + g') (plus a b) i = plus (restN W g a i) (restN W g' b i)
  | 0 => by
    show (W.leaps.map fun x => (g + g') * x) = plus (W.leaps.map fun x => g * x) (W.leaps.map fun x => g' * x)
    generalize W.leaps = ls
    induction ls with
    | nil => rfl
    | cons l r ih =>
      show (g + g') * l :: _ = (g * l + g' * l) :: _
      rw [Int.add_mul]
      exact congrArg _ ih
  | i + 1 => by
    show stepR (colOf W i) ((plus a b).getD i 0) (restN W (g + g') (plus a b) i) = _
    rw [getD_plus hl, restN_plus hl i, step_plus]
    rfl
theorem plus_len {a b : List Int} (hl : a.length = b.length) : (plus a b).length = a.length := by
  unfold plus
  rw [List.length_zipWith]
  omega
theorem lotRest_plus {W : Web} {g g' : Int} {a b : List Int} (hl : a.length = b.length) : lotRest W (g + g') (plus a b) = plus (lotRest W g a) (lotRest W g' b) := by
  unfold lotRest
  rw [restN_plus hl, plus_len hl, hl]
theorem plus_comm : ∀ a b : List Int, plus a b = plus b a
  | [], [] => rfl
  | [], _ :: _ => rfl
  | _ :: _, [] => rfl
  | x :: a, y :: b => by
    show (x + y) :: plus a b = (y + x) :: plus b a
    rw [plus_comm a b, Int.add_comm]
theorem joinL_comm (L L' : Lot) : joinL L L' = joinL L' L := by
  unfold joinL
  rw [plus_comm, plus_comm L.rest, Int.add_comm]
section
variable {P : Program} {w : World} {K : PySem.W.Frag} {mg : Str → Option Value} {base : Heap}
/-! ### the law's own rows and columns -/
def spLRow : Sp := fun vs H Q _ => ∃ (x : Addr) (a : Int) (W : Web), vs = [.ref x, .int a] ∧ WebAt H x W ∧ WebOk W ∧ 0 ≤ a ∧ a < W.names.length ∧ ∀ p H', Keep [] H H' → H' p = some (.lst ((rowOf W a).map V.int)) → Q (.ref p) H'
theorem ok__law_row {f : Addr} {fd : FuncData} {k : Nat} (F : FnP K "_law_row" s__law_row f fd) (m_max : mg "max" = none) (m_list : mg "list" = none) : FnOk P w K mg base CX0 (k + 1) f fd ["_law_web_here", "_law_a"] spLRow := by
  refine F.ok sc__law_row (fun vs H Q E h => ?_) (fun cdv A outer s H vs Q E hr h => ?_)
  · obtain ⟨x, a, W, rfl, _⟩ := h
    rfl
  · obtain ⟨x, a, W, rfl, hW, hok, a0, a1, q⟩ := h
    obtain ⟨na, ta, la, ca, fa, ts, h1, h2, h3, h4, h5, h6, h7, h8⟩ := hW.ex
    have hM := hok.many
    refine ⟨_, PSs.nox (pss_cons (ps_setLc (i := 2) (own := [("_law_name", 6)]) (g := gName 6) (by rfl) sc__law_row.nd rfl rfl (sw_true rfl rfl rfl (by decide +kernel)) (pi_tup (pe_ix ix_tup (pv 0) pe_int (fun _ _ => rfl))) (blkOk_by (own := [("_law_name", 6)]) (N := N__law_row) (sc := defScope s__law_row) (by decide +kernel)) (fun _ _ _ _ _ => (pg_name (i := 6) sc__law_row.nd rfl (.inl rfl))) (fun _ _ _ _ _ => pts_nil) (fun _ _ _ _ _ => pe_int))
    (pss_cons (ps_for PassesOwn.never rfl (pi_tup (pe_ix ix_tup (pv 0) pe_int (fun _ _ => rfl))) (pg_tup rfl (pgs_cons (pg_name (i := 3) sc__law_row.nd rfl (.inl rfl)) (pgs_cons (pg_name (i := 4) sc__law_row.nd rfl (.inl rfl)) (pgs_cons (pg_name (i := 5) sc__law_row.nd rfl (.inl rfl)) pgs_nil))))
      (pss_one (ps_if (pt_cmpR op_eq (pv 3) (pv 1) (nomark _))
      (pss_one (ps_asg (pv 5) (pg_sub (pv 2) (pv 4) set_list)))
      pss_nil)))
    (pss_cons (ps_if (pt_cmpR op_gt (pe_callB (cr_max rfl) (by rfl) m_max (by decide +kernel) (pa_cons (pv 2) pa_nil)) pe_int (nomark _))
      (pss_one (ps_ret (pv 2)))
      pss_nil)
    (pss_cons (ps_if (pt_cmpR (op_neD hr.units) (pe_ix ix_tup (pv 0) pe_int (fun _ _ => rfl)) (pe_tup pa_nil) (nomark _))
      (pss_one (ps_ret (pe_callTy call_list_of (by rfl) m_list (by decide +kernel) (pa_cons (pe_ix ix_tup (pv 0) pe_int (fun _ _ => rfl)) pa_nil))))
      pss_nil)
    (pss_cons (ps_asg pe_int (pg_sub (pv 2) (pv 1) set_list))
    (pss_one (ps_ret (pv 2)))))))), ?_⟩
    refine ⟨_, rfl, x, _, _, .ref na, rfl, rfl, .of h1, rfl, na, rfl, ⟨_, .of h2⟩, fun D hD => lc_tup (xs := W.names.map V.str) (fun i H' => Keep [] H H' ∧ i ≤ 10 ∧ H' D = some (.lst ((List.replicate i (0 : Int)).map V.int)))
      ⟨(Keep.refl [] H).new hD, by decide, upd_same⟩ ?_ ?_ ?_⟩
    · rintro i H' _ ⟨k1, _⟩
      exact .of (k1 na _ (fun z => nilX z) h2)
    · rintro i v H' hv ⟨k1, _, e1⟩
      have hi := (List.getElem?_eq_some_iff.mp hv).1
      rw [List.length_map] at hi
      refine ⟨rfl, _, e1, ?_, k1.own hD, by omega, ?_⟩
      · rw [List.length_map, List.length_replicate]
        exact lt_size' (by omega)
      · rw [upd_same, List.replicate_succ', List.map_append]
        rfl
    · rintro H1 ⟨k1, _, e1⟩
      rw [List.length_map] at e1
      refine ⟨_, rfl, x, _, _, .ref ta, rfl, rfl, .of (k1 x _ (fun z => nilX z) h1), rfl, ta, rfl, ⟨_, .of (k1 ta _ (fun z => nilX z) h3)⟩, for_tup (xs := ts.map V.ref) (fun i σ H' => ∃ y3 y4 y5 : Option V, σ = [some (.ref x), some (.int a), some (.ref D), y3, y4, y5, none] ∧ Keep [] H H' ∧ H' D = some (.lst ((fillRow a (W.ties.take i) (List.replicate W.names.length 0)).map V.int)))
        ⟨none, none, none, rfl, k1, e1⟩ ?_ ?_ ?_⟩
      · rintro i σ H' _ ⟨_, _, _, rfl, k, _⟩
        exact .of (k ta _ (fun z => nilX z) h3)
      · rintro i v σ H' hv ⟨y3, y4, y5, rfl, k, e⟩
        rw [List.getElem?_map] at hv
        obtain ⟨b, hb, rfl⟩ := Option.map_eq_some_iff.mp hv
        have hi : i < W.ties.length := by
          rw [← h4]
          exact (List.getElem?_eq_some_iff.mp hb).1
        have ht := List.getElem?_eq_getElem hi
        have eb := k b _ (fun z => nilX z) (h5 i b _ hb ht)
        have hg := (hok.ties.inn _ (List.getElem_mem hi)).2.1
        generalize W.ties[i] = tt at ht eb hg
        refine ⟨b, _, rfl, .of eb, rfl, _, _, rfl, _, _, rfl, _, _, rfl, rfl, ?_⟩
        have ef := fill_take a W.ties (List.replicate W.names.length 0) ht
        refine ⟨_, rfl, _, rfl, rfl, _, rfl, ite2 (fun c => ?_) (fun c => ?_)⟩
        · have ea : tt.1 = a := V.int.inj (of_decide_eq_true c)
          refine ⟨_, rfl, _, rfl, _, rfl, D, _, _, tt.2.1.toNat, rfl, rfl, e, ixN_int hg.1 ?_, _, _, _, rfl, k.own hD, ?_⟩
          · rw [List.length_map, fill_len, List.length_replicate]
            exact hg.2
          · rw [upd_same, ef, if_pos ea, List.map_set]
        · have ea : ¬ tt.1 = a := fun z => c (decide_eq_true (congrArg V.int z))
          exact ⟨_, _, _, rfl, k, by rw [e, ef, if_neg ea]⟩
      · rintro σ H2 ⟨y3, y4, y5, rfl, k, e⟩
        rw [List.length_map, h4, List.take_length] at e
        have fl : (fillRow a W.ties (List.replicate W.names.length 0)).length = W.names.length := by rw [fill_len, List.length_replicate]
        refine ⟨_, rfl, D, fillRow a W.ties (List.replicate W.names.length 0), rfl, .of e, by omega, fun m hm hmax => ⟨m, 0, rfl, rfl, _, rfl, ite2 (fun c => ?_) (fun c => ?_)⟩⟩
        · refine ⟨_, rfl, q D H2 k ?_⟩
          rw [e]
          unfold rowOf
          rw [if_pos (List.any_eq_true.mpr ⟨m, hm, c⟩)]
        · have c1 : ¬ (fillRow a W.ties (List.replicate W.names.length 0)).any (fun n => decide (0 < n)) = true := fun z => by
            obtain ⟨y, hy, py⟩ := List.any_eq_true.mp z
            have g1 := hmax y hy
            have g2 := of_decide_eq_true py
            exact c (decide_eq_true (show (0 : Int) < m by omega))
          have g1 := k x _ (fun z => nilX z) h1
          have g8 := k fa _ (fun z => nilX z) h8
          refine ⟨_, rfl, x, _, _, .ref fa, rfl, rfl, .of g1, rfl, Nat.zero_le _, fun ne nne => ?_⟩
          have kn := (Keep.refl [] H2).new (o := .tup []) nne
          refine ⟨.tuple (W.falls.map PyData.int), .tuple [], .tup (.of (kn fa _ (fun z => nilX z) g8)) (dpAll_ints _), .tup (.of upd_same) .nil, shaped_tup _, by decide +kernel, _, rfl, ?_⟩
          rw [eqv_tnil]
          have kH := k.trans kn
          have e4 := kn D _ (fun z => nilX z) e
          generalize upd H2 ne (.tup []) = H4 at kH e4
          refine ite2 (fun c2 => ?_) (fun c2 => ?_)
          · have hne : W.falls ≠ [] := fun z => by
              rw [z] at c2
              exact absurd c2 (by decide)
            refine ⟨_, rfl, x, _, _, .ref fa, rfl, rfl, .of (kH x _ (fun z => nilX z) h1), rfl, fa, _, rfl, .inr (.of (kH fa _ (fun z => nilX z) h8)), fun l nl => q l _ (kH.new nl) ?_⟩
            rw [upd_same]
            unfold rowOf
            rw [if_neg c1, if_neg hne]
          · have he : W.falls = [] := by
              cases hf : W.falls with
              | nil => rfl
              | cons z zs =>
                rw [hf] at c2
                exact absurd rfl c2
            refine ⟨_, rfl, _, rfl, D, _, _, a.toNat, rfl, rfl, e4, ixN_int a0 (by rw [List.length_map, fl]; exact a1), _, rfl, q D _ (kH.own hD) ?_⟩
            rw [upd_same]
            unfold rowOf
            rw [if_neg c1, if_pos he, List.map_set]
def spLCol : Sp := fun vs H Q _ => ∃ (x : Addr) (a : Int) (W : Web), vs = [.ref x, .int a] ∧ WebAt H x W ∧ WebOk W ∧ 0 ≤ a ∧ a < W.names.length ∧ ∀ p H', Keep [] H H' → H' p = some (.lst ((colOf W a).map V.int)) → Q (.ref p) H'
theorem ok__law_column {f : Addr} {fd : FuncData} (F : FnP K "_law_column" s__law_column f fd) (m_sum : mg "sum" = none) (c__law_row : Cal P w K mg base 1 "_law_row" spLRow) :
    FnOk P w K mg base CX0 2 f fd ["_law_web_here", "_law_a"] spLCol := by
  refine F.ok sc__law_column (fun vs H Q E h => ?_) (fun cdv A outer s H vs Q E hr h => ?_)
  · obtain ⟨x, a, W, rfl, _⟩ := h
    rfl
  · obtain ⟨x, a, W, rfl, hW, hok, a0, a1, q⟩ := h
    obtain ⟨na, ta, la, ca, fa, ts, h1, h2, h3, h4, h5, h6, h7, h8⟩ := hW.ex
    have hc := hok.chance
    have hl := row_len hok.fits a
    have hM := hok.many
    have neg : ∀ n : Int, (W.p - W.q) * n = -(W.q - W.p) * n := fun n => by
      congr 1
      omega
    refine ⟨_, PSs.nox (pss_cons (ps_asg (pe_ix ix_tup (pv 0) pe_int (fun _ _ => rfl)) (pg_tup rfl (pgs_cons (pg_name (i := 2) sc__law_column.nd rfl (.inr rfl)) (pgs_cons (pg_name (i := 3) sc__law_column.nd rfl (.inr rfl)) pgs_nil))))
    (pss_cons (ps_set (i := 4) sc__law_column.nd rfl (.inl rfl) (pe_k c__law_row (hr.mono (by decide)) (by rfl) (pa_cons (pv 0) (pa_cons (pv 1) pa_nil))))
    (pss_cons (ps_setLc (i := 5) (own := [("_law_number_here", 6)]) (g := gName 6) (by rfl) sc__law_column.nd rfl rfl (sw_true rfl rfl rfl (by decide +kernel)) (pi_list (pv 4)) (blkOk_by (own := [("_law_number_here", 6)]) (N := N__law_column) (sc := defScope s__law_column) (by decide +kernel)) (fun _ _ _ _ _ => (pg_name (i := 6) sc__law_column.nd rfl (.inl rfl))) (fun _ _ _ _ _ => pts_nil) (fun _ _ _ _ _ => (pe_op op_mul (pe_op op_sub (pv 2) (pv 3)) (pv 6))))
    (pss_cons (ps_asg (pe_op op_add (pe_ix ix_list (pv 5) (pv 1) (fun _ _ => rfl)) (pe_op op_mul (pv 3) (pe_callB (cr_sum rfl) (by rfl) m_sum (by decide +kernel) (pa_cons (pv 4) pa_nil)))) (pg_sub (pv 5) (pv 1) set_list))
    (pss_one (ps_ret (pv 5))))))), ?_⟩
    refine ⟨_, rfl, x, _, _, .ref ca, rfl, rfl, .of h1, rfl, ca, _, rfl, .of h7, rfl, _, _, rfl, _, _, rfl, rfl, ?_⟩
    refine ⟨_, rfl, _, rfl, x, a, W, rfl, hW, hok, a0, a1, fun r H1 k1 e1 => ?_⟩
    refine ⟨_, rfl, r, rfl, ⟨_, .of e1⟩, fun D hD => lc_list (xs := (rowOf W a).map V.int) (fun i H' => Keep [] H1 H' ∧ H' D = some (.lst ((((rowOf W a).take i).map fun n => -(W.q - W.p) * n).map V.int)))
      ⟨(Keep.refl [] H1).new hD, upd_same⟩ ?_ ?_ ?_⟩
    · rintro i H' _ ⟨k2, _⟩
      exact .of (k2 r _ (fun z => nilX z) e1)
    · rintro i v H' hv ⟨k2, e2⟩
      rw [List.getElem?_map] at hv
      obtain ⟨n, hn, rfl⟩ := Option.map_eq_some_iff.mp hv
      have hi := (List.getElem?_eq_some_iff.mp hn).1
      refine ⟨rfl, _, rfl, _, rfl, W.p, W.q, rfl, rfl, _, rfl, W.p - W.q, n, rfl, rfl, .inl ⟨by omega, by omega⟩, _, e2, ?_, k2.own hD, ?_⟩
      · rw [List.length_map, List.length_map, List.length_take]
        exact lt_size' (by omega)
      · rw [upd_same, List.take_add_one, hn, List.map_append, List.map_append]
        show some (HO.lst (_ ++ [V.int ((W.p - W.q) * n)])) = some (HO.lst (_ ++ [V.int (-(W.q - W.p) * n)]))
        rw [neg]
    · rintro H2 ⟨k2, e2⟩
      rw [List.length_map, List.take_length] at e2
      obtain ⟨v, hvm, hv, hvA⟩ := at_int a0 (show a < ((rowOf W a).length : Int) by omega)
      have e12 := k2 r _ (fun z => nilX z) e1
      have eA : atI (((rowOf W a).map fun n => -(W.q - W.p) * n).map V.int) a = some (.int (-(W.q - W.p) * v)) := at_col a0 (by rw [List.getElem?_map, hv]; rfl)
      refine ⟨_, rfl, _, rfl, D, _, a, .int (-(W.q - W.p) * v), rfl, rfl, .of e2, eA, _, rfl, _, rfl, r, _, rfl, .of e12, W.q, _, rfl, rfl, .inl ⟨by omega, by omega⟩, _, _, rfl, rfl, _, rfl, _, rfl, D, _, a, a.toNat, rfl, rfl, e2, ixN_int a0 (by rw [List.length_map, List.length_map]; omega), ?_⟩
      have e3 : upd H2 D (.lst ((((rowOf W a).map fun n => -(W.q - W.p) * n).map V.int).set a.toNat (.int (-(W.q - W.p) * v + W.q * (rowOf W a).sum)))) D = some (.lst ((colOf W a).map V.int)) := by
        rw [upd_same, ← col_prog W a0 hv, List.map_set]
      exact ⟨_, rfl, q D _ (k1.trans (k2.own hD)) e3⟩
def spLLot : Sp := fun vs H Q _ => ∃ (x gs : Addr) (g : Int) (goings : List Int) (W : Web), vs = [.ref x, .int g, .ref gs] ∧ WebAt H x W ∧ WebOk W ∧ H gs = some (.lst (goings.map V.int)) ∧ goings.length = W.names.length ∧
  ∀ p H', Keep [] H H' → LotAt H' p ⟨g, goings, lotRest W g goings⟩ → Q (.ref p) H'
theorem ok__law_lot {f : Addr} {fd : FuncData} (F : FnP K "_law_lot" s__law_lot f fd) (m_enumerate : mg "enumerate" = none) (m_zip : mg "zip" = none) (m_tuple : mg "tuple" = none) (c__law_column : Cal P w K mg base 2 "_law_column" spLCol) :
    FnOk P w K mg base CX0 3 f fd ["_law_web_here", "_law_grains_here", "_law_goings"] spLLot := by
  refine F.ok sc__law_lot (fun vs H Q E h => ?_) (fun cdv A outer s H vs Q E hr h => ?_)
  · obtain ⟨x, gs, g, goings, W, rfl, _⟩ := h
    rfl
  · obtain ⟨x, gs, g, goings, W, rfl, hW, hok, hG, hl, q⟩ := h
    obtain ⟨na, ta, la, ca, fa, ts, h1, h2, h3, h4, h5, h6, h7, h8⟩ := hW.ex
    have hM := hok.many
    refine ⟨_, PSs.nox (pss_cons (ps_setLc (i := 3) (own := [("_law_leap", 6)]) (g := gName 6) (by rfl) sc__law_lot.nd rfl rfl (sw_true rfl rfl rfl (by decide +kernel)) (pi_tup (pe_ix ix_tup (pv 0) pe_int (fun _ _ => rfl))) (blkOk_by (own := [("_law_leap", 6)]) (N := N__law_lot) (sc := defScope s__law_lot) (by decide +kernel)) (fun _ _ _ _ _ => (pg_name (i := 6) sc__law_lot.nd rfl (.inl rfl))) (fun _ _ _ _ _ => pts_nil) (fun _ _ _ _ _ => (pe_op op_mul (pv 1) (pv 6))))
    (pss_cons (ps_for PassesOwn.never rfl (pi_enumB (by rfl) m_enumerate (pa_cons (pv 2) pa_nil)) (pg_tup rfl (pgs_cons (pg_name (i := 4) sc__law_lot.nd rfl (.inl rfl)) (pgs_cons (pg_name (i := 5) sc__law_lot.nd rfl (.inr rfl)) pgs_nil)))
      (pss_one (ps_setLc (i := 3) (own := [("_law_one", 7), ("_law_number_here", 8)]) (g := gTup K 2 (gCons (gName 7) (gCons (gName 8) gNil))) (by rfl) sc__law_lot.nd rfl rfl (sw_true rfl rfl rfl (by decide +kernel)) (pi_zipB (by rfl) m_zip (pa_cons (pv 3) (pa_cons (pe_k c__law_column (hr.mono (by decide)) (by rfl) (pa_cons (pv 0) (pa_cons (pv 4) pa_nil))) pa_nil))) (blkOk_by (own := [("_law_one", 7), ("_law_number_here", 8)]) (N := N__law_lot) (sc := defScope s__law_lot) (by decide +kernel)) (fun _ _ _ _ _ => (pg_tup rfl (pgs_cons (pg_name (i := 7) sc__law_lot.nd rfl (.inl rfl)) (pgs_cons (pg_name (i := 8) sc__law_lot.nd rfl (.inl rfl)) pgs_nil)))) (fun _ _ _ _ _ => pts_nil) (fun _ _ _ _ _ => (pe_op op_sub (pv 7) (pe_op op_mul (pv 5) (pv 8)))))))
    (pss_one (ps_ret (pe_tup (pa_cons (pv 1) (pa_cons (pe_callTy call_tuple_of (by rfl) m_tuple (by decide +kernel) (pa_cons (pv 2) pa_nil)) (pa_cons (pe_callTy call_tuple_of (by rfl) m_tuple (by decide +kernel) (pa_cons (pv 3) pa_nil)) pa_nil)))))))), ?_⟩
    refine ⟨_, rfl, x, _, _, .ref la, rfl, rfl, .of h1, rfl, la, rfl, ⟨_, .of h6⟩, fun D hD => lc_tup (xs := W.leaps.map V.int) (fun i H' => Keep [] H H' ∧ H' D = some (.lst (((W.leaps.take i).map fun x => g * x).map V.int)))
      ⟨(Keep.refl [] H).new hD, upd_same⟩ ?_ ?_ ?_⟩
    · rintro i H' _ ⟨k1, _⟩
      exact .of (k1 la _ (fun z => nilX z) h6)
    · rintro i v H' hv ⟨k1, e1⟩
      rw [List.getElem?_map] at hv
      obtain ⟨n, hn, rfl⟩ := Option.map_eq_some_iff.mp hv
      have hr1 := hok.leaps.rng n (List.mem_of_getElem? hn)
      have hll := hok.leaps.len
      have hi := (List.getElem?_eq_some_iff.mp hn).1
      refine ⟨rfl, _, rfl, _, rfl, g, n, rfl, rfl, .inr ⟨by omega, by omega⟩, _, e1, ?_, k1.own hD, ?_⟩
      · rw [List.length_map, List.length_map, List.length_take]
        exact lt_size' (by omega)
      · rw [upd_same, List.take_add_one, hn, List.map_append, List.map_append]
        rfl
    · rintro H1 ⟨k1, e1⟩
      rw [List.length_map, List.take_length] at e1
      have hG1 := k1 gs _ (fun z => nilX z) hG
      refine ⟨_, rfl, true, gs, _, rfl, .of hG1, for_enumB (b := true) (xs := goings.map V.int) (fun i σ H' => ∃ (D' : Addr) (y4 y5 : Option V), σ = [some (.ref x), some (.int g), some (.ref gs), some (.ref D'), y4, y5, none, none, none] ∧ Keep [] H H' ∧ H' D' = some (.lst ((restN W g goings i).map V.int)))
        ⟨D, none, none, rfl, k1, e1⟩ ?_ ?_ ?_⟩
      · rintro i σ H' _ ⟨D', y4, y5, rfl, k2, _⟩
        exact .of (k2 gs _ (fun z => nilX z) hG)
      · rintro i v σ H' T0 hv ⟨D', y4, y5, rfl, k2, e2⟩ hT0
        rw [List.getElem?_map] at hv
        obtain ⟨going, hgo, rfl⟩ := Option.map_eq_some_iff.mp hv
        have hi := (List.getElem?_eq_some_iff.mp hgo).1
        have k3 := (Keep.refl [] H').new (o := .tup [.int (i : Nat), .int going]) hT0
        refine ⟨T0, _, rfl, .of upd_same, rfl, _, _, rfl, _, _, rfl, rfl, ?_⟩
        have kk3 := k2.trans k3
        have e3 := k3 D' _ (fun z => nilX z) e2
        generalize upd H' T0 (.tup [.int (i : Nat), .int going]) = H3 at k3 kk3 e3
        refine ⟨_, rfl, _, rfl, _, rfl, x, (i : Int), W, rfl, hW.keep kk3 (noT_nil _), hok, by omega, by omega, fun c H4 k4 e4 => ?_⟩
        have e34 := k4 D' _ (fun z => nilX z) e3
        have len2 : ((restN W g goings i).map V.int).length = ((colOf W (i : Nat)).map V.int).length := by
          rw [List.length_map, List.length_map, restN_len hok, col_len, row_len hok.fits]
        refine ⟨true, true, D', c, _, _, rfl, .of e34, .of e4, fun D2 hD2 => lc_zip (xs := (restN W g goings i).map V.int) (ys := (colOf W (i : Nat)).map V.int) len2 (fun j G => Keep [] H4 G ∧ G D2 = some (.lst ((stepR ((colOf W (i : Nat)).take j) going ((restN W g goings i).take j)).map V.int)))
          ⟨(Keep.refl [] H4).new hD2, upd_same⟩ ?_ ?_ ?_⟩
        · rintro j G ⟨kG, _⟩
          exact ⟨.of (kG D' _ (fun z => nilX z) e34), .of (kG c _ (fun z => nilX z) e4)⟩
        · rintro j x' y' T1 G hx hy ⟨kG, eG⟩ hT1
          rw [List.getElem?_map] at hx hy
          obtain ⟨n, hn2, rfl⟩ := Option.map_eq_some_iff.mp hx
          obtain ⟨m, hm, rfl⟩ := Option.map_eq_some_iff.mp hy
          have hb := col_rng hok (i : Nat) m (List.mem_of_getElem? hm)
          have hj := (List.getElem?_eq_some_iff.mp hn2).1
          have rl := restN_len hok g goings i
          have k5 := (Keep.refl [] G).new (o := .tup [.int n, .int m]) hT1
          refine ⟨T1, _, rfl, .of upd_same, rfl, _, _, rfl, _, _, rfl, rfl, rfl, _, rfl, _, rfl, _, rfl, going, m, rfl, rfl, .inr ⟨by omega, by omega⟩, n, going * m, rfl, rfl, _, k5 D2 _ (fun z => nilX z) eG, ?_, (kG.trans k5).own hD2, ?_⟩
          · rw [List.length_map]
            unfold stepR
            rw [List.length_zipWith, List.length_take, List.length_take]
            exact lt_size' (by omega)
          · rw [upd_same]
            unfold stepR
            rw [List.take_add_one, List.take_add_one, hn2, hm, List.zipWith_append (by rw [List.length_take, List.length_take, restN_len hok, col_len, row_len hok.fits]), List.map_append]
            rfl
        · rintro G ⟨kG, eG⟩
          rw [List.length_map, List.take_length, List.take_of_length_le (by rw [restN_len hok, col_len, row_len hok.fits]; exact Nat.le_refl _)] at eG
          refine ⟨D2, _, _, rfl, (kk3.trans k4).trans kG, ?_⟩
          rw [eG]
          show _ = some (HO.lst ((stepR (colOf W (i : Nat)) (goings.getD i 0) (restN W g goings i)).map V.int))
          rw [List.getD_eq_getElem?_getD, hgo]
          rfl
      · rintro σ H2 ⟨D', y4, y5, rfl, k2, e2⟩
        rw [List.length_map] at e2
        refine ⟨_, rfl, _, rfl, gs, _, rfl, .inl ⟨.of (k2 gs _ (fun z => nilX z) hG), fun t nt => ?_⟩⟩
        have k3 := (Keep.refl [] H2).new (o := .tup (goings.map V.int)) nt
        refine ⟨_, rfl, D', _, rfl, .inl ⟨.of (k3 D' _ (fun z => nilX z) e2), fun l nl => ⟨(by show 3 ≤ sizeLine; decide), fun p np => ?_⟩⟩⟩
        have k4 := (Keep.refl [] (upd H2 t (.tup (goings.map V.int)))).new (o := .tup ((lotRest W g goings).map V.int)) nl
        have k5 := (Keep.refl [] (upd (upd H2 t (.tup (goings.map V.int))) l (.tup ((lotRest W g goings).map V.int)))).new (o := .tup [.int g, .ref t, .ref l]) np
        exact q p _ (k2.trans (k3.trans (k4.trans k5))) ⟨t, l, upd_same, k5 t _ (fun z => nilX z) (k4 t _ (fun z => nilX z) upd_same), k5 l _ (fun z => nilX z) upd_same⟩
end
end K20
set_option Elab.async false
set_option linter.all false
set_option maxRecDepth 100000
set_option maxHeartbeats 4000000
set_option exponentiation.threshold 10000
set_option pp.maxSteps 300
set_option pp.deepTerms false
namespace K20
open PySem PySem.Spec PyProof.Rows L2 GL
theorem mem5 {v : V} {a b c d e : Int} (h : v ∈ [V.int a, .int b, .int c, .int d, .int e]) : ∃ t : Int, v = .int t ∧ (t = a ∨ t = b ∨ t = c ∨ t = d ∨ t = e) := by
  rcases List.mem_cons.mp h with z | h
  · exact ⟨a, z, .inl rfl⟩
  obtain ⟨t, h1, h2⟩ := mem4 h
  exact ⟨t, h1, .inr h2⟩
/-- a lot of the web that fits, of numbers that are not too great -/
structure Good (W : Web) (L : Lot) : Prop where
  g0 : 1 ≤ L.g
  g1 : L.g ≤ big
  gs : ∀ x ∈ L.goings, -big ≤ x ∧ x ≤ big
  len : L.goings.length = W.names.length
  fit : L.rest = lotRest W L.g L.goings
theorem Good.bd {W : Web} {L : Lot} (h : Good W L) (hok : WebOk W) : Bd bigL L := by
  have := bd_lot hok (g := L.g) (goings := L.goings) ⟨by have := h.g0; unfold big; omega, h.g1⟩ h.gs h.len
  rw [← h.fit] at this
  exact this
def LotsAt (H : Hp) : List Addr → List Lot → Prop
  | [], [] => True
  | a :: r, L :: s => LotAt H a L ∧ LotsAt H r s
  | _, _ => False
theorem LotsAt.keep {H H' : Hp} {ex : List Addr} (k : Keep ex H H') (nt : NoT H ex) : ∀ {as : List Addr} {Ls : List Lot}, LotsAt H as Ls → LotsAt H' as Ls
  | [], [], _ => trivial
  | _ :: _, _ :: _, h => ⟨h.1.keep k nt, LotsAt.keep k nt h.2⟩
theorem dp_lots {K : PySem.W.Frag} {H : Hp} : ∀ {as : List Addr} {Ls : List Lot}, LotsAt H as Ls → DpAll K H (as.map V.ref) (Ls.map lotD)
  | [], [], _ => .nil
  | _ :: _, _ :: _, h => .cons (dp_lot h.1) (dp_lots h.2)
theorem LotsAt.snoc {H : Hp} {a : Addr} {L : Lot} (h : LotAt H a L) : ∀ {as : List Addr} {Ls : List Lot}, LotsAt H as Ls → LotsAt H (as ++ [a]) (Ls ++ [L])
  | [], [], _ => ⟨h, trivial⟩
  | _ :: _, _ :: _, g => ⟨g.1, LotsAt.snoc h g.2⟩
theorem big_eq : big = 10 ^ (30 : Int).toNat := by decide
section
variable {P : Program} {w : World} {K : PySem.W.Frag} {mg : Str → Option Value} {base : Heap}
def spNumber : Sp := fun vs H Q _ => ∃ (d c : Addr) (ns : List Int) (n : Nat), vs = [.ref d] ∧ Pen H d c ns n ∧ n ≤ 90000 ∧ ∀ (r : Int) (H' : Hp), -big ≤ r → r ≤ big → Keep [d] H H' → Pen H' d c ns (n + 3) → Q (.int r) H'
theorem ok__law_number {f : Addr} {fd : FuncData} (F : FnP K "_law_number" s__law_number f fd) (c__law_draw : Cal P w K mg base 1 "_law_draw" spDraw) : FnOk P w K mg base CX0 2 f fd ["_law_pen_here"] spNumber := by
  refine F.ok sc__law_number (fun vs H Q E h => ?_) (fun cdv A outer s H vs Q E hr h => ?_)
  · obtain ⟨d, c, ns, n, rfl, _⟩ := h
    rfl
  · obtain ⟨d, c, ns, n, rfl, hp, hn, q⟩ := h
    refine ⟨_, PSs.nox (pss_cons (ps_set (i := 1) sc__law_number.nd rfl (.inl rfl) (pe_k c__law_draw (hr.mono (by decide)) (by rfl) (pa_cons (pv 0) (pa_cons pe_int pa_nil))))
    (pss_cons (ps_set (i := 2) sc__law_number.nd rfl (.inl rfl) (pe_op op_sub pe_int (pe_op op_mul pe_int (pe_k c__law_draw (hr.mono (by decide)) (by rfl) (pa_cons (pv 0) (pa_cons pe_int pa_nil))))))
    (pss_cons (ps_if (pt_cmpR op_lt (pv 1) pe_int (nomark _))
      (pss_one (ps_ret (pe_op op_mul (pv 2) (pe_k c__law_draw (hr.mono (by decide)) (by rfl) (pa_cons (pv 0) (pa_cons pe_int pa_nil))))))
      pss_nil)
    (pss_cons (ps_if (pt_cmpR op_lt (pv 1) pe_int (nomark _))
      (pss_one (ps_ret (pe_op op_mul (pv 2) (pe_k c__law_draw (hr.mono (by decide)) (by rfl) (pa_cons (pv 0) (pa_cons (pe_op op_pow pe_int pe_int) pa_nil))))))
      pss_nil)
    (pss_cons (ps_if (pt_cmpR op_eq (pv 1) pe_int (nomark _))
      (pss_one (ps_ret pe_int))
      pss_nil)
    (pss_one (ps_ret (pe_op op_mul (pv 2) (pe_op op_sub (pe_op op_sub (pe_op op_pow pe_int pe_int) pe_int) (pe_k c__law_draw (hr.mono (by decide)) (by rfl) (pa_cons (pv 0) (pa_cons (pe_op op_pow pe_int pe_int) pa_nil)))))))))))), ?_⟩
    refine ⟨_, rfl, d, c, ns, n, 8, rfl, hp, by omega, by decide, by decide, fun way H1 w0 w1 k1 p1 => ?_⟩
    refine ⟨_, rfl, d, c, ns, _, 2, rfl, p1, by omega, by decide, by decide, fun t H2 t0 t1 k2 p2 => ⟨2, t, rfl, rfl, .inl ⟨by decide, by decide⟩, 1, 2 * t, rfl, rfl, ?_⟩⟩
    have sg : -1 ≤ 1 - 2 * t ∧ 1 - 2 * t ≤ 1 := by omega
    have k12 := k1.trans k2
    refine ⟨_, rfl, way, 4, rfl, rfl, _, rfl, ite2 (fun _ => ?_) (fun _ => ?_)⟩
    · refine ⟨_, rfl, _, rfl, d, c, ns, _, 9, rfl, p2, by omega, by decide, by decide, fun r H3 r0 r1 k3 p3 => ⟨1 - 2 * t, r, rfl, rfl, .inl ⟨by omega, by omega⟩, ?_⟩⟩
      have := abs_mul_le sg (c := r) (B := 9) (by omega)
      exact q _ H3 (by unfold big; omega) (by unfold big; omega) (k12.trans k3) p3
    · refine ⟨_, rfl, way, 6, rfl, rfl, _, rfl, ite2 (fun _ => ?_) (fun _ => ?_)⟩
      · refine ⟨_, rfl, _, rfl, 10, 6, rfl, rfl, ⟨by decide, by decide, by decide⟩, d, c, ns, _, 1000000, rfl, p2, by omega, by decide, by decide, fun r H3 r0 r1 k3 p3 => ⟨1 - 2 * t, r, rfl, rfl, .inl ⟨by omega, by omega⟩, ?_⟩⟩
        have := abs_mul_le sg (c := r) (B := 1000000) (by omega)
        exact q _ H3 (by unfold big; omega) (by unfold big; omega) (k12.trans k3) p3
      · refine ⟨_, rfl, rfl, _, rfl, ite2 (fun _ => ?_) (fun _ => ?_)⟩
        · exact q 0 H2 (by decide) (by decide) k12 (p2.mono (by omega))
        · refine ⟨_, rfl, 10, 30, rfl, rfl, ⟨by decide, by decide, by decide⟩, _, 1, rfl, rfl, _, rfl, 10, 6, rfl, rfl, ⟨by decide, by decide, by decide⟩, d, c, ns, _, 1000000, rfl, p2, by omega, by decide, by decide, fun r H3 r0 r1 k3 p3 => ⟨_, r, rfl, rfl, 1 - 2 * t, _, rfl, rfl, .inl ⟨by omega, by omega⟩, ?_⟩⟩
          have e := big_eq
          have := abs_mul_le sg (c := 10 ^ (30 : Int).toNat - 1 - r) (B := big) (by rw [← e]; unfold big; omega)
          exact q _ H3 (by omega) (by omega) (k12.trans k3) p3
def spGrains : Sp := fun vs H Q _ => ∃ (d c : Addr) (ns : List Int) (n : Nat), vs = [.ref d] ∧ Pen H d c ns n ∧ n ≤ 90000 ∧ ∀ (r : Int) (H' : Hp), 1 ≤ r → r ≤ big → Keep [d] H H' → Pen H' d c ns (n + 3) → Q (.int r) H'
theorem ok__law_grains {f : Addr} {fd : FuncData} (F : FnP K "_law_grains" s__law_grains f fd) (c__law_draw : Cal P w K mg base 1 "_law_draw" spDraw) (c__law_pick : Cal P w K mg base 2 "_law_pick" spPick) : FnOk P w K mg base CX0 3 f fd ["_law_pen_here"] spGrains := by
  refine F.ok sc__law_grains (fun vs H Q E h => ?_) (fun cdv A outer s H vs Q E hr h => ?_)
  · obtain ⟨d, c, ns, n, rfl, _⟩ := h
    rfl
  · obtain ⟨d, c, ns, n, rfl, hp, hn, q⟩ := h
    refine ⟨_, PSs.nox (pss_one (ps_ret (pe_k c__law_pick (hr.mono (by decide)) (by rfl) (pa_cons (pv 0) (pa_cons (pe_lst (pa_cons pe_int (pa_cons (pe_op op_add pe_int (pe_k c__law_draw (hr.mono (by decide)) (by rfl) (pa_cons (pv 0) (pa_cons pe_int pa_nil)))) (pa_cons (pe_op op_add pe_int (pe_k c__law_draw (hr.mono (by decide)) (by rfl) (pa_cons (pv 0) (pa_cons (pe_op op_pow pe_int pe_int) pa_nil)))) (pa_cons (pe_op op_sub (pe_op op_pow pe_int pe_int) pe_int) (pa_cons (pe_op op_pow pe_int pe_int) pa_nil)))))) pa_nil))))), ?_⟩
    refine ⟨_, rfl, _, rfl, d, c, ns, n, 9, rfl, hp, by omega, by decide, by decide, fun x H1 x0 x1 k1 p1 => ⟨1, x, rfl, rfl, _, rfl, 10, 6, rfl, rfl, ⟨by decide, by decide, by decide⟩, d, c, ns, _, 1000000, rfl, p1, by omega, by decide, by decide, fun y H2 y0 y1 k2 p2 => ⟨1, y, rfl, rfl, 10, 30, rfl, rfl, ⟨by decide, by decide, by decide⟩, _, 1, rfl, rfl, 10, 6, rfl, rfl, ⟨by decide, by decide, by decide⟩, (by show 5 ≤ sizeLine; decide), fun s0 ns0 =>
      ⟨d, c, ns, _, s0, _, rfl, p2.new ns0, by omega, upd_same, fun z => p2.not ns0 (List.mem_singleton.mpr z), (by show 0 < 5; decide), (by show 5 ≤ 1000; decide), fun v H3 hv k3 p3 => ?_⟩⟩⟩⟩
    obtain ⟨t, rfl, ht⟩ := mem5 hv
    have e6 : (10 : Int) ^ (6 : Int).toNat = 1000000 := by decide
    have e := big_eq
    rw [e6, ← e] at ht
    have kk := ((k1.trans k2).new ns0).trans k3
    have hb : big = 1000000000000000000000000000000 := rfl
    exact q t H3 (by omega) (by omega) kk p3
def spSame : Sp := fun vs H Q _ => ∃ (a b : Addr) (L : Lot) (B : Int), vs = [.ref a, .ref b] ∧ LotAt H a L ∧ LotAt H b L ∧ B ≤ 8 * bigL ∧ Bd B L ∧ Q (.bl true) H
theorem ok__law_same {f : Addr} {fd : FuncData} {k : Nat} (F : FnP K "_law_same" s__law_same f fd) (m_isinstance : mg "isinstance" = none) (m_tuple : mg "tuple" = none) (m_repr : mg "repr" = none) : FnG P w K mg base CX0 (k + 1) f fd ["_law_found", "_law_due"] spSame := by
  refine okG F sc__law_same (fun vs H Q E h => ?_) (fun cdv A outer s0 H vs Q E gd hr h => ?_)
  · obtain ⟨a, b, L, B, rfl, _⟩ := h
    rfl
  · obtain ⟨a, b, L, B, rfl, ha, hb, hB, bd, q⟩ := h
    obtain ⟨gs, r, a1, a2, a3⟩ := ha.ex
    have sh : Show (lotD L) := (sm_lot hB bd).show (by decide) (by decide)
    refine ⟨_, PSs.nox (pss_one (ps_ret (pe_and (pe_callB call_isi (by rfl) m_isinstance (by decide +kernel) (pa_cons (pv 0) (pa_cons (pe_bltn (v := .ty "tuple") (by rfl) m_tuple (by decide +kernel) rfl) pa_nil))) (pe_one (pe_cmpR op_eq (pe_callB (call_repr gd hr.units) (by rfl) m_repr (by decide +kernel) (pa_cons (pv 0) pa_nil)) (pe_callB (call_repr gd hr.units) (by rfl) m_repr (by decide +kernel) (pa_cons (pv 1) pa_nil)) (nomark _)))))), ?_⟩
    refine ⟨_, rfl, .ref a, .ty "tuple", .type "tuple", .type "tuple", true, rfl, .ty _, .base (.tup a1), (by rfl), _, rfl, iteT ⟨_, rfl, a, _, rfl, dp_lot ha, sh.s, sh.n, sh.dp, sh.z, _, rfl, b, _, rfl, dp_lot hb, sh.s, sh.n, sh.dp, sh.z, rfl, ?_⟩⟩
    rw [decide_eq_true rfl]
    exact q
def spTold (Ts : List Addr) : Sp := fun vs H Q _ => ∃ (x l : Addr) (W : Web) (L : Lot), vs = [.ref x, .ref l] ∧ WebAt H x W ∧ WebOk W ∧ LotAt H l L ∧ Good W L ∧ Tb H Ts ∧ ∀ H', Keep Ts H H' → Tb H' Ts → Q (.bl true) H'
theorem ok__law_told_right {f : Addr} {Ts : List Addr} {fd : FuncData} (F : FnP K "_law_told_right" s__law_told_right f fd) (c_lot_by : Cal P w K mg base 3 "lot_by" (spLotBy Ts)) (c__law_same : CalG P w K mg base 1 "_law_same" spSame) (c_is_lot : Cal P w K mg base 4 "is_lot" (spIsLot Ts)) (c_begun : Cal P w K mg base 4 "begun" (spBegun Ts)) (c__law_lot : Cal P w K mg base 3 "_law_lot" spLLot) :
    FnG P w K mg base CX0 5 f fd ["_law_web_here", "_law_lot_here"] (spTold Ts) := by
  refine okG F sc__law_told_right (fun vs H Q E h => ?_) (fun cdv A outer s0 H vs Q E gd hr h => ?_)
  · obtain ⟨x, l, W, L, rfl, _⟩ := h
    rfl
  · obtain ⟨x, l, W, L, rfl, hW, hok, hL, hG, hT, q⟩ := h
    obtain ⟨gs, r, a1, a2, a3⟩ := hL.ex
    have hM := hok.many
    refine ⟨_, PSs.nox (pss_cons (ps_set (i := 2) sc__law_told_right.nd rfl (.inl rfl) (pe_k c_lot_by (hr.mono (by decide)) (by rfl) (pa_cons (pv 0) (pa_cons (pe_ix ix_tup (pv 1) pe_int (fun _ _ => rfl)) (pa_cons (pe_ix ix_tup (pv 1) pe_int (fun _ _ => rfl)) pa_nil)))))
    (pss_mid (ps_if (PW.pt (pw_or (pt_not (pt_val (pe_kG c__law_same gd (hr.mono (by decide)) (by rfl) (pa_cons (pv 2) (pa_cons (pv 1) pa_nil))))) (pw_or1 (pt_cmpR op_notB (pe_k c_is_lot (hr.mono (by decide)) (by rfl) (pa_cons (pv 0) (pa_cons (pv 2) pa_nil))) pe_bl (nomark _)))))
      (pss_one (ps_ret pe_bl))
      pss_nil)
    (pss_cons (ps_set (i := 2) sc__law_told_right.nd rfl (.inl rfl) (pe_k c_begun (hr.mono (by decide)) (by rfl) (pa_cons (pv 0) (pa_cons (pe_ix ix_tup (pv 1) pe_int (fun _ _ => rfl)) pa_nil))))
    (pss_cons (ps_set (i := 3) sc__law_told_right.nd rfl (.inl rfl) (pe_k c__law_lot (hr.mono (by decide)) (by rfl) (pa_cons (pv 0) (pa_cons (pe_ix ix_tup (pv 1) pe_int (fun _ _ => rfl)) (pa_cons (pe_lc (own := [("_law_name", 4)]) (g := gName 4) (by rfl) sc__law_told_right.nd (pi_tup (pe_ix ix_tup (pv 0) pe_int (fun _ _ => rfl))) (blkOk_by (own := [("_law_name", 4)]) (N := N__law_told_right) (sc := defScope s__law_told_right) (by decide +kernel)) (fun _ _ _ _ _ => (pg_name (i := 4) sc__law_told_right.nd rfl (.inl rfl))) (fun _ _ _ _ _ => pts_nil) (fun _ _ _ _ _ => pe_int)) pa_nil)))))
    (pss_one (ps_ret (pe_and (pe_kG c__law_same gd (hr.mono (by decide)) (by rfl) (pa_cons (pv 2) (pa_cons (pv 3) pa_nil))) (pe_one (pe_cmpR op_isB (pe_k c_is_lot (hr.mono (by decide)) (by rfl) (pa_cons (pv 0) (pa_cons (pv 2) pa_nil))) pe_bl (nomark _)))))))))), ?_⟩
    refine ⟨_, rfl, _, rfl, l, _, _, .int L.g, rfl, rfl, .of a1, rfl, _, rfl, l, _, _, .ref gs, rfl, rfl, .of a1, rfl, x, gs, L.g, false, L.goings, W, rfl, hW, hok, a2, hG.len, hT, fun p H1 k1 t1 l1 => ?_⟩
    rw [← hG.fit] at l1
    have nt := noT_tabs hT
    have W1 := hW.keep k1 nt
    have L1 := hL.keep k1 nt
    have le8 : bigL ≤ 8 * bigL := by decide
    refine ⟨fun σ' H' => σ' = [some (.ref x), some (.ref l), some (.ref p), none, none] ∧ Keep Ts H1 H' ∧ Tb H' Ts, ?_, ?_⟩
    · refine ⟨_, rfl, _, rfl, p, l, L, bigL, rfl, l1, L1, le8, hG.bd hok, true, rfl, iteF ?_⟩
      exact ⟨_, rfl, _, rfl, x, p, W, L, rfl, W1, hok, l1, hG.g0, hG.len, hG.fit, t1, fun H2 k2 t2 => ⟨true, true, rfl, rfl, _, rfl, iteF ⟨rfl, k2, t2⟩⟩⟩
    · rintro σ' H2 ⟨rfl, k2, t2⟩
      have W2 := W1.keep k2 (noT_tabs t1)
      have L2' := L1.keep k2 (noT_tabs t1)
      obtain ⟨gs2, r2, b1, b2, b3⟩ := L2'.ex
      refine ⟨_, rfl, _, rfl, l, _, _, .int L.g, rfl, rfl, .of b1, rfl, x, L.g, W, rfl, W2, hok, t2, fun p3 H3 k3 t3 l3 => ?_⟩
      have W3 := W2.keep k3 (noT_tabs t2)
      have L3 := L2'.keep k3 (noT_tabs t2)
      obtain ⟨gs3, r3, c1, c2, c3⟩ := L3.ex
      obtain ⟨na, ta, la, ca, fa, ts, h1, h2, _⟩ := W3.ex
      refine ⟨_, rfl, _, rfl, l, _, _, .int L.g, rfl, rfl, .of c1, rfl, _, rfl, x, _, _, .ref na, rfl, rfl, .of h1, rfl, na, rfl, ⟨_, .of h2⟩, fun D hD => lc_tup (xs := W.names.map V.str) (fun i H' => Keep [] H3 H' ∧ i ≤ 10 ∧ H' D = some (.lst ((List.replicate i (0 : Int)).map V.int)))
        ⟨(Keep.refl [] H3).new hD, by decide, upd_same⟩ ?_ ?_ ?_⟩
      · rintro i H' _ ⟨kk, _⟩
        exact .of (kk na _ (fun z => nilX z) h2)
      · rintro i v H' hv ⟨kk, _, ee⟩
        have hi := (List.getElem?_eq_some_iff.mp hv).1
        rw [List.length_map] at hi
        refine ⟨rfl, _, ee, ?_, kk.own hD, by omega, ?_⟩
        · rw [List.length_map, List.length_replicate]
          exact lt_size' (by omega)
        · rw [upd_same, List.replicate_succ', List.map_append]
          rfl
      · rintro H4 ⟨k4, _, e4⟩
        rw [List.length_map] at e4
        refine ⟨x, D, L.g, _, W, rfl, W3.keep k4 (noT_nil _), hok, e4, List.length_replicate .., fun p5 H5 k5 l5 => ?_⟩
        have k45 := k4.trans k5
        have l35 := l3.keep k45 (noT_nil _)
        have bd : Bd bigL ⟨L.g, List.replicate W.names.length 0, lotRest W L.g (List.replicate W.names.length 0)⟩ := bd_lot hok ⟨by have := hG.g0; unfold big; omega, hG.g1⟩ (fun z hz => by rw [(List.mem_replicate.mp hz).2]; decide) (List.length_replicate ..)
        refine ⟨_, rfl, _, rfl, p3, p5, _, bigL, rfl, l35, l5, le8, bd, _, rfl, iteT ?_⟩
        refine ⟨_, rfl, _, rfl, x, p3, W, _, rfl, W3.keep k45 (noT_nil _), hok, l35, hG.g0, List.length_replicate .., rfl, t3.keep0 k45, fun H6 k6 t6 => ⟨true, true, rfl, rfl, ?_⟩⟩
        exact q H6 ((((k1.trans k2).trans k3).trans (zero_of k45)).trans k6) t6
def spSum : Sp := fun vs H Q _ => ∃ (a b : Addr) (L L' : Lot), vs = [.ref a, .ref b] ∧ LotAt H a L ∧ LotAt H b L' ∧ L.goings.length = L'.goings.length ∧ L.rest.length = L'.rest.length ∧ L.goings.length ≤ 10 ∧ L.rest.length ≤ 10 ∧ ∀ p H', Keep [] H H' → LotAt H' p (joinL L L') → Q (.ref p) H'
theorem plus_at {xs ys : List Int} {i : Nat} {u v : Int} (h : xs[i]? = some u) (h' : ys[i]? = some v) : (plus xs ys)[i]? = some (u + v) := by
  unfold plus
  rw [List.getElem?_zipWith, h, h']
theorem ok__law_sum {f : Addr} {fd : FuncData} {k : Nat} (F : FnP K "_law_sum" s__law_sum f fd) (m_tuple : mg "tuple" = none) (m_range : mg "range" = none) (m_len : mg "len" = none) : FnOk P w K mg base CX0 (k + 1) f fd ["_law_one", "_law_other"] spSum := by
  refine F.ok sc__law_sum (fun vs H Q E h => ?_) (fun cdv A outer s H vs Q E hr h => ?_)
  · obtain ⟨a, b, L, L', rfl, _⟩ := h
    rfl
  · obtain ⟨a, b, L, L', rfl, hL, hL', l1, l2, l3, l4, q⟩ := h
    obtain ⟨gs, r, a1, a2, a3⟩ := hL.ex
    obtain ⟨gs', r', b1, b2, b3⟩ := hL'.ex
    refine ⟨_, PSs.nox (pss_cons (ps_set (i := 2) sc__law_sum.nd rfl (.inl rfl) (pe_callTy call_tuple_of (by rfl) m_tuple (by decide +kernel) (pa_cons (pe_lc (own := [("_law_k", 3)]) (g := gName 3) (te := tOp (rI0 fun i j => .int (i + j)) (tOp (rIxT K) (tOp (rIxT K) (tVar 0) (tC (.int 1))) (tVar 3)) (tOp (rIxT K) (tOp (rIxT K) (tVar 1) (tC (.int 1))) (tVar 3))) (by rfl) sc__law_sum.nd (pi_range1 rfl m_range (pa_cons (pe_callB call_len_seq (by rfl) m_len (by decide +kernel) (pa_cons (pe_ix ix_tup (pv 0) pe_int (fun _ _ => rfl)) pa_nil)) pa_nil)) (blkOk_by (own := [("_law_k", 3)]) (N := N__law_sum) (sc := defScope s__law_sum) (by decide +kernel)) (fun _ _ _ _ _ => (pg_name (i := 3) sc__law_sum.nd rfl (.inl rfl))) (fun _ _ _ _ _ => pts_nil) (fun _ _ _ _ _ => (pe_op op_add (pe_ix ix_tup (pe_ix ix_tup (pv 0) pe_int (fun _ _ => rfl)) (pv 3) (fun _ _ => rfl)) (pe_ix ix_tup (pe_ix ix_tup (pv 1) pe_int (fun _ _ => rfl)) (pv 3) (fun _ _ => rfl))))) pa_nil)))
    (pss_one (ps_ret (pe_tup (pa_cons (pe_op op_add (pe_ix ix_tup (pv 0) pe_int (fun _ _ => rfl)) (pe_ix ix_tup (pv 1) pe_int (fun _ _ => rfl))) (pa_cons (pv 2) (pa_cons (pe_callTy call_tuple_of (by rfl) m_tuple (by decide +kernel) (pa_cons (pe_lc (own := [("_law_k", 3)]) (g := gName 3) (te := tOp (rI0 fun i j => .int (i + j)) (tOp (rIxT K) (tOp (rIxT K) (tVar 0) (tC (.int 2))) (tVar 3)) (tOp (rIxT K) (tOp (rIxT K) (tVar 1) (tC (.int 2))) (tVar 3))) (by rfl) sc__law_sum.nd (pi_range1 rfl m_range (pa_cons (pe_callB call_len_seq (by rfl) m_len (by decide +kernel) (pa_cons (pe_ix ix_tup (pv 0) pe_int (fun _ _ => rfl)) pa_nil)) pa_nil)) (blkOk_by (own := [("_law_k", 3)]) (N := N__law_sum) (sc := defScope s__law_sum) (by decide +kernel)) (fun _ _ _ _ _ => (pg_name (i := 3) sc__law_sum.nd rfl (.inl rfl))) (fun _ _ _ _ _ => pts_nil) (fun _ _ _ _ _ => (pe_op op_add (pe_ix ix_tup (pe_ix ix_tup (pv 0) pe_int (fun _ _ => rfl)) (pv 3) (fun _ _ => rfl)) (pe_ix ix_tup (pe_ix ix_tup (pv 1) pe_int (fun _ _ => rfl)) (pv 3) (fun _ _ => rfl))))) pa_nil)) pa_nil))))))), ?_⟩
    have lenI : ∀ xs : List Int, (((xs.map V.int).length : Nat) : Int).toNat = xs.length := fun xs => by rw [List.length_map, Int.toNat_natCast]
    refine ⟨_, rfl, a, _, _, .ref gs, rfl, rfl, .of a1, rfl, gs, _, rfl, .inr (.of a2), _, rfl, (by omega), (by rw [List.length_map]; omega), fun D hD => lc_range (n := (((L.goings.map V.int).length : Nat) : Int).toNat) (fun i H' => Keep [] H H' ∧ i ≤ 10 ∧ H' D = some (.lst (((plus L.goings L'.goings).take i).map V.int)))
      ⟨(Keep.refl [] H).new hD, by decide, upd_same⟩ ?_ ?_⟩
    · rintro i H' hi ⟨k1, _, e1⟩
      rw [lenI] at hi
      obtain ⟨u, _, hu, huA⟩ := at_int (xs := L.goings) (r := 0 + (i : Int)) (by omega) (by omega)
      obtain ⟨v, _, hv, hvA⟩ := at_int (xs := L'.goings) (r := 0 + (i : Int)) (by omega) (by omega)
      have ei : (0 + (i : Int)).toNat = i := by omega
      rw [ei] at hu hv
      refine ⟨rfl, _, rfl, a, _, _, .ref gs, rfl, rfl, .of (k1 a _ (fun z => nilX z) a1), rfl, _, rfl, gs, _, _, .int u, rfl, rfl, .of (k1 gs _ (fun z => nilX z) a2), huA, _, rfl, b, _, _, .ref gs', rfl, rfl, .of (k1 b _ (fun z => nilX z) b1), rfl, _, rfl, gs', _, _, .int v, rfl, rfl, .of (k1 gs' _ (fun z => nilX z) b2), hvA, u, v, rfl, rfl, _, e1, ?_, k1.own hD, by omega, ?_⟩
      · rw [List.length_map, List.length_take]
        exact lt_size' (by omega)
      · rw [upd_same, List.take_add_one, plus_at hu hv, List.map_append]
        rfl
    · rintro H1 ⟨k1, _, e1⟩
      rw [lenI, List.take_of_length_le (by rw [plus_len l1]; exact Nat.le_refl _)] at e1
      refine ⟨D, _, rfl, .inl ⟨.of e1, fun t nt => ?_⟩⟩
      have k2 := k1.new (o := .tup ((plus L.goings L'.goings).map V.int)) nt
      have et : upd H1 t (.tup ((plus L.goings L'.goings).map V.int)) t = some (.tup ((plus L.goings L'.goings).map V.int)) := upd_same
      generalize upd H1 t (.tup ((plus L.goings L'.goings).map V.int)) = H2 at k2 et
      refine ⟨_, rfl, a, _, _, .int L.g, rfl, rfl, .of (k2 a _ (fun z => nilX z) a1), rfl, _, rfl, b, _, _, .int L'.g, rfl, rfl, .of (k2 b _ (fun z => nilX z) b1), rfl, L.g, L'.g, rfl, rfl, _, rfl, _, rfl, a, _, _, .ref r, rfl, rfl, .of (k2 a _ (fun z => nilX z) a1), rfl, r, _, rfl, .inr (.of (k2 r _ (fun z => nilX z) a3)), _, rfl, (by omega), (by rw [List.length_map]; omega), fun D2 hD2 => lc_range (n := (((L.rest.map V.int).length : Nat) : Int).toNat) (fun i H' => Keep [] H2 H' ∧ i ≤ 10 ∧ H' D2 = some (.lst (((plus L.rest L'.rest).take i).map V.int)))
        ⟨(Keep.refl [] H2).new hD2, by decide, upd_same⟩ ?_ ?_⟩
      · rintro i H' hi ⟨k3, _, e3⟩
        rw [lenI] at hi
        obtain ⟨u, _, hu, huA⟩ := at_int (xs := L.rest) (r := 0 + (i : Int)) (by omega) (by omega)
        obtain ⟨v, _, hv, hvA⟩ := at_int (xs := L'.rest) (r := 0 + (i : Int)) (by omega) (by omega)
        have ei : (0 + (i : Int)).toNat = i := by omega
        rw [ei] at hu hv
        have kk := k2.trans k3
        refine ⟨rfl, _, rfl, a, _, _, .ref r, rfl, rfl, .of (kk a _ (fun z => nilX z) a1), rfl, _, rfl, r, _, _, .int u, rfl, rfl, .of (kk r _ (fun z => nilX z) a3), huA, _, rfl, b, _, _, .ref r', rfl, rfl, .of (kk b _ (fun z => nilX z) b1), rfl, _, rfl, r', _, _, .int v, rfl, rfl, .of (kk r' _ (fun z => nilX z) b3), hvA, u, v, rfl, rfl, _, e3, ?_, k3.own hD2, by omega, ?_⟩
        · rw [List.length_map, List.length_take]
          exact lt_size' (by omega)
        · rw [upd_same, List.take_add_one, plus_at hu hv, List.map_append]
          rfl
      · rintro H3 ⟨k3, _, e3⟩
        rw [lenI, List.take_of_length_le (by rw [plus_len l2]; exact Nat.le_refl _)] at e3
        refine ⟨D2, _, rfl, .inl ⟨.of e3, fun t2 nt2 => ⟨(by show 3 ≤ sizeLine; decide), fun p np => ?_⟩⟩⟩
        have k4 := (Keep.refl [] H3).new (o := .tup ((plus L.rest L'.rest).map V.int)) nt2
        have k5 := (Keep.refl [] (upd H3 t2 (.tup ((plus L.rest L'.rest).map V.int)))).new (o := .tup [.int (L.g + L'.g), .ref t, .ref t2]) np
        exact q p _ (k2.trans (k3.trans (k4.trans k5))) ⟨t, t2, upd_same, k5 t _ (fun z => nilX z) (k4 t _ (fun z => nilX z) (k3 t _ (fun z => nilX z) et)), k5 t2 _ (fun z => nilX z) upd_same⟩
end
end K20
set_option Elab.async false
set_option linter.all false
set_option maxRecDepth 100000
set_option maxHeartbeats 4000000
set_option exponentiation.threshold 10000
set_option pp.maxSteps 300
set_option pp.deepTerms false
namespace K20
open PySem PySem.Spec PyProof.Rows L2 GL
theorem LotsAt.two {H : Hp} {a b : Addr} : ∀ {Ls : List Lot}, LotsAt H [a, b] Ls → ∃ L ∈ Ls, ∃ L' ∈ Ls, LotAt H a L ∧ LotAt H b L'
  | [L, L'], h => ⟨L, List.mem_cons_self, L', List.mem_cons_of_mem _ List.mem_cons_self, h.1, h.2.1⟩
section
variable {P : Program} {w : World} {K : PySem.W.Frag} {mg : Str → Option Value} {base : Heap}
def spJR (Ts : List Addr) : Sp := fun vs H Q _ => ∃ (x a b : Addr) (W : Web) (L L' : Lot), vs = [.ref x, .ref a, .ref b] ∧ WebAt H x W ∧ WebOk W ∧ LotAt H a L ∧ LotAt H b L' ∧ Good W L ∧ Good W L' ∧ Tb H Ts ∧ ∀ H', Keep Ts H H' → Tb H' Ts → Q (.bl true) H'
theorem ok__law_joined_right {f : Addr} {Ts : List Addr} {fd : FuncData} (F : FnP K "_law_joined_right" s__law_joined_right f fd) (c__law_sum : Cal P w K mg base 1 "_law_sum" spSum) (c_joined : Cal P w K mg base 2 "joined" (spJoined Ts)) (c__law_same : CalG P w K mg base 1 "_law_same" spSame) (c_is_lot : Cal P w K mg base 4 "is_lot" (spIsLot Ts)) :
    FnG P w K mg base CX0 5 f fd ["_law_web_here", "_law_one", "_law_other"] (spJR Ts) := by
  refine okG F sc__law_joined_right (fun vs H Q E h => ?_) (fun cdv A outer s0 H vs Q E gd hr h => ?_)
  · obtain ⟨x, a, b, W, L, L', rfl, _⟩ := h
    rfl
  · obtain ⟨x, a, b, W, L, L', rfl, hW, hok, hL, hL', hG, hG', hT, q⟩ := h
    have hM := hok.many
    have l1 : L.goings.length = L'.goings.length := by rw [hG.len, hG'.len]
    have l2 : L.rest.length = L'.rest.length := by rw [hG.fit, hG'.fit, lotRest_len hok, lotRest_len hok]
    have m1 : L.goings.length ≤ 10 := by rw [hG.len]; omega
    have m2 : L.rest.length ≤ 10 := by rw [hG.fit, lotRest_len hok]; omega
    have bd := bd_join (hG.bd hok) (hG'.bd hok)
    have bd3 := bd_join bd (hG.bd hok)
    have j1 : (joinL L L').goings.length = L.goings.length := plus_len l1
    have j2 : (joinL L L').rest.length = L.rest.length := plus_len l2
    refine ⟨_, PSs.nox (pss_cons (ps_set (i := 3) sc__law_joined_right.nd rfl (.inl rfl) (pe_k c__law_sum (hr.mono (by decide)) (by rfl) (pa_cons (pv 1) (pa_cons (pv 2) pa_nil))))
    (pss_mid (ps_if (PW.pt (pw_or (pt_not (pt_val (pe_kG c__law_same gd (hr.mono (by decide)) (by rfl) (pa_cons (pe_k c_joined (hr.mono (by decide)) (by rfl) (pa_cons (pv 1) (pa_cons (pv 2) pa_nil))) (pa_cons (pv 3) pa_nil))))) (pw_or1 (pt_not (pt_val (pe_kG c__law_same gd (hr.mono (by decide)) (by rfl) (pa_cons (pe_k c_joined (hr.mono (by decide)) (by rfl) (pa_cons (pv 2) (pa_cons (pv 1) pa_nil))) (pa_cons (pv 3) pa_nil))))))))
      (pss_one (ps_ret pe_bl))
      pss_nil)
    (pss_cons (ps_if (pt_not (pt_val (pe_kG c__law_same gd (hr.mono (by decide)) (by rfl) (pa_cons (pe_k c_joined (hr.mono (by decide)) (by rfl) (pa_cons (pe_k c_joined (hr.mono (by decide)) (by rfl) (pa_cons (pv 1) (pa_cons (pv 2) pa_nil))) (pa_cons (pv 1) pa_nil))) (pa_cons (pe_k c__law_sum (hr.mono (by decide)) (by rfl) (pa_cons (pv 3) (pa_cons (pv 1) pa_nil))) pa_nil)))))
      (pss_one (ps_ret pe_bl))
      pss_nil)
    (pss_one (ps_ret (pe_cmpR op_isB (pe_k c_is_lot (hr.mono (by decide)) (by rfl) (pa_cons (pv 0) (pa_cons (pe_k c_joined (hr.mono (by decide)) (by rfl) (pa_cons (pv 1) (pa_cons (pv 2) pa_nil))) pa_nil))) pe_bl (nomark _))))))), ?_⟩
    refine ⟨_, rfl, _, rfl, a, b, L, L', rfl, hL, hL', l1, l2, m1, m2, fun p H1 k1 lp => ?_⟩
    have n0 := noT_nil H
    have W1 := hW.keep k1 n0
    have A1 := hL.keep k1 n0
    have B1 := hL'.keep k1 n0
    have t1 := hT.keep0 k1
    refine ⟨fun σ' H' => σ' = [some (.ref x), some (.ref a), some (.ref b), some (.ref p)] ∧ Keep Ts H1 H' ∧ Tb H' Ts, ?_, ?_⟩
    · refine ⟨_, rfl, _, rfl, a, b, L, L', rfl, A1, B1, l1, l2, by omega, by omega, t1, fun p2 H2 k2 t2 lp2 => ?_⟩
      have nt := noT_tabs t1
      refine ⟨_, rfl, p2, p, _, bigL + bigL, rfl, lp2, lp.keep k2 nt, by decide, bd, true, rfl, iteF ?_⟩
      refine ⟨_, rfl, _, rfl, b, a, L', L, rfl, B1.keep k2 nt, A1.keep k2 nt, l1.symm, l2.symm, by omega, by omega, t2, fun p3 H3 k3 t3 lp3 => ?_⟩
      rw [joinL_comm] at lp3
      exact ⟨_, rfl, p3, p, _, bigL + bigL, rfl, lp3, (lp.keep k2 nt).keep k3 (noT_tabs t2), by decide, bd, true, rfl, iteF ⟨rfl, k2.trans k3, t3⟩⟩
    · rintro σ' H2 ⟨rfl, k2, t2⟩
      have nt := noT_tabs t1
      have W2 := W1.keep k2 nt
      have A2 := A1.keep k2 nt
      have B2 := B1.keep k2 nt
      have lp2 := lp.keep k2 nt
      refine ⟨_, rfl, _, rfl, a, b, L, L', rfl, A2, B2, l1, l2, by omega, by omega, t2, fun p3 H3 k3 t3 lp3 => ?_⟩
      have nt2 := noT_tabs t2
      refine ⟨_, rfl, p3, a, joinL L L', L, rfl, lp3, A2.keep k3 nt2, j1, j2, by omega, by omega, t3, fun p4 H4 k4 t4 lp4 => ?_⟩
      have nt3 := noT_tabs t3
      have A4 := (A2.keep k3 nt2).keep k4 nt3
      refine ⟨_, rfl, _, rfl, p, a, joinL L L', L, rfl, (lp2.keep k3 nt2).keep k4 nt3, A4, j1, j2, by omega, by omega, fun p5 H5 k5 lp5 => ?_⟩
      have n4 := noT_nil H4
      refine ⟨p4, p5, _, bigL + bigL + bigL, rfl, lp4.keep k5 n4, lp5, by decide, bd3, true, rfl, iteF ?_⟩
      have A5 := A4.keep k5 n4
      have B5 := ((B2.keep k3 nt2).keep k4 nt3).keep k5 n4
      have W5 := ((W2.keep k3 nt2).keep k4 nt3).keep k5 n4
      have t5 := t4.keep0 k5
      refine ⟨_, rfl, _, rfl, _, rfl, a, b, L, L', rfl, A5, B5, l1, l2, by omega, by omega, t5, fun p6 H6 k6 t6 lp6 => ?_⟩
      have fit : (joinL L L').rest = lotRest W (joinL L L').g (joinL L L').goings := by
        show plus L.rest L'.rest = lotRest W (L.g + L'.g) (plus L.goings L'.goings)
        rw [lotRest_plus l1, hG.fit, hG'.fit]
      refine ⟨x, p6, W, joinL L L', rfl, W5.keep k6 (noT_tabs t5), hok, lp6, ?_, ?_, fit, t6, fun H7 k7 t7 => ⟨true, true, rfl, rfl, ?_⟩⟩
      · have := hG.g0
        have := hG'.g0
        show 1 ≤ L.g + L'.g
        omega
      · rw [j1, hG.len]
      · exact q H7 (((((((zero_of k1).trans k2).trans k3).trans k4).trans (zero_of k5)).trans k6).trans k7) t7
def spLaw (K : PySem.W.Frag) (Ts : List Addr) : Sp := fun vs H Q _ => ∃ (a : Addr) (ns : List Int), vs = [.ref a] ∧ SqL K H a (ns.map V.int) ∧ ns.length ≤ 63 ∧ Tb H Ts ∧ ∀ H', Q (.bl true) H'
theorem tb_pen {H H' : Hp} {Ts : List Addr} {d c : Addr} {ns : List Int} {n : Nat} (b : Tb H Ts) (p : Pen H d c ns n) (k : Keep [d] H H') : Tb H' Ts := fun T h => tab_keep (b T h) k (fun z => by
  obtain ⟨i, l, e⟩ := p.ex
  obtain ⟨ps, e2, _⟩ := b T h
  rw [List.mem_singleton.mp z, e] at e2
  cases e2)
theorem pen_tb {H H' : Hp} {Ts : List Addr} {d c : Addr} {ns : List Int} {n : Nat} (p : Pen H d c ns n) (b : Tb H Ts) (k : Keep Ts H H') : Pen H' d c ns n := p.keep k (fun T h xs z => by
  obtain ⟨ps, e2, _⟩ := b T h
  rw [e2] at z
  cases z)
theorem ok_law {f : Addr} {Ts : List Addr} {fd : FuncData} (F : FnP K "law" s_law f fd) (m_range : mg "range" = none) (m_repr : mg "repr" = none)
    (c__law_pen : Cal P w K mg base 1 "_law_pen" (spPen K)) (c__law_pick : Cal P w K mg base 2 "_law_pick" spPick) (c__law_web : Cal P w K mg base 4 "_law_web" spWeb) (c__law_grains : Cal P w K mg base 3 "_law_grains" spGrains) (c__law_number : Cal P w K mg base 2 "_law_number" spNumber) (c__law_lot : Cal P w K mg base 3 "_law_lot" spLLot)
    (c__law_told_right : CalG P w K mg base 5 "_law_told_right" (spTold Ts)) (c__law_joined_right : CalG P w K mg base 5 "_law_joined_right" (spJR Ts)) (c_begun : Cal P w K mg base 4 "begun" (spBegun Ts)) :
    FnG P w K mg base CX0 6 f fd ["_law_script"] (spLaw K Ts) := by
  refine okG F sc_law (fun vs H Q E h => ?_) (fun cdv A outer s0 H vs Q E gd hr h => ?_)
  · obtain ⟨a, ns, rfl, _⟩ := h
    rfl
  · obtain ⟨a, ns, rfl, hS, hl, hT, q⟩ := h
    refine ⟨_, PSs.nox (pss_cons (ps_set (i := 1) sc_law.nd rfl (.inr rfl) (pe_k c__law_pen (hr.mono (by decide)) (by rfl) (pa_cons (pv 0) pa_nil)))
    (pss_cons (ps_for PassesOwn.never rfl (pi_range1 rfl m_range (pa_cons pe_int pa_nil)) (pg_name (i := 2) sc_law.nd rfl (.inl rfl))
      (pss_cons (ps_set (i := 3) sc_law.nd rfl (.inl rfl) (pe_k c__law_web (hr.mono (by decide)) (by rfl) (pa_cons (pv 1) (pa_cons (pe_k c__law_pick (hr.mono (by decide)) (by rfl) (pa_cons (pv 1) (pa_cons (pe_lst (pa_cons pe_int (pa_cons pe_int (pa_cons pe_int pa_nil)))) pa_nil))) pa_nil))))
    (pss_cons (ps_set (i := 4) sc_law.nd rfl (.inl rfl) (pe_callB (call_repr gd hr.units) (by rfl) m_repr (by decide +kernel) (pa_cons (pv 3) pa_nil)))
    (pss_cons (ps_set (i := 5) sc_law.nd rfl (.inl rfl) (pe_lst pa_nil))
    (pss_cons (ps_for PassesOwn.never rfl (pi_range1 rfl m_range (pa_cons pe_int pa_nil)) (pg_name (i := 6) sc_law.nd rfl (.inl rfl))
      (pss_cons (ps_set (i := 7) sc_law.nd rfl (.inl rfl) (pe_k c__law_lot (hr.mono (by decide)) (by rfl) (pa_cons (pv 3) (pa_cons (pe_k c__law_grains (hr.mono (by decide)) (by rfl) (pa_cons (pv 1) pa_nil)) (pa_cons (pe_lc (own := [("_law_name", 9)]) (g := gName 9) (by rfl) sc_law.nd (pi_tup (pe_ix ix_tup (pv 3) pe_int (fun _ _ => rfl))) (blkOk_by (own := [("_law_name", 9)]) (N := N_law) (sc := defScope s_law) (by decide +kernel)) (fun _ _ _ _ _ => (pg_name (i := 9) sc_law.nd rfl (.inl rfl))) (fun _ _ _ _ _ => pts_nil) (fun _ _ _ _ _ => (pe_k c__law_number (hr.mono (by decide)) (by rfl) (pa_cons (pv 1) pa_nil)))) pa_nil)))))
    (pss_mid (ps_if (PW.pt (pw_or (pt_not (pt_val (pe_kG c__law_told_right gd (hr.mono (by decide)) (by rfl) (pa_cons (pv 3) (pa_cons (pv 7) pa_nil))))) (pw_or1 (pt_not (pt_val (pe_kG c__law_told_right gd (hr.mono (by decide)) (by rfl) (pa_cons (pv 3) (pa_cons (pv 7) pa_nil))))))))
      (pss_one (ps_ret pe_bl))
      pss_nil)
    (pss_one (ps_expr (pe_bm PySem.F.plainAttrs_list PySem.F.slot_list_append PySem.F.type_list_append mt_append (pv 5) (pa_cons (pv 7) pa_nil)))))))
    (pss_cons (ps_set (i := 8) sc_law.nd rfl (.inl rfl) (pe_callB (call_repr gd hr.units) (by rfl) m_repr (by decide +kernel) (pa_cons (pv 5) pa_nil)))
    (pss_cons (ps_if (pt_not (pt_val (pe_kG c__law_joined_right gd (hr.mono (by decide)) (by rfl) (pa_cons (pv 3) (pa_cons (pe_ix ix_list (pv 5) pe_int (fun _ _ => rfl)) (pa_cons (pe_ix ix_list (pv 5) pe_int (fun _ _ => rfl)) pa_nil))))))
      (pss_one (ps_ret pe_bl))
      pss_nil)
    (pss_one (ps_if (PW.pt (pw_or (pt_cmpR op_ne (pe_callB (call_repr gd hr.units) (by rfl) m_repr (by decide +kernel) (pa_cons (pv 5) pa_nil)) (pv 8) (nomark _)) (pw_or1 (pt_cmpR op_ne (pe_callB (call_repr gd hr.units) (by rfl) m_repr (by decide +kernel) (pa_cons (pv 3) pa_nil)) (pv 4) (nomark _)))))
      (pss_one (ps_ret pe_bl))
      pss_nil)))))))))
    (pss_one (ps_ret (pe_cmpR (op_eqD hr.units) (pe_k c_begun (hr.mono (by decide)) (by rfl) (pa_cons (pe_tup (pa_cons (pe_tup (pa_cons pe_str (pa_cons pe_str pa_nil))) (pa_cons (pe_tup (pa_cons (pe_tup (pa_cons pe_int (pa_cons pe_int (pa_cons pe_int pa_nil)))) pa_nil)) (pa_cons (pe_tup (pa_cons pe_int (pa_cons pe_int pa_nil))) (pa_cons (pe_tup (pa_cons pe_int (pa_cons pe_int pa_nil))) (pa_cons (pe_tup pa_nil) pa_nil)))))) (pa_cons pe_int pa_nil))) (pe_tup (pa_cons pe_int (pa_cons (pe_tup (pa_cons pe_int (pa_cons pe_int pa_nil))) (pa_cons (pe_tup (pa_cons pe_int (pa_cons pe_int pa_nil))) pa_nil)))) (nomark _)))))), ?_⟩
    refine ⟨_, rfl, a, ns, rfl, hS, hl, fun d c H1 k1 p1 => ?_⟩
    refine ⟨3, rfl, by decide, by decide, for_range (n := 3) (fun i σ H' => ∃ y2 y3 y4 y5 y6 y7 y8 : Option V, σ = [some (.ref a), some (.ref d), y2, y3, y4, y5, y6, y7, y8, none] ∧ Pen H' d c ns (1000 * i) ∧ Tb H' Ts)
      ⟨none, none, none, none, none, none, none, rfl, p1, hT.keep0 k1⟩ ?_ ?_⟩
    · rintro i σ H2 hi ⟨y2, y3, y4, y5, y6, y7, y8, rfl, p2, t2⟩
      -- web
      refine ⟨_, rfl, _, rfl, (by show 3 ≤ sizeLine; decide), fun s0 ns0 => ⟨d, c, ns, _, s0, [3, 6, 10].map V.int, rfl, p2.new ns0, by omega, upd_same, fun z => p2.not ns0 (List.mem_singleton.mpr z), (by show 0 < 3; decide), (by show 3 ≤ 1000; decide), fun v H3 hv k3 p3 => ?_⟩⟩
      obtain ⟨m, hm, rfl⟩ := List.mem_map.mp hv
      have m0 : 2 ≤ m ∧ m ≤ 10 := by
        clear hv
        revert m
        decide
      have t3 := tb_pen (t2.keep0 ((Keep.refl [] H2).new ns0)) (p2.new ns0) k3
      refine ⟨d, c, ns, _, m, rfl, p3, by omega, m0.1, m0.2, fun x W H4 k4 p4 w4 ok4 l4 => ?_⟩
      have t4 := tb_pen t3 p3 k4
      have hM := ok4.many
      have shW : Show (webD W) := (sm_web ok4).show (by decide) (by decide)
      have dpW : ∀ G : Hp, WebAt G x W → Dp K G (.ref x) (webD W) := fun G h => dp_web h
      generalize webD W = WD at shW dpW
      -- shown
      refine ⟨_, rfl, x, WD, rfl, dpW _ w4, shW.s, shW.n, shW.dp, shW.z, ?_⟩
      -- lots
      refine ⟨Nat.zero_le _, fun D hD => ?_⟩
      have k5 := (Keep.refl [] H4).new (o := .lst []) hD
      have e5 : upd H4 D (.lst []) D = some (.lst []) := upd_same
      have dD : D ∉ [d] := p4.not hD
      have p5 := p4.keep0 k5
      have t5 := t4.keep0 k5
      have w5 := w4.keep k5 (noT_nil _)
      generalize upd H4 D (.lst []) = H5 at e5 p5 t5 w5
      refine ⟨2, rfl, by decide, by decide, for_range (n := 2) (fun j σ H' => ∃ (y6 y7 : Option V) (as : List Addr) (Ls : List Lot), σ = [some (.ref a), some (.ref d), some (.int (0 + (i : Int))), some (.ref x), some (.str (PyData.shown WD)), some (.ref D), y6, y7, y8, none] ∧ Pen H' d c ns (1000 * i + 301 + 50 * j) ∧ Tb H' Ts ∧ WebAt H' x W ∧ H' D = some (.lst (as.map V.ref)) ∧ LotsAt H' as Ls ∧ Ls.length = j ∧ as.length = j ∧ ∀ L ∈ Ls, Good W L)
        ⟨y6, y7, [], [], rfl, p5.mono (by omega), t5, w5, e5, trivial, rfl, rfl, fun _ z => (nomatch z)⟩ ?_ ?_⟩
      · rintro j σ H6 hj ⟨y6, y7, as, Ls, rfl, p6, t6, w6, e6, ls6, ln6, la6, gd6⟩
        -- grains, goings
        refine ⟨_, rfl, _, rfl, d, c, ns, _, rfl, p6, by omega, fun g H7 g0 g1 k7 p7 => ?_⟩
        have np6 := noT_pen p6
        have w7 := w6.keep k7 np6
        have t7 := tb_pen t6 p6 k7
        have e7 := k7 D _ dD e6
        have ls7 := ls6.keep k7 np6
        obtain ⟨na, ta, la, ca, fa, ts, h1, h2, _⟩ := w7.ex
        refine ⟨_, rfl, x, _, _, .ref na, rfl, rfl, .of h1, rfl, na, rfl, ⟨_, .of h2⟩, fun D2 hD2 => lc_tup (xs := W.names.map V.str) (fun k H' => Keep [d] H7 H' ∧ Pen H' d c ns (1000 * i + 301 + 50 * j + 3 + 3 * k) ∧ k ≤ 10 ∧ ∃ gs : List Int, H' D2 = some (.lst (gs.map V.int)) ∧ gs.length = k ∧ ∀ z ∈ gs, -big ≤ z ∧ z ≤ big)
          ⟨(Keep.refl _ H7).new hD2, p7.new hD2, by decide, [], upd_same, rfl, fun _ z => (nomatch z)⟩ ?_ ?_ ?_⟩
        · rintro k H' _ ⟨kk, _⟩
          exact .of (Keep.tup kk (noT_pen p7) h2)
        · rintro k v H' hv' ⟨kk, pp, _, gs, eg, lg, bg⟩
          have hk := (List.getElem?_eq_some_iff.mp hv').1
          rw [List.length_map] at hk
          refine ⟨rfl, _, rfl, d, c, ns, _, rfl, pp, by omega, fun r H8 r0 r1 k8 p8 => ?_⟩
          have nd2 : D2 ∉ [d] := p7.not hD2
          refine ⟨_, k8 D2 _ nd2 eg, ?_, (kk.trans k8).own hD2, p8.own p7 hD2, by omega, gs ++ [r], ?_, ?_, ?_⟩
          · rw [List.length_map]
            exact lt_size' (by omega)
          · rw [upd_same, List.map_append]
            rfl
          · rw [List.length_append, lg]
            rfl
          · intro z hz
            rcases List.mem_append.mp hz with q | q
            · exact bg z q
            · rw [List.mem_singleton.mp q]
              exact ⟨r0, r1⟩
        · rintro H8 ⟨k8, p8, _, gs, eg, lg, bg⟩
          rw [List.length_map] at lg p8
          have np7 := noT_pen p7
          have w8 := w7.keep k8 np7
          have t8 := tb_pen t7 p7 k8
          have e8 := k8 D _ dD e7
          have ls8 := ls7.keep k8 np7
          refine ⟨x, D2, g, gs, W, rfl, w8, ok4, eg, lg, fun l H9 k9 l9 => ?_⟩
          have n8 := noT_nil H8
          have w9 := w8.keep k9 n8
          have t9 := t8.keep0 k9
          have e9 := k9 D _ (fun z => nilX z) e8
          have ls9 := ls8.keep k9 n8
          have p9 := p8.keep0 k9
          have good : Good W ⟨g, gs, lotRest W g gs⟩ := ⟨g0, g1, bg, lg, rfl⟩
          refine ⟨fun σ' H' => σ' = [some (.ref a), some (.ref d), some (.int (0 + (i : Int))), some (.ref x), some (.str (PyData.shown WD)), some (.ref D), some (.int (0 + (j : Int))), some (.ref l), y8, none] ∧ Keep Ts H9 H' ∧ Tb H' Ts, ?_, ?_⟩
          · refine ⟨_, rfl, _, rfl, x, l, W, _, rfl, w9, ok4, l9, good, t9, fun Ha ka ta' => ⟨true, rfl, iteF ?_⟩⟩
            have nt := noT_tabs t9
            exact ⟨_, rfl, _, rfl, x, l, W, _, rfl, w9.keep ka nt, ok4, l9.keep ka nt, good, ta', fun Hb kb tb' => ⟨true, rfl, iteF ⟨rfl, ka.trans kb, tb'⟩⟩⟩
          · rintro σ' Ha ⟨rfl, ka, ta'⟩
            have nt := noT_tabs t9
            have ea := Keep.ob ka t9 e9 (by intro q z; cases z)
            have lsa := ls9.keep ka nt
            have la' := l9.keep ka nt
            have wa := w9.keep ka nt
            have pa := pen_tb p9 t9 ka
            refine ⟨_, rfl, .inl ⟨rfl, _, .of ea⟩, _, rfl, D, _, _, rfl, rfl, ea, ?_, ?_⟩
            · rw [List.length_map]
              exact lt_size' (by omega)
            · have kO : Keep [D] Ha (upd Ha D (.lst (as.map V.ref ++ [.ref l]))) := (Keep.refl _ Ha).set (List.mem_singleton.mpr rfl)
              have nO : NoT Ha [D] := fun b hb xs z => by
                rw [List.mem_singleton.mp hb, ea] at z
                cases z
              have nd : ∀ (b : Addr) (o : HO), H4 b = some o → b ∉ [D] := fun b o hb z => by
                rw [List.mem_singleton.mp z, hD] at hb
                cases hb
              refine ⟨some (.int (0 + (j : Int))), some (.ref l), as ++ [l], Ls ++ [⟨g, gs, lotRest W g gs⟩], rfl, ?_, ?_, wa.keep kO nO, ?_, (lsa.keep kO nO).snoc (la'.keep kO nO), ?_, ?_, ?_⟩
              · exact (pa.own p4 hD).mono (by omega)
              · intro T hTm
                obtain ⟨ps, e4', _⟩ := t4 T hTm
                exact tab_keep (ta' T hTm) kO (nd T _ e4')
              · rw [upd_same, List.map_append]
                rfl
              · rw [List.length_append, ln6]
                rfl
              · rw [List.length_append, la6]
                rfl
              · intro L hL
                rcases List.mem_append.mp hL with q | q
                · exact gd6 L q
                · rw [List.mem_singleton.mp q]
                  exact good
      · rintro σ H6 ⟨y6, y7, as, Ls, rfl, p6, t6, w6, e6, ls6, ln6, la6, gd6⟩
        obtain ⟨A0, A1, rfl⟩ : ∃ A0 A1, as = [A0, A1] := by
          match as, la6 with
          | [x0, x1], _ => exact ⟨x0, x1, rfl⟩
        obtain ⟨L0, hL0, L1, hL1, lA0, lA1⟩ := ls6.two
        have g0 := gd6 L0 hL0
        have g1 := gd6 L1 hL1
        have shL : Show (.list (Ls.map lotD)) := (Sm.lst (SmAll.map fun L hL => sm_lot (B := bigL) (by decide) ((gd6 L hL).bd ok4))).show (by decide) (by rw [ln6]; decide)
        have dpA : ∀ G : Hp, LotsAt G [A0, A1] Ls → G D = some (.lst ([A0, A1].map V.ref)) → Dp K G (.ref D) (.list (Ls.map lotD)) := fun G h e => .lst (.of e) (dp_lots h)
        generalize PyData.list (Ls.map lotD) = LD at shL dpA
        refine ⟨_, rfl, D, LD, rfl, dpA _ ls6 e6, shL.s, shL.n, shL.dp, shL.z, ?_⟩
        refine ⟨_, rfl, _, rfl, D, _, 0, .ref A0, rfl, rfl, .of e6, rfl, _, rfl, D, _, 1, .ref A1, rfl, rfl, .of e6, rfl, x, A0, A1, W, L0, L1, rfl, w6, ok4, lA0, lA1, g0, g1, t6, fun H7 k7 t7 => ⟨true, rfl, iteF ?_⟩⟩
        have nt := noT_tabs t6
        have e7 := Keep.ob k7 t6 e6 (by intro q z; cases z)
        refine ⟨_, rfl, D, LD, rfl, dpA _ (ls6.keep k7 nt) e7, shL.s, shL.n, shL.dp, shL.z, _, rfl, rfl, _, rfl, iteNS rfl ?_⟩
        refine ⟨_, rfl, x, WD, rfl, dpW _ (w6.keep k7 nt), shW.s, shW.n, shW.dp, shW.z, _, rfl, rfl, _, rfl, iteNS rfl ?_⟩
        exact ⟨_, _, _, _, _, _, _, rfl, (pen_tb p6 t6 k7).mono (by omega), t7⟩
    · rintro σ H2 ⟨y2, y3, y4, y5, y6, y7, y8, rfl, p2, t2⟩
      refine ⟨(by show 2 ≤ sizeLine; decide), fun a1 n1 => ⟨(by show 3 ≤ sizeLine; decide), fun a2 n2 => ⟨(by show 1 ≤ sizeLine; decide), fun a3 n3 => ⟨(by show 2 ≤ sizeLine; decide), fun a4 n4 => ⟨(by show 2 ≤ sizeLine; decide), fun a5 n5 => ⟨Nat.zero_le _, fun a6 n6 => ⟨(by show 5 ≤ sizeLine; decide), fun a7 n7 => ?_⟩⟩⟩⟩⟩⟩⟩
      have kk1 := (Keep.refl [] H2).new (o := .tup [.str "a", .str "b"]) n1
      have kk2 := (Keep.refl [] _).new (o := .tup [.int 0, .int 1, .int 1]) n2
      have kk3 := (Keep.refl [] _).new (o := .tup [.ref a2]) n3
      have kk4 := (Keep.refl [] _).new (o := .tup [.int 3, .int 1]) n4
      have kk5 := (Keep.refl [] _).new (o := .tup [.int 1, .int 2]) n5
      have kk6 := (Keep.refl [] _).new (o := .tup []) n6
      have kk7 := (Keep.refl [] _).new (o := .tup [.ref a1, .ref a3, .ref a4, .ref a5, .ref a6]) n7
      have k17 := kk2.trans (kk3.trans (kk4.trans (kk5.trans (kk6.trans kk7))))
      have k27 := kk3.trans (kk4.trans (kk5.trans (kk6.trans kk7)))
      have k37 := kk4.trans (kk5.trans (kk6.trans kk7))
      have k47 := kk5.trans (kk6.trans kk7)
      have k57 := kk6.trans kk7
      refine ⟨a7, 2, ⟨["a", "b"], [(0, 1, 1)], [3, 1], 1, 2, []⟩, rfl, ?_, ⟨⟨by decide, by decide⟩, ?_, ⟨?_, by decide, List.pairwise_singleton _ _⟩, ⟨by decide, by decide, ⟨1, by decide, by decide⟩⟩, by decide, .inl rfl⟩, t2.keep0 (kk1.trans k17), fun r H3 k3 t3 l3 => ?_⟩
      · refine webAt_mk upd_same (k17 a1 _ (fun z => nilX z) upd_same) ⟨[a2], k37 a3 _ (fun z => nilX z) upd_same, rfl, fun j b x hj hx => ?_⟩ (k47 a4 _ (fun z => nilX z) upd_same) (k57 a5 _ (fun z => nilX z) upd_same) (kk7 a6 _ (fun z => nilX z) upd_same)
        match j, hj, hx with
        | 0, hj, hx =>
          obtain rfl : a2 = b := Option.some.inj hj
          obtain rfl : ((0, 1, 1) : Tie) = x := Option.some.inj hx
          exact k27 a2 _ (fun z => nilX z) upd_same
        | j + 1, hj, _ => exact absurd hj (by simp)
      · intro x hx
        rcases List.mem_cons.mp hx with e | e
        · rw [e]
          exact ⟨by decide +kernel, by decide +kernel⟩
        · rw [List.mem_singleton.mp e]
          exact ⟨by decide +kernel, by decide +kernel⟩
      · intro t ht
        rw [List.mem_singleton.mp ht]
        decide
      · refine ⟨(by show 2 ≤ sizeLine; decide), fun b1 m1 => ⟨(by show 2 ≤ sizeLine; decide), fun b2 m2 => ⟨(by show 3 ≤ sizeLine; decide), fun b3 m3 => ?_⟩⟩⟩
        have er : lotRest ⟨["a", "b"], [(0, 1, 1)], [3, 1], 1, 2, []⟩ 2 (List.replicate 2 0) = [6, 2] := by decide
        have l3' : LotAt H3 r ⟨2, [0, 0], [6, 2]⟩ := by
          have e : (⟨2, List.replicate 2 0, lotRest ⟨["a", "b"], [(0, 1, 1)], [3, 1], 1, 2, []⟩ 2 (List.replicate 2 0)⟩ : Lot) = ⟨2, [0, 0], [6, 2]⟩ := by rw [er]; rfl
          rw [← e]
          exact l3
        have q1 := (Keep.refl [] H3).new (o := .tup [.int 0, .int 0]) m1
        have q2 := (Keep.refl [] _).new (o := .tup [.int 6, .int 2]) m2
        have q3 := (Keep.refl [] _).new (o := .tup [.int 2, .ref b1, .ref b2]) m3
        have l4 := l3'.keep (q1.trans (q2.trans q3)) (noT_nil _)
        have l5 : LotAt (upd (upd (upd H3 b1 (.tup [.int 0, .int 0])) b2 (.tup [.int 6, .int 2])) b3 (.tup [.int 2, .ref b1, .ref b2])) b3 ⟨2, [0, 0], [6, 2]⟩ := ⟨b1, b2, upd_same, (q2.trans q3) b1 _ (fun z => nilX z) upd_same, q3 b2 _ (fun z => nilX z) upd_same⟩
        refine ⟨lotD ⟨2, [0, 0], [6, 2]⟩, lotD ⟨2, [0, 0], [6, 2]⟩, dp_lot l4, dp_lot l5, by decide +kernel, by decide +kernel, ?_⟩
        rw [show PyData.eqv (lotD ⟨2, [0, 0], [6, 2]⟩) (lotD ⟨2, [0, 0], [6, 2]⟩) = true by decide +kernel]
        exact q _
end
end K20
set_option Elab.async false
set_option linter.all false
set_option maxRecDepth 100000
set_option maxHeartbeats 0
set_option exponentiation.threshold 10000
namespace K20
open PySem PySem.Spec PyProof.Rows L2 GL
/-! ### the head -/
def dd (x : Str) (st : Stmt) : He.DefD := ⟨(x, none), x, x, defArgs st, defBody st, defScope st, [], []⟩
def fn : List He.DefD := [dd "row_of" s_row_of, dd "_law_pen" s__law_pen, dd "_law_draw" s__law_draw, dd "_law_pick" s__law_pick, dd "_law_names" s__law_names, dd "_law_leaps" s__law_leaps, dd "_law_ties" s__law_ties, dd "_law_web" s__law_web, dd "column_of" s_column_of, dd "rest_behind" s_rest_behind, dd "lot_by" s_lot_by, dd "begun" s_begun, dd "sums" s_sums, dd "joined" s_joined, dd "is_whole" s_is_whole, dd "are_wholes" s_are_wholes, dd "has_form" s_has_form, dd "is_lot" s_is_lot, dd "_law_row" s__law_row, dd "_law_column" s__law_column, dd "_law_lot" s__law_lot, dd "_law_number" s__law_number, dd "_law_grains" s__law_grains, dd "_law_same" s__law_same, dd "_law_told_right" s__law_told_right, dd "_law_sum" s__law_sum, dd "_law_joined_right" s__law_joined_right, dd "law" s_law]
def fa : List He.Fa := [.glo "row_of", .glo "_law_pen", .glo "_law_draw", .glo "_law_pick", .glo "_law_names", .glo "_law_leaps", .glo "_law_ties", .glo "_law_web", .glo "column_of", .glo "rest_behind", .glo "lot_by", .glo "begun", .glo "sums", .glo "joined", .glo "is_whole", .glo "are_wholes", .glo "has_form", .glo "is_lot", .glo "_law_row", .glo "_law_column", .glo "_law_lot", .glo "_law_number", .glo "_law_grains", .glo "_law_same", .glo "_law_told_right", .glo "_law_sum", .glo "_law_joined_right", .glo "law",
  .free "len", .free "any", .free "tuple", .free "abs", .free "range", .free "int", .free "max", .free "sorted", .free "sum", .free "zip", .free "enumerate", .free "isinstance", .free "bool", .free "all", .free "list", .free "repr"]
def names : List PySem.Str := ["row_of", "_law_pen", "_law_draw", "_law_pick", "_law_names", "_law_leaps", "_law_ties", "_law_web", "column_of", "rest_behind", "lot_by", "begun", "sums", "joined", "is_whole", "are_wholes", "has_form", "is_lot", "_law_row", "_law_column", "_law_lot", "_law_number", "_law_grains", "_law_same", "_law_told_right", "_law_sum", "_law_joined_right"]
abbrev R : PySem.W.OpenRow := PySem.W.OpenLaw.row PySem.Challenge.rw_leapranks_k20_lots_told
abbrev hk : PySem.W.Hook := He.hookX 3 fa fn [] [("row_of", none), ("are_wholes", none), ("sums", none)] (fun _ => true)
def ob (s : PySem.W.SharedT) : He.AlX := He.obsX 3 fa fn [] [("row_of", none), ("are_wholes", none), ("sums", none)] (fun _ => true) (HandSHeadRun.getT s)
theorem ob_eq (s : PySem.W.SharedT) : ob s = hk.obs s.abs := He.obsX_eq (HandSHeadRun.getT_eq s)
theorem run (w : World) : HandSHeadRun.RunEq R (PySem.W.view R.prog [32]) hk ob 2000 names w := by
  intro os
  kernel_rfl
end K20
set_option Elab.async false
set_option linter.all false
set_option maxRecDepth 100000
set_option maxHeartbeats 0
set_option exponentiation.threshold 10000
set_option pp.maxSteps 300
set_option pp.deepTerms false
namespace K20
open PySem PySem.Spec PyProof.Rows L2 GL
theorem code_of {K : PySem.W.Frag} {x : Str} {st : Stmt} {fd : FuncData} (F : FnP K x st (He.fAd K (x, none)) fd) : fd.code = .ref (He.codeOf K (x, none)) := by
  obtain ⟨oc, od, dV, kV, doc, pm, an, cdv, ct, osl, e, lk, hcd, _, _⟩ := F.ex
  obtain ⟨c, rfl⟩ := He.codeIn_ref hcd
  have e1 : fd.code = .ref c := by rw [e]
  rw [He.codeOf_eq lk e1, e1]
theorem facts {P : Program} {w : World} {K : PySem.W.Frag} {h : Heap} {mg : Str → Option Value} {f : Addr} (X : K.In h) (G : h.Ns mainGlobals mg) (hfa : mg ("law" : Str) = some (.ref f))
    (c : He.SaysX fa fn [] [("row_of", none), ("are_wholes", none), ("sums", none)] (fun _ => true) w h K) : LawG P w K 6 63 "_law_script" mg f h := by
  have cd := c.t.d
  obtain ⟨d0, F0⟩ := cd.def_ 0 (d := dd "row_of" s_row_of) rfl
  obtain ⟨d1, F1⟩ := cd.def_ 1 (d := dd "_law_pen" s__law_pen) rfl
  obtain ⟨d2, F2⟩ := cd.def_ 2 (d := dd "_law_draw" s__law_draw) rfl
  obtain ⟨d3, F3⟩ := cd.def_ 3 (d := dd "_law_pick" s__law_pick) rfl
  obtain ⟨d4, F4⟩ := cd.def_ 4 (d := dd "_law_names" s__law_names) rfl
  obtain ⟨d5, F5⟩ := cd.def_ 5 (d := dd "_law_leaps" s__law_leaps) rfl
  obtain ⟨d6, F6⟩ := cd.def_ 6 (d := dd "_law_ties" s__law_ties) rfl
  obtain ⟨d7, F7⟩ := cd.def_ 7 (d := dd "_law_web" s__law_web) rfl
  obtain ⟨d8, F8⟩ := cd.def_ 8 (d := dd "column_of" s_column_of) rfl
  obtain ⟨d9, F9⟩ := cd.def_ 9 (d := dd "rest_behind" s_rest_behind) rfl
  obtain ⟨d10, F10⟩ := cd.def_ 10 (d := dd "lot_by" s_lot_by) rfl
  obtain ⟨d11, F11⟩ := cd.def_ 11 (d := dd "begun" s_begun) rfl
  obtain ⟨d12, F12⟩ := cd.def_ 12 (d := dd "sums" s_sums) rfl
  obtain ⟨d13, F13⟩ := cd.def_ 13 (d := dd "joined" s_joined) rfl
  obtain ⟨d14, F14⟩ := cd.def_ 14 (d := dd "is_whole" s_is_whole) rfl
  obtain ⟨d15, F15⟩ := cd.def_ 15 (d := dd "are_wholes" s_are_wholes) rfl
  obtain ⟨d16, F16⟩ := cd.def_ 16 (d := dd "has_form" s_has_form) rfl
  obtain ⟨d17, F17⟩ := cd.def_ 17 (d := dd "is_lot" s_is_lot) rfl
  obtain ⟨d18, F18⟩ := cd.def_ 18 (d := dd "_law_row" s__law_row) rfl
  obtain ⟨d19, F19⟩ := cd.def_ 19 (d := dd "_law_column" s__law_column) rfl
  obtain ⟨d20, F20⟩ := cd.def_ 20 (d := dd "_law_lot" s__law_lot) rfl
  obtain ⟨d21, F21⟩ := cd.def_ 21 (d := dd "_law_number" s__law_number) rfl
  obtain ⟨d22, F22⟩ := cd.def_ 22 (d := dd "_law_grains" s__law_grains) rfl
  obtain ⟨d23, F23⟩ := cd.def_ 23 (d := dd "_law_same" s__law_same) rfl
  obtain ⟨d24, F24⟩ := cd.def_ 24 (d := dd "_law_told_right" s__law_told_right) rfl
  obtain ⟨d25, F25⟩ := cd.def_ 25 (d := dd "_law_sum" s__law_sum) rfl
  obtain ⟨d26, F26⟩ := cd.def_ 26 (d := dd "_law_joined_right" s__law_joined_right) rfl
  obtain ⟨d27, F27⟩ := cd.def_ 27 (d := dd "law" s_law) rfl
  have g : ∀ (i : Nat) {x : Str}, fa[i]? = some (.glo x) → mg x = some (.ref (He.ga K x)) := fun i x hi => He.glo_ok X G (cd.fact i (f := .glo x) hi)
  have z : ∀ (i : Nat) {x : Str}, fa[i]? = some (.free x) → mg x = none := fun i x hi => He.free_ok X G (cd.fact i (f := .free x) hi)
  have e := hfa.symm.trans (g 27 (x := "law") rfl)
  cases e
  have b := FunD.bindsA (ps := ["_law_script"]) F27 fun _ _ _ _ _ _ us hl => match us, hl with | [_], _ => rfl
  have mem0 : (("row_of", none) : He.Defn) ∈ ([("row_of", none), ("are_wholes", none), ("sums", none)] : List He.Defn) := List.mem_cons_self
  have mem1 : (("are_wholes", none) : He.Defn) ∈ ([("row_of", none), ("are_wholes", none), ("sums", none)] : List He.Defn) := (List.mem_cons_of_mem _ List.mem_cons_self)
  have mem2 : (("sums", none) : He.Defn) ∈ ([("row_of", none), ("are_wholes", none), ("sums", none)] : List He.Defn) := (List.mem_cons_of_mem _ (List.mem_cons_of_mem _ List.mem_cons_self))
  refine ⟨d27, [He.cT K ("row_of", none), He.cT K ("are_wholes", none), He.cT K ("sums", none)], (spLaw K [(He.cT K ("row_of", none)).2, (He.cT K ("are_wholes", none)).2, (He.cT K ("sums", none)).2]), ?_, fun s v => b s [v] rfl, ?_, ?_⟩
  · intro p hp
    rcases List.mem_cons.mp hp with e | hp
    · rw [e]
      exact ⟨c.empty _ mem0, c.out _ mem0, c.hd _ mem0⟩
    rcases List.mem_cons.mp hp with e | hp
    · rw [e]
      exact ⟨c.empty _ mem1, c.out _ mem1, c.hd _ mem1⟩
    · rw [List.mem_singleton.mp hp]
      exact ⟨c.empty _ mem2, c.out _ mem2, c.hd _ mem2⟩
  · intro H a ns hl hT hS
    have TT0 : GxR.TabG H (He.cT K ("row_of", none)).2 := ⟨#[], hT _ (List.mem_cons_self), by first | trivial | exact .nil | simp [TriplesOk]⟩
    have TT1 : GxR.TabG H (He.cT K ("are_wholes", none)).2 := ⟨#[], hT _ ((List.mem_cons_of_mem _ List.mem_cons_self)), by first | trivial | exact .nil | simp [TriplesOk]⟩
    have TT2 : GxR.TabG H (He.cT K ("sums", none)).2 := ⟨#[], hT _ ((List.mem_cons_of_mem _ (List.mem_cons_of_mem _ List.mem_cons_self))), by first | trivial | exact .nil | simp [TriplesOk]⟩
    have tb : Tb H [(He.cT K ("row_of", none)).2, (He.cT K ("are_wholes", none)).2, (He.cT K ("sums", none)).2] := fun T0 h0 => by
      rcases List.mem_cons.mp h0 with e | h0
      · rw [e]; exact TT0
      rcases List.mem_cons.mp h0 with e | h0
      · rw [e]; exact TT1
      rw [List.mem_singleton.mp h0]; exact TT2
    exact ⟨a, ns, rfl, hS, hl, tb, fun _ => rfl⟩
  · intro base inB nsB TB
    have c0 : Cal P w K mg base 1 "row_of" (spRow (He.cT K ("row_of", none)).2) := ⟨_, _, _, ok_row F0 (code_of (st := s_row_of) F0) (TB _ (List.mem_cons_self)) (z 28 rfl) (z 29 rfl) (z 30 rfl), g 0 rfl, F0.kp, F0.bindsN fun _ _ _ _ _ _ us hl => match us, hl with | [_, _], _ => rfl⟩
    have c1 : Cal P w K mg base 1 "_law_pen" (spPen K) := ⟨_, _, _, ok__law_pen F1 , g 1 rfl, F1.kp, F1.bindsN fun _ _ _ _ _ _ us hl => match us, hl with | [_], _ => rfl⟩
    have c2 : Cal P w K mg base 1 "_law_draw" spDraw := ⟨_, _, _, ok__law_draw F2 (z 28 rfl) (z 31 rfl), g 2 rfl, F2.kp, F2.bindsN fun _ _ _ _ _ _ us hl => match us, hl with | [_, _], _ => rfl⟩
    have c3 : Cal P w K mg base 2 "_law_pick" spPick := ⟨_, _, _, ok__law_pick F3 (z 28 rfl) c2, g 3 rfl, F3.kp, F3.bindsN fun _ _ _ _ _ _ us hl => match us, hl with | [_, _], _ => rfl⟩
    have c4 : Cal P w K mg base 3 "_law_names" spNames := ⟨_, _, _, ok__law_names F4 (z 28 rfl) (z 32 rfl) (z 30 rfl) c2 c3, g 4 rfl, F4.kp, F4.bindsN fun _ _ _ _ _ _ us hl => match us, hl with | [_, _], _ => rfl⟩
    have c5 : Cal P w K mg base 3 "_law_leaps" spLeaps := ⟨_, _, _, ok__law_leaps F5 (z 32 rfl) (z 33 rfl) (z 34 rfl) (z 30 rfl) c2 c3, g 5 rfl, F5.kp, F5.bindsN fun _ _ _ _ _ _ us hl => match us, hl with | [_, _], _ => rfl⟩
    have c6 : Cal P w K mg base 3 "_law_ties" spTies := ⟨_, _, _, ok__law_ties F6 (z 28 rfl) (z 32 rfl) (z 30 rfl) (z 35 rfl) c2 c3, g 6 rfl, F6.kp, F6.bindsN fun _ _ _ _ _ _ us hl => match us, hl with | [_, _], _ => rfl⟩
    have c7 : Cal P w K mg base 4 "_law_web" spWeb := ⟨_, _, _, ok__law_web F7 c2 c3 c4 c5 c6, g 7 rfl, F7.kp, F7.bindsN fun _ _ _ _ _ _ us hl => match us, hl with | [_, _], _ => rfl⟩
    have c8 : Cal P w K mg base 2 "column_of" (spCol (He.cT K ("row_of", none)).2) := ⟨_, _, _, ok_column_of F8 (z 36 rfl) (z 30 rfl) c0, g 8 rfl, F8.kp, F8.bindsN fun _ _ _ _ _ _ us hl => match us, hl with | [_, _], _ => rfl⟩
    have c9 : Cal P w K mg base 1 "rest_behind" spBehind := ⟨_, _, _, ok_rest_behind F9 (z 37 rfl), g 9 rfl, F9.kp, F9.bindsN fun _ _ _ _ _ _ us hl => match us, hl with | [_, _, _], _ => rfl⟩
    have c10 : Cal P w K mg base 3 "lot_by" (spLotBy [(He.cT K ("row_of", none)).2, (He.cT K ("are_wholes", none)).2, (He.cT K ("sums", none)).2]) := ⟨_, _, _, ok_lot_by F10 (z 38 rfl) (z 30 rfl) (by simp) c9 c8, g 10 rfl, F10.kp, F10.bindsN fun _ _ _ _ _ _ us hl => match us, hl with | [_, _, _], _ => rfl⟩
    have c11 : Cal P w K mg base 4 "begun" (spBegun [(He.cT K ("row_of", none)).2, (He.cT K ("are_wholes", none)).2, (He.cT K ("sums", none)).2]) := ⟨_, _, _, ok_begun F11 (z 28 rfl) c10, g 11 rfl, F11.kp, F11.bindsN fun _ _ _ _ _ _ us hl => match us, hl with | [_, _], _ => rfl⟩
    have c12 : Cal P w K mg base 1 "sums" (spSums (He.cT K ("sums", none)).2) := ⟨_, _, _, ok_sums F12 (code_of (st := s_sums) F12) (TB _ ((List.mem_cons_of_mem _ (List.mem_cons_of_mem _ List.mem_cons_self)))) (z 30 rfl) (z 37 rfl), g 12 rfl, F12.kp, F12.bindsN fun _ _ _ _ _ _ us hl => match us, hl with | [_, _], _ => rfl⟩
    have c13 : Cal P w K mg base 2 "joined" (spJoined [(He.cT K ("row_of", none)).2, (He.cT K ("are_wholes", none)).2, (He.cT K ("sums", none)).2]) := ⟨_, _, _, ok_joined F13 (by simp) c12, g 13 rfl, F13.kp, F13.bindsN fun _ _ _ _ _ _ us hl => match us, hl with | [_, _], _ => rfl⟩
    have c14 : Cal P w K mg base 1 "is_whole" spWhole := ⟨_, _, _, ok_is_whole F14 (z 39 rfl) (z 33 rfl) (z 40 rfl), g 14 rfl, F14.kp, F14.bindsN fun _ _ _ _ _ _ us hl => match us, hl with | [_], _ => rfl⟩
    have c15 : Cal P w K mg base 2 "are_wholes" (spWholes (He.cT K ("are_wholes", none)).2) := ⟨_, _, _, ok_are_wholes F15 (code_of (st := s_are_wholes) F15) (TB _ ((List.mem_cons_of_mem _ List.mem_cons_self))) ⟨_, _, F14, F14.bindsN fun _ _ _ _ _ _ us hl => match us, hl with | [_], _ => rfl, g 14 rfl⟩ (c.out _ mem1) (z 39 rfl) (z 33 rfl) (z 40 rfl) (z 30 rfl) (z 28 rfl) (z 41 rfl), g 15 rfl, F15.kp, F15.bindsN fun _ _ _ _ _ _ us hl => match us, hl with | [_, _], _ => rfl⟩
    have c16 : Cal P w K mg base 3 "has_form" (spForm [(He.cT K ("row_of", none)).2, (He.cT K ("are_wholes", none)).2, (He.cT K ("sums", none)).2]) := ⟨_, _, _, ok_has_form F16 (z 39 rfl) (z 30 rfl) (z 28 rfl) (by simp) c14 c15, g 16 rfl, F16.kp, F16.bindsN fun _ _ _ _ _ _ us hl => match us, hl with | [_, _], _ => rfl⟩
    have c17 : Cal P w K mg base 4 "is_lot" (spIsLot [(He.cT K ("row_of", none)).2, (He.cT K ("are_wholes", none)).2, (He.cT K ("sums", none)).2]) := ⟨_, _, _, ok_is_lot F17 (z 28 rfl) c16 c10, g 17 rfl, F17.kp, F17.bindsN fun _ _ _ _ _ _ us hl => match us, hl with | [_, _], _ => rfl⟩
    have c18 : Cal P w K mg base 1 "_law_row" spLRow := ⟨_, _, _, ok__law_row F18 (z 34 rfl) (z 42 rfl), g 18 rfl, F18.kp, F18.bindsN fun _ _ _ _ _ _ us hl => match us, hl with | [_, _], _ => rfl⟩
    have c19 : Cal P w K mg base 2 "_law_column" spLCol := ⟨_, _, _, ok__law_column F19 (z 36 rfl) c18, g 19 rfl, F19.kp, F19.bindsN fun _ _ _ _ _ _ us hl => match us, hl with | [_, _], _ => rfl⟩
    have c20 : Cal P w K mg base 3 "_law_lot" spLLot := ⟨_, _, _, ok__law_lot F20 (z 38 rfl) (z 37 rfl) (z 30 rfl) c19, g 20 rfl, F20.kp, F20.bindsN fun _ _ _ _ _ _ us hl => match us, hl with | [_, _, _], _ => rfl⟩
    have c21 : Cal P w K mg base 2 "_law_number" spNumber := ⟨_, _, _, ok__law_number F21 c2, g 21 rfl, F21.kp, F21.bindsN fun _ _ _ _ _ _ us hl => match us, hl with | [_], _ => rfl⟩
    have c22 : Cal P w K mg base 3 "_law_grains" spGrains := ⟨_, _, _, ok__law_grains F22 c2 c3, g 22 rfl, F22.kp, F22.bindsN fun _ _ _ _ _ _ us hl => match us, hl with | [_], _ => rfl⟩
    have c23 : CalG P w K mg base 1 "_law_same" spSame := ⟨_, _, _, ok__law_same F23 (z 39 rfl) (z 30 rfl) (z 43 rfl), g 23 rfl, F23.kp, F23.bindsN fun _ _ _ _ _ _ us hl => match us, hl with | [_, _], _ => rfl⟩
    have c24 : CalG P w K mg base 5 "_law_told_right" (spTold [(He.cT K ("row_of", none)).2, (He.cT K ("are_wholes", none)).2, (He.cT K ("sums", none)).2]) := ⟨_, _, _, ok__law_told_right F24 c10 c23 c17 c11 c20, g 24 rfl, F24.kp, F24.bindsN fun _ _ _ _ _ _ us hl => match us, hl with | [_, _], _ => rfl⟩
    have c25 : Cal P w K mg base 1 "_law_sum" spSum := ⟨_, _, _, ok__law_sum F25 (z 30 rfl) (z 32 rfl) (z 28 rfl), g 25 rfl, F25.kp, F25.bindsN fun _ _ _ _ _ _ us hl => match us, hl with | [_, _], _ => rfl⟩
    have c26 : CalG P w K mg base 5 "_law_joined_right" (spJR [(He.cT K ("row_of", none)).2, (He.cT K ("are_wholes", none)).2, (He.cT K ("sums", none)).2]) := ⟨_, _, _, ok__law_joined_right F26 c25 c13 c23 c17, g 26 rfl, F26.kp, F26.bindsN fun _ _ _ _ _ _ us hl => match us, hl with | [_, _, _], _ => rfl⟩
    exact ok_law F27 (z 32 rfl) (z 43 rfl) c1 c3 c7 c22 c21 c20 c24 c26 c11
end K20
open PySem PySem.W PySem.Calls PyProof.Rows
theorem PySem.Challenge.cw_leapranks_k20_lots_told_holds : PySem.Challenge.rw_leapranks_k20_lots_told.Holds := by
  w_on; o_law
  refine HandSHeadRun.head_any (r := OpenLaw.row PySem.Challenge.rw_leapranks_k20_lots_told) (q := view (OpenLaw.row PySem.Challenge.rw_leapranks_k20_lots_told).prog [32]) (H := K20.hk) (ob := K20.ob) (M := 2000) (loose := K20.names) (d := HandSHeadRun.topDef (OpenLaw.row PySem.Challenge.rw_leapranks_k20_lots_told).prog 32) (kwd := []) K20.ob_eq
    (by kernel_rfl) (fun s => by kernel_rfl) K20.run (by kernel_rfl) (by kernel_rfl) (by kernel_rfl) (by rfl) (by first | assumption | decide +kernel) (by decide +kernel) ⟨rfl, rfl, rfl, rfl, rfl, by decide +kernel⟩ ?hw ?hc
  case hw => w_witness2
  case hc =>
    refine GL.walk_G (l := PySem.Challenge.rw_leapranks_k20_lots_told) (n := 63) (k := 6) (x := "_law_script") rfl (by decide) (by kernel_rfl) ⟨rfl, by decide, by decide⟩ ?F
    intro w mg fa h Y G hmg0
    obtain ⟨K, KX, c⟩ := Y
    have hmg : mg ("law" : PySem.Str) = some (.ref fa) := by
      have e : (HandSHeadRun.topDef (OpenLaw.row PySem.Challenge.rw_leapranks_k20_lots_told).prog 32).name = ("law" : PySem.Str) := by kernel_rfl
      rw [← e]
      exact hmg0
    exact ⟨K, KX, K20.facts KX G hmg c⟩
