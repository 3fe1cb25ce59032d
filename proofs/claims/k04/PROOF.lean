import PyProof.Rows.All
import Wide.All
import OpenK.AllK
import Wide.FinOn
import PyProof.ReprRoads
import PyProof.TupleOfGen
import HandS.ForMost
import HandS.Wide
import HandS.Defaults
import HandS.AnyAll
import HandS.JoinGen
import HandS.EndBits
import KE.KLam
import KE.KNestM
import PyProof.GenCompD
import PyProof.TupleIter
import PyProof.Walks
import KE.KTupSum
import KE.GoesMore
import KE.GoesEnum
import PyProof.ReprBulk
import PyProof.ReprRoom
import KE.KDictSum
import HandS.SortRule
import HandS.TupLen
import HandS.TupMul
import HandS.Iter
import HandS.TupAny
import HandS.Conv
import HandS.IsInst
import HandS.RaiseMore
import HandS.Text
import KE.KStateDown
import Lean
import HandS.More
import HandS.WordsExc
import HandS.Head0
import HandS.Head1
import HandS.Head2
import HandS.HeadEnd
import HandS.HeadHook1
import HandS.HeadHook2
import HandS.HeadHook3
import HandS.HeadHook4
import PySem.Challenge.RW_leapranks_k04_columns_and_sizes
set_option Elab.async false
set_option linter.all false
set_option maxRecDepth 100000
set_option maxHeartbeats 2000000
/-! Defs that are called where no repr is under way (so that they may call repr), and repr of nested data. -/
namespace GL
open PySem PySem.Spec PyProof.Rows L2
variable {P : Program} {w : World} {K : PySem.W.Frag} {mg : Str → Option Value} {base : Heap} {CX : CXT} {k : Nat} {f : Addr} {fd : FuncData} {ps : List Str} {sp : Sp}

structure FnG (P : Program) (w : World) (K : PySem.W.Frag) (mg : Str → Option Value) (base : Heap) (CX : CXT) (k : Nat) (f : Addr) (fd : FuncData) (ps : List Str) (sp : Sp) : Prop where
  len : ∀ vs H Q E, sp vs H Q E → vs.length = ps.length
  run : ∀ (A : Around) (outer : List Env) (s : Shared) (H : Hp) (args : Args) (us : List Value) (vs : List V) (Q : VK) (E : XK), A.guards = some [] → Room k A →
    Env0 P w K mg base A outer s H → BindsTo s fd args (ps.zip us) → Vals vs us → sp vs H Q E →
    codeAny (model P w) A (.call (.ref f) args) (CR CX outer P w H s Q E) s

theorem FnG.of (F : FnOk P w K mg base CX k f fd ps sp) : FnG P w K mg base CX k f fd ps sp :=
  ⟨F.len, fun A outer s H args us vs Q E _ hr e0 hb r h => F.run A outer s H args us vs Q E hr e0 hb r h⟩

/-- by its body, as for every def, but the guards are known -/
theorem okG {x qual : Str} {params : Arguments} {body : List Stmt} {scope : Scope} {dvs : List V} {kws : List (Str × V)} {N : List Str} (F : FunD K x qual params body scope dvs kws f fd) (S : FnScope N ps scope)
    (len : ∀ vs H Q E, sp vs H Q E → vs.length = ps.length)
    (hbody : ∀ (cdv : Value) (A : Around) (outer : List Env) (s : Shared) (H : Hp) (vs : List V) (Q : VK) (E : XK), A.guards = some [] →
      Room k (A.deeper (envOfC qual scope s.heap.objs.size f cdv)) → sp vs H Q E →
      ∃ t, PSs (cxOf CX0 P w K mg base N qual scope f cdv A outer s H E).nox body t ∧ t { nx := fun _ H' => Q .non H', rt := Q } (start N vs) H) :
    FnG P w K mg base CX0 (k + 1) f fd ps sp := by
  obtain ⟨oc, od, dV, kV, doc, pm, an, cdv, ct, osl, rfl, lk, hcd, _, _⟩ := F.ex
  refine ⟨len, ?_⟩
  intro A outer s H args us vs Q E gd hr e0 hb r hsp
  have l0 := len _ _ _ _ hsp
  have stay : ∀ b o, base.get? b = some o → s.heap.get? b = some o := fun b o e => (e0.bs b o e).1
  have inK : K.In s.heap := e0.mod.kin.keeps stay
  have par : ∀ y ∈ ps.zip us, scope.names.lookup y.1 = some .local ∨
      (scope.names.lookup y.1 = some .cell ∧ ((cellsFrom (s.heap.objs.size + 1) scope.names []).lookup y.1).isSome = true) := by
    intro y hy
    exact (S.par y.1 (List.of_mem_zip (a := y.1) (b := y.2) hy).1).imp (fun q => q) (fun q => ⟨q, PySem.W.cellsFrom_some _ _ _ (.inl q)⟩)
  refine codeAny_call_function hr.depth (inK _ _ lk) rfl S.co S.gen rfl (PySem.W.codeRec_of inK hcd) (hb _ _ _ _ ?_)
  refine wpAny_newFunctionEnv_cells S.kind par ?_
  intro env he s1 x
  subst he
  refine ⟨(e0.mod.nolimit.keeps stay).keeps x.toInCall.keep, codeAny_func ?_⟩
  obtain ⟨t, ht, hq⟩ := hbody cdv A outer s H vs Q E gd (hr.deeper _) hsp
  have I := inv_start (CX := CX0) (E := E) S hr.hd e0 l0 r x
  refine wpAny_mono (ht.nox.run [] s1 (start N vs) H _ I hq) ?_ (fun _ _ z => z)
  intro fl s' hs
  match fl, hs with
  | .ret u, ⟨v, σ', H', J, rv, q⟩ => exact ⟨v, H', J.os, J.bare, J.base, J.hok, rv, q⟩
  | .next, ⟨σ', H', J, q⟩ => exact ⟨V.non, H', J.os, J.bare, J.base, J.hok, rfl, q⟩
  | .brk, ⟨_, _, _, q⟩ => exact q.elim
  | .cont, ⟨_, _, _, q⟩ => exact q.elim

section
variable {X : Cx} {dvs : List V} {ds : List Value} {E : XK} {x : Str} {p pos : Pos} {e : Expr} {es : List Expr} {t : TA}
/-- the call of such a def -/
theorem pe_callG (F : FnG X.prog X.w X.K X.mg X.base CX k f fd ps sp) (gd : X.A.guards = some []) (hr : Room k X.A) (hg : Gl X x) (hm : X.mg x = some (.ref f)) (hk : PySem.W.keepIn X.K (.ref f) = true) (hb : Binds X.K fd ps ds) (hd : Vals dvs ds)
    (hx : Passes CX X E) (ha : PA X (e :: es) t) (hdb : (x == ("__debug__" : Str)) = false := by decide)
    (he : starEach (e :: es) X.env = (false, eval e X.env) :: starEach es X.env := by rfl) (hpl : (backTo pos (starEach es X.env)).any (·.1) = false := by rfl) :
    PE X (.Call (.Name x p) (e :: es) [] pos) (tCall sp dvs E t) := by
  constructor
  intro pins s σ H Q I h
  refine wpAny_Call_Name_kw (ld_glob I hg hm (PySem.W.callWith_K (h₀ := X.base) I.ok.mod.kin hk (thn (ha.run pos pins s σ H _ I h) ?_) he hpl) hdb)
  rintro us s1 ⟨vs, H1, I1, r, q⟩
  refine ⟨I1.kIn, ?_⟩
  have r2 := r.append hd
  have hl : (us ++ ds).length = ps.length := r2.length.symm.trans (F.len _ _ _ _ q)
  refine wpAny_call (codeAny_mono (F.run X.A X.stack s1 H1 ⟨us, []⟩ (us ++ ds) (vs ++ dvs) Q E gd hr I1.env0 (hb s1 us I1.kIn hl) r2 q) ?_)
  intro r0 s' hq
  match r0, hq with
  | .error e, hq => exact hx pins σ H1 s1 e s' I1 hq
  | .ok (.ret u), hq => exact I1.after hq
  | .ok .next, hq => exact hq.elim
  | .ok .brk, hq => exact hq.elim
  | .ok .cont, hq => exact hq.elim

/-- repr of data -/
def rRepr (K : PySem.W.Frag) : List V → Hp → VK → Prop := fun xs H Q => ∃ (a : Addr) (d : PyData), xs = [.ref a] ∧ Dp K H (.ref a) d ∧ d.showable = true ∧ d.hasDict = false ∧ d.depth ≤ 60 ∧ d.shown.length ≤ sizeLine ∧ Q (.str d.shown) H
theorem call_repr (gd : X.A.guards = some []) (hu : X.A.units + 64 < cLine) : CallR X (.builtin "repr") (rRepr X.K) := by
  intro pins s σ H xs us Q I r h
  obtain ⟨a, d, rfl, hd, h1, h2, h3, h4, q⟩ := h
  obtain ⟨u, rfl, ru⟩ := vals1 r
  obtain rfl : u = Value.ref a := ru
  obtain ⟨as, rd⟩ := Dp.reads I d _ _ hd (show RelV (.ref a) (Value.ref a) from rfl)
  refine repr_of_reads' rd h1 (fun z => by rw [h2] at z; cases z) gd (by omega) (fun _ _ e => e) ?_ h4
  intro h' u tk hk
  exact ⟨.str _, H, I.kept hk, ⟨_, rfl⟩, q⟩
end
end GL
set_option Elab.async false
set_option linter.all false
set_option maxRecDepth 100000
set_option maxHeartbeats 2000000
/-! The end of a law over defs as in GLa; tables of code objects (generator expressions) are tracked. -/
namespace GL
open PySem PySem.Spec PyProof.Rows L2

/-- the heap at the law's entry: the tables, the script -/
def atLaw (K : PySem.W.Frag) (tabs : List Addr) (a : Addr) (o : Obj) (ns : List Int) : Hp := fun b =>
  if b ∈ tabs then some (.tbl #[]) else if b = a ∧ K.lookup a = none then some (.frz o (.lst (ns.map V.int))) else none

/-- what is wanted of the law: where its def stands, which tables there are, its promise -/
structure LawG (P : Program) (w : World) (K : PySem.W.Frag) (k n : Nat) (x : Str) (mg : Str → Option Value) (fa : Addr) (h : Heap) : Prop where
  ex : ∃ (fd : FuncData) (cs : List (Addr × Addr)) (sp : Sp),
    (∀ p ∈ cs, h.get? p.2 = some { cls := .none, data := .fields #[] } ∧ K.lookup p.2 = none ∧ PySem.W.codeHdIn K p.1 p.2 = true) ∧
    (∀ (s : Shared) (u : Value), BindsTo s fd ⟨[u], []⟩ [(x, u)]) ∧
    (∀ (H : Hp) (a : Addr) (ns : List Int), ns.length ≤ n → (∀ p ∈ cs, H p.2 = some (.tbl #[])) → SqL K H a (ns.map V.int) → sp [.ref a] H (fun v _ => v = .bl true) fun _ _ _ => False) ∧
    ∀ base : Heap, K.In base → base.Ns mainGlobals mg → (∀ p ∈ cs, GxR.TabB base mg p.1 p.2) → FnG P w K mg base CX0 k fa fd [x] sp

theorem law_callG {P : Program} {w : World} {K : PySem.W.Frag} {mg mb : Str → Option Value} {k n : Nat} {fa a : Addr} {x : Str} {s : Shared} {vs : List Value} {ns : List Int}
    (L : LawG P w K k n x mg fa s.heap) (inK : K.In s.heap) (g : s.heap.Ns mainGlobals mg) (b : s.heap.Ns builtinsNs mb) (bb : ∀ y : Str, y ≠ "__name__" → mb y = bootBuiltins y) (lim : s.heap.NoLimit) (gn : s.gens = #[])
    (bm : ∃ (bm : Addr) (ob : Obj), mg "__builtins__" = some (.ref bm) ∧ bm ≠ builtinsNs ∧ s.heap.get? bm = some ob ∧ ob.cls = .type "module" ∧ ob.dict = some builtinsNs ∧ ob.data = .plain)
    (ha : s.heap.get? a = some { cls := .type "list", data := .seq vs.toArray }) (hi : IntsAre vs ns) (hl : ns.length ≤ n) (hl2 : n ≤ sizeLine) (hr : Room k callerA) :
    codeAny (model P w) callerA (.call (.ref fa) ⟨[.ref a], []⟩) (fun r s' => r = .ok (.ret (.bool true)) ∧ OldK s.heap s'.heap ∧ s'.os = s.os ∧ AllBare s'.gens) s := by
  obtain ⟨fd, cs, sp, T, bd, hsp, F⟩ := L.ex
  let so : Obj := { cls := .type "list", data := .seq vs.toArray }
  let tabs := cs.map (·.2)
  have tab : ∀ c ∈ tabs, s.heap.get? c = some { cls := .none, data := .fields #[] } ∧ K.lookup c = none := by
    intro c hc
    obtain ⟨p, hp, rfl⟩ := List.mem_map.mp hc
    exact ⟨(T p hp).1, (T p hp).2.1⟩
  have at_ : a ∉ tabs := by
    intro hc
    have e := (tab a hc).1
    rw [ha] at e
    exact absurd (congrArg Obj.data (Option.some.inj e)) (by intro z; cases z)
  let H : Hp := atLaw K tabs a so ns
  have Ht : ∀ c ∈ tabs, H c = some (.tbl #[]) := fun c hc => if_pos hc
  have Ha : K.lookup a = none → H a = some (.frz so (.lst (ns.map V.int))) := fun e => (if_neg at_).trans (if_pos ⟨rfl, e⟩)
  have Hk : ∀ c o, H c = some o → (c ∈ tabs ∧ o = .tbl #[]) ∨ (c ∉ tabs ∧ c = a ∧ K.lookup a = none ∧ o = .frz so (.lst (ns.map V.int))) := by
    intro c o e
    by_cases hc : c ∈ tabs
    · exact .inl ⟨hc, (Option.some.inj ((Ht c hc).symm.trans e)).symm⟩
    · by_cases h2 : c = a ∧ K.lookup a = none
      · have e2 : H c = some (.frz so (.lst (ns.map V.int))) := (if_neg hc).trans (if_pos h2)
        exact .inr ⟨hc, h2.1, h2.2, (Option.some.inj (e2.symm.trans e)).symm⟩
      · have e2 : H c = none := (if_neg hc).trans (if_neg h2)
        rw [e2] at e
        cases e
  have script : SqL K H a (ns.map V.int) := by
    cases e : K.lookup a with
    | none => exact .inl (.inr ⟨so, Ha e⟩)
    | some o =>
      have e2 := inK a o e
      rw [ha] at e2
      obtain rfl := Option.some.inj e2
      refine .inr ⟨_, vs.toArray, _, e, rfl, rfl, rfl, ?_, ?_⟩
      · rw [List.size_toArray, hi.length]
        omega
      · exact vals_ints hi
  have hok : HOk P w H s.heap := by
    intro c o e
    rcases Hk c o e with ⟨hc, rfl⟩ | ⟨_, rfl, _, rfl⟩
    · exact (tab c hc).1
    · refine ⟨ha, ?_, vs, _, vals_ints hi, ha⟩
      rw [List.length_map]
      omega
  have free : ∀ {c : Addr} {o : Obj}, s.heap.get? c = some o → (∀ q m, o.data ≠ .seq q m) → o.data ≠ .fields #[] → H c = none := by
    intro c o e h1 h2
    cases q : H c with
    | none => rfl
    | some u =>
      rcases Hk c u q with ⟨hc, _⟩ | ⟨_, rfl, _, _⟩
      · rw [(tab c hc).1] at e
        exact absurd (congrArg Obj.data (Option.some.inj e)).symm h2
      · rw [ha] at e
        exact absurd (congrArg Obj.data (Option.some.inj e)).symm (h1 _ _)
  have names : ∀ {c : Addr} {m : Str → Option Value}, s.heap.Ns c m → (hidT s.heap H).Ns c m := by
    rintro c m ⟨o, es, ep, e, d, r⟩
    exact ⟨o, es, ep, hidT_get e (free e (fun q m z => by rw [d] at z; cases z) (fun z => by rw [d] at z; cases z)), d, r⟩
  have inB : K.In (hidT s.heap H) := by
    intro c o e
    refine hidT_get (inK c o e) ?_
    cases q : H c with
    | none => rfl
    | some u =>
      rcases Hk c u q with ⟨hc, _⟩ | ⟨_, rfl, h0, _⟩
      · rw [(tab c hc).2] at e
        cases e
      · rw [h0] at e
        cases e
  obtain ⟨mc, l1, l2⟩ := lim
  have M : L2.Mod K mg (hidT s.heap H) := ⟨inB, names g, ⟨mb, names b, bb⟩, ⟨mc, names l1, l2⟩⟩
  have TB : ∀ p ∈ cs, GxR.TabB (hidT s.heap H) mg p.1 p.2 := by
    intro p hp
    obtain ⟨t1, t2, t3⟩ := T p hp
    obtain ⟨gm, ob, c1, c2, c3, c4, c5, c6⟩ := bm
    have ng : ∀ {m : Str → Option Value} {c : Addr}, s.heap.Ns c m → ∃ o es ep, s.heap.get? c = some o ∧ o.data = .dict es ep := fun ⟨o, es, ep, e, d, _⟩ => ⟨o, es, ep, e, d⟩
    obtain ⟨og, es, ep, e1, e2⟩ := ng g
    refine ⟨PySem.W.codeHd_of_K inB t3, ⟨gm, ob, c1, c2, ?_, ?_, hidT_get c3 (free c3 (fun q m z => by rw [c6] at z; cases z) (fun z => by rw [c6] at z; cases z)), c4, c5, c6⟩, ?_⟩
    · intro z
      rw [z, e1] at c3
      cases c3
      rw [e2] at c6
      cases c6
    · intro z
      rw [z, t1] at c3
      cases c3
      cases c6
    · intro z
      rw [z, t1] at e1
      cases e1
      cases e2
  have e0 : Env0 P w K mg (hidT s.heap H) callerA [] s H := ⟨rfl, M, fun _ _ e => of_hidT e, Nat.le_of_eq (hidT_size _ _), trivial, fun _ z => (nomatch z), hok, .of_eq gn⟩
  have go := (F _ inB (names g) TB).run callerA [] s H ⟨[.ref a], []⟩ [.ref a] [.ref a] _ _ rfl hr e0 (bd s (.ref a)) (.cons rfl .nil) (hsp H a ns hl (fun p hp => Ht _ (List.mem_map.mpr ⟨p, hp, rfl⟩)) script)
  refine codeAny_mono go ?_
  intro r s' hq
  match r, hq with
  | .error _, hq => exact hq.elim
  | .ok .next, hq => exact hq.elim
  | .ok .brk, hq => exact hq.elim
  | .ok .cont, hq => exact hq.elim
  | .ok (.ret u), ⟨v, H', os, bare, un, hok', rv, qv⟩ =>
    have qv2 : v = .bl true := qv
    subst qv2
    obtain rfl : u = Value.bool true := rv
    have kept : ∀ c o, c ∉ tabs → s.heap.get? c = some o → s'.heap.get? c = some o := by
      intro c o hc e
      cases q : H c with
      | none => exact un.keep c o e q (fun z => (nomatch z)) (fun z => (nomatch z))
      | some u =>
        rcases Hk c u q with ⟨h1, _⟩ | ⟨_, rfl, _, rfl⟩
        · exact absurd h1 hc
        · have e1 := (hok' c _ (un.frzs c so _ q)).1
          rw [ha] at e
          cases e
          exact e1
    have grown : ∀ c ∈ tabs, ∃ more : Array Value, s'.heap.get? c = some { cls := .none, data := .fields more } := by
      intro c hc
      obtain ⟨more, z⟩ := un.tbls c #[] (Ht c hc)
      exact ⟨_, hok' c _ z⟩
    refine ⟨rfl, ⟨?_, ?_⟩, os, bare⟩
    · intro c o e
      by_cases hc : c ∈ tabs
      · obtain ⟨more, hm⟩ := grown c hc
        obtain ⟨p, hp, rfl⟩ := List.mem_map.mp hc
        have t1 := (T p hp).1
        rw [t1] at e
        cases e
        exact .inr (.inl ⟨((PySem.W.codeHd_of_K inK (T p hp).2.2).tab t1).isCodeTable, rfl, #[], more, rfl, by rw [Array.empty_append]; exact hm⟩)
      · exact .inl (kept c o hc e)
    · intro c o e
      by_cases hc : c ∈ tabs
      · exact let ⟨_, hm⟩ := grown c hc; ⟨_, hm⟩
      · exact ⟨o, kept c o hc e⟩

theorem walk_G {l : PySem.W.OpenLaw} {n k : Nat} {q : Program} {loose : List Str} {XP : (Str → Option Value) → Heap → Prop} {YP : World → Heap → Prop} {d : DefRec} {x : Str}
    (hn : l.most = some n) (hn2 : n ≤ sizeLine) (hdf : d.params.defaults = []) (hr : Room k callerA)
    (F : ∀ (w : World) (mg : Str → Option Value) (fa : Addr) (h : Heap), YP w h → h.Ns mainGlobals mg → mg d.name = some (.ref fa) → ∃ K : PySem.W.Frag, K.In h ∧ LawG l.prog w K k n x mg fa h) :
    PySem.W.WalkO q loose XP YP l.row.toRowW d [] (fun f vs => PySem.call f vs) := by
  refine Att.attach_callB hn hdf ?_
  intro w s0 s mg mb fa o pm cd doc a vs ns G Y ho hd hcd hmg hobj hints hlen hbits hg
  obtain ⟨K, inK, L⟩ := F w mg fa _ Y G.T.g hmg
  exact law_callG L inK G.T.g G.T.b G.T.builtins G.T.nolimit hg G.T.bmain hobj hints hlen hn2 hr
end GL
set_option Elab.async false
set_option linter.all false
set_option maxRecDepth 100000
set_option maxHeartbeats 2000000
/-! Generator expressions over a list or a tuple, one for, no test; consumers: tuple, any, all. -/
namespace GL
open PySem PySem.Spec PyProof.Rows L2

/-- what is walked: an iterator may be made of the object at a, that gives its in turn -/
def Src (prog : Program) (w : World) (s : Shared) (a : Addr) (its : List Value) : Prop := ∃ (o : Obj) (St : Nat → Heap → Prop),
  (∀ (A : Around) (E : Value → Shared → Prop) (Q : Value → Shared → Prop), Q (.ref s.heap.objs.size) { s with heap := s.heap.push o } → wpAny (model prog w) A (pyIter (.ref a)) Q E s) ∧
  (∀ A' : Around, A'.handled = none → Walks prog w A' s.heap.objs.size [s.heap.objs.size, a] [s.heap.objs.size] its.toArray.size (fun i v => its.toArray[i]? = some v) St) ∧
  St 0 (s.heap.push o) ∧ ∃ ob q n, s.heap.get? a = some ob ∧ ob.data = .seq q n

theorem src_list {prog : Program} {w : World} {s : Shared} {a : Addr} {its : List Value} (h : s.heap.IsList a its.toArray) : Src prog w s a its := by
  have lt : a < s.heap.objs.size := let ⟨_, e, _⟩ := h; Heap.lt_size e
  refine ⟨_, _, fun A E Q q => wpAny_pyIter_list h q, fun A' hA => Walks.list hA _ _ (Nat.ne_of_lt lt) _, ⟨⟨_, Heap.get?_push_size _ rfl, rfl, rfl⟩, ?_⟩, ?_⟩
  · obtain ⟨ob, e, r⟩ := h
    exact ⟨ob, Heap.get?_push_of_some _ e, r⟩
  · obtain ⟨ob, e, h1, h2, h3⟩ := h
    exact ⟨ob, _, _, e, h3⟩
theorem src_tuple {prog : Program} {w : World} {s : Shared} {a : Addr} {its : List Value} (h : s.heap.IsTuple a its.toArray) : Src prog w s a its := by
  have lt : a < s.heap.objs.size := let ⟨_, e, _⟩ := h; Heap.lt_size e
  refine ⟨_, _, fun A E Q q => wpAny_pyIter_tuple h q, fun A' hA => Walks.tuple hA _ _ (Nat.ne_of_lt lt) _, ⟨⟨_, Heap.get?_push_size _ rfl, rfl, rfl⟩, h.push _⟩, ?_⟩
  obtain ⟨ob, e, h1, n, h2⟩ := h
  exact ⟨ob, _, n, e, h2⟩

section
variable {X : Cx} {pins : List (Addr × Obj)} {σ : L2.St} {H : Hp} {s : Shared}

/-- the element: of an item v with dom v it is f v; what the def holds in cells may be read -/
def EltG (X : Cx) (P : Addr) (scope : Scope) (x : Str) (elt : Expr) (σ : L2.St) (dom : V → Prop) (f : V → V) : Prop :=
  ∀ (pins : List (Addr × Obj)) (H1 : Hp) (s1 : Shared) (cenv : Env) (A' : Around) (E' : Value → Shared → Prop) (v : V) (u : Value) (s2 : Shared) (m2 : Str → Option Value),
    Inv X pins σ H1 s1 → GxR.TabG H1 P → cenv.scope = scope → cenv.cells = cloFrom X.env.cells scope.names [] → A'.handled = none → A'.depth ≤ X.A.depth + 1 → A'.units ≤ X.A.units + 8 → dom v → RelV v u →
    s2.heap.Ns cenv.locals m2 → m2 x = some u → (∀ b o, b ≠ P → s1.heap.get? b = some o → s2.heap.get? b = some o) →
    wpAny (model X.prog X.w) A' (eval elt cenv) (fun y s3 => RelV (f v) y ∧ Keeps s2 s3) E' s2

/-- the generator g, ready to give the values f of xs; H1: what was held before -/
def ReadyG (X : Cx) (pins : List (Addr × Obj)) (σ : L2.St) (H1 : Hp) (P : Addr) (xs : List V) (f : V → V) (g : Addr) (s5 : Shared) : Prop :=
  ∃ (fp wr : List Addr) (G : Array GenState → Array GenState → Prop) (F : Nat → Value → Prop) (St : Nat → Shared → Prop),
    WalksS X.prog X.w X.A.in4 g fp wr G xs.length F St ∧ St 0 s5 ∧ (∀ b ∈ fp, b < s5.heap.objs.size) ∧ g ∈ fp ∧ (∀ i s9, St i s9 → s9.TypeIs (.ref g) "generator") ∧
    (∀ j y, F j y → ∃ v, xs[j]? = some v ∧ RelV (f v) y) ∧ ∀ s', Moved wr G s5 s' → ∃ H2, GxR.Tabbed P H1 H2 ∧ Inv X pins σ H2 s'

theorem gen_seq {c P : Addr} {elt iter : Expr} {x : Str} {px gpos : Pos} {scope : Scope} {dom : V → Prop} {f : V → V} {te : TE} {k : Nat} {Q' : Value → Shared → Prop} {R : List V → Hp → Prop}
    (hr : Room k X.A) (TB : GxR.TabB X.base X.mg c P) (hcode : X.env.code = .ref c) (S : GxR.GenS X.env scope x) (hi : PE X iter te) (hel : EltG X P scope x elt σ dom f)
    (hs : ∀ v, genFold iter X.env v = pure v) (I : Inv X pins σ H s)
    (h : te σ H fun v H1 => ∃ (a : Addr) (xs : List V), v = .ref a ∧ (SqL X.K H1 a xs ∨ SqT X.K H1 a xs) ∧ (∀ v ∈ xs, dom v) ∧ GxR.TabG H1 P ∧ R xs H1)
    (hQ : ∀ xs H1 g s5, R xs H1 → ReadyG X pins σ H1 P xs f g s5 → Q' (.ref g) s5) :
    wpAny (model X.prog X.w) X.A (eval (.GeneratorExp elt [⟨.Name x px, iter, [], 0⟩] scope gpos) X.env) Q' X.xe s := by
  refine wpAny_GeneratorExp_walksQD hr.hd S.co (closure_ok S.free) S.cell S.dot S.loc S.kind (by have := hr.dp; omega) ?_ hs
  refine thn (hi.run pins s σ H _ I h) ?_
  rintro xv s1 ⟨v, H1, I1, r1, a, xs, rfl, sq, hdom, hT, q1⟩
  obtain rfl : xv = Value.ref a := r1
  obtain ⟨its, rv, ⟨o, St, mk, W, hst, ob, qs, nq, hob, hod⟩⟩ : ∃ its : List Value, Vals xs its ∧ Src X.prog X.w s1 a its := by
    rcases sq with sq | sq
    · obtain ⟨its, rv, hl, _⟩ := I1.list sq
      exact ⟨its, rv, src_list hl.isList⟩
    · obtain ⟨its, rv, hl, _⟩ := I1.tuple sq
      exact ⟨its, rv, src_tuple hl⟩
  have nlen : its.toArray.size = xs.length := by rw [List.size_toArray]; exact rv.length.symm
  have item : ∀ (i : Nat) (u : Value), its.toArray[i]? = some u → ∃ v, xs[i]? = some v ∧ RelV v u := by
    intro i u hu
    have hu2 : its[i]? = some u := by simpa using hu
    have hi2 : i < xs.length := by rw [rv.length]; exact (List.getElem?_eq_some_iff.mp hu2).1
    obtain ⟨u', e1, e2⟩ := rv.get (List.getElem?_eq_getElem hi2)
    rw [hu2] at e1
    cases e1
    exact ⟨_, List.getElem?_eq_getElem hi2, e2⟩
  refine mk _ _ _ ?_
  obtain ⟨ps, hP, ht⟩ := _root_.id hT
  have gP : s1.heap.get? P = some { cls := .none, data := .fields ps } := I1.hok P _ hP
  have ltP : P < s1.heap.objs.size := Heap.lt_size gP
  have lta : a < s1.heap.objs.size := Heap.lt_size hob
  have neP : ∀ {b : Addr} {u : Obj}, s1.heap.get? b = some u → u.data ≠ .fields ps → b ≠ P := by
    intro b u e d z
    rw [z, gP] at e
    cases e
    exact d rfl
  have aP : a ≠ P := neP hob (by rw [hod]; intro z; cases z)
  have P2 : (s1.heap.push o).get? P = some { cls := .none, data := .fields ps } := Heap.get?_push_of_some _ gP
  have lim : (s1.heap.push o).NoLimit := I1.nolimit.push o
  have cd : PySem.W.CodeHd (s1.heap.push o) c P := TB.code.keeps fun b u e => Heap.get?_push_of_some _ (I1.bk b u e)
  have szo : (s1.heap.push o).objs.size = s1.heap.objs.size + 1 := Heap.size_push ..
  -- behind the code object's making: h3, the table ps'
  have go : ∀ (code : Value) (h3 : Heap) (tk : Nat) (ps' : Array Value), Heap.ExtBut P (s1.heap.push o) h3 → (s1.heap.push o).objs.size ≤ h3.objs.size → h3.get? P = some { cls := .none, data := .fields ps' } →
      (∃ more, ps' = ps ++ more) → TriplesOk ps'.toList → wpAny (model X.prog X.w) X.A (builtinsFor X.env.globals X.env.builtins) (fun bi s4 =>
        ∃ Ia fp wr n0 Pf St0 pz F, Value.ref s1.heap.objs.size = .ref Ia ∧ (∀ A' : Around, A'.handled = none → Walks X.prog X.w A' Ia fp wr n0 Pf St0) ∧ St0 0 s4.heap ∧ (∀ b ∈ fp, b < s4.heap.objs.size) ∧ s4.heap.NoLimit ∧ cStatics ∉ wr ∧
          (∀ href : Heap, (∀ b o, s4.heap.get? b = some o → href.get? b = some o) →
            QuietGenD X.prog X.w (genEnv scope (cloFrom X.env.cells scope.names []) s4.heap.objs.size code bi X.env) x [] elt (List.range s4.heap.objs.size) wr Pf pz F href (X.A.depth + 1) (X.A.units + 8)) ∧
          (∀ a h5 tk gs, gs.bare = true → s4.heap.objs.size < a → h5.objs.size = a + 1 → (∀ b o, s4.heap.get? b = some o → h5.get? b = some o) →
            WalksS X.prog X.w X.A.in4 a (a :: s4.heap.objs.size :: List.range s4.heap.objs.size) (s4.heap.objs.size :: wr) (GenOnlyQ s4.gens.size) (passing pz n0 0).length
              (fun j y => ∃ i, (passing pz n0 0)[j]? = some i ∧ F i y) (GenAt X.prog X.w X.A.in4 a s4.gens.size s4.heap.objs.size (List.range s4.heap.objs.size) wr pz n0 F) →
            GenAt X.prog X.w X.A.in4 a s4.gens.size s4.heap.objs.size (List.range s4.heap.objs.size) wr pz n0 F 0 { s4 with gens := s4.gens.push gs, toks := tk, heap := h5 } →
            Q' (.ref a) { s4 with gens := s4.gens.push gs, toks := tk, heap := h5 })) X.xe { s1 with heap := h3, toks := tk } := by
    intro code h3 tk ps' ext sz P3 more tr
    obtain ⟨bm, ob', b1, b2, b3, b4, b5, b6, b7, b8⟩ := TB.bm
    have keep3 : ∀ b u, b ≠ P → s1.heap.get? b = some u → h3.get? b = some u := fun b u hb e => ext b u hb (Heap.get?_push_of_some _ e)
    obtain ⟨mc, lns, _⟩ := _root_.id I1.nolimit
    have ltC : cStatics < s1.heap.objs.size := lns.lt
    have cP : cStatics ≠ P := by
      obtain ⟨o', es, ep, e, d, _⟩ := lns
      exact neP e (by rw [d]; intro z; cases z)
    refine wpAny_builtinsFor (m := X.mg) (by rw [I1.ok.glob]; exact ((I1.mod.glob.keeps I1.bk).push o).extBut ext TB.gP) b1 b2 (keep3 _ _ b4 (I1.bk _ _ b5)) b6 b7 b8 ?_
    refine ⟨s1.heap.objs.size, [s1.heap.objs.size, a], [s1.heap.objs.size], its.toArray.size, (fun i v => its.toArray[i]? = some v), St, (fun _ => true), (fun i y => ∃ v, xs[i]? = some v ∧ RelV (f v) y), rfl, W, ?_, ?_, lim.extBut ext cP, ?_, ?_, ?_⟩
    · refine (W X.A hr.hd).frame _ _ _ hst ?_
      intro b hb u e
      refine ext b u ?_ e
      rcases List.mem_cons.mp hb with z | z
      · rw [z]
        exact Nat.ne_of_gt ltP
      · rw [List.mem_singleton.mp z]
        exact aP
    · intro b hb
      show b < h3.objs.size
      rcases List.mem_cons.mp hb with z | z
      · rw [z]
        have z2 : s1.heap.objs.size < h3.objs.size := by omega
        exact z2
      · rw [List.mem_singleton.mp z]
        exact Nat.lt_of_lt_of_le lta (by omega)
    · intro z
      exact Nat.ne_of_lt ltC (List.mem_singleton.mp z)
    · intro href hh
      refine ⟨?_, ?_⟩
      · intro A' E' i v s2 m2 _ _ _ _ _ _ _
        simp only [List.forIn_nil]
        exact wpAny_pure ⟨rfl, GxR.keeps_refl _⟩
      · intro A' E' i u s2 m2 hA hD hU hPu _ hn hm hk
        obtain ⟨v, hv, ru⟩ := item i u hPu
        refine wpAny_mono (hel pins H1 s1 _ A' E' v u s2 m2 I1 ⟨ps, hP, ht⟩ rfl rfl hA hD hU (hdom v (List.mem_of_getElem? hv)) ru hn hm ?_) (fun y s3 r => ⟨⟨v, hv, r.1⟩, r.2⟩) (fun _ _ e => e)
        intro b ob2 hb e
        have e3 := keep3 b ob2 hb e
        refine hk b (List.mem_range.mpr (Heap.lt_size e3)) ?_ ob2 (hh b ob2 e3)
        intro z
        exact absurd (Heap.lt_size e) (by rw [List.mem_singleton.mp z]; exact Nat.lt_irrefl _)
    · intro g h5 tk5 gs hgb hag hsz5 hk5 W5 hgat
      simp only [GxR.passing_true, List.length_range] at W5
      rw [nlen] at W5 hgat
      refine hQ xs H1 g _ q1 ⟨_, _, _, _, _, W5, hgat, ?_, List.mem_cons_self, (fun i s9 h9 => h9.1.typeIs), ?_, ?_⟩
      · intro b hb
        show b < h5.objs.size
        have h8 : h3.objs.size < g := hag
        rw [hsz5]
        rcases List.mem_cons.mp hb with z | z
        · rw [z]
          exact Nat.lt_succ_self g
        · rcases List.mem_cons.mp z with z | z
          · rw [z]
            exact Nat.lt_succ_of_lt h8
          · exact Nat.lt_succ_of_lt (Nat.lt_trans (List.mem_range.mp z) h8)
      · rintro j y ⟨i, hij, v, hv, rel⟩
        obtain ⟨hj, ej⟩ := List.getElem?_eq_some_iff.mp hij
        rw [List.getElem_range] at ej
        subst ej
        exact ⟨v, hv, rel⟩
      · intro s' hm
        obtain ⟨mr, rfl⟩ := more
        have old : ∀ b u, s1.heap.get? b = some u → b ∉ h3.objs.size :: [s1.heap.objs.size] := by
          intro b u e hb
          have l := Heap.lt_size e
          rcases List.mem_cons.mp hb with z | z
          · have l2 : (h3.objs.size : Nat) < s1.heap.objs.size := by rw [← z]; exact l
            omega
          · rw [List.mem_singleton.mp z] at l
            exact Nat.lt_irrefl _ l
        have J := GxR.inv_tab (more := mr) (h' := s'.heap) (g' := s'.gens) (d' := s'.drawn) (t' := s'.toks) I1 hP (fun b u hb e => hm.heap b u (old b u e) (hk5 b u (keep3 b u hb e)))
          (hm.heap P _ (old P _ gP) (hk5 P _ P3)) (AllBare.movedS (I1.bare.push hgb) hm)
        rw [GxR.sh_eta s1 s' hm.os] at J
        exact ⟨_, ⟨⟨_, upd_same, tr⟩, fun b hb => upd_ne hb⟩, J⟩
  refine ⟨lim, ?_⟩
  cases hf : codeAmong gpos ps.toList with
  | some cv => exact wpAny_genexprCode_hit hcode (cd.code P2 ht) hf (go cv _ s1.toks ps (Heap.ExtBut.refl _ _) (Nat.le_refl _) P2 ⟨#[], by simp⟩ ht)
  | none =>
    refine wpAny_genexprCodeX hcode (cd.code P2 ht) (cd.tab P2) hf ?_
    intro c' h' tk ext ge lt co _ tab _
    obtain ⟨o1, vs, f1, tf, fl, tg, inF, tx, tt, op, _, _, _, _, _, _, _, _, _, tr, _⟩ := co
    exact go _ h' tk _ ext (Nat.le_trans ge (Nat.le_of_lt lt)) tab.2 ⟨_, rfl⟩ tr

/-- what a consumer asks of the walked thing: the values, each in dom, the def's table -/
def tGen (K : PySem.W.Frag) (P : Addr) (dom : L2.St → V → Prop) (te : TE) (R : List V → L2.St → Hp → VK → Prop) : TE := fun σ H Q => te σ H fun v H1 => ∃ (a : Addr) (xs : List V), v = .ref a ∧ (SqL K H1 a xs ∨ SqT K H1 a xs) ∧ (∀ v ∈ xs, dom σ v) ∧ GxR.TabG H1 P ∧ R xs σ H1 Q
/-- tuple(elt for x in e) -/
def rTupG (P : Addr) (f : L2.St → V → V) : List V → L2.St → Hp → VK → Prop := fun xs σ H1 Q => xs.length ≤ sizeLine ∧ ∀ H2, GxR.Tabbed P H1 H2 → ∀ D, H2 D = none → Q (.ref D) (upd H2 D (.tup (xs.map (f σ))))
theorem pe_tupG {c P : Addr} {elt iter : Expr} {x : Str} {px p pos gpos : Pos} {scope : Scope} {dom : L2.St → V → Prop} {f : L2.St → V → V} {te : TE} {k : Nat}
    (hr : Room k X.A) (hg : Gl X "tuple") (hm : X.mg "tuple" = none) (TB : GxR.TabB X.base X.mg c P) (hcode : X.env.code = .ref c) (S : GxR.GenS X.env scope x) (hi : PE X iter te) (hel : ∀ σ, EltG X P scope x elt σ (dom σ) (f σ))
    (hs : ∀ v, genFold iter X.env v = pure v) (hb : bootBuiltins "tuple" = some (.type "tuple") := by decide +kernel)
    (he : starEach [.GeneratorExp elt [⟨.Name x px, iter, [], 0⟩] scope gpos] X.env = (false, eval (.GeneratorExp elt [⟨.Name x px, iter, [], 0⟩] scope gpos) X.env) :: starEach [] X.env := by rfl) :
    PE X (.Call (.Name "tuple" p) [.GeneratorExp elt [⟨.Name x px, iter, [], 0⟩] scope gpos] [] pos) (tGen X.K P dom te (rTupG P f)) := by
  constructor
  intro pins s σ H Q I h
  refine wpAny_Call_Name_kw (ld_blt I hg hm hb (PyProof.Rows.callWith_type1 ?_ he (by rfl)))
  rw [he]
  show wpAny _ _ (spliced ((false, eval (.GeneratorExp elt [⟨.Name x px, iter, [], 0⟩] scope gpos) X.env) :: backTo pos (starEach [] X.env))) _ _ s
  refine Calls.spliced_cons (gen_seq (R := fun xs H1 => rTupG P f xs σ H1 Q) hr TB hcode S hi (hel σ) hs I h ?_)
  rintro xs H1 g s5 ⟨hz, hR⟩ ⟨fp, wr, G, F, St, W, hst, hfp, hgf, hty, hF, hI⟩
  refine Calls.spliced_nil ?_
  refine call_tuple_gen (hsz := hz) W.in4_3 hty hst hfp hgf ?_
  intro s' acc hmv hacc
  obtain ⟨H2, hT, J⟩ := hI s' hmv
  have rel : Vals (xs.map (f σ)) acc.toList := by
    have key : ∀ (ys : List V) (us : List Value), ys.length = us.length → (∀ (j : Nat) (u : Value), us[j]? = some u → ∃ v, ys[j]? = some v ∧ RelV (f σ v) u) → Vals (ys.map (f σ)) us := by
      intro ys
      induction ys with
      | nil =>
        intro us hl _
        cases us with
        | nil => exact .nil
        | cons _ _ => cases hl
      | cons y ys ih =>
        intro us hl hv
        cases us with
        | nil => cases hl
        | cons u us =>
          refine .cons ?_ (ih us (Nat.succ.inj hl) (fun j w hw => hv (j + 1) w hw))
          obtain ⟨v, h1, h2⟩ := hv 0 u rfl
          cases h1
          exact h2
    refine key xs acc.toList ?_ ?_
    · rw [Array.length_toList]
      exact hacc.1.symm
    · intro j u hu
      exact hF j u (hacc.2 j u (by simpa using hu))
  refine ⟨.ref s'.heap.objs.size, _, J.laid (t' := s'.toks) (fun b u e => Heap.get?_push_of_some _ e) (Nat.le_refl _) ?_, rfl, hR H2 hT _ (J.hok.fresh (Nat.le_refl _))⟩
  refine ⟨?_, acc.toList, rel, _, Heap.get?_push_size _ rfl, rfl, 0, ?_⟩
  · rw [List.length_map]
    exact hz
  · simp

/-- any, all of truths -/
def rAnyG (P : Addr) (b : L2.St → V → Bool) : List V → L2.St → Hp → VK → Prop := fun xs σ H1 Q => ∀ H2, GxR.Tabbed P H1 H2 → Q (.bl (xs.any (b σ))) H2
def rAllG (P : Addr) (b : L2.St → V → Bool) : List V → L2.St → Hp → VK → Prop := fun xs σ H1 Q => ∀ H2, GxR.Tabbed P H1 H2 → Q (.bl (xs.all (b σ))) H2
def atV (b : V → Bool) (xs : List V) (j : Nat) : Bool := ((xs[j]?).map b).getD false
theorem atV_some {b : V → Bool} {xs : List V} {j : Nat} {v : V} (h : xs[j]? = some v) : atV b xs j = b v := by
  unfold atV
  rw [h]
  rfl
theorem any_atV (b : V → Bool) (xs : List V) : (List.range xs.length).any (atV b xs) = xs.any b := by
  rw [Bool.eq_iff_iff, List.any_eq_true, List.any_eq_true]
  constructor
  · rintro ⟨j, hj, h⟩
    have hj := List.mem_range.mp hj
    rw [atV_some (List.getElem?_eq_getElem hj)] at h
    exact ⟨_, List.getElem_mem hj, h⟩
  · rintro ⟨v, hv, h⟩
    obtain ⟨j, hj, rfl⟩ := List.getElem_of_mem hv
    exact ⟨j, List.mem_range.mpr hj, by rw [atV_some (List.getElem?_eq_getElem hj)]; exact h⟩
theorem all_atV (b : V → Bool) (xs : List V) : (List.range xs.length).all (atV b xs) = xs.all b := by
  rw [Bool.eq_iff_iff, List.all_eq_true, List.all_eq_true]
  constructor
  · intro h v hv
    obtain ⟨j, hj, rfl⟩ := List.getElem_of_mem hv
    have q := h j (List.mem_range.mpr hj)
    rw [atV_some (List.getElem?_eq_getElem hj)] at q
    exact q
  · intro h j hj
    have hj := List.mem_range.mp hj
    rw [atV_some (List.getElem?_eq_getElem hj)]
    exact h _ (List.getElem_mem hj)
theorem pe_anyG {c P : Addr} {elt iter : Expr} {x : Str} {px p pos gpos : Pos} {scope : Scope} {dom : L2.St → V → Prop} {b : L2.St → V → Bool} {te : TE} {k : Nat}
    (hr : Room k X.A) (hg : Gl X "any") (hm : X.mg "any" = none) (TB : GxR.TabB X.base X.mg c P) (hcode : X.env.code = .ref c) (S : GxR.GenS X.env scope x) (hi : PE X iter te) (hel : ∀ σ, EltG X P scope x elt σ (dom σ) (fun v => .bl (b σ v)))
    (hs : ∀ v, genFold iter X.env v = pure v)
    (he : starEach [.GeneratorExp elt [⟨.Name x px, iter, [], 0⟩] scope gpos] X.env = (false, eval (.GeneratorExp elt [⟨.Name x px, iter, [], 0⟩] scope gpos) X.env) :: starEach [] X.env := by rfl) :
    PE X (.Call (.Name "any" p) [.GeneratorExp elt [⟨.Name x px, iter, [], 0⟩] scope gpos] [] pos) (tGen X.K P dom te (rAnyG P b)) := by
  constructor
  intro pins s σ H Q I h
  refine wpAny_Call_Name_kw (ld_blt I hg hm boot_any (PyProof.Rows.callWith_builtin1 ?_ he (by rfl)))
  rw [he]
  show wpAny _ _ (spliced ((false, eval (.GeneratorExp elt [⟨.Name x px, iter, [], 0⟩] scope gpos) X.env) :: backTo pos (starEach [] X.env))) _ _ s
  refine Calls.spliced_cons (gen_seq (R := fun xs H1 => rAnyG P b xs σ H1 Q) hr TB hcode S hi (hel σ) hs I h ?_)
  rintro xs H1 g s5 hR ⟨fp, wr, G, F, St, W, hst, hfp, hgf, hty, hF, hI⟩
  refine Calls.spliced_nil (call_any_walkS (W.in4_1.self 0 _ _ _ hst ⟨g, fp, wr, G, _, F, St, atV (b σ) xs, rfl, W.in4_1, hst, ?_, ?_⟩))
  · intro j y s' Q' E' hy hQ
    obtain ⟨v, hv, r⟩ := hF j y hy
    rw [atV_some hv] at hQ
    have e : y = Value.bool (b σ v) := r
    rw [e]
    exact wpAny_truthy_bool hQ
  · intro s' hmv
    obtain ⟨H2, hT, J⟩ := hI s' hmv
    rw [any_atV]
    exact ⟨.bl _, H2, J, rfl, hR H2 hT⟩
theorem pe_allG {c P : Addr} {elt iter : Expr} {x : Str} {px p pos gpos : Pos} {scope : Scope} {dom : L2.St → V → Prop} {b : L2.St → V → Bool} {te : TE} {k : Nat}
    (hr : Room k X.A) (hg : Gl X "all") (hm : X.mg "all" = none) (TB : GxR.TabB X.base X.mg c P) (hcode : X.env.code = .ref c) (S : GxR.GenS X.env scope x) (hi : PE X iter te) (hel : ∀ σ, EltG X P scope x elt σ (dom σ) (fun v => .bl (b σ v)))
    (hs : ∀ v, genFold iter X.env v = pure v) (hb : bootBuiltins "all" = some (.builtin "all") := by decide +kernel)
    (he : starEach [.GeneratorExp elt [⟨.Name x px, iter, [], 0⟩] scope gpos] X.env = (false, eval (.GeneratorExp elt [⟨.Name x px, iter, [], 0⟩] scope gpos) X.env) :: starEach [] X.env := by rfl) :
    PE X (.Call (.Name "all" p) [.GeneratorExp elt [⟨.Name x px, iter, [], 0⟩] scope gpos] [] pos) (tGen X.K P dom te (rAllG P b)) := by
  constructor
  intro pins s σ H Q I h
  refine wpAny_Call_Name_kw (ld_blt I hg hm hb (PyProof.Rows.callWith_builtin1 ?_ he (by rfl)))
  rw [he]
  show wpAny _ _ (spliced ((false, eval (.GeneratorExp elt [⟨.Name x px, iter, [], 0⟩] scope gpos) X.env) :: backTo pos (starEach [] X.env))) _ _ s
  refine Calls.spliced_cons (gen_seq (R := fun xs H1 => rAllG P b xs σ H1 Q) hr TB hcode S hi (hel σ) hs I h ?_)
  rintro xs H1 g s5 hR ⟨fp, wr, G, F, St, W, hst, hfp, hgf, hty, hF, hI⟩
  refine Calls.spliced_nil (call_all_walkS (W.in4_1.self 0 _ _ _ hst ⟨g, fp, wr, G, _, F, St, atV (b σ) xs, rfl, W.in4_1, hst, ?_, ?_⟩))
  · intro j y s' Q' E' hy hQ
    obtain ⟨v, hv, r⟩ := hF j y hy
    rw [atV_some hv] at hQ
    have e : y = Value.bool (b σ v) := r
    rw [e]
    exact wpAny_truthy_bool hQ
  · intro s' hmv
    obtain ⟨H2, hT, J⟩ := hI s' hmv
    rw [all_atV]
    exact ⟨.bl _, H2, J, rfl, hR H2 hT⟩

/-- the item's own name, in the element -/
theorem elt_own {scope : Scope} {x : Str} {cenv : Env} {M : Model} {A' : Around} {E' : Value → Shared → Prop} {Q : Value → Shared → Prop} {s2 : Shared} {m2 : Str → Option Value} {u : Value} {pos : Pos} (hsc : cenv.scope = scope) (hkd : scope.kind = .function)
    (hl : scope.names.lookup x = some .local) (hn : s2.heap.Ns cenv.locals m2) (hm : m2 x = some u) (h : Q u s2) (hd : (x == ("__debug__" : Str)) = false := by decide) : wpAny M A' (eval (.Name x pos) cenv) Q E' s2 :=
  wpAny_Name (wpAny_loadName_local (by rw [hsc]; exact hkd) (show cenv.scope.names.lookup x = some .local by rw [hsc]; exact hl) hn hm h) hd
/-- a name of the def that the generator captures -/
theorem elt_cap {P : Addr} {scope : Scope} {y : Str} {i : Nat} {z : V} {cenv : Env} {M : Model} {A' : Around} {E' : Value → Shared → Prop} {Q : Value → Shared → Prop} {H1 : Hp} {s1 s2 : Shared} {pos : Pos}
    (I : Inv X pins σ H1 s1) (hT : GxR.TabG H1 P) (hsc : cenv.scope = scope) (hkd : scope.kind = .function) (hce : cenv.cells = cloFrom X.env.cells scope.names []) (hk : ∀ b o, b ≠ P → s1.heap.get? b = some o → s2.heap.get? b = some o)
    (hf : (y, NameKind.free) ∈ scope.names) (hl : scope.names.lookup y = some .free) (hN : X.N[i]? = some y) (hc : X.env.scope.names.lookup y = some .cell) (hz : σ[i]? = some (some z)) (h : ∀ u, RelV z u → Q u s2)
    (hd : (y == ("__debug__" : Str)) = false := by decide) (hd2 : (y == ("__classdict__" : Str)) = false := by decide) : wpAny M A' (eval (.Name y pos) cenv) Q E' s2 := by
  obtain ⟨m, hn, hlook⟩ := I.loc
  obtain ⟨u, r, l⟩ := hlook i y z hN hz (.inr (.inl hc))
  rcases l with ⟨hk1, _⟩ | ⟨_, c, ec, hcell⟩
  · have e1 : X.env.scope.names.lookup y = some .local := hk1
    rw [hc] at e1
    cases e1
  · have e2 : cenv.cells.lookup y = some c := by
      rw [hce]
      obtain ⟨c', e3⟩ := mem_lookup (cloFrom_has (cells := X.env.cells) (acc := []) hf)
      rcases cloFrom_mem (PySem.mem_of_lookup e3) with z | ⟨_, z⟩
      · cases z
      · rw [ec] at z
        rw [e3, z]
        rfl
    obtain ⟨o, ho, hd0⟩ := hcell
    have cP : c ≠ P := by
      intro z
      obtain ⟨ps, hP, _⟩ := hT
      have gP : s1.heap.get? P = some { cls := .none, data := .fields ps } := I.hok P _ hP
      rw [z, gP] at ho
      cases ho
      cases hd0
    exact wpAny_Name (wpAny_loadName_free (by rw [hsc]; exact hkd) (show cenv.scope.names.lookup y = some .free by rw [hsc]; exact hl) e2 ⟨o, hk c o cP ho, hd0⟩ (h u r) hd2) hd
end
end GL
set_option Elab.async false
set_option linter.all false
set_option maxRecDepth 100000
set_option maxHeartbeats 2000000
/-! Defs by their names; sum of a tuple; heaps that keep all but some places. -/
namespace GL
open PySem PySem.Spec PyProof.Rows L2

structure Cal (P : Program) (w : World) (K : PySem.W.Frag) (mg : Str → Option Value) (base : Heap) (k : Nat) (x : Str) (sp : Sp) : Prop where
  ex : ∃ (f : Addr) (fd : FuncData) (ps : List Str), FnOk P w K mg base CX0 k f fd ps sp ∧ mg x = some (.ref f) ∧ PySem.W.keepIn K (.ref f) = true ∧ Binds K fd ps []
structure CalG (P : Program) (w : World) (K : PySem.W.Frag) (mg : Str → Option Value) (base : Heap) (k : Nat) (x : Str) (sp : Sp) : Prop where
  ex : ∃ (f : Addr) (fd : FuncData) (ps : List Str), FnG P w K mg base CX0 k f fd ps sp ∧ mg x = some (.ref f) ∧ PySem.W.keepIn K (.ref f) = true ∧ Binds K fd ps []
section
variable {X : Cx} {k j : Nat} {x : Str} {sp : Sp} {p pos : Pos} {e : Expr} {es : List Expr} {t : TA}
theorem pe_k (c : Cal X.prog X.w X.K X.mg X.base k x sp) (hr : Room k X.A) (hg : Gl X x) (ha : PA X (e :: es) t) (hdb : (x == ("__debug__" : Str)) = false := by decide)
    (he : starEach (e :: es) X.env = (false, eval e X.env) :: starEach es X.env := by rfl) (hpl : (backTo pos (starEach es X.env)).any (·.1) = false := by rfl) : PE X (.Call (.Name x p) (e :: es) [] pos) (tCall sp [] E0 t) := by
  obtain ⟨f, fd, ps, F, m, kp, b⟩ := c.ex
  exact pe_call F hr hg m kp b .nil pass0 ha hdb he hpl
theorem pe_kG (c : CalG X.prog X.w X.K X.mg X.base k x sp) (gd : X.A.guards = some []) (hr : Room k X.A) (hg : Gl X x) (ha : PA X (e :: es) t) (hdb : (x == ("__debug__" : Str)) = false := by decide)
    (he : starEach (e :: es) X.env = (false, eval e X.env) :: starEach es X.env := by rfl) (hpl : (backTo pos (starEach es X.env)).any (·.1) = false := by rfl) : PE X (.Call (.Name x p) (e :: es) [] pos) (tCall sp [] E0 t) := by
  obtain ⟨f, fd, ps, F, m, kp, b⟩ := c.ex
  exact pe_callG F gd hr hg m kp b .nil pass0 ha hdb he hpl

/-- sum of a tuple of whole numbers -/
def rSumT (K : PySem.W.Frag) : List V → Hp → VK → Prop := fun vs H Q => ∃ (a : Addr) (ns : List Int), vs = [V.ref a] ∧ SqT K H a (ns.map V.int) ∧ Q (.int ns.sum) H
theorem cr_sumT (hc : X.calm = true) : CallR X (.builtin "sum") (rSumT X.K) := by
  intro pins s σ H vs us Q I r h
  obtain ⟨a, ns, rfl, hs, q⟩ := h
  obtain ⟨its, rv, hl, _⟩ := I.tuple hs
  rw [Vals.ref1 r]
  have hi : IntsAre its ns := rv.ints
  obtain ⟨xs, hx⟩ := hi.allInts.items
  have hn : numsOf its.toArray.toList = ns := by rw [show its.toArray.toList = its from rfl, hi.numsOf]
  rw [hx] at hl hn
  rw [nums_intItems] at hn
  refine PySem.W.ktm_sumG (I.ok.hd hc) hl ?_
  intro h' tk t' hk
  rw [preSum_eq, List.take_of_length_le (by simp), hn]
  exact ⟨.int _, H, I.kept hk, ⟨_, rfl⟩, q⟩
end

/-- what follows a statement is shown once, from Mid -/
def tMid (t u : TS) : TS := fun D σ H => ∃ Mid : L2.St → Hp → Prop, t { D with nx := Mid } σ H ∧ ∀ σ' H', Mid σ' H' → u D σ' H'
theorem pss_mid {X : Cx} {st : Stmt} {rest : List Stmt} {t u : TS} (a : PS X st t) (b : PSs X rest u) : PSs X (st :: rest) (tMid t u) := by
  constructor
  rintro pins s σ H D I ⟨Mid, h1, h2⟩
  refine wpAny_execs_cons (thn (a.run pins s σ H { D with nx := Mid } I h1) ?_)
  intro fl s1 q
  match fl, q with
  | .next, ⟨σ', H', J, q⟩ => exact b.run pins s1 σ' H' D J (h2 σ' H' q)
  | .ret _, q => exact q
  | .brk, q => exact q
  | .cont, q => exact q

/-! ### heaps -/
def Keep (ex : List Addr) (H H' : Hp) : Prop := ∀ b o, b ∉ ex → H b = some o → H' b = some o
theorem Keep.refl (ex : List Addr) (H : Hp) : Keep ex H H := fun _ _ _ h => h
theorem Keep.trans {ex : List Addr} {H H1 H2 : Hp} (a : Keep ex H H1) (b : Keep ex H1 H2) : Keep ex H H2 := fun c o n h => b c o n (a c o n h)
theorem Keep.mono {ex ex' : List Addr} {H H1 : Hp} (a : Keep ex H H1) (h : ∀ b ∈ ex, b ∈ ex') : Keep ex' H H1 := fun c o n e => a c o (fun z => n (h c z)) e
theorem Keep.new {ex : List Addr} {H H1 : Hp} {p : Addr} {o : HO} (a : Keep ex H H1) (h : H1 p = none) : Keep ex H (upd H1 p o) := fun c u n e => by
  rw [upd_ne (ne_of_none (a c u n e) h)]
  exact a c u n e
theorem Keep.set {ex : List Addr} {H H1 : Hp} {p : Addr} {o : HO} (a : Keep ex H H1) (h : p ∈ ex) : Keep ex H (upd H1 p o) := fun c u n e => by
  rw [upd_ne (fun z => n (by rw [z]; exact h))]
  exact a c u n e
/-- an object that H did not know may change -/
theorem Keep.own {ex : List Addr} {H H1 : Hp} {p : Addr} {o : HO} (a : Keep ex H H1) (h : H p = none) : Keep ex H (upd H1 p o) := fun c u n e => by
  rw [upd_ne (ne_of_none e h)]
  exact a c u n e
theorem Keep.fresh {ex : List Addr} {H H1 : Hp} {p : Addr} (a : Keep ex H H1) (n : p ∉ ex) (h : H1 p = none) : H p = none := by
  cases e : H p with
  | none => rfl
  | some o =>
    rw [a p o n e] at h
    cases h
theorem Keep.rd {ex : List Addr} {H H1 : Hp} {a : Addr} {u : HO} (k : Keep ex H H1) (n : H a ≠ none → a ∉ ex) (h : Rd H a u) : Rd H1 a u := by
  rcases h with h | ⟨o, h⟩
  · exact .inl (k a _ (n (by rw [h]; simp)) h)
  · exact .inr ⟨o, k a _ (n (by rw [h]; simp)) h⟩
theorem Keep.sql {K : PySem.W.Frag} {ex : List Addr} {H H1 : Hp} {a : Addr} {xs : List V} (k : Keep ex H H1) (n : H a ≠ none → a ∉ ex) (h : SqL K H a xs) : SqL K H1 a xs := by
  rcases h with h | h
  · exact .inl (k.rd n h)
  · exact .inr h
theorem Keep.sqt {K : PySem.W.Frag} {ex : List Addr} {H H1 : Hp} {a : Addr} {xs : List V} (k : Keep ex H H1) (n : H a ≠ none → a ∉ ex) (h : SqT K H a xs) : SqT K H1 a xs := by
  rcases h with h | h
  · exact .inl (k.rd n h)
  · exact .inr h
/-- a tabled heap keeps all but the table -/
theorem tabbed_keep {P : Addr} {H H1 : Hp} (h : GxR.Tabbed P H H1) : Keep [P] H H1 := fun b o n e => by
  rw [h.2 b (fun z => n (by rw [z]; exact List.mem_singleton.mpr rfl))]
  exact e
theorem lt_size {n : Nat} (h : n ≤ 100000) : n ≤ sizeLine := Nat.le_trans h (by decide)
theorem lt_size' {n : Nat} (h : n < 100000) : n < sizeLine := Nat.lt_of_lt_of_le h (by decide)
end GL
set_option Elab.async false
set_option linter.all false
set_option maxRecDepth 100000
set_option maxHeartbeats 2000000
/-! Comprehensions whose element is reckoned without a change of the heap. -/
namespace GL
open PySem PySem.Spec PyProof.Rows L2
theorem lc_map {K : PySem.W.Frag} {a : Addr} {xs : List V} {te : TE} {k : Nat} {vs : List Nat} {σ : L2.St} {H1 : Hp} {D : Addr} {Qd : Hp → Prop} (f : V → V) (hS : SqL K H1 a xs) (hD : H1 D = none) (hz : xs.length ≤ 100000)
    (hw : ∀ x, wipe ((wipe σ vs).set k (some x)) vs = wipe σ vs)
    (hel : ∀ x ∈ xs, ∀ (H : Hp) (Q : VK), Keep [] H1 H → Q (f x) H → te ((wipe σ vs).set k (some x)) H Q)
    (hd : ∀ H, Keep [] H1 H → H D = some (.lst (xs.map f)) → Qd H) :
    ∃ W : Nat → Nat → Hp → Prop, (∃ m, W 0 m (upd H1 D (.lst []))) ∧ ∀ i m H, W i m H →
      ((Itl K a).stop i H ∧ Qd H) ∨ ((Itl K a).go i H ∧ ∃ Nx : Hp → Prop, (∀ H', Nx H' → ∃ m', m' < m ∧ W (i + 1) m' H') ∧ ∀ x H', (Itl K a).yld i H x H' → gName k x (wipe σ vs) H' fun σ2 H2 => wipe σ2 vs = wipe σ vs ∧ tYes σ2 H2 fun b H3 =>
        if b = true then te σ2 H3 fun y H4 => ∃ acc, H4 D = some (.lst acc) ∧ acc.length < sizeLine ∧ Nx (upd H4 D (.lst (acc ++ [y]))) else Nx H3) := by
  refine lc_list (xs := xs) (fun i H => Keep [] H1 H ∧ H D = some (.lst ((xs.take i).map f))) ⟨(Keep.refl [] H1).new hD, upd_same⟩ ?_ ?_ ?_
  · rintro i H _ ⟨k1, _⟩
    exact k1.sql (fun _ z => (nomatch z)) hS
  · rintro i x H hx ⟨k1, e1⟩
    refine ⟨hw x, hel x (List.mem_of_getElem? hx) H _ k1 ⟨_, e1, ?_, k1.own hD, ?_⟩⟩
    · rw [List.length_map, List.length_take]
      exact lt_size' (by have := (List.getElem?_eq_some_iff.mp hx).1; omega)
    · rw [upd_same, List.take_add_one, hx, List.map_append]
      rfl
  · rintro H ⟨k1, e1⟩
    rw [List.take_length] at e1
    exact hd H k1 e1
end GL
set_option Elab.async false
set_option linter.all false
set_option maxRecDepth 100000
set_option maxHeartbeats 2000000
/-! enumerate and sum of a list or a tuple; comprehensions with any target. -/
namespace GL
open PySem PySem.Spec PyProof.Rows L2
/-- a list, a tuple -/
def SqB (b : Bool) (K : PySem.W.Frag) (H : Hp) (a : Addr) (xs : List V) : Prop := match b with
  | true => SqL K H a xs
  | false => SqT K H a xs
theorem Keep.sqb {b : Bool} {K : PySem.W.Frag} {ex : List Addr} {H H1 : Hp} {a : Addr} {xs : List V} (k : Keep ex H H1) (n : H a ≠ none → a ∉ ex) (h : SqB b K H a xs) : SqB b K H1 a xs := by
  cases b with
  | true => exact k.sql n h
  | false => exact k.sqt n h
def rSumB (K : PySem.W.Frag) : List V → Hp → VK → Prop := fun vs H Q => ∃ (b : Bool) (a : Addr) (ns : List Int), vs = [V.ref a] ∧ SqB b K H a (ns.map V.int) ∧ Q (.int ns.sum) H
theorem cr_sumB {X : Cx} (hc : X.calm = true) : CallR X (.builtin "sum") (rSumB X.K) := by
  rintro pins s σ H vs us Q I r ⟨b, a, ns, e, hs, q⟩
  cases b with
  | true => exact cr_sum hc pins s σ H vs us Q I r ⟨a, ns, e, hs, q⟩
  | false => exact cr_sumT hc pins s σ H vs us Q I r ⟨a, ns, e, hs, q⟩

/-! ### enumerate -/
def IteB (b : Bool) (K : PySem.W.Frag) (a : Addr) : It :=
  ⟨fun i H => ∃ (xs : List V) (x : V), SqB b K H a xs ∧ xs[i]? = some x, fun i H v H' => ∃ T x, v = .ref T ∧ H T = none ∧ H' = upd H T (.tup [.int (i : Nat), x]) ∧ ∀ xs, SqB b K H a xs → xs[i]? = some x, fun i H => ∃ xs : List V, SqB b K H a xs ∧ xs.length = i⟩
theorem turn_enumL {P : Program} {w : World} {K : PySem.W.Frag} {elts : List Expr} {kk : Nat} {tpos : Pos} (a e it : Addr) :
    Turn P w K (.Tuple elts kk tpos) (IteB true K a) [e, it] e (fun i h => (∃ old, IsEnum h e it ((i : Nat) : Int) old) ∧ h.IsListIter it a i ∧ e ≠ it) := by
  have T := turn_enum (P := P) (w := w) (K := K) (elts := elts) (kk := kk) (tpos := tpos) a e it
  refine ⟨T.mem, T.obj, T.keep, T.item, ?_, T.self⟩
  intro X hP hw hK hc i pins s σ H E I hf st hg
  obtain ⟨xs, h1, h2⟩ := hg
  exact T.done X hP hw hK hc i pins s σ H E I hf st ⟨xs, h1, Nat.le_of_eq h2⟩
theorem turn_enumT {P : Program} {w : World} {K : PySem.W.Frag} {elts : List Expr} {kk : Nat} {tpos : Pos} (a e it : Addr) :
    Turn P w K (.Tuple elts kk tpos) (IteB false K a) [e, it] e (fun i h => (∃ old, IsEnum h e it ((i : Nat) : Int) old) ∧ h.IsTupleIter it a i ∧ e ≠ it) where
  mem := List.mem_cons_self
  obj := by
    rintro i h ⟨⟨old, he⟩, ⟨o, ho, hc, hd⟩, _⟩ b hb
    rcases List.mem_cons.mp hb with z | z
    · rw [z]
      exact ⟨_, he, fun v q => (nomatch q)⟩
    · rw [List.mem_singleton.mp z]
      exact ⟨o, ho, fun v q => by rw [hd] at q; cases q⟩
  keep := by
    rintro i h h' ⟨⟨old, he⟩, hi, hne⟩ k
    exact ⟨⟨old, k e List.mem_cons_self _ he⟩, hi.at (fun o q => k it (List.mem_cons_of_mem _ List.mem_cons_self) o q), hne⟩
  self := by
    rintro A i s Q E ⟨⟨_, he⟩, _⟩ h
    exact wpAny_pyIter_enum he h
  item := by
    intro X hP hw hK hc i pins s σ H E I hf st hg
    subst hP hw hK
    obtain ⟨⟨old, he⟩, hit, hne⟩ := st
    obtain ⟨xs, x, hq, hx⟩ := hg
    obtain ⟨its, rv, p, hz⟩ := I.tuple hq
    obtain ⟨u, hu, ru⟩ := rv.get hx
    have hu2 : its.toArray[i]? = some u := by simpa using hu
    have hel : e < s.heap.objs.size := Heap.lt_size he
    have hil : it < s.heap.objs.size := by obtain ⟨_, q, _⟩ := hit; exact Heap.lt_size q
    have hai : a ≠ it := fun z => by
      obtain ⟨o, e1, c1, _⟩ := p
      obtain ⟨o2, e2, c2, d2⟩ := hit
      rw [z, e2] at e1
      cases e1
      rw [c2] at c1
      exact absurd c1 (by decide)
    have hae : e ≠ a := fun z => by
      obtain ⟨o, e1, c1, _⟩ := p
      have e2 : s.heap.get? e = some _ := he
      rw [← z, e2] at e1
      cases e1
      have c2 : Value.type "enumerate" = Value.type "tuple" := c1
      exact absurd c2 (by decide)
    have nef : e ∉ [it, a] := fun z => by
      rcases List.mem_cons.mp z with z | z
      · exact hne z
      · exact hae (List.mem_singleton.mp z)
    refine wpAny_pyNext_enum_itemD (Draws.tuple (A := X.A.in1) (I.ok.hd hc) it a hai its.toArray) he ⟨hit, p⟩ (Array.getElem?_eq_some_iff.mp hu2).1 hne nef ?_
    intro x' h' tk hP ho hst hT hsz hk
    rw [hu2] at hP
    cases hP
    refine ⟨_, rfl, wpAny_letOwnedTupleGo_enum (s := { s with heap := h', toks := tk + 1 }) ho ?_⟩
    intro h'' he' sb
    have sb2 : ∀ b o, b ≠ e → h'.get? b = some o → h''.get? b = some o := fun b o hb q => (sb.2 b hb).trans q
    have hT2 := sb2 _ _ (Nat.ne_of_gt hel) hT
    have J : Inv X pins σ (upd H s.heap.objs.size (.tup [.int (i : Nat), x])) { s with heap := h'', toks := tk + 1 } :=
      I.turnedNew (ch := [e, it]) (fun b ob hb q => sb2 b ob (fun z => hb (by simp [z])) (hk b ob (fun z => hb (by simp [z])) (fun z => hb (by simp [z])) q)) hf (Nat.le_refl _)
        ⟨by show 2 ≤ sizeLine; decide, [.int i tk, u], .cons ⟨_, rfl⟩ (.cons ru .nil), ⟨_, hT2, rfl, _, rfl⟩⟩
    refine ⟨.ref s.heap.objs.size, _, J, rfl, ⟨_, x, rfl, I.hok.fresh (Nat.le_refl _), rfl, fun ys hy => by rw [I.tuple_inj hy hq]; exact hx⟩, ⟨⟨u, ?_⟩, hst.1.at (fun o q => sb2 it o (Ne.symm hne) q), hne⟩, ?_⟩
    · have e1 : ((i + 1 : Nat) : Int) = (i : Int) + 1 := by omega
      rw [e1]
      exact he'
    · intro b hb
      have lb : b < s.heap.objs.size := by
        rcases List.mem_cons.mp hb with z | z
        · rw [z]
          exact hel
        · rw [List.mem_singleton.mp z]
          exact hil
      rw [upd_ne (Nat.ne_of_lt lb)]
      exact (hf b hb).1
  done := by
    intro X hP hw hK hc i pins s σ H E I hf st hg
    subst hP hw hK
    obtain ⟨⟨old, he⟩, hit, hne⟩ := st
    obtain ⟨xs, hq, hx⟩ := hg
    obtain ⟨its, rv, p, hz⟩ := I.tuple hq
    have hai : a ≠ it := fun z => by
      obtain ⟨o, e1, c1, _⟩ := p
      obtain ⟨o2, e2, c2, d2⟩ := hit
      rw [z, e2] at e1
      cases e1
      rw [c2] at c1
      exact absurd c1 (by decide)
    obtain ⟨f0, f1, f2, f3, f4, f5⟩ := hf it (List.mem_cons_of_mem _ List.mem_cons_self)
    have hn : its.toArray.size = i := by rw [List.size_toArray, ← rv.length, hx]
    refine wpAny_pyNext_enum_endD (Draws.tuple (A := X.A.in1) (I.ok.hd hc) it a hai its.toArray) he (by rw [hn]; exact ⟨hit, p⟩) ?_
    intro h' eb
    exact ⟨rfl, I.turned (t' := s.toks) (fun b o hb q => eb b o hb q) f0 f1 f3 f4 f5⟩

set_option maxHeartbeats 4000000 in
theorem meets_enumT (l : Addr) (items : Array Value) :
    Meets (Builtin.«enumerate.__new__» ⟨[.type "enumerate", .ref l], []⟩) (fun _ R s => s.heap.IsTuple l items ∧
      R (.ok (.ret (.ref (s.heap.push { cls := .type "tuple_iterator", data := .fields #[.ref l, .int 0 0] }).objs.size)))
        { s with heap := (s.heap.push { cls := .type "tuple_iterator", data := .fields #[.ref l, .int 0 0] }).push { cls := .type "enumerate", data := .fields #[.none, .bool false, .ref s.heap.objs.size, rawInt 0, .none, .none] } }) :=
  .of_wp fun prog w A R s h => by
    obtain ⟨hp, g, d, tk, os⟩ := s
    obtain ⟨h1, h⟩ := h
    have hsub := sub_enumerate
    have q1 : ∀ {A' : Around} {E : Value → Shared → Prop} {Q : Value → Shared → Prop}, Q (.ref hp.objs.size) ⟨hp.push { cls := .type "tuple_iterator", data := .fields #[.ref l, .int 0 0] }, g, d, tk, os⟩ → wpAny (model prog w) A' (pyIter (.ref l)) Q E ⟨hp, g, d, tk, os⟩ :=
      fun q => wpAny_pyIter_tuple h1 q
    wp_walk using q1
    refine wpAny_stack_any fun st => wpAny_pure ?_
    split
    · rename_i c _ _ _ _ _
      cases (c == Value.type "enumerate")
      · wp_walk using q1
        exact ⟨_, rfl, h⟩
      · wp_walk using q1
        exact ⟨_, rfl, h⟩
    · wp_walk using q1
      exact ⟨_, rfl, h⟩
theorem call_enumT {prog : Program} {w : World} {A : Around} {E : Value → Shared → Prop} {s : Shared} {l : Addr} {items : Array Value} {Q : Value → Shared → Prop} (hL : s.heap.IsTuple l items)
    (h : ∀ h', IsEnum h' (s.heap.objs.size + 1) s.heap.objs.size 0 .none → h'.IsTupleIter s.heap.objs.size l 0 → h'.objs.size = s.heap.objs.size + 2 → (∀ b o, s.heap.get? b = some o → h'.get? b = some o) → Q (.ref (s.heap.objs.size + 1)) { s with heap := h' }) :
    wpAny (model prog w) A (call (.type "enumerate") [.ref l]) Q E s := by
  refine callType_new F.called_enumerate (by decide) (F.typeCall_enumerate_1 _) (F.newCall_enumerate_1 _) (fun obj => F.args_object_init_2 obj _) F.entry_enumerate_new (meets_enumT l items) ⟨hL, ?_⟩
  have hz : (s.heap.push { cls := .type "tuple_iterator", data := .fields #[.ref l, .int 0 0] }).objs.size = s.heap.objs.size + 1 := Heap.size_push ..
  show _ ∧ _
  rw [hz]
  generalize ho : ({ cls := .type "tuple_iterator", data := .fields #[.ref l, .int 0 0] } : Obj) = o at hz
  have g1 := Heap.get?_push_size (s.heap.push o) (o := { cls := .type "enumerate", data := .fields #[.none, .bool false, .ref s.heap.objs.size, rawInt 0, .none, .none] }) rfl
  rw [hz] at g1
  refine ⟨⟨_, g1, rfl⟩, h _ g1 ⟨o, Heap.get?_push_of_some _ (Heap.get?_push_size _ (by rw [← ho]; rfl)), by rw [← ho], by rw [← ho]; rfl⟩ (by rw [Heap.size_push, hz]) (fun b u x => Heap.get?_push_of_some _ (Heap.get?_push_of_some _ x))⟩
def iEnumB (K : PySem.W.Frag) (ta : TA) : TI := fun σ H R => ta σ H fun vs H1 => ∃ (b : Bool) (a : Addr) (xs : List V), vs = [.ref a] ∧ SqB b K H1 a xs ∧ R (IteB b K a) H1
theorem pi_enumB {X : Cx} {e : Expr} {ta : TA} {p pos tpos : Pos} {elts : List Expr} {kk : Nat} (hg : Gl X "enumerate") (hm : X.mg "enumerate" = none) (ha : PA X [e] ta) (hs : starEach [e] X.env = [(false, eval e X.env)] := by rfl) :
    PI X (.Tuple elts kk tpos) (.Call (.Name "enumerate" p) [e] [] pos) (iEnumB X.K ta) := by
  constructor
  intro pins s σ H R I h
  refine Call_ (ld_blt I hg hm boot_enumerate (PyProof.Rows.callWith_type1 (thn (ha.run pos pins s σ H _ I h) ?_) hs rfl))
  rintro us s1 ⟨vs, H1, I1, r1, b, a, xs, rfl, hq, q⟩
  obtain rfl : us = [Value.ref a] := by
    cases r1 with
    | cons r rr =>
      cases rr
      cases r
      rfl
  have fin : ∀ b, b ∈ [s1.heap.objs.size + 1, s1.heap.objs.size] → FpOk X pins H1 b := by
    intro b hb
    have hle : s1.heap.objs.size ≤ b := by
      rcases List.mem_cons.mp hb with z | z
      · rw [z]
        exact Nat.le_add_right _ _
      · rw [List.mem_singleton.mp z]
        exact Nat.le_refl _
    exact I1.fpOk hle (I1.hok.fresh hle)
  cases b with
  | true =>
    obtain ⟨its, rv, p', hz⟩ := I1.list hq
    refine call_enumerate_list p'.isList fun h' he hit hsz hk => wpAny_pyIter_enum he ?_
    exact ⟨_, _, _, _, H1, rfl, I1.kept (t' := s1.toks) hk, turn_enumL a _ _, ⟨⟨.none, he⟩, hit, Nat.succ_ne_self _⟩, fin, q⟩
  | false =>
    obtain ⟨its, rv, p', hz⟩ := I1.tuple hq
    refine call_enumT p' fun h' he hit hsz hk => wpAny_pyIter_enum he ?_
    exact ⟨_, _, _, _, H1, rfl, I1.kept (t' := s1.toks) hk, turn_enumT a _ _, ⟨⟨.none, he⟩, hit, Nat.succ_ne_self _⟩, fin, q⟩
theorem for_enumB {b : Bool} {K : PySem.W.Frag} {a : Addr} {xs : List V} {g : TG} {tb : TS} {D : Ends} {σ : L2.St} {H : Hp} (Pv : Nat → L2.St → Hp → Prop) (h0 : Pv 0 σ H) (hl : ∀ i σ H, i ≤ xs.length → Pv i σ H → SqB b K H a xs)
    (hs : ∀ i x σ H T, xs[i]? = some x → Pv i σ H → H T = none → g (.ref T) σ (upd H T (.tup [.int (i : Nat), x])) fun σ2 H2 => tb { D with nx := Pv (i + 1), ct := Pv (i + 1), bk := D.nx } σ2 H2) (hd : ∀ σ H, Pv xs.length σ H → D.nx σ H) :
    ∃ W : Nat → Nat → L2.St → Hp → Prop, (∃ m, W 0 m σ H) ∧ ∀ i m σ H, W i m σ H →
      ((IteB b K a).stop i H ∧ D.nx σ H) ∨ ((IteB b K a).go i H ∧ ∃ N : L2.St → Hp → Prop, (∀ σ' H', N σ' H' → ∃ m', m' < m ∧ W (i + 1) m' σ' H') ∧ ∀ x H', (IteB b K a).yld i H x H' → g x σ H' fun σ2 H2 => tb { D with nx := N, ct := N, bk := D.nx } σ2 H2) := by
  refine ⟨fun i m σ H => i + m = xs.length ∧ Pv i σ H, ⟨xs.length, Nat.zero_add _, h0⟩, ?_⟩
  rintro i m σ H ⟨em, p⟩
  have q := hl i σ H (by omega) p
  by_cases hi : i < xs.length
  · refine .inr ⟨⟨xs, xs[i], q, List.getElem?_eq_getElem hi⟩, Pv (i + 1), fun σ' H' p' => ⟨m - 1, by omega, by omega, p'⟩, ?_⟩
    rintro x H' ⟨T, y, rfl, hT, rfl, hy⟩
    exact hs i y σ H T (hy xs q) p hT
  · have e : i = xs.length := by omega
    subst e
    exact .inl ⟨⟨xs, q, rfl⟩, hd σ H p⟩

/-! ### comprehensions with any target -/
theorem lc_mapG {K : PySem.W.Frag} {a : Addr} {xs : List V} {g : TG} {te : TE} {vs : List Nat} {σ : L2.St} {H1 : Hp} {D : Addr} {Qd : Hp → Prop} (f : V → V) (hS : SqL K H1 a xs) (hD : H1 D = none) (hz : xs.length ≤ 100000)
    (hel : ∀ x ∈ xs, ∀ (H : Hp) (Q : VK), Keep [] H1 H → Q (f x) H → g x (wipe σ vs) H fun σ2 H2 => wipe σ2 vs = wipe σ vs ∧ te σ2 H2 Q)
    (hd : ∀ H, Keep [] H1 H → H D = some (.lst (xs.map f)) → Qd H) :
    ∃ W : Nat → Nat → Hp → Prop, (∃ m, W 0 m (upd H1 D (.lst []))) ∧ ∀ i m H, W i m H →
      ((Itl K a).stop i H ∧ Qd H) ∨ ((Itl K a).go i H ∧ ∃ Nx : Hp → Prop, (∀ H', Nx H' → ∃ m', m' < m ∧ W (i + 1) m' H') ∧ ∀ x H', (Itl K a).yld i H x H' → g x (wipe σ vs) H' fun σ2 H2 => wipe σ2 vs = wipe σ vs ∧ tYes σ2 H2 fun b H3 =>
        if b = true then te σ2 H3 fun y H4 => ∃ acc, H4 D = some (.lst acc) ∧ acc.length < sizeLine ∧ Nx (upd H4 D (.lst (acc ++ [y]))) else Nx H3) := by
  refine lc_list (xs := xs) (fun i H => Keep [] H1 H ∧ H D = some (.lst ((xs.take i).map f))) ⟨(Keep.refl [] H1).new hD, upd_same⟩ ?_ ?_ ?_
  · rintro i H _ ⟨k1, _⟩
    exact k1.sql (fun _ z => (nomatch z)) hS
  · rintro i x H hx ⟨k1, e1⟩
    refine hel x (List.mem_of_getElem? hx) H _ k1 ⟨_, e1, ?_, k1.own hD, ?_⟩
    · rw [List.length_map, List.length_take]
      exact lt_size' (by have := (List.getElem?_eq_some_iff.mp hx).1; omega)
    · rw [upd_same, List.take_add_one, hx, List.map_append]
      rfl
  · rintro H ⟨k1, e1⟩
    rw [List.take_length] at e1
    exact hd H k1 e1
end GL
set_option Elab.async false
set_option linter.all false
set_option maxRecDepth 100000
set_option maxHeartbeats 2000000
set_option exponentiation.threshold 10000
/-! What repr asks of data. -/
namespace GL
open PySem PySem.Spec PyProof.Rows L2
structure Show (d : PyData) : Prop where
  s : d.showable = true
  n : d.hasDict = false
  z : d.shown.length ≤ sizeLine
  dp : d.depth ≤ 60
theorem rRepr_of {K : PySem.W.Frag} {H : Hp} {a : Addr} {d : PyData} {Q : VK} (h : Dp K H (.ref a) d) (s : Show d) (q : Q (.str d.shown) H) : rRepr K [.ref a] H Q := ⟨a, d, rfl, h, s.s, s.n, s.dp, s.z, q⟩
/-- an int of not too many figures -/
def Fine (i : Int) : Prop := i.natAbs < 2 ^ 1900
theorem Fine.log {i : Int} (h : Fine i) : i.natAbs.log2 < 1920 := log2_small (Nat.lt_trans h (by decide))
theorem Fine.len {i : Int} (h : Fine i) : (PyData.shown (.int i)).length ≤ 600 := by
  have e := int_text_length_le10 (k := 599) (a := i) (by decide) (Nat.lt_trans h (by decide))
  show (Str.ofString (toString i)).length ≤ 600
  rw [PySem.ofString_length]
  exact e
theorem Fine.of {i : Int} (h0 : 0 ≤ i) (h : i < 2 ^ 1900) : Fine i := by
  unfold Fine
  have e : ((2 ^ 1900 : Nat) : Int) = (2 : Int) ^ 1900 := by simp
  omega
theorem leaves_ints : ∀ ns : List Int, (∀ n ∈ ns, Fine n) → PyData.leavesShortAll 600 (ns.map PyData.int) = true
  | [], _ => rfl
  | n :: r, h => by
    have h1 : PyData.leavesShort 600 (.int n) = true := decide_eq_true (h n List.mem_cons_self).len
    have h2 := leaves_ints r (fun m hm => h m (List.mem_cons_of_mem _ hm))
    simp only [List.map_cons, PyData.leavesShortAll, h1, h2, Bool.and_true]
theorem bulk_ints : ∀ ns : List Int, PyData.bulkAll (ns.map PyData.int) = ns.length
  | [] => rfl
  | n :: r => by
    simp only [List.map_cons, PyData.bulkAll, PyData.bulk, bulk_ints r, List.length_cons]
    omega
theorem noDict_ints : ∀ ns : List Int, PyData.hasDictAll (ns.map PyData.int) = false
  | [] => rfl
  | n :: r => by
    simp only [List.map_cons, PyData.hasDictAll, PyData.hasDict, noDict_ints r, Bool.or_false]
theorem depth_ints : ∀ ns : List Int, PyData.depthAll (ns.map PyData.int) = 0
  | [] => rfl
  | n :: r => by
    simp only [List.map_cons, PyData.depthAll, PyData.depth, depth_ints r, Nat.max_self]
theorem show_of {d : PyData} (h1 : d.showable = true) (h2 : d.hasDict = false) (h3 : d.depth ≤ 60) (h4 : d.leavesShort 600 = true) (h5 : d.bulk ≤ 20000) : Show d := by
  refine ⟨h1, h2, ?_, h3⟩
  have h := PyData.shown_le_bulk 600 (by decide) d h4
  have e : 13000000 ≤ sizeLine := by decide
  omega
theorem show_ints {ns : List Int} (h : ∀ n ∈ ns, Fine n) (hl : ns.length ≤ 1000) : Show (.tuple (ns.map PyData.int)) := by
  refine show_of ?_ ?_ ?_ ?_ ?_
  · simp only [PyData.showable]
    exact PyData.showableAll_ints ns (fun n hn => (h n hn).log)
  · simp only [PyData.hasDict, noDict_ints]
  · simp only [PyData.depth, depth_ints]
    omega
  · simp only [PyData.leavesShort, leaves_ints ns h]
  · simp only [PyData.bulk, bulk_ints]
    omega
/-- a tuple of a tuple of ints and an int -/
theorem show_split {ns : List Int} {t : Int} (h : ∀ n ∈ ns, Fine n) (ht : Fine t) (hl : ns.length ≤ 1000) : Show (.tuple [.tuple (ns.map PyData.int), .int t]) := by
  refine show_of ?_ ?_ ?_ ?_ ?_
  · simp only [PyData.showable, PyData.showableAll, PyData.showableAll_ints ns (fun n hn => (h n hn).log), decide_eq_true ht.log, Bool.and_self]
  · simp only [PyData.hasDict, PyData.hasDictAll, noDict_ints, Bool.or_self]
  · simp only [PyData.depth, PyData.depthAll, depth_ints]
    decide
  · have h1 : decide ((PyData.shown (.int t)).length ≤ 600) = true := decide_eq_true ht.len
    simp only [PyData.leavesShort, PyData.leavesShortAll, leaves_ints ns h, h1, Bool.and_self]
  · simp only [PyData.bulk, PyData.bulkAll, bulk_ints]
    omega
theorem dpAll_ints {K : PySem.W.Frag} {H : Hp} : ∀ ns : List Int, DpAll K H (ns.map V.int) (ns.map PyData.int)
  | [] => .nil
  | x :: r => .cons (.int x) (dpAll_ints r)
theorem dp_split {K : PySem.W.Frag} {H : Hp} {s t : Addr} {ns : List Int} {m : Int} (hs : SqT K H s [.ref t, .int m]) (ht : SqT K H t (ns.map V.int)) : Dp K H (.ref s) (.tuple [.tuple (ns.map PyData.int), .int m]) :=
  .tup hs (.cons (.tup ht (dpAll_ints ns)) (.cons (.int m) .nil))
end GL
set_option Elab.async false
set_option linter.all false
set_option maxRecDepth 100000
set_option maxHeartbeats 2000000
/-! sorted(d) of a dict whose keys are pairs of ints. -/
namespace GL
open PySem PySem.Spec PyProof.Rows L2
/-- the dict at d, by its entries -/
def RawD (h : Heap) (d : Addr) (es : Array DictEntry) (ep : Nat) : Prop := ∃ o, h.get? d = some o ∧ o.ExactDict ∧ o.data = .dict es ep
theorem walks_raw {prog : Program} {w : World} {A : Around} (hh : A.handled = none) (it d : Addr) (hne : d ≠ it) (es : Array DictEntry) (ep : Nat) :
    Walks prog w A it [it, d] [it] es.size (fun i v => ∃ en, es[i]? = some en ∧ v = en.key) (fun i h => h.IsKeyIter it d i es.size ep ∧ RawD h d es ep) where
  sub := fun b hb => by rw [List.mem_singleton.mp hb]; exact List.mem_cons_self
  frame := fun i h h' st k => ⟨st.1.at (fun o e => k it List.mem_cons_self o e), let ⟨o, e, r⟩ := st.2; ⟨o, k d (List.mem_cons_of_mem _ List.mem_cons_self) o e, r⟩⟩
  item := by
    rintro i s Q E hi ⟨st, o, ho, hx, hd⟩ hQ
    refine next_key_item st ho hd rfl (Array.getElem?_eq_getElem hi) ?_
    intro h' st' sb
    have kp : ∀ b u, b ∉ [it] → s.heap.get? b = some u → h'.get? b = some u := fun b u hb e => (sb.2 b (fun z => hb (List.mem_singleton.mpr z))).trans e
    exact hQ _ h' s.toks ⟨_, Array.getElem?_eq_getElem hi, rfl⟩ ⟨st', o, kp d o (fun z => hne (List.mem_singleton.mp z)) ho, hx, hd⟩ kp
  done := by
    rintro s Q E ⟨st, o, ho, hx, hd⟩ hQ
    exact next_key_end hh st ho hd rfl (Nat.le_refl _) fun h' eb => hQ h' s.toks fun b u hb e => eb b u (fun z => hb (List.mem_singleton.mpr z)) e
  self := fun i s Q E st h => wpAny_pyIter_keyiter st.1 h
theorem src_raw {prog : Program} {w : World} {d : Addr} (es : Array DictEntry) (ep : Nat) (lo : (d == sysModules) = false) : PySem.W.KdlSrc prog w "dict" d d es.size (fun i v => ∃ en, es[i]? = some en ∧ v = en.key) (fun h => RawD h d es ep) where
  type := fun _ ⟨o, ho, hx, _⟩ => ⟨o, ho, hx.1⟩
  there := fun _ ⟨o, ho, _⟩ => ⟨Heap.lt_size ho, Heap.lt_size ho⟩
  keep := fun _ _ ⟨o, ho, r⟩ hk => ⟨o, hk d (.inl rfl) o ho, r⟩
  notList := by decide
  notTuple := by decide
  hint := fun _ _ _ _ ⟨o, ho, hx, _⟩ hq => PySem.W.kdl_hint_dict ⟨o, ho, hx.1⟩ hq
  iter := fun _ s hh ⟨o, ho, hx, hd⟩ => ⟨_, _, (fun _ _ hq => iter_keys lo ho hx hd hq), walks_raw hh _ d (Nat.ne_of_lt (Heap.lt_size ho)) es ep, ⟨⟨_, Heap.get?_push_size _ rfl, rfl, rfl⟩, o, Heap.get?_push_of_some _ ho, hx, hd⟩⟩
/-- the two ints of the pair at a -/
def pairAt (H : Hp) (v : Value) : Int × Int := match v with
  | .ref q => (match H q with
    | some (.tup [.int i, .int j]) => (i, j)
    | _ => (0, 0))
  | _ => (0, 0)
theorem pairAt_ref {H : Hp} {q : Addr} {p : Int × Int} (h : H q = some (.tup [.int p.1, .int p.2])) : pairAt H (.ref q) = p := by
  show (match H q with
    | some (.tup [.int i, .int j]) => (i, j)
    | _ => (0, 0)) = p
  rw [h]
def key2 (p : Int × Int) : List Key := [.inl p.1, .inl p.2]
/-- sorted(d): the keys' own tuples, in rising order -/
def rSortedDT : List V → Hp → VK → Prop := fun vs H Q => ∃ (a : Addr) (kvs : List (List Key × V)) (ps : List (Int × Int)), vs = [.ref a] ∧ H a = some (.dT kvs) ∧ kvs.map (·.1) = ps.map key2 ∧
  ∀ (es : List (Addr × (Int × Int))) (p : Addr), (es.map (·.2)).Perm ps → (es.map (·.2)).Pairwise (fun x y => SrtO.lexB y x = false) → (∀ e ∈ es, H e.1 = some (.tup [.int e.2.1, .int e.2.2])) → H p = none → Q (.ref p) (upd H p (.lst (es.map fun e => V.ref e.1)))
theorem cr_sortedDT {X : Cx} (hc : X.calm = true) : CallR X (.builtin "sorted") rSortedDT := by
  rintro pins s σ H vs us Q I r ⟨a, kvs, ps, rfl, hd, hk, q⟩
  obtain ⟨u, rfl, ru⟩ := vals1 r
  obtain rfl : u = Value.ref a := ru
  obtain ⟨z, lo, xs, pr, o, es, ep, ho, hx, hdt, he, _⟩ := I.hok a _ hd
  have n1 : es.size = kvs.length := (size_of_entries he).trans (Paired.length pr).symm
  have n2 : kvs.length = ps.length := by
    have := congrArg List.length hk
    rw [List.length_map, List.length_map] at this
    exact this
  -- the i-th entry's key
  have ent : ∀ (i : Nat) (en : DictEntry), es[i]? = some en → ∃ (q : Addr) (p : Int × Int), en.key = .ref q ∧ ps[i]? = some p ∧ H q = some (.tup [.int p.1, .int p.2]) := by
    intro i en hen
    have hi : i < es.size := (Array.getElem?_eq_some_iff.mp hen).1
    obtain ⟨kv, ekv⟩ : ∃ kv, kvs[i]? = some kv := ⟨kvs[i]'(by omega), List.getElem?_eq_getElem _⟩
    obtain ⟨b, hb, e1, e2, _⟩ := paired_get pr ekv
    have qe := entry_at he i
    rw [hb, hen] at qe
    have ek : (kvs.map (·.1))[i]? = some kv.1 := by rw [List.getElem?_map, ekv]; rfl
    rw [hk, List.getElem?_map] at ek
    obtain ⟨p, hp, ep2⟩ := Option.map_eq_some_iff.mp ek
    refine ⟨b.2.1, p, ?_, hp, ?_⟩
    · have := Option.some.inj qe
      rw [this]
      rfl
    · rw [e2, ← ep2]
      rfl
  have h16 : es.size ≤ sizeLine := by rw [n1]; exact z
  refine Calls.call_function_entry PyProof.Rows.kind_sorted PyProof.Rows.plain_sorted PyProof.Rows.entry_sorted (PyProof.Rows.args_sorted1 _) ?_
  unfold Builtin.«sorted»
  refine wpAny_bind (m := checkCount "sorted" 1 1 _) (wpAny_pure ?_)
  refine wpAny_bind (PySem.W.kdu_collect (A := X.A.in1) (src_raw es ep lo) (I.ok.hd hc) ⟨o, ho, hx, hdt⟩ h16 fun h' tk acc kp hacc => ?_)
  have hal : acc.toList.length = es.size := by rw [Array.length_toList, hacc.1]
  have I1 : Inv X pins σ H { s with heap := h', toks := tk } := I.kept kp
  have each : ∀ (j : Nat) (v : Value), acc.toList[j]? = some v → ∃ (q : Addr) (p : Int × Int), v = .ref q ∧ ps[j]? = some p ∧ H q = some (.tup [.int p.1, .int p.2]) := by
    intro j v e
    obtain ⟨en, h1, rfl⟩ := hacc.2 j v (by rw [← Array.getElem?_toList]; exact e)
    exact ent j en h1
  have pairIs : ∀ v ∈ acc.toList, ∃ q p, v = .ref q ∧ H q = some (.tup [.int (p : Int × Int).1, .int p.2]) ∧ pairAt H v = p := by
    intro v hv
    obtain ⟨j, hj, rfl⟩ := List.getElem_of_mem hv
    obtain ⟨q, p, e1, _, e3⟩ := each j _ (List.getElem?_eq_getElem hj)
    refine ⟨q, p, e1, e3, ?_⟩
    rw [e1]
    exact pairAt_ref e3
  refine wpAny_bind (wpAny_newList ?_ (by rw [hal]; exact h16))
  have hoL : (h'.push (seqObj "list" acc.toList.toArray 0)).get? h'.objs.size = some (seqObj "list" acc.toList.toArray 0) := Heap.get?_push_size _ rfl
  show wpAny _ _ _ _ _ { s with heap := h'.push (seqObj "list" acc.toList.toArray 0), toks := tk }
  have isP : ∀ v ∈ acc.toList, Srt.IsPair (h'.push (seqObj "list" acc.toList.toArray 0)) v (pairAt H v).1 (pairAt H v).2 := by
    intro v hv
    obtain ⟨q, p, rfl, e2, e3⟩ := pairIs v hv
    rw [e3]
    obtain ⟨_, its, r2, o2, ho2, hc2, n, hd2⟩ := I1.hok q _ e2
    obtain ⟨u1, u2, rfl, ri, rj⟩ := vals2 r2
    obtain ⟨t1, rfl⟩ := ri
    obtain ⟨t2, rfl⟩ := rj
    exact ⟨q, o2, t1, t2, n, rfl, Heap.get?_push_of_some _ ho2, hc2, hd2⟩
  refine wpAny_bind (wpAny_holding (wpAny_call_entry PyProof.Rows.slot_list_sort ⟨_, hoL, rfl⟩ PyProof.Rows.entry_list_sort
    (SrtO.list_sort_ord (s := { s with heap := h'.push (seqObj "list" acc.toList.toArray 0), toks := tk }) (SrtO.swo_lex (pairAt H)) hoL (by rw [hal]; exact h16) (fun h2 => SrtO.pairs_sortableO (by omega) isP (fun o e => ?_)) fun out hs hb => ⟨_, rfl, ?_⟩) (PyProof.Rows.args_list_sort _)))
  · rw [hoL] at e
    cases e
    intro z2
    have z3 : Value.type "list" = Value.type "tuple" := z2
    exact absurd z3 (by decide)
  · obtain ⟨e', he'⟩ := PyProof.Rows.sortedHeap_at (vs := acc.toList) (out := out.toArray) hoL
    have pm := hb.perm
    have ol : out.length = es.size := by rw [pm.length_eq, hal]
    have inA : ∀ v ∈ out, v ∈ acc.toList := fun v hv => pm.mem_iff.mp hv
    let E : List (Addr × (Int × Int)) := out.map fun v => (match v with | .ref q => q | _ => 0, pairAt H v)
    have eV : ∀ l : List Value, (∀ v ∈ l, v ∈ acc.toList) → Vals ((l.map fun v => ((match v with | .ref q => q | _ => 0, pairAt H v) : Addr × (Int × Int))).map fun e => V.ref e.1) l := by
      intro l
      induction l with
      | nil => intro _; exact .nil
      | cons v l ih =>
        intro hv
        refine .cons ?_ (ih fun x hx => hv x (List.mem_cons_of_mem _ hx))
        obtain ⟨q, p, rfl, _, _⟩ := pairIs v (hv v List.mem_cons_self)
        exact rfl
    have accP : acc.toList.map (pairAt H) = ps := by
      refine List.ext_getElem? fun j => ?_
      rw [List.getElem?_map]
      by_cases hj : j < acc.toList.length
      · obtain ⟨q, p, e1, e2, e3⟩ := each j _ (List.getElem?_eq_getElem hj)
        rw [List.getElem?_eq_getElem hj, e2, e1]
        show some (pairAt H (.ref q)) = some p
        rw [pairAt_ref e3]
      · rw [List.getElem?_eq_none (by omega), List.getElem?_eq_none (by omega)]
        rfl
    have E2 : E.map (·.2) = out.map (pairAt H) := by
      show (out.map _).map _ = _
      rw [List.map_map]
      rfl
    refine wpAny_pure ⟨_, rfl, .ref h'.objs.size, upd H h'.objs.size (.lst (E.map fun e => V.ref e.1)), I1.laid (t' := tk) (fun b u e => ?_) (Nat.le_refl _)
      (show ObjOk X.prog X.w _ _ _ (.lst (E.map fun e => V.ref e.1)) from ⟨?_, out, e', eV out inA, he'⟩), rfl, q E _ ?_ ?_ ?_ (I1.hok.fresh (Nat.le_refl _))⟩
    · have hb2 : b < h'.objs.size := Heap.lt_size e
      rw [PyProof.Rows.sortedHeap_old (Nat.ne_of_lt hb2) (by rw [size_push']; exact Nat.lt_succ_of_lt hb2)]
      exact Heap.get?_push_of_some _ e
    · show ((out.map _).map _).length ≤ sizeLine
      rw [List.length_map, List.length_map, ol]
      exact h16
    · rw [E2, ← accP]
      exact pm.map _
    · rw [E2, List.pairwise_map]
      exact hs
    · intro e hem
      obtain ⟨v, hv, rfl⟩ := List.mem_map.mp hem
      obtain ⟨q, p, rfl, e2, e3⟩ := pairIs v (inA v hv)
      show H q = some (.tup [.int (pairAt H (.ref q)).1, .int (pairAt H (.ref q)).2])
      rw [e3]
      exact e2
end GL
set_option Elab.async false
set_option linter.all false
set_option maxRecDepth 100000
set_option maxHeartbeats 2000000
set_option exponentiation.threshold 10000
namespace GL
open PySem PySem.Spec PyProof.Rows L2
/-- a def by its body, the code object known -/
theorem okC {P : Program} {w : World} {K : PySem.W.Frag} {mg : Str → Option Value} {base : Heap} {k : Nat} {f : Addr} {fd : FuncData} {ps : List Str} {sp : Sp}
    {x qual : Str} {params : Arguments} {body : List Stmt} {scope : Scope} {dvs : List V} {kws : List (Str × V)} {N : List Str} (F : FunD K x qual params body scope dvs kws f fd) (S : FnScope N ps scope)
    (len : ∀ vs H Q E, sp vs H Q E → vs.length = ps.length)
    (hbody : ∀ (cdv : Value) (A : Around) (outer : List Env) (s : Shared) (H : Hp) (vs : List V) (Q : VK) (E : XK), fd.code = cdv →
      Room k (A.deeper (envOfC qual scope s.heap.objs.size f cdv)) → sp vs H Q E →
      ∃ t, PSs (cxOf CX0 P w K mg base N qual scope f cdv A outer s H E).nox body t ∧ t { nx := fun _ H' => Q .non H', rt := Q } (start N vs) H) :
    FnOk P w K mg base CX0 (k + 1) f fd ps sp := by
  obtain ⟨oc, od, dV, kV, doc, pm, an, cdv, ct, osl, rfl, lk, hcd, _, _⟩ := F.ex
  refine fn_of lk hcd S len ?_
  intro A outer s H vs Q E hr hsp
  obtain ⟨t, ht, hq⟩ := hbody cdv A outer s H vs Q E rfl hr hsp
  exact ⟨t, ht.nox, hq⟩
/-- the scope of a generator expression that captures cells of its def alone -/
theorem genS_mk {qual : Str} {sc scope : Scope} {n : Nat} {f : Addr} {cdv : Value} {x : Str} (h1 : scope.kind = .function) (h2 : scope.isCoroutine = false) (h3 : scope.names.all (fun y => decide (y.2 ≠ .cell)) = true)
    (h4 : scope.names.lookup (".0" : Str) = some NameKind.local) (h5 : scope.names.lookup x = some .local) (h6 : scope.names.all (fun y => decide (y.2 ≠ .free) || decide (sc.names.lookup y.1 = some .cell)) = true) :
    GxR.GenS (envOfC qual sc n f cdv) scope x := by
  refine ⟨h1, h2, fun y hy => of_decide_eq_true (List.all_eq_true.mp h3 y hy), h4, h5, fun y hy hf => ?_⟩
  have h := List.all_eq_true.mp h6 y hy
  rw [hf, Bool.or_eq_true] at h
  rcases h with h | h
  · exact absurd rfl (of_decide_eq_true h)
  · exact cell_has (of_decide_eq_true h)
section
variable {X : Cx}
theorem tuple_mul1 (l : Addr) (items : Array Value) (n : Nat) (dd : Option Addr) (sl : Array (Option Value)) (u : Tok) :
    Meets (Builtin.«tuple.__mul__» ⟨[.ref l, .int 1 u], []⟩) (fun _ R s => s.heap.get? l = some { cls := .type "tuple", dict := dd, data := .seq items n, slots := sl } ∧ R (.ok (.ret (Value.ref l))) s) :=
  .of_wp fun prog w A R s h => by
    obtain ⟨hp, g, d, tk, os⟩ := s
    obtain ⟨hl, h⟩ := h
    have f1 := AutoSeq1.idx_int
    wp_walk using wpAny_loadPart' hl
    repeat (first
      | (refine wpAny_ite_false (decide_eq_false (by decide)) ?_; wp_walk using wpAny_loadPart' hl)
      | (refine wpAny_ite_true (decide_eq_true (by rw [show ((1 : Int) == 1) = true from rfl, Bool.or_true])) ?_; wp_walk using wpAny_loadPart' hl))
    exact ⟨_, rfl, h⟩
/-- t * k, k from 1 on -/
def rRepA (K : PySem.W.Frag) : R2 := fun x y H Q => ∃ l k xs, x = .ref l ∧ y = .int k ∧ SqT K H l xs ∧ xs ≠ [] ∧ 1 ≤ k ∧ k ≤ 1000 ∧ xs.length ≤ 1000 ∧ (k = 1 → Q (.ref l) H) ∧ (2 ≤ k → ∀ p, H p = none → Q (.ref p) (upd H p (.tup (List.replicate k.toNat xs).flatten)))
theorem op_repA : OpR X (binaryOp .Mult) (rRepA X.K) := by
  intro pins s σ H x y v u Q I rx ry h
  obtain ⟨l, k, xs, rfl, rfl, hT, hne, h1, h2, hz, q1, q2⟩ := h
  by_cases e : k = 1
  · subst e
    cases rx
    obtain ⟨t, rfl⟩ := ry
    obtain ⟨its, r, ⟨⟨cls, dd, data, sl⟩, ho, hc, n, hd⟩, hs⟩ := I.tuple hT
    simp only at hc hd
    subst hc hd
    refine wpAny_binaryOp_repeat_ref (T := "tuple") (U := "int") (by decide) ⟨_, ho, rfl⟩ (fun s' => typeIs_int s' 1 t) noFill_tuple_mul F.fills_int_mul F.slot_int_rmul repeat_tuple F.slot_int_index.lookup
      (call_meets F.slot_int_rmul (typeIs_int s 1 t) F.entry_int_rmul (F.args_int_rmul_2 _ _) (int_rmul_tuple 1 t l its.toArray n dd sl)
        ⟨ho, rfl, ⟨_, ho, rfl⟩, call_meets F.slot_tuple_mul ⟨_, ho, rfl⟩ F.entry_tuple_mul (F.args_tuple_mul_2 _ _) (tuple_mul1 l its.toArray n dd sl t) ⟨ho, ?_⟩⟩)
    exact ⟨.ref l, H, I, rfl, q1 rfl⟩
  · exact op_repT pins s σ H _ _ v u Q I rx ry ⟨l, k, xs, rfl, rfl, hT, hne, by omega, h2, hz, q2 (by omega)⟩
end
end GL
set_option Elab.async false
set_option linter.all false
set_option maxRecDepth 100000
set_option maxHeartbeats 2000000
set_option exponentiation.threshold 10000
/-! Texts that are short; data that repr shows, put together of parts. -/
namespace GL
open PySem PySem.Spec PyProof.Rows L2
structure Lo (n : Nat) (s : Str) : Prop where
  len : s.cps.size ≤ n
  chars : ∀ c ∈ s.cps.toList, c < 16 ^ 8
theorem Lo.mono {n m : Nat} {s : Str} (h : Lo n s) (l : n ≤ m) : Lo m s := ⟨Nat.le_trans h.len l, h.chars⟩
theorem Lo.app {n m : Nat} {s t : Str} (a : Lo n s) (b : Lo m t) : Lo (n + m) (s ++ t) := by
  have e : (s ++ t).cps = s.cps ++ t.cps := rfl
  refine ⟨?_, fun c hc => ?_⟩
  · rw [e, Array.size_append]
    have := a.len
    have := b.len
    omega
  · rw [e, Array.toList_append] at hc
    rcases List.mem_append.mp hc with z | z
    · exact a.chars c z
    · exact b.chars c z
theorem Lo.one {c : Nat} (h : c < 16 ^ 8) : Lo 1 ⟨#[c]⟩ := ⟨Nat.le_refl _, fun x hx => by
  rw [List.mem_singleton.mp hx]
  exact h⟩
theorem Lo.fold (g : Str) (hg : g.cps = #[]) : ∀ (ps : List Str) (acc : Array Nat) (n : Nat), (∀ p ∈ ps, Lo 1 p) → Lo n ⟨acc⟩ → Lo (n + ps.length) ⟨ps.foldl (fun acc p => acc ++ g.cps ++ p.cps) acc⟩
  | [], acc, n, _, h => h
  | p :: r, acc, n, hp, h => by
    have h1 : Lo (n + 1) ⟨acc ++ g.cps ++ p.cps⟩ := by
      rw [hg, Array.append_empty]
      exact h.app (hp p List.mem_cons_self)
    have h2 := Lo.fold g hg r _ _ (fun q hq => hp q (List.mem_cons_of_mem _ hq)) h1
    rw [List.length_cons, Nat.add_comm r.length, ← Nat.add_assoc]
    exact h2
theorem Lo.join (g : Str) (hg : g.cps = #[]) (ps : List Str) (h : ∀ p ∈ ps, Lo 1 p) : Lo ps.length (Txt.join g ps) := by
  cases ps with
  | nil => exact ⟨Nat.le_refl _, fun c hc => (nomatch hc)⟩
  | cons p r =>
    have h1 : Lo 1 p := h p List.mem_cons_self
    have h2 := Lo.fold g hg r p.cps 1 (fun q hq => h q (List.mem_cons_of_mem _ hq)) h1
    rw [List.length_cons, Nat.add_comm]
    exact h2
theorem cut_map {α : Type} (f : α → V) (ws : List α) (lo hi : Option Int) : ∃ ys : List α, cutV (ws.map f) lo hi = ys.map f ∧ (∀ s ∈ ys, s ∈ ws) ∧ ys.length ≤ ws.length := by
  refine ⟨(ws.drop (HT.sIx (ws.map f).length 0 lo)).take (HT.sIx (ws.map f).length (ws.map f).length hi - HT.sIx (ws.map f).length 0 lo), ?_, fun s hs => List.mem_of_mem_drop (List.mem_of_mem_take hs), ?_⟩
  · unfold cutV
    rw [List.map_take, List.map_drop]
  · rw [List.length_take, List.length_drop]
    omega
theorem sum_one {ys : List Str} (h : ∀ s ∈ ys, Lo 1 s) : (ys.map (·.length)).sum ≤ ys.length := by
  induction ys with
  | nil => exact Nat.le_refl _
  | cons y r ih =>
    have h1 : y.length ≤ 1 := (h y List.mem_cons_self).len
    have h2 := ih (fun s hs => h s (List.mem_cons_of_mem _ hs))
    rw [List.map_cons, List.sum_cons, List.length_cons]
    omega
/-! ### what repr shows -/
structure Sm (k n : Nat) (d : PyData) : Prop where
  s : d.showable = true
  nd : d.hasDict = false
  dp : d.depth ≤ k
  z : d.leavesShort 600 = true
  b : d.bulk ≤ n
structure SmAll (k n : Nat) (ds : List PyData) : Prop where
  s : PyData.showableAll ds = true
  nd : PyData.hasDictAll ds = false
  dp : PyData.depthAll ds ≤ k
  z : PyData.leavesShortAll 600 ds = true
  b : PyData.bulkAll ds ≤ n
theorem Sm.mono {k k' n n' : Nat} {d : PyData} (h : Sm k n d) (h1 : k ≤ k') (h2 : n ≤ n') : Sm k' n' d := ⟨h.s, h.nd, Nat.le_trans h.dp h1, h.z, Nat.le_trans h.b h2⟩
theorem SmAll.mono {k k' n n' : Nat} {d : List PyData} (h : SmAll k n d) (h1 : k ≤ k') (h2 : n ≤ n') : SmAll k' n' d := ⟨h.s, h.nd, Nat.le_trans h.dp h1, h.z, Nat.le_trans h.b h2⟩
theorem Sm.int {i : Int} (h : Fine i) : Sm 0 0 (.int i) := ⟨decide_eq_true h.log, rfl, Nat.le_refl _, decide_eq_true h.len, Nat.le_refl _⟩
theorem Sm.str {n : Nat} {s : Str} (h : Lo n s) : Sm 0 n (.str s) := by
  refine ⟨rfl, rfl, Nat.le_refl _, ?_, h.len⟩
  simp only [PyData.leavesShort, List.all_eq_true, decide_eq_true_eq]
  exact h.chars
theorem SmAll.nil : SmAll 0 0 [] := ⟨rfl, rfl, Nat.le_refl _, rfl, Nat.le_refl _⟩
theorem SmAll.cons {k n m : Nat} {d : PyData} {ds : List PyData} (a : Sm k n d) (b : SmAll k m ds) : SmAll k (n + 1 + m) (d :: ds) := by
  refine ⟨?_, ?_, ?_, ?_, ?_⟩
  · simp only [PyData.showableAll, a.s, b.s, Bool.and_self]
  · simp only [PyData.hasDictAll, a.nd, b.nd, Bool.or_self]
  · have := a.dp
    have := b.dp
    simp only [PyData.depthAll]
    omega
  · simp only [PyData.leavesShortAll, a.z, b.z, Bool.and_self]
  · have := a.b
    have := b.b
    simp only [PyData.bulkAll]
    omega
theorem SmAll.map {α : Type} {k n : Nat} {f : α → PyData} : ∀ {xs : List α}, (∀ x ∈ xs, Sm k n (f x)) → SmAll k (xs.length * (n + 1)) (xs.map f)
  | [], _ => SmAll.nil.mono (Nat.zero_le _) (Nat.zero_le _)
  | x :: r, h => by
    have h2 := SmAll.cons (h x List.mem_cons_self) (SmAll.map (fun y hy => h y (List.mem_cons_of_mem _ hy)))
    rw [List.length_cons, Nat.add_mul, Nat.one_mul, Nat.add_comm]
    exact h2
theorem Sm.tup {k n : Nat} {ds : List PyData} (h : SmAll k n ds) : Sm (k + 1) n (.tuple ds) := by
  refine ⟨?_, ?_, ?_, ?_, ?_⟩
  · simp only [PyData.showable, h.s]
  · simp only [PyData.hasDict, h.nd]
  · have := h.dp
    simp only [PyData.depth]
    omega
  · simp only [PyData.leavesShort, h.z]
  · simp only [PyData.bulk]
    exact h.b
theorem Sm.lst {k n : Nat} {ds : List PyData} (h : SmAll k n ds) : Sm (k + 1) n (.list ds) := by
  refine ⟨?_, ?_, ?_, ?_, ?_⟩
  · simp only [PyData.showable, h.s]
  · simp only [PyData.hasDict, h.nd]
  · have := h.dp
    simp only [PyData.depth]
    omega
  · simp only [PyData.leavesShort, h.z]
  · simp only [PyData.bulk]
    exact h.b
theorem Sm.show {k n : Nat} {d : PyData} (h : Sm k n d) (h1 : k ≤ 60) (h2 : n ≤ 20000) : Show d := show_of h.s h.nd (Nat.le_trans h.dp h1) h.z (Nat.le_trans h.b h2)
/-! ### slices, sums of tuples, by what stands behind -/
def rSlH : V → Option Int → Option Int → Hp → VK → Prop := fun x lo hi H Q => ∃ a xs, x = .ref a ∧ H a = some (.tup xs) ∧ ∀ p H', Keep [] H H' → H' p = some (.tup (cutV xs lo hi)) → Q (.ref p) H'
theorem cut_whole {xs : List V} {lo hi : Option Int} (h : HT.sIx xs.length 0 lo = 0 ∧ HT.sIx xs.length xs.length hi = xs.length) : cutV xs lo hi = xs := by
  unfold cutV
  rw [h.1, h.2, List.drop_zero, Nat.sub_zero, List.take_length]
theorem sl_tupH {X : Cx} : SlR X rSlH := by
  intro pins s σ H x v vl vu lo hi sl Q I rx hs pl pu h
  obtain ⟨a, xs, rfl, hx, q⟩ := h
  exact sl_tupA pins s σ H _ v vl vu lo hi sl Q I rx hs pl pu ⟨a, xs, rfl, .of hx, fun hw => q a H (Keep.refl [] H) (by rw [cut_whole hw]; exact hx), fun _ p np => q p _ ((Keep.refl [] H).new np) upd_same⟩
def rCatH : R2 := fun x y H Q => ∃ a b xs ys, x = .ref a ∧ y = .ref b ∧ H a = some (.tup xs) ∧ H b = some (.tup ys) ∧ xs.length + ys.length ≤ sizeLine ∧ ∀ p H', Keep [] H H' → H' p = some (.tup (xs ++ ys)) → Q (.ref p) H'
theorem op_catH {X : Cx} : OpR X (binaryOp .Add) rCatH := by
  intro pins s σ H x y v u Q I rx ry h
  obtain ⟨a, b, xs, ys, rfl, rfl, ha, hb, hz, q⟩ := h
  refine op_catA pins s σ H _ _ v u Q I rx ry ⟨a, b, xs, ys, rfl, rfl, .of ha, .of hb, hz, fun e => q b H (Keep.refl [] H) (by rw [e]; exact hb), fun _ e => q a H (Keep.refl [] H) (by rw [e, List.append_nil]; exact ha), fun _ _ p np => q p _ ((Keep.refl [] H).new np) upd_same⟩
theorem dpAll_strs {K : PySem.W.Frag} {H : Hp} : ∀ ns : List Str, DpAll K H (ns.map V.str) (ns.map PyData.str)
  | [] => .nil
  | x :: r => .cons (.str x) (dpAll_strs r)
end GL
set_option Elab.async false
set_option linter.all false
set_option maxRecDepth 100000
set_option maxHeartbeats 2000000
/-! xs[i] += e, of a list. -/
namespace GL
open PySem PySem.Spec PyProof.Rows L2
section
variable {X : Cx}
def rGetL (K : PySem.W.Frag) : V → V → Hp → VK → Prop := fun x y H Q => ∃ p xs i v, x = .ref p ∧ y = .int i ∧ 0 ≤ i ∧ SqL K H p xs ∧ atI xs i = some v ∧ Q v H
theorem get_list : PGet X (rGetL X.K) := by
  intro pins s σ H x y v u Q I rx ry h
  obtain ⟨p, xs, i, z, rfl, rfl, h0, hq, he, q⟩ := h
  cases rx
  obtain ⟨t, rfl⟩ := ry
  obtain ⟨its, r, pl, hz⟩ := I.list hq
  obtain ⟨j, h1, h2, h3, h4, h5⟩ := atI_get he
  obtain ⟨w, ew, rw'⟩ := r.get h2
  have hl := r.length
  have hn := line63
  have hj : i.toNat = j := by
    rw [seqIndex_of h0 h5] at h1
    exact Option.some.inj h1
  exact wpAny_getItem_list pl.isList h0 (by omega) (by rw [hj]; simpa using ew) ⟨z, H, I, rw', q⟩
end
end GL
set_option Elab.async false
set_option linter.all false
set_option maxRecDepth 100000
set_option maxHeartbeats 2000000
set_option pp.maxSteps 300
set_option pp.deepTerms false
namespace K04
open PySem PySem.Spec PyProof.Rows L2 GL
def top (i : Nat) : Stmt := PySem.Challenge.pw_leapranks_k04_columns_and_sizes.main.body.getD i (.Pass ⟨0, 0, 0, 0⟩)
abbrev FnP (K : PySem.W.Frag) (x : Str) (st : Stmt) (f : Addr) (fd : FuncData) : Prop := FunD K x x (defArgs st) (defBody st) (defScope st) [] [] f fd
abbrev s_row_of : Stmt := top 1
abbrev N_row_of : List Str := ["web", "a", "names", "ties", "leaps", "chance", "falls", "row", "start", "goal", "weight"]
theorem sc_row_of : FnScope N_row_of ["web", "a"] (defScope s_row_of) := ⟨rfl, rfl, rfl, by decide +kernel, rfl, by decide +kernel, by decide +kernel⟩
abbrev s_column_of : Stmt := top 3
abbrev N_column_of : List Str := ["web", "a", "p", "q", "row", "column", "number"]
theorem sc_column_of : FnScope N_column_of ["web", "a"] (defScope s_column_of) := ⟨rfl, rfl, rfl, by decide +kernel, rfl, by decide +kernel, by decide +kernel⟩
abbrev s_size_of : Stmt := top 4
abbrev N_size_of : List Str := ["web", "a"]
theorem sc_size_of : FnScope N_size_of ["web", "a"] (defScope s_size_of) := ⟨rfl, rfl, rfl, by decide +kernel, rfl, by decide +kernel, by decide +kernel⟩
abbrev s__law_pen : Stmt := top 6
abbrev N__law_pen : List Str := ["_law_script"]
theorem sc__law_pen : FnScope N__law_pen ["_law_script"] (defScope s__law_pen) := ⟨rfl, rfl, rfl, by decide +kernel, rfl, by decide +kernel, by decide +kernel⟩
abbrev s__law_draw : Stmt := top 7
abbrev N__law_draw : List Str := ["_law_pen_here", "_law_many", "_law_digit", "_law_at", "_law_cell", "_law_primes", "_law_number"]
theorem sc__law_draw : FnScope N__law_draw ["_law_pen_here", "_law_many"] (defScope s__law_draw) := ⟨rfl, rfl, rfl, by decide +kernel, rfl, by decide +kernel, by decide +kernel⟩
abbrev s__law_pick : Stmt := top 8
abbrev N__law_pick : List Str := ["_law_pen_here", "_law_some"]
theorem sc__law_pick : FnScope N__law_pick ["_law_pen_here", "_law_some"] (defScope s__law_pick) := ⟨rfl, rfl, rfl, by decide +kernel, rfl, by decide +kernel, by decide +kernel⟩
abbrev s__law_names : Stmt := top 9
abbrev N__law_names : List Str := ["_law_pen_here", "_law_many", "_law_letters", "_law_step", "_law_first", "_law_base", "_law_at", "_law_ahead", "_law_behind", "_law_k"]
theorem sc__law_names : FnScope N__law_names ["_law_pen_here", "_law_many"] (defScope s__law_names) := ⟨rfl, rfl, rfl, by decide +kernel, rfl, by decide +kernel, by decide +kernel⟩
abbrev s__law_leaps : Stmt := top 10
abbrev N__law_leaps : List Str := ["_law_pen_here", "_law_many", "_law_way", "_law_spot", "_law_some", "_law_k", "_law_number"]
theorem sc__law_leaps : FnScope N__law_leaps ["_law_pen_here", "_law_many"] (defScope s__law_leaps) := ⟨rfl, rfl, rfl, by decide +kernel, rfl, by decide +kernel, by decide +kernel⟩
abbrev s__law_ties : Stmt := top 11
abbrev N__law_ties : List Str := ["_law_pen_here", "_law_many", "_law_way", "_law_top", "_law_bare", "_law_found", "_law_a", "_law_k", "_law_pair", "_law_b"]
theorem sc__law_ties : FnScope N__law_ties ["_law_pen_here", "_law_many"] (defScope s__law_ties) := ⟨rfl, rfl, rfl, by decide +kernel, rfl, by decide +kernel, by decide +kernel⟩
abbrev s__law_web : Stmt := top 12
abbrev N__law_web : List Str := ["_law_pen_here", "_law_most", "_law_many", "_law_q", "_law_p", "_law_falls"]
theorem sc__law_web : FnScope N__law_web ["_law_pen_here", "_law_most"] (defScope s__law_web) := ⟨rfl, rfl, rfl, by decide +kernel, rfl, by decide +kernel, by decide +kernel⟩
abbrev s__law_twins : Stmt := top 13
abbrev N__law_twins : List Str := ["_law_pen_here", "_law_web_here", "_law_names_here", "_law_ties_here", "_law_leaps_here", "_law_chance", "_law_falls", "_law_others"]
theorem sc__law_twins : FnScope N__law_twins ["_law_pen_here", "_law_web_here"] (defScope s__law_twins) := ⟨rfl, rfl, rfl, by decide +kernel, rfl, by decide +kernel, by decide +kernel⟩
abbrev s__law_due : Stmt := top 14
abbrev N__law_due : List Str := ["_law_web_here", "_law_a", "_law_p", "_law_q", "_law_row", "_law_found", "_law_b", "_law_number"]
theorem sc__law_due : FnScope N__law_due ["_law_web_here", "_law_a"] (defScope s__law_due) := ⟨rfl, rfl, rfl, by decide +kernel, rfl, by decide +kernel, by decide +kernel⟩
abbrev s__law_right : Stmt := top 15
abbrev N__law_right : List Str := ["_law_web_here", "_law_a", "_law_due_here", "_law_found", "_law_b"]
theorem sc__law_right : FnScope N__law_right ["_law_web_here", "_law_a"] (defScope s__law_right) := ⟨rfl, rfl, rfl, by decide +kernel, rfl, by decide +kernel, by decide +kernel⟩
abbrev s_law : Stmt := top 16
abbrev N_law : List Str := ["_law_script", "_law_pen_here", "_law_turn", "_law_webs", "_law_shown", "_law_begin", "_law_places", "_law_a", "_law_web_here"]
theorem sc_law : FnScope N_law ["_law_script"] (defScope s_law) := ⟨rfl, rfl, rfl, by decide +kernel, rfl, by decide +kernel, by decide +kernel⟩
/-! ### webs -/
structure Web where
  names : List Str
  ties : List (Int × Int × Int)
  leaps : List Int
  p : Int
  q : Int
  falls : List Int
def tieT (t : Int × Int × Int) : HO := .tup [.int t.1, .int t.2.1, .int t.2.2]
/-- the web w stands at a, in tuples -/
structure WebAt (H : Hp) (a : Addr) (w : Web) : Prop where
  ex : ∃ (n t l c f : Addr) (ts : List Addr), H a = some (.tup [.ref n, .ref t, .ref l, .ref c, .ref f]) ∧ H n = some (.tup (w.names.map V.str)) ∧ H t = some (.tup (ts.map V.ref)) ∧ ts.length = w.ties.length ∧
    (∀ (j : Nat) (b : Addr) (x : Int × Int × Int), ts[j]? = some b → w.ties[j]? = some x → H b = some (tieT x)) ∧ H l = some (.tup (w.leaps.map V.int)) ∧ H c = some (.tup [.int w.p, .int w.q]) ∧ H f = some (.tup (w.falls.map V.int))
/-- no tuple stands at these places -/
def NoT (H : Hp) (ex : List Addr) : Prop := ∀ e ∈ ex, ∀ xs, H e ≠ some (.tup xs)
theorem Keep.tup {ex : List Addr} {H H' : Hp} (k : Keep ex H H') (n : NoT H ex) {b : Addr} {xs : List V} (h : H b = some (.tup xs)) : H' b = some (.tup xs) := k b _ (fun z => n b z xs h) h
theorem WebAt.keep {ex : List Addr} {H H' : Hp} {a : Addr} {w : Web} (x : WebAt H a w) (k : Keep ex H H') (nt : NoT H ex) : WebAt H' a w := by
  obtain ⟨n, t, l, c, f, ts, h1, h2, h3, h4, h5, h6, h7, h8⟩ := x.ex
  exact ⟨n, t, l, c, f, ts, Keep.tup k nt h1, Keep.tup k nt h2, Keep.tup k nt h3, h4, fun j b x hj hx => Keep.tup k nt (h5 j b x hj hx), Keep.tup k nt h6, Keep.tup k nt h7, Keep.tup k nt h8⟩
theorem noT_nil (H : Hp) : NoT H [] := fun _ h => (nomatch h)
theorem noT_tab {H : Hp} {T : Addr} (h : GxR.TabG H T) : NoT H [T] := fun e he xs z => by
  obtain ⟨ps, e1, _⟩ := h
  rw [List.mem_singleton.mp he, e1] at z
  cases z
/-! ### rows -/
def fillRow (a : Int) (ties : List (Int × Int × Int)) (r : List Int) : List Int := ties.foldl (fun row t => if t.1 = a then row.set t.2.1.toNat t.2.2 else row) r
def rowOf (w : Web) (a : Int) : List Int :=
  let r := fillRow a w.ties (List.replicate w.names.length 0)
  if r.any (fun n => decide (0 < n)) = true then r else if w.falls = [] then r.set a.toNat 1 else w.falls
theorem fill_len (a : Int) : ∀ (ties : List (Int × Int × Int)) (r : List Int), (fillRow a ties r).length = r.length
  | [], _ => rfl
  | t :: ts, r => by
    show (fillRow a ts (if t.1 = a then r.set t.2.1.toNat t.2.2 else r)).length = _
    rw [fill_len a ts]
    split
    · rw [List.length_set]
    · rfl
theorem fill_take (a : Int) (ties : List (Int × Int × Int)) (r : List Int) {i : Nat} {t : Int × Int × Int} (h : ties[i]? = some t) :
    fillRow a (ties.take (i + 1)) r = (if t.1 = a then (fillRow a (ties.take i) r).set t.2.1.toNat t.2.2 else fillRow a (ties.take i) r) := by
  unfold fillRow
  rw [List.take_add_one, h]
  simp
/-- what is known of a web's parts -/
structure Fits (w : Web) : Prop where
  many : 1 ≤ w.names.length ∧ w.names.length ≤ 1000
  ties : ∀ t ∈ w.ties, 0 ≤ t.2.1 ∧ t.2.1 < w.names.length
  falls : w.falls = [] ∨ w.falls.length = w.names.length
theorem row_len {w : Web} (h : Fits w) (a : Int) : (rowOf w a).length = w.names.length := by
  unfold rowOf
  have e := fill_len a w.ties (List.replicate w.names.length 0)
  rw [List.length_replicate] at e
  simp only
  split
  · exact e
  · split
    · rw [List.length_set]
      exact e
    · rename_i _ hf
      rcases h.falls with z | z
      · exact absurd z hf
      · exact z
theorem ixN_nat {n j : Nat} (h : j < n) : ixN n (j : Int) = some j := by
  unfold ixN
  rw [if_pos (by omega), if_pos (by omega)]
  simp
theorem ixN_int {n : Nat} {j : Int} (h0 : 0 ≤ j) (h : j < n) : ixN n j = some j.toNat := by
  obtain ⟨k, rfl⟩ := Int.eq_ofNat_of_zero_le h0
  exact ixN_nat (by omega)
theorem canLay_ints : ∀ ns : List Int, PyData.canLayAll0 (ns.map PyData.int) = true
  | [] => rfl
  | _ :: r => by
    show (PyData.canLay0 (.int _) && PyData.canLayAll0 (r.map PyData.int)) = true
    rw [canLay_ints r]
    rfl
theorem shaped_tup (ns : List Int) : SeqAt.shaped (.tuple (ns.map PyData.int)) = true := by
  unfold SeqAt.shaped
  rw [Bool.and_eq_true]
  refine ⟨canLay_ints ns, ?_⟩
  have := GL.depth_ints ns
  simp only [PyData.depth, this]
  decide
theorem eqv_tnil (ns : List Int) : PyData.eqv (.tuple (ns.map PyData.int)) (.tuple []) = ns.isEmpty := by
  cases ns <;> rfl
theorem rep_ints (n : Nat) : (List.replicate n [V.int 0]).flatten = (List.replicate n (0 : Int)).map V.int := by
  induction n with
  | zero => rfl
  | succ i ih =>
    rw [List.replicate_succ, List.flatten_cons, ih, List.replicate_succ]
    rfl
theorem nilX {z : Addr} {X : Prop} (h : z ∈ ([] : List Addr)) : X := (nomatch h)
section
variable {P : Program} {w : World} {K : PySem.W.Frag} {mg : Str → Option Value} {base : Heap}
def spRow (T : Addr) : Sp := fun vs H Q _ => ∃ (x : Addr) (a : Int) (W : Web), vs = [.ref x, .int a] ∧ WebAt H x W ∧ Fits W ∧ 0 ≤ a ∧ a < W.names.length ∧ GxR.TabG H T ∧
  ∀ p H', Keep [T] H H' → GxR.TabG H' T → H' p = some (.tup ((rowOf W a).map V.int)) → Q (.ref p) H'
def bPos (_ : L2.St) (v : V) : Bool := match v with
  | .int n => decide (0 < n)
  | _ => false
theorem ok_row {f c T : Addr} {fd : FuncData} (F : FnP K "row_of" s_row_of f fd) (hcd : fd.code = .ref c) (TB : GxR.TabB base mg c T) (m_len : mg "len" = none) (m_any : mg "any" = none) (m_tuple : mg "tuple" = none) :
    FnOk P w K mg base CX0 1 f fd ["web", "a"] (spRow T) := by
  refine okC F sc_row_of (fun vs H Q E h => ?_) (fun cdv A outer s H vs Q E hcv hr h => ?_)
  · obtain ⟨x, a, W, rfl, _⟩ := h
    rfl
  · obtain ⟨x, a, W, rfl, hW, hF, a0, a1, hT, q⟩ := h
    obtain rfl : cdv = .ref c := hcv.symm.trans hcd
    obtain ⟨n, t, l, ch, fa, ts, h1, h2, h3, h4, h5, h6, h7, h8⟩ := hW.ex
    refine ⟨_, PSs.nox (pss_cons (ps_asg (pv 0) (pg_tup rfl (pgs_cons (pg_name (i := 2) sc_row_of.nd rfl (.inl rfl)) (pgs_cons (pg_name (i := 3) sc_row_of.nd rfl (.inl rfl)) (pgs_cons (pg_name (i := 4) sc_row_of.nd rfl (.inl rfl)) (pgs_cons (pg_name (i := 5) sc_row_of.nd rfl (.inl rfl)) (pgs_cons (pg_name (i := 6) sc_row_of.nd rfl (.inl rfl)) pgs_nil)))))))
    (pss_cons (ps_set (i := 7) sc_row_of.nd rfl (.inl rfl) (pe_op op_rep (pe_lst (pa_cons pe_int pa_nil)) (pe_callB call_len_seq (by rfl) m_len (by decide +kernel) (pa_cons (pv 2) pa_nil))))
    (pss_cons (ps_for PassesOwn.never rfl (pi_tup (pv 3)) (pg_tup rfl (pgs_cons (pg_name (i := 8) sc_row_of.nd rfl (.inl rfl)) (pgs_cons (pg_name (i := 9) sc_row_of.nd rfl (.inl rfl)) (pgs_cons (pg_name (i := 10) sc_row_of.nd rfl (.inl rfl)) pgs_nil))))
      (pss_one (ps_if (pt_cmpR op_eq (pv 8) (pv 1) (nomark _))
      (pss_one (ps_asg (pv 10) (pg_sub (pv 7) (pv 9) set_list)))
      pss_nil)))
    (pss_cons (ps_if (pt_val (pe_anyG (dom := fun _ v => ∃ n : Int, v = .int n) (b := bPos) hr (by rfl) m_any TB rfl (genS_mk (by rfl) (by rfl) (by decide +kernel) (by rfl) (by rfl) (by decide +kernel)) (pv 7) (by
        intro σ pins H1 s1 cenv A' E' v u s2 m2 I hTb hsc hce hA hD hU hdom ru hn hm hk
        obtain ⟨n, rfl⟩ := hdom
        obtain ⟨tn, rfl⟩ := ru
        refine wpAny_Compare1 (elt_own hsc (by rfl) (by rfl) hn hm (wpAny_Constant_int (gt_int ⟨?_, GxR.keeps_tok _ _⟩)))
        rfl) (fun _ => rfl)))
      (pss_one (ps_ret (pe_callTy call_tuple_of (by rfl) m_tuple (by decide +kernel) (pa_cons (pv 7) pa_nil))))
      pss_nil)
    (pss_cons (ps_if (pt_cmpR (op_neD hr.units) (pv 6) (pe_tup pa_nil) (nomark _))
      (pss_one (ps_ret (pe_callTy call_tuple_of (by rfl) m_tuple (by decide +kernel) (pa_cons (pv 6) pa_nil))))
      pss_nil)
    (pss_cons (ps_asg pe_int (pg_sub (pv 7) (pv 1) set_list))
    (pss_one (ps_ret (pe_callTy call_tuple_of (by rfl) m_tuple (by decide +kernel) (pa_cons (pv 7) pa_nil)))))))))), ?_⟩
    -- names, ties, leaps, chance, falls = web
    refine ⟨_, rfl, x, _, rfl, .of h1, rfl, _, _, rfl, _, _, rfl, _, _, rfl, _, _, rfl, _, _, rfl, rfl, ?_⟩
    -- row = [0] * len(names)
    refine ⟨(by show 1 ≤ sizeLine; decide), fun p0 np0 => ?_⟩
    have k0 : Keep [] H (upd H p0 (.lst [.int 0])) := (Keep.refl [] H).new np0
    refine ⟨_, rfl, n, _, rfl, .inr (.of (k0 n _ (fun z => nilX z) h2)), p0, _, _, rfl, rfl, upd_same, by omega, ?_, ?_, fun p np => ?_⟩
    · rw [List.length_map]
      have := hF.many
      omega
    · show 1 * ((W.names.map V.str).length : Int).toNat ≤ sizeLine
      rw [List.length_map]
      have := hF.many
      exact lt_size (by omega)
    have e0 : (List.replicate (((W.names.map V.str).length : Int)).toNat [V.int 0]).flatten = (List.replicate W.names.length (0 : Int)).map V.int := by
      rw [List.length_map, Int.toNat_natCast, rep_ints]
    have np' : H p = none := k0.fresh (fun z => nilX z) np
    rw [e0]
    have k1 := k0.new (o := .lst ((List.replicate W.names.length (0 : Int)).map V.int)) np
    have ep : upd (upd H p0 (.lst [.int 0])) p (.lst ((List.replicate W.names.length (0 : Int)).map V.int)) p = some (.lst ((List.replicate W.names.length (0 : Int)).map V.int)) := upd_same
    generalize upd (upd H p0 (.lst [.int 0])) p (.lst ((List.replicate W.names.length (0 : Int)).map V.int)) = H1 at k1 ep
    -- the loop
    refine ⟨_, rfl, t, rfl, ⟨_, .of (k1 t _ (fun z => nilX z) h3)⟩, for_tup (xs := ts.map V.ref) (fun i σ H' => ∃ y8 y9 y10 : Option V, σ = [some (.ref x), some (.int a), some (.ref n), some (.ref t), some (.ref l), some (.ref ch), some (.ref fa), some (.ref p), y8, y9, y10] ∧ Keep [] H H' ∧ H' p = some (.lst ((fillRow a (W.ties.take i) (List.replicate W.names.length 0)).map V.int)))
      ⟨none, none, none, rfl, k1, ep⟩ ?_ ?_ ?_⟩
    · rintro i σ H' _ ⟨_, _, _, rfl, k, _⟩
      exact .of (k t _ (fun z => nilX z) h3)
    · rintro i v σ H' hv ⟨y8, y9, y10, rfl, k, e⟩
      rw [List.getElem?_map] at hv
      obtain ⟨b, hb, rfl⟩ := Option.map_eq_some_iff.mp hv
      have hi : i < W.ties.length := by
        rw [← h4]
        exact (List.getElem?_eq_some_iff.mp hb).1
      have ht := List.getElem?_eq_getElem hi
      have eb := k b _ (fun z => nilX z) (h5 i b _ hb ht)
      have hg := hF.ties _ (List.getElem_mem hi)
      generalize W.ties[i] = tt at ht eb hg
      refine ⟨b, _, rfl, .of eb, rfl, _, _, rfl, _, _, rfl, _, _, rfl, rfl, ?_⟩
      have ef := fill_take a W.ties (List.replicate W.names.length 0) ht
      refine ⟨_, rfl, _, rfl, rfl, _, rfl, ite2 (fun c => ?_) (fun c => ?_)⟩
      · have ea : tt.1 = a := V.int.inj (of_decide_eq_true c)
        refine ⟨_, rfl, _, rfl, _, rfl, p, _, _, tt.2.1.toNat, rfl, rfl, e, ixN_int hg.1 ?_, _, _, _, rfl, k.own np', ?_⟩
        · rw [List.length_map, fill_len, List.length_replicate]
          exact hg.2
        · rw [upd_same, ef, if_pos ea, List.map_set]
      · have ea : ¬ tt.1 = a := fun z => c (decide_eq_true (congrArg V.int z))
        exact ⟨_, _, _, rfl, k, by rw [e, ef, if_neg ea]⟩
    · rintro σ H' ⟨y8, y9, y10, rfl, k, e⟩
      rw [List.length_map, h4, List.take_length] at e
      have nt := noT_tab hT
      have hT1 : GxR.TabG H' T := by
        obtain ⟨ps, e1, tr⟩ := hT
        exact ⟨ps, k T _ (fun z => nilX z) e1, tr⟩
      have pT : p ∉ [T] := fun z => by
        obtain ⟨ps, e1, _⟩ := hT1
        rw [← List.mem_singleton.mp z, e] at e1
        cases e1
      -- any(number > 0 for number in row)
      refine ⟨_, rfl, p, _, rfl, .inl (.of e), ?_, hT1, fun H2 hTb => ?_⟩
      · intro v hv
        obtain ⟨m, _, rfl⟩ := List.mem_map.mp hv
        exact ⟨m, rfl⟩
      have k2 := tabbed_keep hTb
      have e2 := k2 p _ pT e
      have kT : Keep [T] H H2 := (k.mono (fun _ z => nilX z)).trans k2
      have ea : ((fillRow a W.ties (List.replicate W.names.length 0)).map V.int).any (bPos [some (V.ref x), some (V.int a), some (V.ref n), some (V.ref t), some (V.ref l), some (V.ref ch), some (V.ref fa), some (V.ref p), y8, y9, y10]) = (fillRow a W.ties (List.replicate W.names.length 0)).any (fun n => decide (0 < n)) := by
        rw [List.any_map]
        rfl
      rw [ea]
      have tup_new : ∀ (zs : List Int) (H3 : Hp), Keep [T] H H3 → GxR.TabG H3 T → ∀ r, H3 r = none → zs = rowOf W a → Q (.ref r) (upd H3 r (.tup (zs.map V.int))) := by
        intro zs H3 k3 t3 r hr3 ez
        subst ez
        refine q r _ (k3.new hr3) ?_ upd_same
        obtain ⟨ps, e3, tr⟩ := t3
        exact ⟨ps, by rw [upd_ne (ne_of_none e3 hr3)]; exact e3, tr⟩
      refine ⟨_, rfl, ite2 (fun c1 => ?_) (fun c1 => ?_)⟩
      · refine ⟨_, rfl, p, _, rfl, .inl ⟨.of e2, fun r nr => tup_new _ H2 kT hTb.1 r nr ?_⟩⟩
        unfold rowOf
        rw [if_pos c1]
      · -- falls
        have ef := Keep.tup k2 (noT_tab hT1) (k fa _ (fun z => nilX z) h8)
        refine ⟨_, rfl, Nat.zero_le _, fun ne nne => ?_⟩
        have kn : Keep [] H2 (upd H2 ne (.tup [])) := (Keep.refl [] H2).new nne
        refine ⟨.tuple (W.falls.map PyData.int), .tuple [], .tup (.of (kn fa _ (fun z => nilX z) ef)) (dpAll_ints _), .tup (.of upd_same) .nil, shaped_tup _, by decide +kernel, _, rfl, ?_⟩
        rw [eqv_tnil]
        have t4 : GxR.TabG (upd H2 ne (.tup [])) T := by
          obtain ⟨ps, e3, tr⟩ := hTb.1
          exact ⟨ps, kn T _ (fun z => nilX z) e3, tr⟩
        have k4 : Keep [T] H (upd H2 ne (.tup [])) := kT.new nne
        have e4 := kn p _ (fun z => nilX z) e2
        have ef4 := kn fa _ (fun z => nilX z) ef
        generalize upd H2 ne (.tup []) = H4 at t4 k4 e4 ef4
        refine ite2 (fun c2 => ?_) (fun c2 => ?_)
        · have hne : W.falls ≠ [] := fun z => by
            rw [z] at c2
            exact absurd c2 (by decide)
          refine ⟨_, rfl, fa, _, rfl, .inr ⟨.of ef4, q fa H4 k4 t4 ?_⟩⟩
          rw [ef4]
          unfold rowOf
          rw [if_neg c1, if_neg hne]
        · have he : W.falls = [] := by
            cases hf : W.falls with
            | nil => rfl
            | cons z zs =>
              rw [hf] at c2
              exact absurd rfl c2
          refine ⟨_, rfl, _, rfl, p, _, _, a.toNat, rfl, rfl, e4, ixN_int a0 ?_, ?_⟩
          · rw [List.length_map, fill_len, List.length_replicate]
            exact a1
          have p4T : T ≠ p := fun z => pT (List.mem_singleton.mpr z.symm)
          refine ⟨_, rfl, p, ((fillRow a W.ties (List.replicate W.names.length 0)).set a.toNat 1).map V.int, rfl, .inl ⟨.of (by rw [upd_same, List.map_set]), fun r nr => tup_new _ _ (k4.own np') ?_ r nr ?_⟩⟩
          · obtain ⟨ps, e3, tr⟩ := t4
            exact ⟨ps, by rw [upd_ne p4T]; exact e3, tr⟩
          · unfold rowOf
            rw [if_neg c1, if_pos he]
end
end K04
set_option Elab.async false
set_option linter.all false
set_option maxRecDepth 100000
set_option maxHeartbeats 2000000
set_option exponentiation.threshold 10000
set_option pp.maxSteps 300
set_option pp.deepTerms false
namespace K04
open PySem PySem.Spec PyProof.Rows L2 GL
/-! ### the pen -/
def penL (c : Addr) (i l : Int) : List V := [.ref c, .int i, .int l]
/-- the pen at d, over the cells at c, behind at most n draws -/
structure Pen (H : Hp) (d c : Addr) (ns : List Int) (n : Nat) : Prop where
  at_ : ∃ i l : Int, H d = some (.lst (penL c i l)) ∧ 0 ≤ i ∧ i ≤ n ∧ 0 ≤ l
  cells : H c = some (.lst (ns.map V.int))
  few : ns.length ≤ 63
theorem Pen.ex {H : Hp} {d c : Addr} {ns : List Int} {n : Nat} (p : Pen H d c ns n) : ∃ i l, H d = some (.lst (penL c i l)) := let ⟨i, l, h, _⟩ := p.at_; ⟨i, l, h⟩
theorem Pen.mono {H : Hp} {d c : Addr} {ns : List Int} {n m : Nat} (p : Pen H d c ns n) (h : n ≤ m) : Pen H d c ns m := by
  obtain ⟨i, l, h1, h2, h3, h4⟩ := p.at_
  exact ⟨⟨i, l, h1, h2, by omega, h4⟩, p.cells, p.few⟩
theorem Pen.ne {H : Hp} {d c : Addr} {ns : List Int} {n : Nat} (p : Pen H d c ns n) : c ≠ d := by
  intro z
  obtain ⟨i, l, e⟩ := p.ex
  have e2 := p.cells
  rw [z, e] at e2
  have e3 : penL c i l = ns.map V.int := HO.lst.inj (Option.some.inj e2)
  cases ns with
  | nil => exact absurd e3 (by intro z; cases z)
  | cons x r => exact absurd e3 (by intro z; cases z)
theorem Pen.keep {H H' : Hp} {d c : Addr} {ns : List Int} {n : Nat} {ex : List Addr} (p : Pen H d c ns n) (k : Keep ex H H') (h : ∀ b ∈ ex, ∀ xs, H b ≠ some (.lst xs)) : Pen H' d c ns n := by
  obtain ⟨i, l, h1, h2, h3, h4⟩ := p.at_
  exact ⟨⟨i, l, k d _ (fun z => h d z _ h1) h1, h2, h3, h4⟩, k c _ (fun z => h c z _ p.cells) p.cells, p.few⟩
theorem Pen.keep0 {H H' : Hp} {d c : Addr} {ns : List Int} {n : Nat} (p : Pen H d c ns n) (k : Keep [] H H') : Pen H' d c ns n := p.keep k (fun _ z => nilX z)
theorem Pen.new {H : Hp} {d c p : Addr} {ns : List Int} {n : Nat} {o : HO} (h : Pen H d c ns n) (hp : H p = none) : Pen (upd H p o) d c ns n := h.keep0 ((Keep.refl [] H).new hp)
theorem Pen.set {H : Hp} {d c : Addr} {ns : List Int} {n m : Nat} {i l : Int} (p : Pen H d c ns n) (h0 : 0 ≤ i) (h1 : i ≤ m) (h2 : 0 ≤ l) : Pen (upd H d (.lst (penL c i l))) d c ns m :=
  ⟨⟨i, l, upd_same, h0, h1, h2⟩, by rw [upd_ne p.ne]; exact p.cells, p.few⟩
section
variable {P : Program} {w : World} {K : PySem.W.Frag} {mg : Str → Option Value} {base : Heap}
def spPen (K : PySem.W.Frag) : Sp := fun vs H Q _ => ∃ (a : Addr) (ns : List Int), vs = [.ref a] ∧ SqL K H a (ns.map V.int) ∧ ns.length ≤ 63 ∧ ∀ d c H', Keep [] H H' → Pen H' d c ns 0 → Q (.ref d) H'
theorem cut_all {ns : List Int} (h : ns.length ≤ 63) : cutV (ns.map V.int) none (some 63) = ns.map V.int := by
  unfold cutV
  rw [List.length_map]
  have e1 : HT.sIx ns.length 0 none = 0 := rfl
  have e2 : HT.sIx ns.length ns.length (some 63) = ns.length := by
    unfold HT.sIx
    simp
    omega
  rw [e1, e2, List.drop_zero, Nat.sub_zero]
  exact List.take_of_length_le (by rw [List.length_map]; exact Nat.le_refl _)
theorem ok__law_pen {f : Addr} {fd : FuncData} {k : Nat} (F : FnP K "_law_pen" s__law_pen f fd) : FnOk P w K mg base CX0 (k + 1) f fd ["_law_script"] (spPen K) := by
  refine F.ok sc__law_pen (fun vs H Q E h => ?_) (fun cdv A outer s H vs Q E hr h => ?_)
  · obtain ⟨a, ns, rfl, _⟩ := h
    rfl
  · obtain ⟨a, ns, rfl, hS, hl, q⟩ := h
    refine ⟨_, PSs.nox (pss_one (ps_ret (pe_lst (pa_cons (pe_slice sl_list (pv 0) po_none (po_some pe_int)) (pa_cons pe_int (pa_cons pe_int pa_nil)))))), ?_⟩
    refine ⟨_, rfl, 63, rfl, a, _, rfl, hS, fun c nc => ⟨(by show 3 ≤ sizeLine; decide), fun d nd => ?_⟩⟩
    rw [cut_all hl] at nd ⊢
    have dc : c ≠ d := fun z => by
      rw [← z, upd_same] at nd
      cases nd
    exact q d c _ (((Keep.refl [] H).new nc).new nd) ⟨⟨0, 0, upd_same, by omega, by omega, by omega⟩, by rw [upd_ne dc, upd_same], hl⟩

/-! ### draws -/
def spDraw : Sp := fun vs H Q _ => ∃ (d c : Addr) (ns : List Int) (n : Nat) (m : Int), vs = [.ref d, .int m] ∧ Pen H d c ns n ∧ n ≤ 100000 ∧ 0 < m ∧ m ≤ 1000000 ∧
  ∀ (r : Int) (H' : Hp), 0 ≤ r → r < m → Keep [d] H H' → Pen H' d c ns (n + 1) → Q (.int r) H'
theorem small_div {i j : Int} (h0 : 0 < j) (h : j ≤ 1000000) : CDivW i j := wide_div h0 (b := 20) (by omega) (by decide) (by decide)
theorem abs_nat (x : Int) : (if x < 0 then -x else x) = (x.natAbs : Int) := by split <;> omega
theorem shaped_ints (ns : List Int) : SeqAt.shaped (.list (ns.map PyData.int)) = true := by
  unfold SeqAt.shaped
  rw [Bool.and_eq_true]
  refine ⟨canLay_ints ns, ?_⟩
  have := GL.depth_ints ns
  simp only [PyData.depth, this]
  decide
theorem eqv_nil (ns : List Int) : PyData.eqv (.list (ns.map PyData.int)) (.list []) = ns.isEmpty := by
  cases ns <;> rfl
def primes : List Int := [2147483647, 2147483629, 2147483587, 2147483579, 2147483563, 2147483549, 2147483543]
theorem primes_at (i : Int) (h : 0 ≤ i) : ∃ q : Int, atI (primes.map V.int) (i % 7) = some (.int q) ∧ 0 < q ∧ q < 2147483648 := by
  have h1 : 0 ≤ i % 7 := Int.emod_nonneg _ (by decide)
  have h2 : i % 7 < 7 := Int.emod_lt_of_pos _ (by decide)
  generalize i % 7 = j at h1 h2
  obtain ⟨k, rfl⟩ := Int.eq_ofNat_of_zero_le h1
  have h3 : k < 7 := by omega
  match k, h3 with
  | 0, _ => exact ⟨2147483647, rfl, by decide, by decide⟩
  | 1, _ => exact ⟨2147483629, rfl, by decide, by decide⟩
  | 2, _ => exact ⟨2147483587, rfl, by decide, by decide⟩
  | 3, _ => exact ⟨2147483579, rfl, by decide, by decide⟩
  | 4, _ => exact ⟨2147483563, rfl, by decide, by decide⟩
  | 5, _ => exact ⟨2147483549, rfl, by decide, by decide⟩
  | 6, _ => exact ⟨2147483543, rfl, by decide, by decide⟩
theorem ok__law_draw {f : Addr} {fd : FuncData} {k : Nat} (F : FnP K "_law_draw" s__law_draw f fd) (m_len : mg "len" = none) (m_abs : mg "abs" = none) : FnOk P w K mg base CX0 (k + 1) f fd ["_law_pen_here", "_law_many"] spDraw := by
  refine F.ok sc__law_draw (fun vs H Q E h => ?_) (fun cdv A outer s H vs Q E hr h => ?_)
  · obtain ⟨d, c, ns, n, m, rfl, _⟩ := h
    rfl
  · obtain ⟨d, a, ns, n, m, rfl, hp, hn, hm0, hm1, q⟩ := h
    obtain ⟨i, l, ed, hi0, hi1, hl0⟩ := hp.at_
    refine ⟨_, PSs.nox (pss_cons (ps_if (pt_cmpR op_gt (pe_ix ix_list (pv 0) pe_int (fun _ _ => rfl)) pe_int (nomark _))
      (pss_cons (ps_set (i := 2) sc__law_draw.nd rfl (.inl rfl) (pe_op op_mod (pe_ix ix_list (pv 0) pe_int (fun _ _ => rfl)) (pv 1)))
    (pss_cons (ps_asg (pe_op op_fdivW (pe_ix ix_list (pv 0) pe_int (fun _ _ => rfl)) (pv 1)) (pg_sub (pv 0) pe_int set_list))
    (pss_one (ps_ret (pv 2)))))
      pss_nil)
    (pss_cons (ps_set (i := 3) sc__law_draw.nd rfl (.inl rfl) (pe_ix ix_list (pv 0) pe_int (fun _ _ => rfl)))
    (pss_cons (ps_asg (pe_op op_add (pv 3) pe_int) (pg_sub (pv 0) pe_int set_list))
    (pss_cons (ps_set (i := 4) sc__law_draw.nd rfl (.inl rfl) (pe_op op_add (pe_op op_mul pe_int (pv 3)) pe_int))
    (pss_mid (ps_if (pt_cmpR (op_neD hr.units) (pe_ix ix_list (pv 0) pe_int (fun _ _ => rfl)) (pe_lst pa_nil) (nomark _))
      (pss_one (ps_set (i := 4) sc__law_draw.nd rfl (.inl rfl) (pe_ix ix_list (pe_ix ix_list (pv 0) pe_int (fun _ _ => rfl)) (pe_op op_mod (pv 3) (pe_callB call_len_seq (by rfl) m_len (by decide +kernel) (pa_cons (pe_ix ix_list (pv 0) pe_int (fun _ _ => rfl)) pa_nil))) (fun _ _ => rfl))))
      pss_nil)
    (pss_mid (ps_if (PW.pt (pw_and (pt_cmpR op_lt (pv 3) (pe_callB call_len_seq (by rfl) m_len (by decide +kernel) (pa_cons (pe_ix ix_list (pv 0) pe_int (fun _ _ => rfl)) pa_nil)) (nomark _)) (pw_and1 (pt_cmpR op_ge (pe_callB call_abs (by rfl) m_abs (by decide +kernel) (pa_cons (pv 4) pa_nil)) (pe_op op_pow pe_int pe_int) (nomark _)))))
      (pss_cons (ps_asg (pe_op op_fdivW (pe_callB call_abs (by rfl) m_abs (by decide +kernel) (pa_cons (pv 4) pa_nil)) (pv 1)) (pg_sub (pv 0) pe_int set_list))
    (pss_one (ps_ret (pe_op op_mod (pe_callB call_abs (by rfl) m_abs (by decide +kernel) (pa_cons (pv 4) pa_nil)) (pv 1)))))
      pss_nil)
    (pss_cons (ps_set (i := 5) sc__law_draw.nd rfl (.inl rfl) (pe_lst (pa_cons pe_int (pa_cons pe_int (pa_cons pe_int (pa_cons pe_int (pa_cons pe_int (pa_cons pe_int (pa_cons pe_int pa_nil)))))))))
    (pss_cons (ps_set (i := 6) sc__law_draw.nd rfl (.inl rfl) (pe_op op_mod (pe_op op_pow (pe_op op_add (pe_op op_mod (pv 4) (pe_ix ix_list (pv 5) (pe_op op_mod (pv 3) pe_int) (fun _ _ => rfl))) (pe_op op_mul (pe_op op_mul (pe_op op_add (pv 3) pe_int) (pe_op op_add (pv 3) pe_int)) pe_int)) pe_int) (pe_ix ix_list (pv 5) (pe_op op_mod (pv 3) pe_int) (fun _ _ => rfl))))
    (pss_cons (ps_set (i := 6) sc__law_draw.nd rfl (.inl rfl) (pe_op op_mod (pe_op op_pow (pe_op op_add (pe_op op_mul (pv 6) (pe_op op_add (pe_op op_mul pe_int (pv 3)) pe_int)) (pv 3)) pe_int) (pe_ix ix_list (pv 5) (pe_op op_mod (pe_op op_add (pv 3) pe_int) pe_int) (fun _ _ => rfl))))
    (pss_one (ps_ret (pe_op op_mod (pe_op op_fdivW (pv 6) pe_int) (pv 1))))))))))))), ?_⟩
    refine ⟨_, rfl, d, _, _, _, rfl, rfl, .of ed, rfl, l, 0, rfl, rfl, _, rfl, ite2 (fun c => ?_) (fun c => ?_)⟩
    · -- a digit of what is left
      refine ⟨_, rfl, d, _, _, _, rfl, rfl, .of ed, rfl, _, rfl, l, m, rfl, rfl, hm0, ?_⟩
      refine ⟨_, rfl, d, _, _, _, rfl, rfl, .of ed, rfl, _, rfl, l, m, rfl, rfl, small_div hm0 hm1, _, rfl, d, _, _, 2, rfl, rfl, ed, rfl, _, rfl, ?_⟩
      exact q _ _ (Int.emod_nonneg _ (by omega)) (Int.emod_lt_of_pos _ hm0) ((Keep.refl _ H).set (List.mem_singleton.mpr rfl)) (hp.set hi0 (by omega) (Int.ediv_nonneg hl0 (by omega)))
    · -- a cell
      refine ⟨_, rfl, d, _, _, _, rfl, rfl, .of ed, rfl, ?_⟩
      refine ⟨_, rfl, i, 1, rfl, rfl, _, rfl, d, _, _, 1, rfl, rfl, ed, rfl, ?_⟩
      refine ⟨_, rfl, 40503, i, rfl, rfl, .inl ⟨by decide, by decide⟩, _, 15485863, rfl, rfl, ?_⟩
      have s1 : (upd H d (.lst (penL a (i + 1) l))) a = some (.lst (ns.map V.int)) := by
        rw [upd_ne hp.ne]
        exact hp.cells
      have k1 : Keep [d] H (upd H d (.lst (penL a (i + 1) l))) := (Keep.refl _ H).set (List.mem_singleton.mpr rfl)
      have e1 : upd H d (.lst (penL a (i + 1) l)) d = some (.lst (penL a (i + 1) l)) := upd_same
      show tMid _ _ _ _ (upd H d (.lst (penL a (i + 1) l)))
      generalize upd H d (.lst (penL a (i + 1) l)) = H1 at s1 k1 e1
      refine ⟨fun σ' H' => ∃ c : Int, σ' = [some (.ref d), some (.int m), none, some (.int i), some (.int c), none, none] ∧ Keep [d] H H' ∧ H' a = some (.lst (ns.map V.int)) ∧ H' d = some (.lst (penL a (i + 1) l)), ?_, ?_⟩
      · refine ⟨_, rfl, d, _, _, _, rfl, rfl, .of e1, rfl, Nat.zero_le _, fun p np => ?_⟩
        have kp : Keep [] H1 (upd H1 p (.lst [])) := (Keep.refl [] H1).new np
        have s2 := kp a _ (fun z => nilX z) s1
        have k2 : Keep [d] H (upd H1 p (.lst [])) := k1.new np
        have e2 := kp d _ (fun z => nilX z) e1
        refine ⟨.list (ns.map PyData.int), .list [], .lst (.of s2) (dpAll_ints ns), .lst (.of upd_same) .nil, shaped_ints ns, by decide +kernel, _, rfl, ?_⟩
        rw [eqv_nil]
        refine ite2 (fun c2 => ?_) (fun c2 => ?_)
        · have hne : 0 < ns.length := by
            cases ns with
            | nil => exact absurd c2 (by decide)
            | cons _ _ => exact Nat.succ_pos _
          have g1 : 0 ≤ i % (ns.length : Int) := Int.emod_nonneg _ (by omega)
          have g2 : i % (ns.length : Int) < ns.length := Int.emod_lt_of_pos _ (by omega)
          obtain ⟨j, ej⟩ := Int.eq_ofNat_of_zero_le g1
          have hj : j < ns.length := by omega
          refine ⟨_, rfl, d, _, _, _, rfl, rfl, .of e2, rfl, _, rfl, _, rfl, d, _, _, _, rfl, rfl, .of e2, rfl, a, _, rfl, .inl (.of s2), i, ((ns.map V.int).length : Int), rfl, rfl, ?_, a, _, _, .int ns[j], rfl, rfl, .of s2, ?_, ns[j], rfl, k2, s2, e2⟩
          · rw [List.length_map]
            omega
          · rw [List.length_map, ej]
            exact atI_nat (by rw [List.getElem?_map, List.getElem?_eq_getElem hj]; rfl)
        · exact ⟨_, rfl, k2, s2, e2⟩
      · rintro σ2 H2 ⟨c, rfl, k2, s2, e2⟩
        have pen2 : Pen H2 d a ns (n + 1) := ⟨⟨i + 1, l, e2, by omega, by omega, hl0⟩, s2, hp.few⟩
        refine ⟨fun σ' H' => σ' = [some (.ref d), some (.int m), none, some (.int i), some (.int c), none, none] ∧ H2 = H', ?_, ?_⟩
        · refine ⟨_, rfl, _, rfl, d, _, _, _, rfl, rfl, .of e2, rfl, a, _, rfl, .inl (.of s2), i, _, rfl, rfl, _, rfl, ite2 (fun c3 => ?_) (fun c3 => ?_)⟩
          · refine ⟨_, rfl, c, rfl, 10, 18, rfl, rfl, ⟨by decide, by decide, by decide⟩, _, _, rfl, rfl, _, rfl, ite2 (fun c4 => ?_) (fun c4 => ?_)⟩
            · refine ⟨_, rfl, c, rfl, _, rfl, _, m, rfl, rfl, small_div hm0 hm1, _, rfl, d, _, _, 2, rfl, rfl, e2, rfl, _, rfl, c, rfl, _, rfl, _, m, rfl, rfl, hm0, ?_⟩
              rw [abs_nat c]
              exact q _ _ (Int.emod_nonneg _ (by omega)) (Int.emod_lt_of_pos _ hm0) (k2.set (List.mem_singleton.mpr rfl)) (pen2.set (by omega) (by omega) (Int.ediv_nonneg (by omega) (by omega)))
            · exact ⟨rfl, rfl⟩
          · exact iteF ⟨rfl, rfl⟩
        · rintro σ3 H3 ⟨rfl, rfl⟩
          obtain ⟨qp, eq, hq0, hq1⟩ := primes_at i hi0
          obtain ⟨q2, eq2, hq20, hq21⟩ := primes_at (i + 3) (by omega)
          refine ⟨(by show 7 ≤ sizeLine; decide), fun p np => ?_⟩
          have k3 : Keep [d] H (upd H2 p (.lst (primes.map V.int))) := k2.new np
          have pen3 : Pen (upd H2 p (.lst (primes.map V.int))) d a ns (n + 1) := pen2.new np
          have ep : upd H2 p (.lst (primes.map V.int)) p = some (.lst (primes.map V.int)) := upd_same
          have b1 : (i + 3) * (i + 5) ≤ 100003 * 100005 := Int.mul_le_mul (by omega) (by omega) (by omega) (by decide)
          have b0 : 0 ≤ (i + 3) * (i + 5) := Int.mul_nonneg (by omega) (by omega)
          have c0 : 0 ≤ c % qp := Int.emod_nonneg _ (by omega)
          have c1 : c % qp < qp := Int.emod_lt_of_pos _ hq0
          refine ⟨_, rfl, _, rfl, _, rfl, i, 7, rfl, rfl, (by show (0 : Int) < 7; decide), p, _, _, .int qp, rfl, rfl, .of ep, eq, c, qp, rfl, rfl, hq0, _, rfl, i, 3, rfl, rfl, _, rfl, i, 5, rfl, rfl, i + 3, i + 5, rfl, rfl, .inl ⟨by omega, by omega⟩, (i + 3) * (i + 5), 50021, rfl, rfl, .inr ⟨by decide, by decide⟩,
            c % qp, (i + 3) * (i + 5) * 50021, rfl, rfl, c % qp + (i + 3) * (i + 5) * 50021, 5, rfl, rfl, ⟨by decide, by decide, by omega⟩, _, rfl, _, rfl, i, 7, rfl, rfl, (by show (0 : Int) < 7; decide), p, _, _, .int qp, rfl, rfl, .of ep, eq, (c % qp + (i + 3) * (i + 5) * 50021) ^ (5 : Int).toNat, qp, rfl, rfl, hq0, ?_⟩
          obtain ⟨x, hx⟩ : ∃ x : Int, (c % qp + (i + 3) * (i + 5) * 50021) ^ (5 : Int).toNat % qp = x := ⟨_, rfl⟩
          have hx0 : 0 ≤ x := by
            rw [← hx]
            exact Int.emod_nonneg _ (by omega)
          have hx1 : x < 2147483648 := by
            have := Int.emod_lt_of_pos ((c % qp + (i + 3) * (i + 5) * 50021) ^ (5 : Int).toNat) hq0
            omega
          have b2 : x * (2 * i + 69621) ≤ 2147483648 * 269621 := Int.mul_le_mul (by omega) (by omega) (by omega) (by decide)
          have b3 : 0 ≤ x * (2 * i + 69621) := Int.mul_nonneg (by omega) (by omega)
          refine ⟨_, rfl, _, rfl, 2, i, rfl, rfl, .inl ⟨by decide, by decide⟩, 2 * i, 69621, rfl, rfl, x, 2 * i + 69621, congrArg V.int hx, rfl, .inl ⟨by omega, by omega⟩, _, rfl, x * (2 * i + 69621), i, rfl, rfl, x * (2 * i + 69621) + i, 3, rfl, rfl, ⟨by decide, by decide, by omega⟩,
            _, rfl, _, rfl, i, 3, rfl, rfl, i + 3, 7, rfl, rfl, (by show (0 : Int) < 7; decide), p, _, _, .int q2, rfl, rfl, .of ep, eq2, (x * (2 * i + 69621) + i) ^ (3 : Int).toNat, q2, rfl, rfl, hq20, ?_⟩
          refine ⟨_, rfl, _, 64, rfl, rfl, ⟨by decide, by decide⟩, _, rfl, _, m, rfl, rfl, hm0, ?_⟩
          exact q _ _ (Int.emod_nonneg _ (by omega)) (Int.emod_lt_of_pos _ hm0) k3 pen3
end
end K04
set_option Elab.async false
set_option linter.all false
set_option maxRecDepth 100000
set_option maxHeartbeats 2000000
set_option exponentiation.threshold 10000
set_option pp.maxSteps 300
set_option pp.deepTerms false
namespace K04
open PySem PySem.Spec PyProof.Rows L2 GL
theorem Pen.own {H H' : Hp} {d c p : Addr} {ns : List Int} {n n0 : Nat} {o : HO} (p' : Pen H' d c ns n) (p0 : Pen H d c ns n0) (hp : H p = none) : Pen (upd H' p o) d c ns n := by
  obtain ⟨i0, l0, e0⟩ := p0.ex
  have pd : d ≠ p := ne_of_none e0 hp
  have pc : c ≠ p := ne_of_none p0.cells hp
  obtain ⟨i, l, h1, h2, h3, h4⟩ := p'.at_
  exact ⟨⟨i, l, by rw [upd_ne pd]; exact h1, h2, h3, h4⟩, by rw [upd_ne pc]; exact p'.cells, p'.few⟩
theorem Pen.not {H : Hp} {d c p : Addr} {ns : List Int} {n : Nat} (h : Pen H d c ns n) (hp : H p = none) : p ∉ [d] := fun z => by
  obtain ⟨i, l, e⟩ := h.ex
  rw [List.mem_singleton.mp z, e] at hp
  cases hp
/-- of a place that the pen's heap did not know, behind -/
theorem Pen.fresh {H H' : Hp} {d c p : Addr} {ns : List Int} {n : Nat} (h : Pen H d c ns n) (k : Keep [d] H H') (hp : H' p = none) (h' : Pen H' d c ns n) : H p = none := k.fresh (h'.not hp) hp
theorem ex_at {xs : List V} {r : Int} (h0 : 0 ≤ r) (h : r < xs.length) : ∃ (j : Nat) (v : V), xs[j]? = some v ∧ atI xs r = some v ∧ (j : Int) = r := by
  obtain ⟨j, rfl⟩ := Int.eq_ofNat_of_zero_le h0
  have hj : j < xs.length := by omega
  exact ⟨j, xs[j], List.getElem?_eq_getElem hj, atI_nat (List.getElem?_eq_getElem hj), rfl⟩
theorem at_int {xs : List Int} {r : Int} (h0 : 0 ≤ r) (h : r < xs.length) : ∃ x : Int, x ∈ xs ∧ xs[r.toNat]? = some x ∧ atI (xs.map V.int) r = some (.int x) := by
  obtain ⟨j, rfl⟩ := Int.eq_ofNat_of_zero_le h0
  have hj : j < xs.length := by omega
  exact ⟨xs[j], List.getElem_mem hj, List.getElem?_eq_getElem hj, atI_nat (by rw [List.getElem?_map, List.getElem?_eq_getElem hj]; rfl)⟩
section
variable {P : Program} {w : World} {K : PySem.W.Frag} {mg : Str → Option Value} {base : Heap}
/-! ### _law_pick -/
def spPick : Sp := fun vs H Q _ => ∃ (d c : Addr) (ns : List Int) (n : Nat) (s : Addr) (xs : List V), vs = [.ref d, .ref s] ∧ Pen H d c ns n ∧ n ≤ 100000 ∧ H s = some (.lst xs) ∧ s ≠ d ∧ 0 < xs.length ∧ xs.length ≤ 1000 ∧
  ∀ (v : V) (H' : Hp), v ∈ xs → Keep [d] H H' → Pen H' d c ns (n + 1) → Q v H'
theorem ok__law_pick {f : Addr} {fd : FuncData} (F : FnP K "_law_pick" s__law_pick f fd) (m_len : mg "len" = none) (c__law_draw : Cal P w K mg base 1 "_law_draw" spDraw) :
    FnOk P w K mg base CX0 2 f fd ["_law_pen_here", "_law_some"] spPick := by
  refine F.ok sc__law_pick (fun vs H Q E h => ?_) (fun cdv A outer s H vs Q E hr h => ?_)
  · obtain ⟨d, c, ns, n, s, xs, rfl, _⟩ := h
    rfl
  · obtain ⟨d, c, ns, n, s, xs, rfl, hp, hn, hs, sd, h0, h1, q⟩ := h
    refine ⟨_, PSs.nox (pss_one (ps_ret (pe_ix ix_list (pv 1) (pe_k c__law_draw (hr.mono (by decide)) (by rfl) (pa_cons (pv 0) (pa_cons (pe_callB call_len_seq (by rfl) m_len (by decide +kernel) (pa_cons (pv 1) pa_nil)) pa_nil))) (fun _ _ => rfl)))), ?_⟩
    refine ⟨_, rfl, _, rfl, _, rfl, s, xs, rfl, .inl (.of hs), d, c, ns, n, _, rfl, hp, hn, by omega, by omega, fun r H1 r0 r1 k1 p1 => ?_⟩
    obtain ⟨j, v, e1, e2, _⟩ := ex_at r0 r1
    exact ⟨s, xs, r, v, rfl, rfl, .of (k1 s _ (fun z => sd (List.mem_singleton.mp z)) hs), e2, q v H1 (List.mem_of_getElem? e1) k1 p1⟩

/-! ### _law_names -/
def letters : Str := "abcdefghijklmnopqrstuvwxyz"
theorem letter_at {r : Int} (h0 : 0 ≤ r) (h : r < 26) : ∃ ch : Nat, atI letters.cps.toList r = some ch ∧ ch < 16 ^ 8 := by
  have hl : letters.cps.toList.length = 26 := by decide +kernel
  have hc : ∀ ch ∈ letters.cps.toList, ch < 16 ^ 8 := by decide +kernel
  obtain ⟨j, rfl⟩ := Int.eq_ofNat_of_zero_le h0
  have hj : j < letters.cps.toList.length := by omega
  exact ⟨letters.cps.toList[j], atI_nat (List.getElem?_eq_getElem hj), hc _ (List.getElem_mem hj)⟩
def spNames : Sp := fun vs H Q _ => ∃ (d c : Addr) (ns : List Int) (n : Nat) (m : Int), vs = [.ref d, .int m] ∧ Pen H d c ns n ∧ n ≤ 90000 ∧ 1 ≤ m ∧ m ≤ 10 ∧
  ∀ (p : Addr) (xs : List Str) (H' : Hp), Keep [d] H H' → Pen H' d c ns (n + 20) → H' p = some (.tup (xs.map V.str)) → xs.length = m.toNat → (∀ x ∈ xs, Lo 15 x) → Q (.ref p) H'
theorem steps_mem {v : V} (h : v ∈ [1, 3, 5, 7, 9, 11, 15, 17, 19, 21, 23, 25].map V.int) : ∃ t : Int, v = .int t ∧ 0 ≤ t ∧ t ≤ 25 := by
  obtain ⟨t, ht, rfl⟩ := List.mem_map.mp h
  exact ⟨t, rfl, by revert t; decide, by revert t; decide⟩
theorem ok__law_names {f : Addr} {fd : FuncData} (F : FnP K "_law_names" s__law_names f fd) (m_len : mg "len" = none) (m_range : mg "range" = none) (m_tuple : mg "tuple" = none) (c__law_draw : Cal P w K mg base 1 "_law_draw" spDraw) (c__law_pick : Cal P w K mg base 2 "_law_pick" spPick) :
    FnOk P w K mg base CX0 3 f fd ["_law_pen_here", "_law_many"] spNames := by
  refine F.ok sc__law_names (fun vs H Q E h => ?_) (fun cdv A outer s H vs Q E hr h => ?_)
  · obtain ⟨d, c, ns, n, m, rfl, _⟩ := h
    rfl
  · obtain ⟨d, c, ns, n, m, rfl, hp, hn, hm0, hm1, q⟩ := h
    refine ⟨_, PSs.nox (pss_cons (ps_set (i := 2) sc__law_names.nd rfl (.inr rfl) pe_str)
    (pss_cons (ps_set (i := 3) sc__law_names.nd rfl (.inr rfl) (pe_k c__law_pick (hr.mono (by decide)) (by rfl) (pa_cons (pv 0) (pa_cons (pe_lst (pa_cons pe_int (pa_cons pe_int (pa_cons pe_int (pa_cons pe_int (pa_cons pe_int (pa_cons pe_int (pa_cons pe_int (pa_cons pe_int (pa_cons pe_int (pa_cons pe_int (pa_cons pe_int (pa_cons pe_int pa_nil))))))))))))) pa_nil))))
    (pss_cons (ps_set (i := 4) sc__law_names.nd rfl (.inr rfl) (pe_k c__law_draw (hr.mono (by decide)) (by rfl) (pa_cons (pv 0) (pa_cons pe_int pa_nil))))
    (pss_cons (ps_setLc (i := 5) (own := [("_law_k", 9)]) (g := gName 9) (by rfl) sc__law_names.nd rfl rfl (sw_true rfl rfl rfl (by decide +kernel)) (pi_range1 rfl m_range (pa_cons (pe_k c__law_draw (hr.mono (by decide)) (by rfl) (pa_cons (pv 0) (pa_cons pe_int pa_nil))) pa_nil)) (blkOk_by (own := [("_law_k", 9)]) (N := N__law_names) (sc := defScope s__law_names) (by decide +kernel)) (fun _ _ _ _ _ => (pg_name (i := 9) sc__law_names.nd rfl (.inl rfl))) (fun _ _ _ _ _ => pts_nil) (fun _ _ _ _ _ => (pe_ix ix_str (pv 2) (pe_k c__law_draw (hr.mono (by decide)) (by rfl) (pa_cons (pv 0) (pa_cons pe_int pa_nil))) (fun _ _ => rfl))))
    (pss_cons (ps_set (i := 6) sc__law_names.nd rfl (.inl rfl) (pe_k c__law_draw (hr.mono (by decide)) (by rfl) (pa_cons (pv 0) (pa_cons (pe_op op_add (pe_callB call_len_seq (by rfl) m_len (by decide +kernel) (pa_cons (pv 5) pa_nil)) pe_int) pa_nil))))
    (pss_cons (ps_set (i := 7) sc__law_names.nd rfl (.inr rfl) (pe_join pe_str (pe_slice sl_list (pv 5) po_none (po_some (pv 6)))))
    (pss_cons (ps_set (i := 8) sc__law_names.nd rfl (.inr rfl) (pe_join pe_str (pe_slice sl_list (pv 5) (po_some (pv 6)) po_none)))
    (pss_one (ps_ret (pe_callTy call_tuple_of (by rfl) m_tuple (by decide +kernel) (pa_cons (pe_lc (own := [("_law_k", 9)]) (g := gName 9) (by rfl) sc__law_names.nd (pi_range1 rfl m_range (pa_cons (pv 1) pa_nil)) (blkOk_by (own := [("_law_k", 9)]) (N := N__law_names) (sc := defScope s__law_names) (by decide +kernel)) (fun _ _ _ _ _ => (pg_name (i := 9) sc__law_names.nd rfl (.inl rfl))) (fun _ _ _ _ _ => pts_nil) (fun _ _ _ _ _ => (pe_op op_add_str (pe_op op_add_str (pv 7) (pe_ix ix_str (pv 2) (pe_op op_mod (pe_op op_add (pv 4) (pe_op op_mul (pv 3) (pv 9))) pe_int) (fun _ _ => rfl))) (pv 8)))) pa_nil))))))))))), ?_⟩
    -- step
    refine ⟨_, rfl, (by show 12 ≤ sizeLine; decide), fun s0 ns0 => ?_⟩
    have p0 := hp.new (o := .lst ([1, 3, 5, 7, 9, 11, 15, 17, 19, 21, 23, 25].map V.int)) ns0
    have k0 : Keep [d] H (upd H s0 (.lst ([1, 3, 5, 7, 9, 11, 15, 17, 19, 21, 23, 25].map V.int))) := (Keep.refl _ H).new ns0
    refine ⟨d, c, ns, n, s0, _, rfl, p0, by omega, upd_same, fun z => hp.not ns0 (List.mem_singleton.mpr z), (by show 0 < 12; decide), (by show 12 ≤ 1000; decide), fun v H1 hv k1 p1 => ?_⟩
    obtain ⟨step, rfl, st0, st1⟩ := steps_mem hv
    -- first
    refine ⟨_, rfl, d, c, ns, _, 26, rfl, p1, by omega, by decide, by decide, fun first H2 f0 f1 k2 p2 => ?_⟩
    -- base
    refine ⟨_, rfl, d, c, ns, _, 8, rfl, p2, by omega, by decide, by decide, fun r H3 r0 r1 k3 p3 => ?_⟩
    have kH3 : Keep [d] H H3 := ((k0.trans k1).trans k2).trans k3
    refine ⟨r, rfl, by omega, by omega, fun D hD => lc_range (n := r.toNat) (fun i H' => Keep [d] H H' ∧ Pen H' d c ns (n + 3 + i) ∧ i ≤ 8 ∧ ∃ ws : List Str, H' D = some (.lst (ws.map V.str)) ∧ ws.length = i ∧ ∀ s ∈ ws, Lo 1 s)
      ⟨kH3.new hD, p3.new hD, by omega, [], upd_same, rfl, fun _ z => (nomatch z)⟩ ?_ ?_⟩
    · rintro i H' hi ⟨k4, p4, _, ws, e4, hl4, hw4⟩
      refine ⟨rfl, _, rfl, _, rfl, d, c, ns, _, 26, rfl, p4, by omega, by decide, by decide, fun t H5 t0 t1 k5 p5 => ?_⟩
      obtain ⟨ch, ech, hch⟩ := letter_at t0 t1
      have nd : D ∉ [d] := p3.not hD
      refine ⟨letters, t, ch, rfl, rfl, (by decide +kernel), ech, _, k5 D _ nd e4, (by rw [List.length_map]; exact lt_size' (by omega)), (k4.trans k5).own (kH3.fresh nd hD), p5.own p3 hD, by omega, ws ++ [⟨#[ch]⟩], ?_, ?_, ?_⟩
      · rw [upd_same, List.map_append]
        rfl
      · rw [List.length_append, hl4]
        rfl
      · intro s hs
        rcases List.mem_append.mp hs with z | z
        · exact hw4 s z
        · rw [List.mem_singleton.mp z]
          exact .one hch
    · rintro H4 ⟨k4, p4, _, ws, e4, hl4, hw4⟩
      -- at
      have hr7 : ws.length ≤ 7 := by omega
      refine ⟨_, rfl, _, rfl, D, _, rfl, .inl (.of e4), _, 1, rfl, rfl, d, c, ns, _, _, rfl, p4, by omega, ?_, ?_, fun t H5 t0 t1 k5 p5 => ?_⟩
      · rw [List.length_map]
        omega
      · rw [List.length_map]
        omega
      have nd : D ∉ [d] := p3.not hD
      have e5 := k5 D _ nd e4
      -- ahead, behind
      obtain ⟨ya, ea, ma, la⟩ := cut_map V.str ws none (some t)
      obtain ⟨yb, eb, mb, lb⟩ := cut_map V.str ws (some t) none
      have wa : ∀ s ∈ ya, Lo 1 s := fun s hs => hw4 s (ma s hs)
      have wb : ∀ s ∈ yb, Lo 1 s := fun s hs => hw4 s (mb s hs)
      have sa := sum_one wa
      have sb := sum_one wb
      refine ⟨⟨_, rfl⟩, _, rfl, _, rfl, t, rfl, D, _, rfl, .of e5, fun b1 nb1 => ?_⟩
      have k6 : Keep [] H5 (upd H5 b1 (.lst (cutV (ws.map V.str) none (some t)))) := (Keep.refl [] H5).new nb1
      have eb1 : upd H5 b1 (.lst (cutV (ws.map V.str) none (some t))) b1 = some (.lst (ya.map V.str)) := by rw [upd_same, ea]
      refine ⟨_, b1, ya, rfl, rfl, .inl (.of eb1), ?_, ?_⟩
      · have e0 : ("" : Str).length = 0 := by decide +kernel
        rw [e0]
        omega
      have p6 := p5.keep0 k6
      have e6 := k6 D _ (fun z => nilX z) e5
      have kk6 : Keep [d] H4 (upd H5 b1 (.lst (cutV (ws.map V.str) none (some t)))) := k5.new nb1
      generalize upd H5 b1 (.lst (cutV (ws.map V.str) none (some t))) = H6 at p6 e6 kk6
      refine ⟨⟨_, rfl⟩, _, rfl, _, rfl, t, rfl, D, _, rfl, .of e6, fun b2 nb2 => ?_⟩
      have k7 : Keep [] H6 (upd H6 b2 (.lst (cutV (ws.map V.str) (some t) none))) := (Keep.refl [] H6).new nb2
      have eb2 : upd H6 b2 (.lst (cutV (ws.map V.str) (some t) none)) b2 = some (.lst (yb.map V.str)) := by rw [upd_same, eb]
      refine ⟨_, b2, yb, rfl, rfl, .inl (.of eb2), ?_, ?_⟩
      · have e0 : ("" : Str).length = 0 := by decide +kernel
        rw [e0]
        omega
      have p7 := p6.keep0 k7
      have kk7 : Keep [d] H (upd H6 b2 (.lst (cutV (ws.map V.str) (some t) none))) := (k4.trans kk6).new nb2
      generalize upd H6 b2 (.lst (cutV (ws.map V.str) (some t) none)) = H7 at p7 kk7
      have la' : Lo 7 (Txt.join "" ya) := (Lo.join "" (by decide +kernel) ya wa).mono (by omega)
      have lb' : Lo 7 (Txt.join "" yb) := (Lo.join "" (by decide +kernel) yb wb).mono (by omega)
      generalize Txt.join "" ya = ahead at la'
      generalize Txt.join "" yb = behind at lb'
      -- the names
      refine ⟨_, rfl, m, rfl, by omega, by omega, fun D2 hD2 => lc_range (n := m.toNat) (fun i H' => Keep [] H7 H' ∧ i ≤ 10 ∧ ∃ xs : List Str, H' D2 = some (.lst (xs.map V.str)) ∧ xs.length = i ∧ ∀ s ∈ xs, Lo 15 s)
        ⟨(Keep.refl [] H7).new hD2, by omega, [], upd_same, rfl, fun _ z => (nomatch z)⟩ ?_ ?_⟩
      · rintro i H' hi ⟨k8, _, xs, e8, hl8, hw8⟩
        have g0 : 0 ≤ (first + step * (0 + (i : Int))) % 26 := Int.emod_nonneg _ (by decide)
        have g1 : (first + step * (0 + (i : Int))) % 26 < 26 := Int.emod_lt_of_pos _ (by decide)
        obtain ⟨ch, ech, hch⟩ := letter_at g0 g1
        have l1 := la'.app (.one hch)
        have l2 := l1.app lb'
        refine ⟨rfl, _, rfl, _, rfl, _, rfl, _, rfl, _, rfl, step, _, rfl, rfl, .inl ⟨by omega, by omega⟩, first, _, rfl, rfl, _, 26, rfl, rfl, (by show (0 : Int) < 26; decide), letters, _, ch, rfl, rfl, (by decide +kernel), ech, ahead, _, rfl, rfl, ?_, _, rfl, _, behind, rfl, rfl, ?_, _, e8, (by rw [List.length_map]; exact lt_size' (by omega)), k8.own hD2, by omega, xs ++ [ahead ++ (⟨#[ch]⟩ : Str) ++ behind], ?_, ?_, ?_⟩
        · have h1 : ahead.length ≤ 7 := la'.len
          have h2 : (⟨#[ch]⟩ : Str).length = 1 := rfl
          exact lt_size (by omega)
        · have h1 : (ahead ++ (⟨#[ch]⟩ : Str)).length ≤ 7 + 1 := l1.len
          have h2 : behind.length ≤ 7 := lb'.len
          exact lt_size (by omega)
        · rw [upd_same, List.map_append]
          rfl
        · rw [List.length_append, hl8]
          rfl
        · intro s hs
          rcases List.mem_append.mp hs with z | z
          · exact hw8 s z
          · rw [List.mem_singleton.mp z]
            exact l2
      · rintro H8 ⟨k8, _, xs, e8, hl8, hw8⟩
        refine ⟨D2, _, rfl, .inl ⟨.of e8, fun l nl => q l xs _ ((kk7.trans (k8.mono (fun _ z => nilX z))).new nl) (((p7.keep0 k8).new nl).mono (by omega)) upd_same hl8 hw8⟩⟩

/-! ### _law_leaps -/
def spLeaps : Sp := fun vs H Q _ => ∃ (d c : Addr) (ns : List Int) (n : Nat) (m : Int), vs = [.ref d, .int m] ∧ Pen H d c ns n ∧ n ≤ 90000 ∧ 1 ≤ m ∧ m ≤ 10 ∧
  ∀ (p : Addr) (xs : List Int) (H' : Hp), Keep [d] H H' → Pen H' d c ns (n + 20) → H' p = some (.tup (xs.map V.int)) → xs.length = m.toNat → (∀ x ∈ xs, 0 ≤ x ∧ x ≤ 30) → (∃ x ∈ xs, 0 < x) → Q (.ref p) H'
theorem rep_one (m : Nat) (t : Int) : (List.replicate m [V.int t]).flatten = (List.replicate m t).map V.int := by
  induction m with
  | zero => rfl
  | succ i ih =>
    rw [List.replicate_succ, List.flatten_cons, ih, List.replicate_succ]
    rfl
def fMod3 (v : V) : V := match v with
  | .int x => .int (x % 3)
  | _ => .non
theorem ok__law_leaps {f : Addr} {fd : FuncData} (F : FnP K "_law_leaps" s__law_leaps f fd) (m_range : mg "range" = none) (m_int : mg "int" = none) (m_max : mg "max" = none) (m_tuple : mg "tuple" = none) (c__law_draw : Cal P w K mg base 1 "_law_draw" spDraw) (c__law_pick : Cal P w K mg base 2 "_law_pick" spPick) :
    FnOk P w K mg base CX0 3 f fd ["_law_pen_here", "_law_many"] spLeaps := by
  refine F.ok sc__law_leaps (fun vs H Q E h => ?_) (fun cdv A outer s H vs Q E hr h => ?_)
  · obtain ⟨d, c, ns, n, m, rfl, _⟩ := h
    rfl
  · obtain ⟨d, c, ns, n, m, rfl, hp, hn, hm0, hm1, q⟩ := h
    refine ⟨_, PSs.nox (pss_cons (ps_set (i := 2) sc__law_leaps.nd rfl (.inr rfl) (pe_k c__law_draw (hr.mono (by decide)) (by rfl) (pa_cons (pv 0) (pa_cons pe_int pa_nil))))
    (pss_cons (ps_set (i := 3) sc__law_leaps.nd rfl (.inl rfl) (pe_k c__law_draw (hr.mono (by decide)) (by rfl) (pa_cons (pv 0) (pa_cons (pv 1) pa_nil))))
    (pss_cons (ps_setLc (i := 4) (own := [("_law_k", 5)]) (g := gName 5) (by rfl) sc__law_leaps.nd rfl rfl (sw_true rfl rfl rfl (by decide +kernel)) (pi_range1 rfl m_range (pa_cons (pv 1) pa_nil)) (blkOk_by (own := [("_law_k", 5)]) (N := N__law_leaps) (sc := defScope s__law_leaps) (by decide +kernel)) (fun _ _ _ _ _ => (pg_name (i := 5) sc__law_leaps.nd rfl (.inl rfl))) (fun _ _ _ _ _ => pts_nil) (fun _ _ _ _ _ => (pe_op op_mul (pe_k c__law_draw (hr.mono (by decide)) (by rfl) (pa_cons (pv 0) (pa_cons pe_int pa_nil))) (pe_callTy call_int1 (by rfl) m_int (by decide +kernel) (pa_cons (pe_cmpR op_gt (pv 2) pe_int (nomark _)) pa_nil)))))
    (pss_cons (ps_if (pt_cmpR op_eq (pv 2) pe_int (nomark _))
      (pss_one (ps_ret (pe_op op_repA (pe_tup (pa_cons (pe_k c__law_pick (hr.mono (by decide)) (by rfl) (pa_cons (pv 0) (pa_cons (pe_lst (pa_cons pe_int (pa_cons pe_int (pa_cons pe_int pa_nil)))) pa_nil))) pa_nil)) (pv 1))))
      pss_nil)
    (pss_mid (ps_if (pt_cmpR op_eq (pv 2) pe_int (nomark _))
      (pss_one (ps_setLc (i := 4) (own := [("_law_number", 6)]) (g := gName 6) (by rfl) sc__law_leaps.nd rfl rfl (sw_true rfl rfl rfl (by decide +kernel)) (pi_list (pv 4)) (blkOk_by (own := [("_law_number", 6)]) (N := N__law_leaps) (sc := defScope s__law_leaps) (by decide +kernel)) (fun _ _ _ _ _ => (pg_name (i := 6) sc__law_leaps.nd rfl (.inl rfl))) (fun _ _ _ _ _ => pts_nil) (fun _ _ _ _ _ => (pe_op op_mod (pv 6) pe_int))))
      pss_nil)
    (pss_cons (ps_asg (pe_callB (call_max2 rfl) (by rfl) m_max (by decide +kernel) (pa_cons pe_int (pa_cons (pe_ix ix_list (pv 4) (pv 3) (fun _ _ => rfl)) pa_nil))) (pg_sub (pv 4) (pv 3) set_list))
    (pss_one (ps_ret (pe_callTy call_tuple_of (by rfl) m_tuple (by decide +kernel) (pa_cons (pv 4) pa_nil)))))))))), ?_⟩
    refine ⟨_, rfl, d, c, ns, n, 6, rfl, hp, by omega, by decide, by decide, fun way H1 w0 w1 k1 p1 => ?_⟩
    refine ⟨_, rfl, _, rfl, d, c, ns, _, m, rfl, p1, by omega, by omega, by omega, fun spot H2 s0 s1 k2 p2 => ?_⟩
    have kH2 : Keep [d] H H2 := k1.trans k2
    refine ⟨_, rfl, m, rfl, by omega, by omega, fun D hD => lc_range (n := m.toNat) (fun i H' => Keep [d] H H' ∧ Pen H' d c ns (n + 2 + i) ∧ i ≤ 10 ∧ ∃ xs : List Int, H' D = some (.lst (xs.map V.int)) ∧ xs.length = i ∧ ∀ x ∈ xs, 0 ≤ x ∧ x ≤ 30)
      ⟨kH2.new hD, p2.new hD, by omega, [], upd_same, rfl, fun _ z => (nomatch z)⟩ ?_ ?_⟩
    · rintro i H' hi ⟨k4, p4, _, xs, e4, hl4, hw4⟩
      refine ⟨rfl, _, rfl, d, c, ns, _, 31, rfl, p4, by omega, by decide, by decide, fun t H5 t0 t1 k5 p5 => ?_⟩
      have nd : D ∉ [d] := p2.not hD
      refine ⟨_, rfl, way, 1, rfl, rfl, .inr ⟨_, rfl, t, _, rfl, rfl, .inl ⟨by omega, by omega⟩, _, k5 D _ nd e4, (by rw [List.length_map]; exact lt_size' (by omega)), (k4.trans k5).own (kH2.fresh nd hD), p5.own p2 hD, by omega, xs ++ [t * (if decide (1 < way) = true then 1 else 0)], ?_, ?_, ?_⟩⟩
      · rw [upd_same, List.map_append]
        rfl
      · rw [List.length_append, hl4]
        rfl
      · intro x hx
        rcases List.mem_append.mp hx with z | z
        · exact hw4 x z
        · rw [List.mem_singleton.mp z]
          split <;> omega
    · rintro H3 ⟨k3, p3, _, xs, e3, hl3, hw3⟩
      have nD : H D = none := kH2.fresh (p2.not hD) hD
      have dD : D ∉ [d] := p2.not hD
      refine ⟨_, rfl, rfl, _, rfl, ite2 (fun c0 => ?_) (fun c0 => ?_)⟩
      · -- alike
        refine ⟨_, rfl, (by show 3 ≤ sizeLine; decide), fun s0 ns0 => ?_⟩
        have p4 := p3.new (o := .lst ([1, 30, 7].map V.int)) ns0
        refine ⟨d, c, ns, _, s0, [1, 30, 7].map V.int, rfl, p4, by omega, upd_same, fun z => p3.not ns0 (List.mem_singleton.mpr z), (by show 0 < 3; decide), (by show 3 ≤ 1000; decide), fun v H4 hv k4 p5 => ?_⟩
        obtain ⟨t, ht, rfl⟩ := List.mem_map.mp hv
        have t0 : 0 < t ∧ t ≤ 30 := by revert t; decide
        have kH4 : Keep [d] H H4 := (k3.new ns0).trans k4
        refine ⟨(by show 1 ≤ sizeLine; decide), fun b nb => ⟨_, rfl, b, m, [.int t], rfl, rfl, .of upd_same, by simp, hm0, by omega, (by show 1 ≤ 1000; decide), fun e => ?_, fun e p np => ?_⟩⟩
        · subst e
          refine q b [t] _ (kH4.new nb) ((p5.new nb).mono (by omega)) upd_same rfl (fun x hx => ?_) ⟨t, List.mem_singleton.mpr rfl, t0.1⟩
          rw [List.mem_singleton.mp hx]
          omega
        · rw [rep_one]
          refine q p (List.replicate m.toNat t) _ ((kH4.new nb).new np) (((p5.new nb).new np).mono (by omega)) upd_same (List.length_replicate ..) (fun x hx => ?_) ⟨t, List.mem_replicate.mpr ⟨by omega, rfl⟩, t0.1⟩
          rw [(List.mem_replicate.mp hx).2]
          omega
      · refine ⟨fun σ' H' => ∃ (D' : Addr) (xs : List Int), σ' = [some (.ref d), some (.int m), some (.int way), some (.int spot), some (.ref D'), none, none] ∧ Keep [d] H H' ∧ Pen H' d c ns (n + 2 + m.toNat) ∧ H D' = none ∧ H' D' = some (.lst (xs.map V.int)) ∧ xs.length = m.toNat ∧ ∀ x ∈ xs, 0 ≤ x ∧ x ≤ 30, ?_, ?_⟩
        · refine ⟨_, rfl, rfl, _, rfl, ite2 (fun c1 => ?_) (fun c1 => ?_)⟩
          · refine ⟨_, rfl, D, rfl, ⟨_, .of e3⟩, fun D2 hD2 => lc_map fMod3 (SqL.of e3) hD2 (by rw [List.length_map]; omega) (fun x => rfl) ?_ ?_⟩
            · intro v hv H5 Q5 k5 hq
              obtain ⟨x, _, rfl⟩ := List.mem_map.mp hv
              exact ⟨_, rfl, x, 3, rfl, rfl, (by show (0 : Int) < 3; decide), hq⟩
            · intro H5 k5 e5
              refine ⟨D2, xs.map fun x => x % 3, rfl, k3.trans (k5.mono (fun _ z => nilX z)), p3.keep0 k5, k3.fresh (p3.not hD2) hD2, ?_, ?_, ?_⟩
              · rw [e5, List.map_map, List.map_map]
                rfl
              · rw [List.length_map]
                exact hl3
              · intro x hx
                obtain ⟨y, _, rfl⟩ := List.mem_map.mp hx
                have := Int.emod_nonneg y (b := 3) (by decide)
                have := Int.emod_lt_of_pos y (b := 3) (by decide)
                omega
          · exact ⟨D, xs, rfl, k3, p3, nD, e3, hl3, hw3⟩
        · rintro σ' H4 ⟨D', xs', rfl, k4, p4, nD', e4, hl4, hw4⟩
          have hj : spot.toNat < xs'.length := by omega
          obtain ⟨x, hx, _, ea⟩ := at_int s0 (show spot < (xs'.length : Int) by omega)
          have hw := hw4 x hx
          refine ⟨_, rfl, _, rfl, D', _, _, .int x, rfl, rfl, .of e4, ea, 1, x, rfl, _, rfl, _, rfl, D', _, _, spot.toNat, rfl, rfl, e4, ixN_int s0 (by rw [List.length_map]; omega), ?_⟩
          have e5 : (upd H4 D' (.lst ((xs'.map V.int).set spot.toNat (.int (if x > 1 then x else 1))))) D' = some (.lst ((xs'.set spot.toNat (if x > 1 then x else 1)).map V.int)) := by
            rw [upd_same, List.map_set]
          have k5 : Keep [d] H (upd H4 D' (.lst ((xs'.map V.int).set spot.toNat (.int (if x > 1 then x else 1))))) := k4.own nD'
          have p5 : Pen (upd H4 D' (.lst ((xs'.map V.int).set spot.toNat (.int (if x > 1 then x else 1))))) d c ns (n + 2 + m.toNat) := p4.own hp nD'
          refine ⟨_, rfl, D', _, rfl, .inl ⟨.of e5, fun p np => q p (xs'.set spot.toNat (if x > 1 then x else 1)) _ (k5.new np) ((p5.new np).mono (by omega)) upd_same ?_ ?_ ?_⟩⟩
          · rw [List.length_set]
            exact hl4
          · intro z hz
            rcases List.mem_or_eq_of_mem_set hz with h | h
            · exact hw4 z h
            · rw [h]
              split <;> omega
          · refine ⟨_, List.mem_set hj _, ?_⟩
            split <;> omega
end
end K04
set_option Elab.async false
set_option linter.all false
set_option maxRecDepth 100000
set_option maxHeartbeats 2000000
set_option exponentiation.threshold 10000
set_option pp.maxSteps 300
set_option pp.deepTerms false
namespace K04
open PySem PySem.Spec PyProof.Rows L2 GL
/-! ### ties -/
theorem putK_len (kvs : List (List Key × V)) (k : List Key) (v : V) : (putK kvs k v).length ≤ kvs.length + 1 := by
  unfold putK
  split
  · rw [List.length_map]
    omega
  · rw [List.length_append]
    exact Nat.le_refl _
structure Found (m : Int) (kvs : List (List Key × V)) : Prop where
  keys : ∃ ps : List (Int × Int), kvs.map (·.1) = ps.map key2 ∧ ps.Nodup ∧ ∀ p ∈ ps, (0 ≤ p.1 ∧ p.1 < m) ∧ 0 ≤ p.2 ∧ p.2 < m
  vals : ∀ k v, valV kvs k = some v → ∃ t : Int, v = .int t ∧ 1 ≤ t ∧ t ≤ 30
theorem key2_inj {p q : Int × Int} (h : key2 p = key2 q) : p = q := by
  obtain ⟨a, b⟩ := p
  obtain ⟨c, d⟩ := q
  unfold key2 at h
  injection h with h1 h2
  injection h2 with h3 _
  injection h1 with h1
  injection h3 with h3
  simp only at h1 h3
  rw [h1, h3]
theorem found_nil (m : Int) : Found m [] := ⟨⟨[], rfl, List.nodup_nil, fun _ z => (nomatch z)⟩, fun k v z => by
  rw [valV_nil] at z
  cases z⟩
theorem Found.put {m : Int} {kvs : List (List Key × V)} (h : Found m kvs) {p : Int × Int} {t : Int} (hp : (0 ≤ p.1 ∧ p.1 < m) ∧ 0 ≤ p.2 ∧ p.2 < m) (ht : 1 ≤ t ∧ t ≤ 30) : Found m (putK kvs (key2 p) (.int t)) := by
  obtain ⟨ps, hk, hn, hr⟩ := h.keys
  refine ⟨?_, ?_⟩
  · unfold putK
    split
    · refine ⟨ps, ?_, hn, hr⟩
      rw [← hk, List.map_map]
      refine List.map_congr_left fun kv _ => ?_
      show (if kv.1 = key2 p then (kv.1, V.int t) else kv).1 = kv.1
      split <;> rfl
    · rename_i hnot
      refine ⟨ps ++ [p], ?_, ?_, ?_⟩
      · rw [List.map_append, List.map_append, hk]
        rfl
      · rw [List.nodup_append]
        refine ⟨hn, List.nodup_cons.mpr ⟨List.not_mem_nil, List.nodup_nil⟩, fun a ha b hb e => hnot ?_⟩
        rw [List.mem_singleton.mp hb] at e
        subst e
        have h1 : key2 a ∈ kvs.map (·.1) := by
          rw [hk]
          exact List.mem_map.mpr ⟨a, ha, rfl⟩
        obtain ⟨kv, hkv, ekv⟩ := List.mem_map.mp h1
        exact List.any_eq_true.mpr ⟨kv, hkv, decide_eq_true ekv⟩
      · intro q hq
        rcases List.mem_append.mp hq with z | z
        · exact hr q z
        · rw [List.mem_singleton.mp z]
          exact hp
  · intro k v hv
    rw [valV_put] at hv
    split at hv
    · injection hv with hv
      exact ⟨t, hv.symm, ht⟩
    · exact h.vals k v hv
structure TiesOk (m : Int) (ties : List (Int × Int × Int)) : Prop where
  inn : ∀ t ∈ ties, (0 ≤ t.1 ∧ t.1 < m) ∧ (0 ≤ t.2.1 ∧ t.2.1 < m) ∧ 1 ≤ t.2.2 ∧ t.2.2 ≤ 30
  few : ties.length ≤ 40
  rise : ties.Pairwise fun x y => x.1 < y.1 ∨ (x.1 = y.1 ∧ x.2.1 < y.2.1)
def TiesAt (H : Hp) (p : Addr) (ties : List (Int × Int × Int)) : Prop := ∃ ts : List Addr, H p = some (.tup (ts.map V.ref)) ∧ ts.length = ties.length ∧ ∀ (j : Nat) (b : Addr) (x : Int × Int × Int), ts[j]? = some b → ties[j]? = some x → H b = some (tieT x)
def wtOf (kvs : List (List Key × V)) (p : Int × Int) : Int := match valV kvs (key2 p) with
  | some (.int t) => t
  | _ => 0
theorem Found.at_ {m : Int} {kvs : List (List Key × V)} (h : Found m kvs) {ps : List (Int × Int)} (hk : kvs.map (·.1) = ps.map key2) {p : Int × Int} (hp : p ∈ ps) : valV kvs (key2 p) = some (.int (wtOf kvs p)) ∧ 1 ≤ wtOf kvs p ∧ wtOf kvs p ≤ 30 := by
  have h1 : key2 p ∈ kvs.map (·.1) := by
    rw [hk]
    exact List.mem_map.mpr ⟨p, hp, rfl⟩
  obtain ⟨kv, hkv, ekv⟩ := List.mem_map.mp h1
  have h2 : (kvs.any fun kv => decide (kv.1 = key2 p)) = true := List.any_eq_true.mpr ⟨kv, hkv, decide_eq_true ekv⟩
  rw [valV_any] at h2
  obtain ⟨v, hv⟩ := Option.isSome_iff_exists.mp h2
  obtain ⟨t, rfl, ht⟩ := h.vals _ _ hv
  have e : wtOf kvs p = t := by
    unfold wtOf
    rw [hv]
  rw [e]
  exact ⟨hv, ht⟩
theorem ways_at {m way : Int} (h0 : 0 ≤ way) (h1 : way < 8) (m0 : 1 ≤ m) (m1 : m ≤ 10) : ∃ t : Int, atI [V.int 0, .int 0, .int m, .int (2 * m), .int (3 * m), .int 40, .int 40, .int 60] way = some (.int t) ∧ 0 ≤ t ∧ t ≤ 60 := by
  obtain ⟨k, rfl⟩ := Int.eq_ofNat_of_zero_le h0
  have h3 : k < 8 := by omega
  match k, h3 with
  | 0, _ => exact ⟨0, rfl, by decide, by decide⟩
  | 1, _ => exact ⟨0, rfl, by decide, by decide⟩
  | 2, _ => exact ⟨m, rfl, by omega, by omega⟩
  | 3, _ => exact ⟨2 * m, rfl, by omega, by omega⟩
  | 4, _ => exact ⟨3 * m, rfl, by omega, by omega⟩
  | 5, _ => exact ⟨40, rfl, by decide, by decide⟩
  | 6, _ => exact ⟨40, rfl, by decide, by decide⟩
  | 7, _ => exact ⟨60, rfl, by decide, by decide⟩
section
variable {P : Program} {w : World} {K : PySem.W.Frag} {mg : Str → Option Value} {base : Heap}
def spTies : Sp := fun vs H Q _ => ∃ (d c : Addr) (ns : List Int) (n : Nat) (m : Int), vs = [.ref d, .int m] ∧ Pen H d c ns n ∧ n ≤ 90000 ∧ 1 ≤ m ∧ m ≤ 10 ∧
  ∀ (p : Addr) (ties : List (Int × Int × Int)) (H' : Hp), Keep [d] H H' → Pen H' d c ns (n + 200) → TiesAt H' p ties → TiesOk m ties → Q (.ref p) H'
theorem ok__law_ties {f : Addr} {fd : FuncData} (F : FnP K "_law_ties" s__law_ties f fd) (m_len : mg "len" = none) (m_range : mg "range" = none) (m_tuple : mg "tuple" = none) (m_sorted : mg "sorted" = none) (c__law_draw : Cal P w K mg base 1 "_law_draw" spDraw) (c__law_pick : Cal P w K mg base 2 "_law_pick" spPick) :
    FnOk P w K mg base CX0 3 f fd ["_law_pen_here", "_law_many"] spTies := by
  refine F.ok sc__law_ties (fun vs H Q E h => ?_) (fun cdv A outer s H vs Q E hr h => ?_)
  · obtain ⟨d, c, ns, n, m, rfl, _⟩ := h
    rfl
  · obtain ⟨d, c, ns, n, m, rfl, hp, hn, hm0, hm1, q⟩ := h
    refine ⟨_, PSs.nox (pss_cons (ps_set (i := 2) sc__law_ties.nd rfl (.inl rfl) (pe_k c__law_draw (hr.mono (by decide)) (by rfl) (pa_cons (pv 0) (pa_cons pe_int pa_nil))))
    (pss_cons (ps_set (i := 3) sc__law_ties.nd rfl (.inl rfl) (pe_k c__law_pick (hr.mono (by decide)) (by rfl) (pa_cons (pv 0) (pa_cons (pe_lst (pa_cons pe_int (pa_cons pe_int (pa_cons pe_int pa_nil)))) pa_nil))))
    (pss_cons (ps_set (i := 4) sc__law_ties.nd rfl (.inl rfl) (pe_k c__law_draw (hr.mono (by decide)) (by rfl) (pa_cons (pv 0) (pa_cons (pv 1) pa_nil))))
    (pss_cons (ps_set (i := 5) sc__law_ties.nd rfl (.inr rfl) pe_dnewT)
    (pss_cons (ps_if (pt_cmpR op_eq (pv 2) pe_int (nomark _))
      (pss_one (ps_ret (pe_tup pa_nil)))
      pss_nil)
    (pss_mid (ps_if (pt_cmpR op_eq (pv 2) pe_int (nomark _))
      (pss_one (ps_for PassesOwn.never rfl (pi_range1 rfl m_range (pa_cons (pv 1) pa_nil)) (pg_name (i := 6) sc__law_ties.nd rfl (.inl rfl))
      (pss_one (ps_dput (hu_of hr) (pv 5) (pe_tup (pa_cons (pv 6) (pa_cons (pe_op op_mod (pe_op op_add (pv 6) pe_int) (pv 1)) pa_nil))) (pe_op op_add pe_int (pe_k c__law_draw (hr.mono (by decide)) (by rfl) (pa_cons (pv 0) (pa_cons (pv 3) pa_nil)))) rfl))))
      pss_nil)
    (pss_cons (ps_for PassesOwn.never rfl (pi_range1 rfl m_range (pa_cons (pe_ix ix_list (pe_lst (pa_cons pe_int (pa_cons pe_int (pa_cons (pv 1) (pa_cons (pe_op op_mul pe_int (pv 1)) (pa_cons (pe_op op_mul pe_int (pv 1)) (pa_cons pe_int (pa_cons pe_int (pa_cons pe_int pa_nil))))))))) (pv 2) (fun _ _ => rfl)) pa_nil)) (pg_name (i := 7) sc__law_ties.nd rfl (.inl rfl))
      (pss_cons (ps_set (i := 8) sc__law_ties.nd rfl (.inl rfl) (pe_tup (pa_cons (pe_k c__law_draw (hr.mono (by decide)) (by rfl) (pa_cons (pv 0) (pa_cons (pv 1) pa_nil))) (pa_cons (pe_k c__law_draw (hr.mono (by decide)) (by rfl) (pa_cons (pv 0) (pa_cons (pv 1) pa_nil))) pa_nil))))
    (pss_one (ps_if (PW.pt (pw_and (pt_cmpR op_lt (pe_callB call_len_dT (by rfl) m_len (by decide +kernel) (pa_cons (pv 5) pa_nil)) pe_int (nomark _)) (pw_and1 (PW.pt (pw_or (pt_cmpR op_eq (pv 2) pe_int (nomark _)) (pw_or1 (pt_cmpR op_ne (pe_ix ix_tup (pv 8) pe_int (fun _ _ => rfl)) (pv 4) (nomark _))))))))
      (pss_one (ps_dput (hu_of hr) (pv 5) (pv 8) (pe_op op_add pe_int (pe_k c__law_draw (hr.mono (by decide)) (by rfl) (pa_cons (pv 0) (pa_cons (pv 3) pa_nil)))) rfl))
      pss_nil))))
    (pss_one (ps_ret (pe_callTy call_tuple_of (by rfl) m_tuple (by decide +kernel) (pa_cons (pe_lc (own := [("_law_a", 6), ("_law_b", 9)]) (g := gTup K 2 (gCons (gName 6) (gCons (gName 9) gNil))) (by rfl) sc__law_ties.nd (pi_list (pe_callB (cr_sortedDT rfl) (by rfl) m_sorted (by decide +kernel) (pa_cons (pv 5) pa_nil))) (blkOk_by (own := [("_law_a", 6), ("_law_b", 9)]) (N := N__law_ties) (sc := defScope s__law_ties) (by decide +kernel)) (fun _ _ _ _ _ => (pg_tup rfl (pgs_cons (pg_name (i := 6) sc__law_ties.nd rfl (.inl rfl)) (pgs_cons (pg_name (i := 9) sc__law_ties.nd rfl (.inl rfl)) pgs_nil)))) (fun _ _ _ _ _ => pts_nil) (fun _ _ _ _ _ => (pe_tup (pa_cons (pv 6) (pa_cons (pv 9) (pa_cons (pe_dget (hu_of hr) (pv 5) (pe_tup (pa_cons (pv 6) (pa_cons (pv 9) pa_nil))) (fun _ _ => rfl)) pa_nil)))))) pa_nil))))))))))), ?_⟩
    refine ⟨_, rfl, d, c, ns, n, 8, rfl, hp, by omega, by decide, by decide, fun way H1 w0 w1 k1 p1 => ?_⟩
    refine ⟨_, rfl, (by show 3 ≤ sizeLine; decide), fun s0 ns0 => ?_⟩
    refine ⟨d, c, ns, _, s0, [1, 3, 30].map V.int, rfl, p1.new ns0, by omega, upd_same, fun z => p1.not ns0 (List.mem_singleton.mpr z), (by show 0 < 3; decide), (by show 3 ≤ 1000; decide), fun v H2 hv k2 p2 => ?_⟩
    obtain ⟨top, ht, rfl⟩ := List.mem_map.mp hv
    have top0 : 0 < top ∧ top ≤ 30 := by
      clear hv
      revert top
      decide
    refine ⟨_, rfl, _, rfl, d, c, ns, _, m, rfl, p2, by omega, by omega, by omega, fun bare H3 b0 b1 k3 p3 => ?_⟩
    have kH3 : Keep [d] H H3 := ((k1.new ns0).trans k2).trans k3
    intro D hD
    have nD : H D = none := kH3.fresh (p3.not hD) hD
    have dD : D ∉ [d] := p3.not hD
    have k4 : Keep [d] H (upd H3 D (.dT [])) := kH3.new hD
    have p4 : Pen (upd H3 D (.dT [])) d c ns (n + 3) := p3.new hD
    have e4 : upd H3 D (.dT []) D = some (.dT []) := upd_same
    generalize upd H3 D (.dT []) = H4 at k4 p4 e4
    refine ⟨_, rfl, rfl, _, rfl, ite2 (fun c0 => ?_) (fun c0 => ?_)⟩
    · refine ⟨Nat.zero_le _, fun t nt => ?_⟩
      exact q t [] _ (k4.new nt) ((p4.new nt).mono (by omega)) ⟨[], upd_same, rfl, fun j b x hj => by cases hj⟩ ⟨fun _ z => (nomatch z), by decide, List.Pairwise.nil⟩
    · refine ⟨fun σ' H' => ∃ (y6 : Option V) (kvs : List (List Key × V)), σ' = [some (.ref d), some (.int m), some (.int way), some (.int top), some (.int bare), some (.ref D), y6, none, none, none] ∧ Keep [d] H H' ∧ Pen H' d c ns (n + 13) ∧ H' D = some (.dT kvs) ∧ Found m kvs ∧ kvs.length ≤ 40, ?_, ?_⟩
      · refine ⟨_, rfl, rfl, _, rfl, ite2 (fun c1 => ?_) (fun c1 => ?_)⟩
        · -- a ring
          refine ⟨_, rfl, m, rfl, by omega, by omega, for_range (n := m.toNat) (fun i σ' H' => ∃ (y6 : Option V) (kvs : List (List Key × V)), σ' = [some (.ref d), some (.int m), some (.int way), some (.int top), some (.int bare), some (.ref D), y6, none, none, none] ∧ Keep [d] H H' ∧ Pen H' d c ns (n + 3 + i) ∧ H' D = some (.dT kvs) ∧ Found m kvs ∧ kvs.length ≤ i)
            ⟨none, [], rfl, k4, p4, e4, found_nil m, Nat.le_refl _⟩ ?_ ?_⟩
          · rintro i σ' H' hi ⟨y6, kvs, rfl, k5, p5, e5, f5, l5⟩
            refine ⟨_, rfl, _, rfl, d, c, ns, _, top, rfl, p5, by omega, by omega, by omega, fun t H6 t0 t1 k6 p6 => ⟨1, t, rfl, rfl, ?_⟩⟩
            have e6 := k6 D _ dD e5
            refine ⟨_, rfl, _, rfl, _, rfl, 0 + (i : Int), 1, rfl, rfl, _, rfl, _, m, rfl, rfl, by omega, (by show 2 ≤ sizeLine; decide), fun b nb => ?_⟩
            have k7 : Keep [] H6 (upd H6 b (.tup [.int (0 + (i : Int)), .int ((0 + (i : Int) + 1) % m)])) := (Keep.refl [] H6).new nb
            refine ⟨D, _, rfl, DPut.t (k := key2 (0 + (i : Int), (0 + (i : Int) + 1) % m)) (k7 D _ (fun z => nilX z) e6) upd_same (lt_size' (by omega)), ?_⟩
            have g1 := Int.emod_nonneg (0 + (i : Int) + 1) (b := m) (by omega)
            have g2 := Int.emod_lt_of_pos (0 + (i : Int) + 1) (b := m) (by omega)
            refine ⟨some (.int (0 + (i : Int))), putK kvs (key2 (0 + (i : Int), (0 + (i : Int) + 1) % m)) (.int (1 + t)), rfl, ((k5.trans k6).new nb).own nD, (p6.keep0 k7).own hp nD, upd_same, f5.put ⟨⟨by show 0 ≤ 0 + (i : Int); omega, by show 0 + (i : Int) < m; omega⟩, g1, g2⟩ ⟨by omega, by omega⟩, ?_⟩
            have := putK_len kvs (key2 (0 + (i : Int), (0 + (i : Int) + 1) % m)) (.int (1 + t))
            omega
          · rintro σ' H' ⟨y6, kvs, rfl, k5, p5, e5, f5, l5⟩
            exact ⟨y6, kvs, rfl, k5, p5.mono (by omega), e5, f5, by omega⟩
        · exact ⟨none, [], rfl, k4, p4.mono (by omega), e4, found_nil m, by decide⟩
      · rintro σ5 H5 ⟨y6, kvs, rfl, k5, p5, e5, f5, l5⟩
        obtain ⟨t, et, t0, t1⟩ := ways_at w0 w1 hm0 hm1
        refine ⟨_, rfl, _, rfl, 2, m, rfl, rfl, .inl ⟨by decide, by decide⟩, _, rfl, 3, m, rfl, rfl, .inl ⟨by decide, by decide⟩, (by show 8 ≤ sizeLine; decide), fun l nl => ⟨_, rfl, l, _, way, .int t, rfl, rfl, .of upd_same, et, t, rfl, by omega, by omega, for_range (n := t.toNat) (fun i σ' H' => ∃ (y6 y7 y8 : Option V) (kvs : List (List Key × V)), σ' = [some (.ref d), some (.int m), some (.int way), some (.int top), some (.int bare), some (.ref D), y6, y7, y8, none] ∧ Keep [d] H H' ∧ Pen H' d c ns (n + 13 + 3 * i) ∧ H' D = some (.dT kvs) ∧ Found m kvs ∧ kvs.length ≤ 40)
          ⟨y6, none, none, kvs, rfl, k5.new nl, p5.new nl, ((Keep.refl [] H5).new nl) D _ (fun z => nilX z) e5, f5, l5⟩ ?_ ?_⟩⟩
        · rintro i σ' H' hi ⟨y6, y7, y8, kvs, rfl, k6, p6, e6, f6, l6⟩
          refine ⟨_, rfl, _, rfl, d, c, ns, _, m, rfl, p6, by omega, by omega, by omega, fun x H7 x0 x1 k7 p7 => ⟨_, rfl, _, rfl, d, c, ns, _, m, rfl, p7, by omega, by omega, by omega, fun y H8 h0 h1 k8 p8 => ⟨(by show 2 ≤ sizeLine; decide), fun b nb => ?_⟩⟩⟩
          have e8 := k8 D _ dD (k7 D _ dD e6)
          have k9 : Keep [] H8 (upd H8 b (.tup [.int x, .int y])) := (Keep.refl [] H8).new nb
          have e9 := k9 D _ (fun z => nilX z) e8
          have eb : upd H8 b (.tup [.int x, .int y]) b = some (.tup [.int x, .int y]) := upd_same
          have p9 := p8.keep0 k9
          have kk9 : Keep [d] H (upd H8 b (.tup [.int x, .int y])) := ((k6.trans k7).trans k8).new nb
          generalize upd H8 b (.tup [.int x, .int y]) = H9 at e9 eb p9 kk9
          have dB : b ∉ [d] := fun z => by
            obtain ⟨i, l, e⟩ := p9.ex
            rw [List.mem_singleton.mp z, e] at eb
            cases eb
          have done : ∀ (t : Int) (Ha : Hp), 0 ≤ t → t < top → Keep [d] H9 Ha → Pen Ha d c ns (n + 13 + 3 * i + 1 + 1 + 1) → kvs.length < 40 →
              DPut Ha D (.ref b) (.int (1 + t)) (upd Ha D (.dT (putK kvs (key2 (x, y)) (.int (1 + t))))) ∧ Keep [d] H (upd Ha D (.dT (putK kvs (key2 (x, y)) (.int (1 + t))))) ∧ Pen (upd Ha D (.dT (putK kvs (key2 (x, y)) (.int (1 + t))))) d c ns (n + 13 + 3 * (i + 1)) ∧
              upd Ha D (.dT (putK kvs (key2 (x, y)) (.int (1 + t)))) D = some (.dT (putK kvs (key2 (x, y)) (.int (1 + t)))) ∧ Found m (putK kvs (key2 (x, y)) (.int (1 + t))) ∧ (putK kvs (key2 (x, y)) (.int (1 + t))).length ≤ 40 := by
            intro t Ha t0 t1 ka pa hl
            refine ⟨DPut.t (ka D _ dD e9) (ka b _ dB eb) (lt_size' (by omega)), (kk9.trans ka).own nD, (pa.own hp nD).mono (by omega), upd_same, f6.put ⟨⟨x0, x1⟩, h0, h1⟩ ⟨by omega, by omega⟩, ?_⟩
            have := putK_len kvs (key2 (x, y)) (.int (1 + t))
            omega
          refine ⟨_, rfl, D, _, rfl, e9, _, 40, rfl, rfl, _, rfl, ite2 (fun c1 => ?_) (fun c1 => ?_)⟩
          · have hl : kvs.length < 40 := by
              have := of_decide_eq_true c1
              omega
            refine ⟨_, rfl, rfl, _, rfl, ite2 (fun c2 => ?_) (fun c2 => ?_)⟩
            · refine iteT ?_
              refine ⟨_, rfl, _, rfl, d, c, ns, _, top, rfl, p9, by omega, by omega, by omega, fun t Ha t0 t1 ka pa => ⟨1, t, rfl, rfl, _, rfl, _, rfl, D, upd Ha D (.dT (putK kvs (key2 (x, y)) (.int (1 + t)))), rfl, ?_⟩⟩
              obtain ⟨g1, g2, g3, g4, g5, g6⟩ := done t Ha t0 t1 ka pa hl
              exact ⟨g1, y6, _, _, _, rfl, g2, g3, g4, g5, g6⟩
            · refine ⟨_, rfl, b, _, _, .int x, rfl, rfl, .of eb, rfl, _, rfl, rfl, _, rfl, ite2 (fun c3 => ?_) (fun c3 => ?_)⟩
              · refine ⟨_, rfl, _, rfl, d, c, ns, _, top, rfl, p9, by omega, by omega, by omega, fun t Ha t0 t1 ka pa => ⟨1, t, rfl, rfl, _, rfl, _, rfl, D, upd Ha D (.dT (putK kvs (key2 (x, y)) (.int (1 + t)))), rfl, ?_⟩⟩
                obtain ⟨g1, g2, g3, g4, g5, g6⟩ := done t Ha t0 t1 ka pa hl
                exact ⟨g1, y6, _, _, _, rfl, g2, g3, g4, g5, g6⟩
              · exact ⟨y6, _, _, kvs, rfl, kk9, p9.mono (by omega), e9, f6, l6⟩
          · exact iteF ⟨y6, _, _, kvs, rfl, kk9, p9.mono (by omega), e9, f6, l6⟩
        · rintro σ' H6 ⟨y6, y7, y8, kvs, rfl, k6, p6, e6, f6, l6⟩
          obtain ⟨ps, hk, hn2, hr2⟩ := f6.keys
          refine ⟨_, rfl, D, kvs, ps, rfl, e6, hk, fun es so hperm hsort hes nso => ?_⟩
          have k7 : Keep [] H6 (upd H6 so (.lst (es.map fun e => V.ref e.1))) := (Keep.refl [] H6).new nso
          have e7 := k7 D _ (fun z => nilX z) e6
          have eso : upd H6 so (.lst (es.map fun e => V.ref e.1)) so = some (.lst (es.map fun e => V.ref e.1)) := upd_same
          have p7 := p6.keep0 k7
          have kk7 : Keep [d] H (upd H6 so (.lst (es.map fun e => V.ref e.1))) := k6.new nso
          generalize upd H6 so (.lst (es.map fun e => V.ref e.1)) = H7 at k7 e7 eso p7 kk7
          have eslen : es.length = kvs.length := by
            have h1 := hperm.length_eq
            have h2 := congrArg List.length hk
            rw [List.length_map] at h1
            rw [List.length_map, List.length_map] at h2
            omega
          let tie : Addr × (Int × Int) → Int × Int × Int := fun e => (e.2.1, e.2.2, wtOf kvs e.2)
          refine ⟨so, rfl, ⟨_, .of eso⟩, fun D2 hD2 => lc_list (xs := es.map fun e => V.ref e.1) (fun i H' => Keep [] H7 H' ∧ ∃ ts : List Addr, H' D2 = some (.lst (ts.map V.ref)) ∧ ts.length = i ∧ ∀ (j : Nat) (b : Addr) (e : Addr × (Int × Int)), ts[j]? = some b → es[j]? = some e → H' b = some (tieT (tie e)))
            ⟨(Keep.refl [] H7).new hD2, [], upd_same, rfl, fun j b e hj => by cases hj⟩ ?_ ?_ ?_⟩
          · rintro i H' _ ⟨k8, _⟩
            exact .of (k8 so _ (fun z => nilX z) eso)
          · rintro i v H' hv ⟨k8, ts, e8, hl8, ht8⟩
            rw [List.getElem?_map] at hv
            obtain ⟨e, he, rfl⟩ := Option.map_eq_some_iff.mp hv
            have hem := List.mem_of_getElem? he
            have hil : i < es.length := (List.getElem?_eq_some_iff.mp he).1
            have hps : e.2 ∈ ps := hperm.mem_iff.mp (List.mem_map.mpr ⟨e, hem, rfl⟩)
            obtain ⟨gv, _, _⟩ := f6.at_ hk hps
            refine ⟨e.1, _, rfl, .of (k8 e.1 _ (fun z => nilX z) (k7 e.1 _ (fun z => nilX z) (hes e hem))), rfl, _, _, rfl, _, _, rfl, rfl, rfl, _, rfl, _, rfl, _, rfl, _, rfl, _, rfl, (by show 2 ≤ sizeLine; decide), fun kt nkt => ?_⟩
            have k9 : Keep [] H' (upd H' kt (.tup [.int e.2.1, .int e.2.2])) := (Keep.refl [] H').new nkt
            have g : DGet (upd H' kt (.tup [.int e.2.1, .int e.2.2])) D (.ref kt) (valV kvs (key2 e.2)) := DGet.t (k9 D _ (fun z => nilX z) (k8 D _ (fun z => nilX z) e7)) upd_same
            rw [gv] at g
            refine ⟨D, _, rfl, g, (by show 3 ≤ sizeLine; decide), fun tt ntt => ?_⟩
            have k10 := k9.new (o := .tup [.int e.2.1, .int e.2.2, .int (wtOf kvs e.2)]) ntt
            have e10 := k10 D2 _ (fun z => nilX z) e8
            have et10 : upd (upd H' kt (.tup [.int e.2.1, .int e.2.2])) tt (.tup [.int e.2.1, .int e.2.2, .int (wtOf kvs e.2)]) tt = some (tieT (tie e)) := upd_same
            have dt : tt ≠ D2 := (ne_of_none (k9 D2 _ (fun z => nilX z) e8) ntt).symm
            refine ⟨_, e10, (by rw [List.length_map]; exact lt_size' (by omega)), (k8.trans k10).own hD2, ts ++ [tt], ?_, ?_, ?_⟩
            · rw [upd_same, List.map_append]
              rfl
            · rw [List.length_append, hl8]
              rfl
            · intro j b e' hj he'
              by_cases z : j < i
              · rw [List.getElem?_append_left (by omega)] at hj
                have hb := ht8 j b e' hj he'
                have hb10 := k10 b _ (fun z => nilX z) hb
                have bD : b ≠ D2 := fun z => by
                  rw [z, e8] at hb
                  cases hb
                rw [upd_ne bD]
                exact hb10
              · have hji : j < (ts ++ [tt]).length := (List.getElem?_eq_some_iff.mp hj).1
                rw [List.length_append, hl8] at hji
                have ej : j = i := by
                  have : ([tt] : List Addr).length = 1 := rfl
                  omega
                subst ej
                rw [List.getElem?_append_right (by omega), hl8, Nat.sub_self] at hj
                have eb : tt = b := Option.some.inj hj
                rw [he] at he'
                cases he'
                rw [← eb, upd_ne dt]
                exact et10
          · rintro H8 ⟨k8, ts, e8, hl8, ht8⟩
            rw [List.length_map] at hl8
            refine ⟨D2, _, rfl, .inl ⟨.of e8, fun l nl => ?_⟩⟩
            have k9 : Keep [] H8 (upd H8 l (.tup (ts.map V.ref))) := (Keep.refl [] H8).new nl
            refine q l (es.map tie) _ ((kk7.trans (k8.mono (fun _ z => nilX z))).new nl) (((p7.keep0 k8).keep0 k9).mono (by omega)) ⟨ts, upd_same, by rw [List.length_map]; exact hl8, ?_⟩ ⟨?_, by rw [List.length_map]; omega, ?_⟩
            · intro j b x hj hx
              rw [List.getElem?_map] at hx
              obtain ⟨e, he, rfl⟩ := Option.map_eq_some_iff.mp hx
              exact k9 b _ (fun z => nilX z) (ht8 j b e hj he)
            · intro t ht
              obtain ⟨e, hem, rfl⟩ := List.mem_map.mp ht
              have hps : e.2 ∈ ps := hperm.mem_iff.mp (List.mem_map.mpr ⟨e, hem, rfl⟩)
              obtain ⟨_, g1, g2⟩ := f6.at_ hk hps
              exact ⟨(hr2 _ hps).1, (hr2 _ hps).2, g1, g2⟩
            · have nd : (es.map (·.2)).Nodup := hperm.nodup_iff.mpr hn2
              rw [List.pairwise_map]
              have h1 := List.pairwise_map.mp hsort
              have h2 := List.pairwise_map.mp nd
              refine (h1.and h2).imp ?_
              rintro a b ⟨h3, h4⟩
              have h5 : ¬ (b.2.1 < a.2.1 ∨ (b.2.1 = a.2.1 ∧ b.2.2 < a.2.2)) := fun z => by
                rw [SrtO.lexB_iff.mpr z] at h3
                cases h3
              have h6 : ¬ (a.2.1 = b.2.1 ∧ a.2.2 = b.2.2) := fun z => h4 (Prod.ext z.1 z.2)
              show a.2.1 < b.2.1 ∨ (a.2.1 = b.2.1 ∧ a.2.2 < b.2.2)
              omega
end
end K04
set_option Elab.async false
set_option linter.all false
set_option maxRecDepth 100000
set_option maxHeartbeats 2000000
set_option exponentiation.threshold 10000
set_option pp.maxSteps 300
set_option pp.deepTerms false
namespace K04
open PySem PySem.Spec PyProof.Rows L2 GL
/-- numbers for m places, not all nought -/
structure NumsOk (m : Int) (xs : List Int) : Prop where
  len : (xs.length : Int) = m
  rng : ∀ x ∈ xs, 0 ≤ x ∧ x ≤ 30
  pos : ∃ x ∈ xs, 0 < x
structure WebOk (W : Web) : Prop where
  many : 1 ≤ W.names.length ∧ W.names.length ≤ 10
  names : ∀ x ∈ W.names, Lo 15 x
  ties : TiesOk W.names.length W.ties
  leaps : NumsOk W.names.length W.leaps
  chance : 1 ≤ W.p ∧ W.p ≤ W.q ∧ W.q ≤ 12
  falls : W.falls = [] ∨ NumsOk W.names.length W.falls
theorem WebOk.fits {W : Web} (h : WebOk W) : Fits W := by
  refine ⟨⟨h.many.1, by have := h.many.2; omega⟩, fun t ht => (h.ties.inn t ht).2.1, ?_⟩
  rcases h.falls with z | z
  · exact .inl z
  · exact .inr (by have := z.len; omega)
theorem noT_pen {H : Hp} {d c : Addr} {ns : List Int} {n : Nat} (p : Pen H d c ns n) : NoT H [d] := fun e he xs z => by
  obtain ⟨i, l, e1⟩ := p.ex
  rw [List.mem_singleton.mp he, e1] at z
  cases z
theorem TiesAt.keep {H H' : Hp} {p : Addr} {ties : List (Int × Int × Int)} {ex : List Addr} (h : TiesAt H p ties) (k : Keep ex H H') (nt : NoT H ex) : TiesAt H' p ties := by
  obtain ⟨ts, h1, h2, h3⟩ := h
  exact ⟨ts, Keep.tup k nt h1, h2, fun j b x hj hx => Keep.tup k nt (h3 j b x hj hx)⟩
theorem webAt_mk {H : Hp} {a n t l c f : Addr} {W : Web} (h1 : H a = some (.tup [.ref n, .ref t, .ref l, .ref c, .ref f])) (h2 : H n = some (.tup (W.names.map V.str))) (h3 : TiesAt H t W.ties) (h4 : H l = some (.tup (W.leaps.map V.int)))
    (h5 : H c = some (.tup [.int W.p, .int W.q])) (h6 : H f = some (.tup (W.falls.map V.int))) : WebAt H a W := by
  obtain ⟨ts, g1, g2, g3⟩ := h3
  exact ⟨⟨n, t, l, c, f, ts, h1, h2, g1, g2, g3, h4, h5, h6⟩⟩
theorem ne_at {H : Hp} {a b : Addr} {u v : HO} (ha : H a = some u) (hb : H b = some v) (h : u ≠ v) : a ≠ b := fun z => by
  rw [z, hb] at ha
  exact h (Option.some.inj ha).symm
theorem mem4 {v : V} {a b c d : Int} (h : v ∈ [V.int a, .int b, .int c, .int d]) : ∃ t : Int, v = .int t ∧ (t = a ∨ t = b ∨ t = c ∨ t = d) := by
  rcases List.mem_cons.mp h with e | h
  · exact ⟨a, e, .inl rfl⟩
  rcases List.mem_cons.mp h with e | h
  · exact ⟨b, e, .inr (.inl rfl)⟩
  rcases List.mem_cons.mp h with e | h
  · exact ⟨c, e, .inr (.inr (.inl rfl))⟩
  · exact ⟨d, List.mem_singleton.mp h, .inr (.inr (.inr rfl))⟩
section
variable {P : Program} {w : World} {K : PySem.W.Frag} {mg : Str → Option Value} {base : Heap}
def spWeb : Sp := fun vs H Q _ => ∃ (d c : Addr) (ns : List Int) (n : Nat) (m : Int), vs = [.ref d, .int m] ∧ Pen H d c ns n ∧ n ≤ 80000 ∧ 2 ≤ m ∧ m ≤ 10 ∧
  ∀ (p : Addr) (W : Web) (H' : Hp), Keep [d] H H' → Pen H' d c ns (n + 300) → WebAt H' p W → WebOk W → (W.names.length : Int) ≤ m → Q (.ref p) H'
theorem ok__law_web {f : Addr} {fd : FuncData} (F : FnP K "_law_web" s__law_web f fd) (c__law_draw : Cal P w K mg base 1 "_law_draw" spDraw) (c__law_pick : Cal P w K mg base 2 "_law_pick" spPick)
    (c__law_names : Cal P w K mg base 3 "_law_names" spNames) (c__law_leaps : Cal P w K mg base 3 "_law_leaps" spLeaps) (c__law_ties : Cal P w K mg base 3 "_law_ties" spTies) :
    FnOk P w K mg base CX0 4 f fd ["_law_pen_here", "_law_most"] spWeb := by
  refine F.ok sc__law_web (fun vs H Q E h => ?_) (fun cdv A outer s H vs Q E hr h => ?_)
  · obtain ⟨d, c, ns, n, m, rfl, _⟩ := h
    rfl
  · obtain ⟨d, c, ns, n, m, rfl, hp, hn, hm0, hm1, q⟩ := h
    refine ⟨_, PSs.nox (pss_cons (ps_set (i := 2) sc__law_web.nd rfl (.inl rfl) (pe_k c__law_pick (hr.mono (by decide)) (by rfl) (pa_cons (pv 0) (pa_cons (pe_lst (pa_cons (pe_op op_add pe_int (pe_k c__law_draw (hr.mono (by decide)) (by rfl) (pa_cons (pv 0) (pa_cons (pv 1) pa_nil)))) (pa_cons (pe_op op_add pe_int (pe_k c__law_draw (hr.mono (by decide)) (by rfl) (pa_cons (pv 0) (pa_cons (pv 1) pa_nil)))) (pa_cons (pv 1) (pa_cons pe_int pa_nil))))) pa_nil))))
    (pss_cons (ps_set (i := 3) sc__law_web.nd rfl (.inl rfl) (pe_k c__law_pick (hr.mono (by decide)) (by rfl) (pa_cons (pv 0) (pa_cons (pe_lst (pa_cons pe_int (pa_cons pe_int (pa_cons (pe_op op_add pe_int (pe_k c__law_draw (hr.mono (by decide)) (by rfl) (pa_cons (pv 0) (pa_cons pe_int pa_nil)))) (pa_cons pe_int pa_nil))))) pa_nil))))
    (pss_cons (ps_set (i := 4) sc__law_web.nd rfl (.inl rfl) (pe_k c__law_pick (hr.mono (by decide)) (by rfl) (pa_cons (pv 0) (pa_cons (pe_lst (pa_cons pe_int (pa_cons pe_int (pa_cons (pv 3) (pa_cons (pe_op op_add pe_int (pe_k c__law_draw (hr.mono (by decide)) (by rfl) (pa_cons (pv 0) (pa_cons (pv 3) pa_nil)))) pa_nil))))) pa_nil))))
    (pss_cons (ps_set (i := 5) sc__law_web.nd rfl (.inl rfl) (pe_tup pa_nil))
    (pss_mid (ps_if (pt_cmpR op_eq (pe_k c__law_draw (hr.mono (by decide)) (by rfl) (pa_cons (pv 0) (pa_cons pe_int pa_nil))) pe_int (nomark _))
      (pss_one (ps_set (i := 5) sc__law_web.nd rfl (.inl rfl) (pe_k c__law_leaps (hr.mono (by decide)) (by rfl) (pa_cons (pv 0) (pa_cons (pv 2) pa_nil)))))
      pss_nil)
    (pss_one (ps_ret (pe_tup (pa_cons (pe_k c__law_names (hr.mono (by decide)) (by rfl) (pa_cons (pv 0) (pa_cons (pv 2) pa_nil))) (pa_cons (pe_k c__law_ties (hr.mono (by decide)) (by rfl) (pa_cons (pv 0) (pa_cons (pv 2) pa_nil))) (pa_cons (pe_k c__law_leaps (hr.mono (by decide)) (by rfl) (pa_cons (pv 0) (pa_cons (pv 2) pa_nil))) (pa_cons (pe_tup (pa_cons (pv 4) (pa_cons (pv 3) pa_nil))) (pa_cons (pv 5) pa_nil))))))))))))), ?_⟩
    -- many
    refine ⟨_, rfl, _, rfl, _, rfl, d, c, ns, n, m, rfl, hp, by omega, by omega, by omega, fun x H1 x0 x1 k1 p1 => ⟨1, x, rfl, rfl, _, rfl, _, rfl, d, c, ns, _, m, rfl, p1, by omega, by omega, by omega, fun y H2 y0 y1 k2 p2 => ⟨1, y, rfl, rfl, _, rfl, (by show 4 ≤ sizeLine; decide), fun s0 ns0 =>
      ⟨d, c, ns, _, s0, _, rfl, p2.new ns0, by omega, upd_same, fun z => p2.not ns0 (List.mem_singleton.mpr z), (by show 0 < 4; decide), (by show 4 ≤ 1000; decide), fun v H3 hv k3 p3 => ?_⟩⟩⟩⟩
    obtain ⟨M, rfl, hM⟩ := mem4 hv
    have hM0 : 1 ≤ M ∧ M ≤ m := by omega
    have kH3 : Keep [d] H H3 := ((k1.trans k2).new ns0).trans k3
    clear hv hM k1 k2 k3 ns0
    -- q
    refine ⟨_, rfl, _, rfl, d, c, ns, _, 12, rfl, p3, by omega, by decide, by decide, fun x4 H4 x40 x41 k4 p4 => ⟨1, x4, rfl, rfl, (by show 4 ≤ sizeLine; decide), fun s1 ns1 =>
      ⟨d, c, ns, _, s1, _, rfl, p4.new ns1, by omega, upd_same, fun z => p4.not ns1 (List.mem_singleton.mpr z), (by show 0 < 4; decide), (by show 4 ≤ 1000; decide), fun v H5 hv k5 p5 => ?_⟩⟩⟩
    obtain ⟨qq, rfl, hq⟩ := mem4 hv
    have hq0 : 1 ≤ qq ∧ qq ≤ 12 := by omega
    have kH5 : Keep [d] H H5 := ((kH3.trans k4).new ns1).trans k5
    clear hv hq k4 k5 ns1
    -- p
    refine ⟨_, rfl, _, rfl, _, rfl, _, rfl, d, c, ns, _, qq, rfl, p5, by omega, by omega, by omega, fun x6 H6 x60 x61 k6 p6 => ⟨1, x6, rfl, rfl, (by show 4 ≤ sizeLine; decide), fun s1 ns1 =>
      ⟨d, c, ns, _, s1, _, rfl, p6.new ns1, by omega, upd_same, fun z => p6.not ns1 (List.mem_singleton.mpr z), (by show 0 < 4; decide), (by show 4 ≤ 1000; decide), fun v H7 hv k7 p7 => ?_⟩⟩⟩
    obtain ⟨pp, rfl, hpp⟩ := mem4 hv
    have hpp0 : 1 ≤ pp ∧ pp ≤ qq := by omega
    have kH7 : Keep [d] H H7 := ((kH5.trans k6).new ns1).trans k7
    clear hv hpp k6 k7 ns1
    -- falls
    refine ⟨Nat.zero_le _, fun f0 nf0 => ?_⟩
    have k8 : Keep [d] H (upd H7 f0 (.tup [])) := kH7.new nf0
    have p8 := p7.new (o := .tup []) nf0
    have e8 : upd H7 f0 (.tup []) f0 = some (.tup []) := upd_same
    generalize upd H7 f0 (.tup []) = H8 at k8 p8 e8
    refine ⟨fun σ' H' => ∃ (fa : Addr) (fs : List Int), σ' = [some (.ref d), some (.int m), some (.int M), some (.int qq), some (.int pp), some (.ref fa)] ∧ Keep [d] H H' ∧ Pen H' d c ns (n + 30) ∧ H' fa = some (.tup (fs.map V.int)) ∧ (fs = [] ∨ NumsOk M fs), ?_, ?_⟩
    · refine ⟨_, rfl, d, c, ns, _, 2, rfl, p8, by omega, by decide, by decide, fun z H9 z0 z1 k9 p9 => ⟨rfl, _, rfl, ite2 (fun c1 => ?_) (fun c1 => ?_)⟩⟩
      · refine ⟨_, rfl, _, rfl, d, c, ns, _, M, rfl, p9, by omega, by omega, by omega, fun p xs Ha ka pa ea hl hb hpos => ?_⟩
        exact ⟨p, xs, rfl, (k8.trans k9).trans ka, pa.mono (by omega), ea, .inr ⟨by omega, hb, hpos⟩⟩
      · exact ⟨f0, [], rfl, k8.trans k9, p9.mono (by omega), Keep.tup k9 (noT_pen p8) e8, .inl rfl⟩
    · rintro σ9 H9 ⟨fa, fs, rfl, k9, p9, e9, hf⟩
      refine ⟨_, rfl, _, rfl, d, c, ns, _, M, rfl, p9, by omega, by omega, by omega, fun na xs Hn kn pn en ln lon => ?_⟩
      refine ⟨_, rfl, _, rfl, d, c, ns, _, M, rfl, pn, by omega, by omega, by omega, fun ta ties Ht kt pt tat tok => ?_⟩
      refine ⟨_, rfl, _, rfl, d, c, ns, _, M, rfl, pt, by omega, by omega, by omega, fun la ls Hl kl pl el ll lb lpos => ?_⟩
      refine ⟨_, rfl, _, rfl, (by show 2 ≤ sizeLine; decide), fun ca nca => ⟨_, rfl, (by show 5 ≤ sizeLine; decide), fun wa nwa => ?_⟩⟩
      have kc : Keep [] Hl (upd Hl ca (.tup [.int pp, .int qq])) := (Keep.refl [] Hl).new nca
      have ec : upd Hl ca (.tup [.int pp, .int qq]) ca = some (.tup [.int pp, .int qq]) := upd_same
      have kw := (Keep.refl [] (upd Hl ca (.tup [.int pp, .int qq]))).new (o := .tup [.ref na, .ref ta, .ref la, .ref ca, .ref fa]) nwa
      have k2 := kc.trans kw
      have f1 := Keep.tup kl (noT_pen pt) (Keep.tup kt (noT_pen pn) (Keep.tup kn (noT_pen p9) e9))
      have n1 := Keep.tup kl (noT_pen pt) (Keep.tup kt (noT_pen pn) en)
      have t1 := tat.keep kl (noT_pen pt)
      have lenM : (xs.length : Int) = M := by omega
      refine q wa ⟨xs, ties, ls, pp, qq, fs⟩ _ ((((k9.trans kn).trans kt).trans kl).trans (k2.mono (fun _ z => nilX z))) ((pl.keep0 k2).mono (by omega)) ?_ ⟨⟨?_, ?_⟩, lon, ?_, ⟨?_, lb, lpos⟩, ⟨hpp0.1, hpp0.2, hq0.2⟩, ?_⟩ ?_
      · exact webAt_mk upd_same (k2 na _ (fun z => nilX z) n1) (t1.keep k2 (noT_nil _)) (k2 la _ (fun z => nilX z) el) (kw ca _ (fun z => nilX z) ec) (k2 fa _ (fun z => nilX z) f1)
      · show 1 ≤ xs.length
        omega
      · show xs.length ≤ 10
        omega
      · show TiesOk (xs.length : Int) ties
        rw [lenM]
        exact tok
      · show (ls.length : Int) = (xs.length : Int)
        omega
      · show fs = [] ∨ NumsOk (xs.length : Int) fs
        rw [lenM]
        exact hf
      · show (xs.length : Int) ≤ m
        omega
/-! ### _law_twins -/
structure TwinAt (H : Hp) (W : Web) (a : Addr) : Prop where
  ex : ∃ W' : Web, WebAt H a W' ∧ WebOk W' ∧ W'.names = W.names ∧ W'.ties = W.ties
theorem TwinAt.keep {H H' : Hp} {W : Web} {a : Addr} {ex : List Addr} (h : TwinAt H W a) (k : Keep ex H H') (nt : NoT H ex) : TwinAt H' W a := by
  obtain ⟨W', h1, h2⟩ := h.ex
  exact ⟨W', h1.keep k nt, h2⟩
def spTwins : Sp := fun vs H Q _ => ∃ (d c : Addr) (ns : List Int) (n : Nat) (x : Addr) (W : Web), vs = [.ref d, .ref x] ∧ Pen H d c ns n ∧ n ≤ 80000 ∧ WebAt H x W ∧ WebOk W ∧
  ∀ (p : Addr) (xs : List Addr) (H' : Hp), Keep [d] H H' → Pen H' d c ns (n + 20) → p ∉ [d] → H' p = some (.lst (xs.map V.ref)) → xs.length = 5 → xs[0]? = some x → (∀ a ∈ xs, TwinAt H' W a) → Q (.ref p) H'
theorem cut_tail (xs : List Int) (h : 1 ≤ xs.length) : cutV (xs.map V.int) (some 1) none = (xs.drop 1).map V.int := by
  have e1 : HT.sIx xs.length 0 (some 1) = 1 := by
    unfold HT.sIx
    simp
    omega
  have e2 : HT.sIx xs.length xs.length none = xs.length := rfl
  unfold cutV
  rw [List.length_map, e1, e2, ← List.map_drop, ← List.map_take]
  congr 1
  exact List.take_of_length_le (by rw [List.length_drop]; exact Nat.le_refl _)
theorem cut_head (xs : List Int) (h : 1 ≤ xs.length) : cutV (xs.map V.int) none (some 1) = (xs.take 1).map V.int := by
  have e1 : HT.sIx xs.length xs.length (some 1) = 1 := by
    unfold HT.sIx
    simp
    omega
  have e2 : HT.sIx xs.length 0 none = 0 := rfl
  unfold cutV
  rw [List.length_map, e1, e2, List.drop_zero, Nat.sub_zero, ← List.map_take]
theorem ok__law_twins {f : Addr} {fd : FuncData} (F : FnP K "_law_twins" s__law_twins f fd) (m_len : mg "len" = none) (m_int : mg "int" = none) (c__law_leaps : Cal P w K mg base 3 "_law_leaps" spLeaps) :
    FnOk P w K mg base CX0 4 f fd ["_law_pen_here", "_law_web_here"] spTwins := by
  refine F.ok sc__law_twins (fun vs H Q E h => ?_) (fun cdv A outer s H vs Q E hr h => ?_)
  · obtain ⟨d, c, ns, n, x, W, rfl, _⟩ := h
    rfl
  · obtain ⟨d, c, ns, n, x, W, rfl, hp, hn, hW, hok, q⟩ := h
    obtain ⟨na, ta, la, ca, fa, ts, h1, h2, h3, h4, h5, h6, h7, h8⟩ := hW.ex
    have hM := hok.many
    have hch := hok.chance
    refine ⟨_, PSs.nox (pss_cons (ps_asg (pv 1) (pg_tup rfl (pgs_cons (pg_name (i := 2) sc__law_twins.nd rfl (.inl rfl)) (pgs_cons (pg_name (i := 3) sc__law_twins.nd rfl (.inl rfl)) (pgs_cons (pg_name (i := 4) sc__law_twins.nd rfl (.inl rfl)) (pgs_cons (pg_name (i := 5) sc__law_twins.nd rfl (.inl rfl)) (pgs_cons (pg_name (i := 6) sc__law_twins.nd rfl (.inl rfl)) pgs_nil)))))))
    (pss_cons (ps_set (i := 7) sc__law_twins.nd rfl (.inl rfl) (pe_lst (pa_cons (pe_tup (pa_cons (pv 2) (pa_cons (pv 3) (pa_cons (pv 4) (pa_cons (pv 5) (pa_cons (pe_ix ix_list (pe_lst (pa_cons (pe_tup pa_nil) (pa_cons (pe_k c__law_leaps (hr.mono (by decide)) (by rfl) (pa_cons (pv 0) (pa_cons (pe_callB call_len_seq (by rfl) m_len (by decide +kernel) (pa_cons (pv 2) pa_nil)) pa_nil))) pa_nil))) (pe_callTy call_int1 (by rfl) m_int (by decide +kernel) (pa_cons (pe_cmpR (op_eqD hr.units) (pv 6) (pe_tup pa_nil) (nomark _)) pa_nil)) (fun _ _ => rfl)) pa_nil)))))) pa_nil)))
    (pss_cons (ps_expr (pe_bm PySem.F.plainAttrs_list PySem.F.slot_list_append PySem.F.type_list_append mt_append (pv 7) (pa_cons (pe_tup (pa_cons (pv 2) (pa_cons (pv 3) (pa_cons (pv 4) (pa_cons (pe_tup (pa_cons pe_int (pa_cons (pe_op op_sub pe_int (pe_ix ix_tup (pv 5) pe_int (fun _ _ => rfl))) pa_nil))) (pa_cons (pv 6) pa_nil)))))) pa_nil)))
    (pss_cons (ps_expr (pe_bm PySem.F.plainAttrs_list PySem.F.slot_list_append PySem.F.type_list_append mt_append (pv 7) (pa_cons (pe_tup (pa_cons (pv 2) (pa_cons (pv 3) (pa_cons (pe_op op_catH (pe_slice sl_tupH (pv 4) (po_some pe_int) po_none) (pe_slice sl_tupH (pv 4) po_none (po_some pe_int))) (pa_cons (pv 5) (pa_cons (pv 6) pa_nil)))))) pa_nil)))
    (pss_one (ps_ret (pe_op op_cat (pe_op op_cat (pe_lst (pa_cons (pv 1) pa_nil)) (pv 7)) (pe_lst (pa_cons (pv 1) pa_nil))))))))), ?_⟩
    refine ⟨_, rfl, x, _, rfl, .of h1, rfl, _, _, rfl, _, _, rfl, _, _, rfl, _, _, rfl, _, _, rfl, rfl, ?_⟩
    -- others
    refine ⟨_, rfl, _, rfl, _, rfl, _, rfl, Nat.zero_le _, fun t0 nt0 => ?_⟩
    have k1 : Keep [d] H (upd H t0 (.tup [])) := (Keep.refl _ H).new nt0
    have p1 := hp.new (o := .tup []) nt0
    have e1 : upd H t0 (.tup []) t0 = some (.tup []) := upd_same
    have h2' := Keep.tup k1 (noT_pen hp) h2
    generalize upd H t0 (.tup []) = H1 at k1 p1 e1 h2'
    refine ⟨_, rfl, _, rfl, na, _, rfl, .inr (.of h2'), d, c, ns, _, _, rfl, p1, by omega, (by rw [List.length_map]; omega), (by rw [List.length_map]; omega), fun l1 ls H2 k2 p2 el1 ll lb lpos => ?_⟩
    rw [List.length_map] at ll
    have kH2 : Keep [d] H H2 := k1.trans k2
    have e2 := Keep.tup k2 (noT_pen p1) e1
    refine ⟨(by show 2 ≤ sizeLine; decide), fun s1 ns1 => ⟨_, rfl, Nat.zero_le _, fun t2 nt2 => ?_⟩⟩
    have k3 := (Keep.refl [] H2).new (o := .lst [.ref t0, .ref l1]) ns1
    have es1 : upd H2 s1 (.lst [.ref t0, .ref l1]) s1 = some (.lst [.ref t0, .ref l1]) := upd_same
    have k4 := (Keep.refl [] (upd H2 s1 (.lst [.ref t0, .ref l1]))).new (o := .tup []) nt2
    have es2 := k4 s1 _ (fun z => nilX z) es1
    have et2 : upd (upd H2 s1 (.lst [.ref t0, .ref l1])) t2 (.tup []) t2 = some (.tup []) := upd_same
    have k5 : Keep [] H2 (upd (upd H2 s1 (.lst [.ref t0, .ref l1])) t2 (.tup [])) := k3.trans k4
    generalize upd (upd H2 s1 (.lst [.ref t0, .ref l1])) t2 (.tup []) = H4 at k5 es2 et2
    have kH4 : Keep [d] H H4 := kH2.trans (k5.mono (fun _ z => nilX z))
    have p4 := p2.keep0 k5
    have g8 := Keep.tup kH4 (noT_pen hp) h8
    refine ⟨.tuple (W.falls.map PyData.int), .tuple [], .tup (.of g8) (dpAll_ints _), .tup (.of et2) .nil, shaped_tup _, by decide +kernel, ?_⟩
    rw [eqv_tnil]
    -- the other falls
    have sel : ∃ (b : Addr) (fs : List Int), atI [V.ref t0, .ref l1] (if W.falls.isEmpty = true then 1 else 0) = some (.ref b) ∧ H4 b = some (.tup (fs.map V.int)) ∧ (fs = [] ∨ NumsOk W.names.length fs) := by
      cases hf : W.falls with
      | nil => exact ⟨l1, ls, rfl, k5 l1 _ (fun z => nilX z) el1, .inr ⟨by omega, lb, lpos⟩⟩
      | cons a r => exact ⟨t0, [], rfl, k5 t0 _ (fun z => nilX z) e2, .inl rfl⟩
    obtain ⟨b, fs, eb, ebH, hfs⟩ := sel
    refine .inr ⟨_, rfl, s1, _, _, .ref b, rfl, rfl, .of es2, eb, (by show 5 ≤ sizeLine; decide), fun w1 nw1 => ⟨(by show 1 ≤ sizeLine; decide), fun o no => ?_⟩⟩
    have k6 := (Keep.refl [] H4).new (o := .tup [.ref na, .ref ta, .ref la, .ref ca, .ref b]) nw1
    have ew1 : upd H4 w1 (.tup [.ref na, .ref ta, .ref la, .ref ca, .ref b]) w1 = some (.tup [.ref na, .ref ta, .ref la, .ref ca, .ref b]) := upd_same
    have noH4 : H4 o = none := k6.fresh (fun z => nilX z) no
    have k7 := k6.new (o := .lst [.ref w1]) no
    have ew1' := ((Keep.refl [] _).new (o := .lst [.ref w1]) no) w1 _ (fun z => nilX z) ew1
    have eo : upd (upd H4 w1 (.tup [.ref na, .ref ta, .ref la, .ref ca, .ref b])) o (.lst [.ref w1]) o = some (.lst [.ref w1]) := upd_same
    generalize upd (upd H4 w1 (.tup [.ref na, .ref ta, .ref la, .ref ca, .ref b])) o (.lst [.ref w1]) = H5 at k7 ew1' eo
    have kH5 : Keep [d] H H5 := kH4.trans (k7.mono (fun _ z => nilX z))
    have p5 := p4.keep0 k7
    have tAt : TiesAt H ta W.ties := ⟨ts, h3, h4, h5⟩
    have nH := noT_pen hp
    have tw1 : TwinAt H5 W w1 := ⟨⟨W.names, W.ties, W.leaps, W.p, W.q, fs⟩, webAt_mk ew1' (Keep.tup kH5 nH h2) (tAt.keep kH5 nH) (Keep.tup kH5 nH h6) (Keep.tup kH5 nH h7) (k7 b _ (fun z => nilX z) ebH), ⟨hok.many, hok.names, hok.ties, hok.leaps, hok.chance, hfs⟩, rfl, rfl⟩
    have noH : H o = none := kH4.fresh (p4.not noH4) noH4
    have dO : o ∉ [d] := hp.not noH
    clear k6 ew1 ew1' no nw1 g8 et2 es2 k3 k4 es1
    -- another chance
    refine ⟨_, rfl, .inl ⟨rfl, _, .of eo⟩, _, rfl, _, rfl, _, rfl, _, rfl, ca, _, _, .int W.q, rfl, rfl, .of (Keep.tup kH5 nH h7), rfl, 13, W.q, rfl, rfl, (by show 2 ≤ sizeLine; decide), fun c2 nc2 => ⟨_, rfl, (by show 5 ≤ sizeLine; decide), fun w2 nw2 => ?_⟩⟩
    have k8 := (Keep.refl [] H5).new (o := .tup [.int 1, .int (13 - W.q)]) nc2
    have ec2 : upd H5 c2 (.tup [.int 1, .int (13 - W.q)]) c2 = some (.tup [.int 1, .int (13 - W.q)]) := upd_same
    have k9 := (Keep.refl [] (upd H5 c2 (.tup [.int 1, .int (13 - W.q)]))).new (o := .tup [.ref na, .ref ta, .ref la, .ref c2, .ref fa]) nw2
    have ec2' := k9 c2 _ (fun z => nilX z) ec2
    have ew2 : upd (upd H5 c2 (.tup [.int 1, .int (13 - W.q)])) w2 (.tup [.ref na, .ref ta, .ref la, .ref c2, .ref fa]) w2 = some (.tup [.ref na, .ref ta, .ref la, .ref c2, .ref fa]) := upd_same
    have k10 := k8.trans k9
    have eo6 := k10 o _ (fun z => nilX z) eo
    refine ⟨o, _, _, rfl, rfl, eo6, (by show 1 < sizeLine; decide), ?_⟩
    have kO7 : Keep [o] H5 (upd (upd (upd H5 c2 (.tup [.int 1, .int (13 - W.q)])) w2 (.tup [.ref na, .ref ta, .ref la, .ref c2, .ref fa])) o (.lst [.ref w1, .ref w2])) := (k10.mono (fun _ z => nilX z)).set (List.mem_singleton.mpr rfl)
    have kH7 : Keep [d] H (upd (upd (upd H5 c2 (.tup [.int 1, .int (13 - W.q)])) w2 (.tup [.ref na, .ref ta, .ref la, .ref c2, .ref fa])) o (.lst [.ref w1, .ref w2])) := (kH5.trans (k10.mono (fun _ z => nilX z))).own noH
    have eo7 : (upd (upd (upd H5 c2 (.tup [.int 1, .int (13 - W.q)])) w2 (.tup [.ref na, .ref ta, .ref la, .ref c2, .ref fa])) o (.lst [.ref w1, .ref w2])) o = some (.lst [.ref w1, .ref w2]) := upd_same
    have oc : c2 ≠ o := ne_at ec2' eo6 (by intro z; cases z)
    have ow : w2 ≠ o := ne_at ew2 eo6 (by intro z; cases z)
    have ec7 : (upd (upd (upd H5 c2 (.tup [.int 1, .int (13 - W.q)])) w2 (.tup [.ref na, .ref ta, .ref la, .ref c2, .ref fa])) o (.lst [.ref w1, .ref w2])) c2 = some (.tup [.int 1, .int (13 - W.q)]) := by
      rw [upd_ne oc]
      exact ec2'
    have ew7 : (upd (upd (upd H5 c2 (.tup [.int 1, .int (13 - W.q)])) w2 (.tup [.ref na, .ref ta, .ref la, .ref c2, .ref fa])) o (.lst [.ref w1, .ref w2])) w2 = some (.tup [.ref na, .ref ta, .ref la, .ref c2, .ref fa]) := by
      rw [upd_ne ow]
      exact ew2
    have p7 : Pen (upd (upd (upd H5 c2 (.tup [.int 1, .int (13 - W.q)])) w2 (.tup [.ref na, .ref ta, .ref la, .ref c2, .ref fa])) o (.lst [.ref w1, .ref w2])) d c ns (n + 20) := (p5.keep0 k10).own hp noH
    show tSeq _ _ _ _ (upd (upd (upd H5 c2 (.tup [.int 1, .int (13 - W.q)])) w2 (.tup [.ref na, .ref ta, .ref la, .ref c2, .ref fa])) o (.lst [.ref w1, .ref w2]))
    generalize (upd (upd (upd H5 c2 (.tup [.int 1, .int (13 - W.q)])) w2 (.tup [.ref na, .ref ta, .ref la, .ref c2, .ref fa])) o (.lst [.ref w1, .ref w2])) = H7 at kO7 kH7 eo7 ec7 ew7 p7
    have noTO : ∀ {G : Hp} {zs : List V}, G o = some (.lst zs) → NoT G [o] := fun {G zs} e b hb xs z => by
      rw [List.mem_singleton.mp hb, e] at z
      cases z
    have tw17 := tw1.keep kO7 (noTO eo)
    have tw27 : TwinAt H7 W w2 := ⟨⟨W.names, W.ties, W.leaps, 1, 13 - W.q, W.falls⟩, webAt_mk ew7 (Keep.tup kH7 nH h2) (tAt.keep kH7 nH) (Keep.tup kH7 nH h6) ec7 (Keep.tup kH7 nH h8), ⟨hok.many, hok.names, hok.ties, hok.leaps, ⟨by show (1 : Int) ≤ 1; omega, by show (1 : Int) ≤ 13 - W.q; omega, by show 13 - W.q ≤ 12; omega⟩, hok.falls⟩, rfl, rfl⟩
    clear k8 k9 k10 eo6 oc ow ec2' ew2 ec7 ew7 ec2 nc2 nw2 kO7 tw1
    -- other leaps
    have lenL : 1 ≤ W.leaps.length := by
      have := hok.leaps.len
      omega
    refine ⟨_, rfl, .inl ⟨rfl, _, .of eo7⟩, _, rfl, _, rfl, _, rfl, 1, rfl, la, _, rfl, Keep.tup kH7 nH h6, fun s1 H8 k8 es1 => ⟨_, rfl, 1, rfl, la, _, rfl, k8 la _ (fun z => nilX z) (Keep.tup kH7 nH h6), fun s2 H9 k9 es2 => ?_⟩⟩
    rw [cut_tail _ lenL] at es1
    rw [cut_head _ lenL] at es2
    refine ⟨s1, s2, _, _, rfl, rfl, k9 s1 _ (fun z => nilX z) es1, es2, ?_, fun l3 H10 k10 el3 => ⟨_, rfl, _, rfl, (by show 5 ≤ sizeLine; decide), fun w3 nw3 => ?_⟩⟩
    · rw [List.length_map, List.length_map, List.length_drop, List.length_take]
      have := hok.leaps.len
      exact lt_size (by omega)
    rw [← List.map_append] at el3
    have k11 := (Keep.refl [] H10).new (o := .tup [.ref na, .ref ta, .ref l3, .ref ca, .ref fa]) nw3
    have ew3 : upd H10 w3 (.tup [.ref na, .ref ta, .ref l3, .ref ca, .ref fa]) w3 = some (.tup [.ref na, .ref ta, .ref l3, .ref ca, .ref fa]) := upd_same
    have k711 : Keep [] H7 (upd H10 w3 (.tup [.ref na, .ref ta, .ref l3, .ref ca, .ref fa])) := ((k8.trans k9).trans k10).trans k11
    have el11 := k11 l3 _ (fun z => nilX z) el3
    have eo11 := k711 o _ (fun z => nilX z) eo7
    refine ⟨o, _, _, rfl, rfl, eo11, (by show 2 < sizeLine; decide), ?_⟩
    generalize upd H10 w3 (.tup [.ref na, .ref ta, .ref l3, .ref ca, .ref fa]) = H11 at k711 ew3 el11 eo11
    have kO12 : Keep [o] H11 (upd H11 o (.lst ([V.ref w1, .ref w2] ++ [V.ref w3]))) := (Keep.refl _ H11).set (List.mem_singleton.mpr rfl)
    have kH12 : Keep [d] H (upd H11 o (.lst ([V.ref w1, .ref w2] ++ [V.ref w3]))) := (kH7.trans (k711.mono (fun _ z => nilX z))).own noH
    have eo12 : upd H11 o (.lst ([V.ref w1, .ref w2] ++ [V.ref w3])) o = some (.lst [.ref w1, .ref w2, .ref w3]) := upd_same
    have p12 : Pen (upd H11 o (.lst ([V.ref w1, .ref w2] ++ [V.ref w3]))) d c ns (n + 20) := (p7.keep0 k711).own hp noH
    generalize upd H11 o (.lst ([V.ref w1, .ref w2] ++ [V.ref w3])) = H12 at kO12 kH12 eo12 p12
    have tw1' := (tw17.keep k711 (noT_nil _)).keep kO12 (noTO eo11)
    have tw2' := (tw27.keep k711 (noT_nil _)).keep kO12 (noTO eo11)
    have rot : NumsOk W.names.length (W.leaps.drop 1 ++ W.leaps.take 1) := by
      have hm : ∀ z, z ∈ W.leaps.drop 1 ++ W.leaps.take 1 ↔ z ∈ W.leaps := fun z => by
        conv => rhs; rw [← List.take_append_drop 1 W.leaps]
        rw [List.mem_append, List.mem_append, or_comm]
      refine ⟨?_, fun z hz => hok.leaps.rng z ((hm z).mp hz), ?_⟩
      · show ((W.leaps.drop 1 ++ W.leaps.take 1).length : Int) = _
        rw [List.length_append, List.length_drop, List.length_take]
        have := hok.leaps.len
        show ((_ : Nat) : Int) = (W.names.length : Int)
        omega
      · obtain ⟨z, hz, pz⟩ := hok.leaps.pos
        exact ⟨z, (hm z).mpr hz, pz⟩
    have tw3' : TwinAt H12 W w3 := ⟨⟨W.names, W.ties, W.leaps.drop 1 ++ W.leaps.take 1, W.p, W.q, W.falls⟩, webAt_mk (Keep.tup kO12 (noTO eo11) ew3) (Keep.tup kH12 nH h2) (tAt.keep kH12 nH) (Keep.tup kO12 (noTO eo11) el11) (Keep.tup kH12 nH h7) (Keep.tup kH12 nH h8), ⟨hok.many, hok.names, hok.ties, rot, hok.chance, hok.falls⟩, rfl, rfl⟩
    have tw0' : TwinAt H12 W x := ⟨W, hW.keep kH12 nH, hok, rfl, rfl⟩
    refine ⟨_, rfl, (by show 1 ≤ sizeLine; decide), fun a1 na1 => ?_⟩
    have k13 := (Keep.refl [] H12).new (o := .lst [.ref x]) na1
    refine ⟨_, rfl, a1, o, _, _, rfl, rfl, upd_same, k13 o _ (fun z => nilX z) eo12, (by show 4 ≤ sizeLine; decide), fun a2 na2 => ?_⟩
    have k14 := k13.new (o := .lst [.ref x, .ref w1, .ref w2, .ref w3]) na2
    refine ⟨_, rfl, (by show 1 ≤ sizeLine; decide), fun a3 na3 => ?_⟩
    have k15 := (Keep.refl [] (upd (upd H12 a1 (.lst [.ref x])) a2 (.lst [.ref x, .ref w1, .ref w2, .ref w3]))).new (o := .lst [.ref x]) na3
    refine ⟨a2, a3, _, _, rfl, rfl, k15 a2 _ (fun z => nilX z) upd_same, upd_same, (by show 5 ≤ sizeLine; decide), fun a4 na4 => ?_⟩
    have k16 := (k14.trans k15).new (o := .lst [.ref x, .ref w1, .ref w2, .ref w3, .ref x]) na4
    have n4 : H12 a4 = none := (k14.trans k15).fresh (fun z => nilX z) na4
    refine q a4 [x, w1, w2, w3, x] _ (kH12.trans (k16.mono (fun _ z => nilX z))) (p12.keep0 k16) (p12.not n4) upd_same rfl rfl ?_
    intro a ha
    have fin : TwinAt H12 W a := by
      rcases List.mem_cons.mp ha with e | ha
      · rw [e]; exact tw0'
      rcases List.mem_cons.mp ha with e | ha
      · rw [e]; exact tw1'
      rcases List.mem_cons.mp ha with e | ha
      · rw [e]; exact tw2'
      rcases List.mem_cons.mp ha with e | ha
      · rw [e]; exact tw3'
      · rw [List.mem_singleton.mp ha]; exact tw0'
    exact fin.keep k16 (noT_nil _)
end
end K04
set_option Elab.async false
set_option linter.all false
set_option maxRecDepth 100000
set_option maxHeartbeats 2000000
set_option exponentiation.threshold 10000
set_option pp.maxSteps 300
set_option pp.deepTerms false
namespace K04
open PySem PySem.Spec PyProof.Rows L2 GL
abbrev Tie := Int × Int × Int
def tieD (t : Tie) : PyData := .tuple [.int t.1, .int t.2.1, .int t.2.2]
theorem fill_rng (a : Int) (B : Int) : ∀ (ts : List Tie) (r : List Int), (∀ t ∈ ts, 1 ≤ t.2.2 ∧ t.2.2 ≤ B) → (∀ x ∈ r, 0 ≤ x ∧ x ≤ B) → ∀ x ∈ fillRow a ts r, 0 ≤ x ∧ x ≤ B
  | [], _, _, h => h
  | t :: ts, r, ht, h => by
    have h1 := ht t List.mem_cons_self
    refine fill_rng a B ts _ (fun u hu => ht u (List.mem_cons_of_mem _ hu)) ?_
    intro x hx
    have hx : x ∈ (if t.1 = a then r.set t.2.1.toNat t.2.2 else r) := hx
    split at hx
    · rcases List.mem_or_eq_of_mem_set hx with z | z
      · exact h x z
      · rw [z]
        omega
    · exact h x hx
theorem row_rng {W : Web} (h : WebOk W) (a : Int) : ∀ x ∈ rowOf W a, 0 ≤ x ∧ x ≤ 30 := by
  have hf := fill_rng a 30 W.ties (List.replicate W.names.length 0) (fun t ht => (h.ties.inn t ht).2.2) (fun x hx => by
    rw [(List.mem_replicate.mp hx).2]
    decide)
  intro x hx
  unfold rowOf at hx
  simp only at hx
  split at hx
  · exact hf x hx
  · split at hx
    · rcases List.mem_or_eq_of_mem_set hx with z | z
      · exact hf x z
      · rw [z]
        decide
    · rename_i _ hne
      rcases h.falls with z | z
      · exact absurd z hne
      · exact z.rng x hx
theorem fine30 {x : Int} (h : 0 ≤ x ∧ x ≤ 1000000) : Fine x := Fine.of h.1 (Int.lt_of_le_of_lt h.2 (by decide))
theorem sum_rng : ∀ {xs : List Int}, (∀ x ∈ xs, 0 ≤ x ∧ x ≤ 30) → 0 ≤ xs.sum ∧ xs.sum ≤ 30 * xs.length
  | [], _ => by decide
  | x :: r, h => by
    have ih := sum_rng (fun y hy => h y (List.mem_cons_of_mem _ hy))
    have h1 := h x List.mem_cons_self
    rw [List.sum_cons, List.length_cons]
    omega
theorem tab_keep {H H' : Hp} {T : Addr} {ex : List Addr} (h : GxR.TabG H T) (k : Keep ex H H') (n : T ∉ ex) : GxR.TabG H' T := by
  obtain ⟨ps, e, t⟩ := h
  exact ⟨ps, k T _ n e, t⟩
theorem tab_ne {H : Hp} {T b : Addr} {o : HO} (h : GxR.TabG H T) (hb : H b = some o) (ho : ∀ q, o ≠ .tbl q) : b ∉ [T] := fun z => by
  obtain ⟨ps, e, _⟩ := h
  rw [List.mem_singleton.mp z, e] at hb
  exact ho ps (Option.some.inj hb).symm
/-! ### webs, for repr -/
def webD (W : Web) : PyData := .tuple [.tuple (W.names.map PyData.str), .tuple (W.ties.map tieD), .tuple (W.leaps.map PyData.int), .tuple [.int W.p, .int W.q], .tuple (W.falls.map PyData.int)]
theorem dp_tiesAt {K : PySem.W.Frag} {H : Hp} : ∀ {ts : List Addr} {ties : List Tie}, ts.length = ties.length → (∀ (j : Nat) (b : Addr) (x : Tie), ts[j]? = some b → ties[j]? = some x → H b = some (tieT x)) → DpAll K H (ts.map V.ref) (ties.map tieD)
  | [], [], _, _ => .nil
  | b :: ts, x :: ties, hl, h => .cons (.tup (.of (h 0 b x rfl rfl)) (.cons (.int _) (.cons (.int _) (.cons (.int _) .nil)))) (dp_tiesAt (Nat.succ.inj hl) fun j b x hj hx => h (j + 1) b x hj hx)
theorem dp_web {K : PySem.W.Frag} {H : Hp} {a : Addr} {W : Web} (h : WebAt H a W) : Dp K H (.ref a) (webD W) := by
  obtain ⟨na, ta, la, ca, fa, ts, h1, h2, h3, h4, h5, h6, h7, h8⟩ := h.ex
  exact .tup (.of h1) (.cons (.tup (.of h2) (dpAll_strs _)) (.cons (.tup (.of h3) (dp_tiesAt h4 h5)) (.cons (.tup (.of h6) (dpAll_ints _)) (.cons (.tup (.of h7) (.cons (.int _) (.cons (.int _) .nil))) (.cons (.tup (.of h8) (dpAll_ints _)) .nil)))))
theorem sm_nums {m : Int} {xs : List Int} (h : NumsOk m xs) (hm : m ≤ 10) : SmAll 2 20 (xs.map PyData.int) := by
  refine (SmAll.map (k := 0) (n := 0) fun x hx => Sm.int (fine30 ?_)).mono (by decide) ?_
  · have := h.rng x hx
    omega
  · have := h.len
    omega
theorem sm_web {W : Web} (h : WebOk W) : Sm 4 500 (webD W) := by
  have hM := h.many
  have a1 : Sm 3 200 (.tuple (W.names.map PyData.str)) := (Sm.tup (SmAll.map (k := 0) (n := 15) fun x hx => Sm.str (h.names x hx))).mono (by decide) (by
    have : W.names.length * 16 ≤ 10 * 16 := Nat.mul_le_mul_right _ hM.2
    omega)
  have a2 : Sm 3 200 (.tuple (W.ties.map tieD)) := by
    refine (Sm.tup (SmAll.map (k := 1) (n := 3) fun x hx => ?_)).mono (by decide) (by
      have : W.ties.length * 4 ≤ 40 * 4 := Nat.mul_le_mul_right _ h.ties.few
      omega)
    obtain ⟨i1, i2, i3⟩ := h.ties.inn x hx
    exact Sm.tup ((SmAll.cons (Sm.int (fine30 (by omega))) (.cons (Sm.int (fine30 (by omega))) (.cons (Sm.int (fine30 (by omega))) .nil))).mono (by decide) (by decide))
  have a3 : Sm 3 20 (.tuple (W.leaps.map PyData.int)) := Sm.tup (sm_nums h.leaps (by omega))
  have a4 : Sm 3 20 (.tuple [.int W.p, .int W.q]) := by
    have := h.chance
    exact (Sm.tup (SmAll.cons (Sm.int (fine30 (by omega))) (.cons (Sm.int (fine30 (by omega))) .nil))).mono (by decide) (by decide)
  have a5 : Sm 3 20 (.tuple (W.falls.map PyData.int)) := by
    rcases h.falls with z | z
    · rw [z]
      exact (Sm.tup SmAll.nil).mono (by decide) (by decide)
    · exact Sm.tup (sm_nums z (by omega))
  exact (Sm.tup (SmAll.cons a1 (.cons a2 (.cons a3 (.cons a4 (.cons a5 (SmAll.nil.mono (Nat.zero_le _) (Nat.le_refl _)))))))).mono (by decide) (by decide)
def WebsAt (H : Hp) : List Addr → List Web → Prop
  | [], [] => True
  | a :: r, W :: s => WebAt H a W ∧ WebsAt H r s
  | _, _ => False
theorem WebsAt.keep {H H' : Hp} {ex : List Addr} (k : Keep ex H H') (nt : NoT H ex) : ∀ {as : List Addr} {Ws : List Web}, WebsAt H as Ws → WebsAt H' as Ws
  | [], [], _ => trivial
  | _ :: _, _ :: _, h => ⟨h.1.keep k nt, WebsAt.keep k nt h.2⟩
theorem webs_of {H : Hp} {W : Web} : ∀ {as : List Addr}, (∀ a ∈ as, TwinAt H W a) → ∃ Ws, WebsAt H as Ws ∧ (∀ W' ∈ Ws, WebOk W' ∧ W'.names = W.names) ∧ Ws.length = as.length
  | [], _ => ⟨[], trivial, fun _ z => (nomatch z), rfl⟩
  | a :: r, h => by
    obtain ⟨W', h1, h2, h3, _⟩ := (h a List.mem_cons_self).ex
    obtain ⟨Ws, g1, g2, g3⟩ := webs_of fun b hb => h b (List.mem_cons_of_mem _ hb)
    refine ⟨W' :: Ws, ⟨h1, g1⟩, fun V hV => ?_, by rw [List.length_cons, List.length_cons, g3]⟩
    rcases List.mem_cons.mp hV with e | e
    · rw [e]
      exact ⟨h2, h3⟩
    · exact g2 V e
theorem WebsAt.get {H : Hp} : ∀ {as : List Addr} {Ws : List Web} {a : Addr}, WebsAt H as Ws → a ∈ as → ∃ W ∈ Ws, WebAt H a W
  | b :: r, W :: Ws, a, h, ha => by
    rcases List.mem_cons.mp ha with e | e
    · rw [e]
      exact ⟨W, List.mem_cons_self, h.1⟩
    · obtain ⟨W', h1, h2⟩ := WebsAt.get h.2 e
      exact ⟨W', List.mem_cons_of_mem _ h1, h2⟩
theorem dp_webs {K : PySem.W.Frag} {H : Hp} : ∀ {as : List Addr} {Ws : List Web}, WebsAt H as Ws → DpAll K H (as.map V.ref) (Ws.map webD)
  | [], [], _ => .nil
  | _ :: _, _ :: _, h => .cons (dp_web h.1) (dp_webs h.2)
theorem cut_mem {xs : List V} {lo hi : Option Int} {v : V} (h : v ∈ cutV xs lo hi) : v ∈ xs := List.mem_of_mem_drop (List.mem_of_mem_take h)

/-! ### columns -/
theorem le_sum : ∀ {xs : List Int} {x : Int}, (∀ y ∈ xs, 0 ≤ y) → x ∈ xs → x ≤ xs.sum
  | y :: r, x, h, hx => by
    have h0 := h y List.mem_cons_self
    have hr : ∀ z ∈ r, 0 ≤ z := fun z hz => h z (List.mem_cons_of_mem _ hz)
    have hs : 0 ≤ r.sum := by
      clear hx
      induction r with
      | nil => exact Int.le_refl _
      | cons z r ih =>
        rw [List.sum_cons]
        have h1 := hr z List.mem_cons_self
        have h2 := ih (fun y' hy => h y' (by
          rcases List.mem_cons.mp hy with e | e
          · rw [e]
            exact List.mem_cons_self
          · exact List.mem_cons_of_mem _ (List.mem_cons_of_mem _ e))) (fun z' hz => hr z' (List.mem_cons_of_mem _ hz))
        omega
    rw [List.sum_cons]
    rcases List.mem_cons.mp hx with e | e
    · omega
    · have := le_sum hr e
      omega
theorem row_has {W : Web} (h : WebOk W) {a : Int} (a0 : 0 ≤ a) (a1 : a < W.names.length) : ∃ x ∈ rowOf W a, 0 < x := by
  unfold rowOf
  simp only
  split
  · rename_i h1
    obtain ⟨x, hx, px⟩ := List.any_eq_true.mp h1
    exact ⟨x, hx, of_decide_eq_true px⟩
  · split
    · exact ⟨1, List.mem_set (by rw [fill_len, List.length_replicate]; omega) _, by decide⟩
    · rename_i _ hne
      rcases h.falls with z | z
      · exact absurd z hne
      · exact z.pos
theorem row_sum {W : Web} (h : WebOk W) {a : Int} (a0 : 0 ≤ a) (a1 : a < W.names.length) : 1 ≤ (rowOf W a).sum := by
  obtain ⟨x, hx, px⟩ := row_has h a0 a1
  have := le_sum (fun y hy => (row_rng h a y hy).1) hx
  omega
/-- what stands at b of a's column, v the row's number there -/
def colN (W : Web) (a b v : Int) : Int := if b = a then 0 - (W.q - W.p) * v + W.q * (rowOf W a).sum else 0 - (W.q - W.p) * v
def colOf (W : Web) (a : Int) : List Int := (rowOf W a).zipIdx.map fun z => colN W a (z.2 : Int) z.1
theorem col_at (W : Web) (a : Int) (b : Nat) : (colOf W a)[b]? = ((rowOf W a)[b]?).map fun v => colN W a (b : Int) v := by
  unfold colOf
  rw [List.getElem?_map, List.getElem?_zipIdx]
  cases (rowOf W a)[b]? with
  | none => rfl
  | some v =>
    show some (colN W a ((0 + b : Nat) : Int) v) = _
    rw [Nat.zero_add]
    rfl
theorem col_len (W : Web) (a : Int) : (colOf W a).length = (rowOf W a).length := by
  unfold colOf
  rw [List.length_map, List.length_zipIdx]
theorem col_prog (W : Web) {a : Int} (a0 : 0 ≤ a) {v : Int} (hv : (rowOf W a)[a.toNat]? = some v) :
    ((rowOf W a).map fun n => -(W.q - W.p) * n).set a.toNat (-(W.q - W.p) * v + W.q * (rowOf W a).sum) = colOf W a := by
  refine List.ext_getElem? fun b => ?_
  rw [col_at, List.getElem?_set, List.length_map]
  have hl := (List.getElem?_eq_some_iff.mp hv).1
  by_cases e : a.toNat = b
  · subst e
    rw [if_pos rfl, if_pos hl, hv]
    show some _ = some (colN W a _ v)
    unfold colN
    rw [if_pos (by omega), Int.neg_mul]
    congr 1
    omega
  · rw [if_neg e, List.getElem?_map]
    cases (rowOf W a)[b]? with
    | none => rfl
    | some u =>
      show some (-(W.q - W.p) * u) = some (colN W a (b : Int) u)
      unfold colN
      rw [if_neg (by omega), Int.neg_mul]
      congr 1
      omega
theorem sum_col (p q s : Int) (a : Int) : ∀ (r : List Int) (k : Nat), ((r.zipIdx k).map fun z => if ((z.2 : Nat) : Int) = a then 0 - (q - p) * z.1 + q * s else 0 - (q - p) * z.1).sum = (0 - (q - p) * r.sum) + (if (k : Int) ≤ a ∧ a < (k : Int) + r.length then q * s else 0)
  | [], k => by
    rw [if_neg (fun z => by
      have h1 := z.1
      have h2 := z.2
      rw [List.length_nil] at h2
      omega)]
    simp
  | x :: r, k => by
    have ih := sum_col p q s a r (k + 1)
    rw [List.zipIdx_cons, List.map_cons, List.sum_cons, ih, List.sum_cons, Int.mul_add, List.length_cons]
    generalize (q - p) * r.sum = A
    generalize (q - p) * x = B
    generalize q * s = C
    simp only
    by_cases e : (k : Int) = a
    · rw [if_pos e, if_neg (by omega), if_pos (by omega)]
      omega
    · rw [if_neg e]
      by_cases e2 : ((k + 1 : Nat) : Int) ≤ a ∧ a < ((k + 1 : Nat) : Int) + r.length
      · rw [if_pos e2, if_pos (by omega)]
        omega
      · rw [if_neg e2, if_neg (by omega)]
        omega
theorem col_sum {W : Web} (h : WebOk W) {a : Int} (a0 : 0 ≤ a) (a1 : a < W.names.length) : (colOf W a).sum = W.p * (rowOf W a).sum := by
  have e := sum_col W.p W.q (rowOf W a).sum a (rowOf W a) 0
  have hl := row_len h.fits a
  rw [if_pos (by omega)] at e
  have e2 : (colOf W a).sum = _ := e
  rw [e2, Int.sub_mul]
  omega
theorem col_own {W : Web} (h : WebOk W) {a : Int} (a0 : 0 ≤ a) (a1 : a < W.names.length) : ∃ v : Int, (colOf W a)[a.toNat]? = some v ∧ 1 ≤ v := by
  have hl := row_len h.fits a
  have hj : a.toNat < (rowOf W a).length := by omega
  have hv := List.getElem?_eq_getElem hj
  have hm := List.getElem_mem hj
  generalize (rowOf W a)[a.toNat] = v at hv hm
  have hr := row_rng h a
  have g1 := le_sum (fun y hy => (hr y hy).1) hm
  have g2 := row_sum h a0 a1
  have g3 := (hr v hm).1
  have hc := h.chance
  refine ⟨_, by rw [col_at, hv]; rfl, ?_⟩
  show 1 ≤ colN W a _ v
  unfold colN
  rw [if_pos (by omega)]
  have h1 : (W.q - W.p) * v ≤ (W.q - W.p) * (rowOf W a).sum := Int.mul_le_mul_of_nonneg_left g1 (by omega)
  have h2 : 1 * (rowOf W a).sum ≤ W.p * (rowOf W a).sum := Int.mul_le_mul_of_nonneg_right hc.1 (by omega)
  rw [Int.sub_mul] at h1
  rw [Int.sub_mul] at h1 ⊢
  omega
theorem col_other {W : Web} (h : WebOk W) {a : Int} {b : Nat} (hb : (b : Int) ≠ a) {v : Int} (hv : (colOf W a)[b]? = some v) : v ≤ 0 := by
  rw [col_at] at hv
  obtain ⟨u, hu, rfl⟩ := Option.map_eq_some_iff.mp hv
  have hr := row_rng h a u (List.mem_of_getElem? hu)
  have hc := h.chance
  show colN W a (b : Int) u ≤ 0
  unfold colN
  rw [if_neg hb]
  have := Int.mul_nonneg (show 0 ≤ W.q - W.p by omega) hr.1
  omega
theorem col_rng {W : Web} (h : WebOk W) (a : Int) : ∀ x ∈ colOf W a, -1000 ≤ x ∧ x ≤ 100000 := by
  intro x hx
  obtain ⟨b, hb, e⟩ := List.getElem_of_mem hx
  have hv := List.getElem?_eq_getElem hb
  rw [e, col_at] at hv
  obtain ⟨u, hu, rfl⟩ := Option.map_eq_some_iff.mp hv
  have hr := row_rng h a u (List.mem_of_getElem? hu)
  have hc := h.chance
  have hs := sum_rng (row_rng h a)
  have hl := row_len h.fits a
  have hM := h.many
  have g1 := Int.mul_nonneg (show 0 ≤ W.q - W.p by omega) hr.1
  have g2 : (W.q - W.p) * u ≤ 12 * 30 := Int.mul_le_mul (by omega) hr.2 hr.1 (by decide)
  have g3 := Int.mul_nonneg (show 0 ≤ W.q by omega) hs.1
  have g4 : W.q * (rowOf W a).sum ≤ 12 * 300 := Int.mul_le_mul hc.2.2 (by omega) hs.1 (by decide)
  show -1000 ≤ colN W a (b : Int) u ∧ colN W a (b : Int) u ≤ 100000
  unfold colN
  split <;> omega
theorem fineAbs {x : Int} (h : -1000000 ≤ x ∧ x ≤ 1000000) : Fine x := by
  have e : x.natAbs ≤ 1000000 := by omega
  exact Nat.lt_of_le_of_lt e (by decide)
theorem at_col {xs : List Int} {a v : Int} (a0 : 0 ≤ a) (h : xs[a.toNat]? = some v) : atI (xs.map V.int) a = some (.int v) := by
  obtain ⟨j, rfl⟩ := Int.eq_ofNat_of_zero_le a0
  have h2 : xs[j]? = some v := h
  exact atI_nat (by rw [List.getElem?_map, h2]; rfl)
section
variable {P : Program} {w : World} {K : PySem.W.Frag} {mg : Str → Option Value} {base : Heap}
def spCol (T : Addr) : Sp := fun vs H Q _ => ∃ (x : Addr) (a : Int) (W : Web), vs = [.ref x, .int a] ∧ WebAt H x W ∧ WebOk W ∧ 0 ≤ a ∧ a < W.names.length ∧ GxR.TabG H T ∧
  ∀ p H', Keep [T] H H' → GxR.TabG H' T → H' p = some (.tup ((colOf W a).map V.int)) → Q (.ref p) H'
def fNeg (p q : Int) (v : V) : V := match v with
  | .int n => .int (-(q - p) * n)
  | _ => .non
theorem ok_column_of {f T : Addr} {fd : FuncData} (F : FnP K "column_of" s_column_of f fd) (m_sum : mg "sum" = none) (m_tuple : mg "tuple" = none) (c_row_of : Cal P w K mg base 1 "row_of" (spRow T)) : FnOk P w K mg base CX0 2 f fd ["web", "a"] (spCol T) := by
  refine F.ok sc_column_of (fun vs H Q E h => ?_) (fun cdv A outer s H vs Q E hr h => ?_)
  · obtain ⟨x, a, W, rfl, _⟩ := h
    rfl
  · obtain ⟨x, a, W, rfl, hW, hok, a0, a1, hT, q⟩ := h
    obtain ⟨na, ta, la, ca, fa, ts, h1, h2, h3, h4, h5, h6, h7, h8⟩ := hW.ex
    have hc := hok.chance
    have hl := row_len hok.fits a
    have hM := hok.many
    refine ⟨_, PSs.nox (pss_cons (ps_asg (pe_ix ix_tup (pv 0) pe_int (fun _ _ => rfl)) (pg_tup rfl (pgs_cons (pg_name (i := 2) sc_column_of.nd rfl (.inr rfl)) (pgs_cons (pg_name (i := 3) sc_column_of.nd rfl (.inr rfl)) pgs_nil))))
    (pss_cons (ps_set (i := 4) sc_column_of.nd rfl (.inl rfl) (pe_k c_row_of (hr.mono (by decide)) (by rfl) (pa_cons (pv 0) (pa_cons (pv 1) pa_nil))))
    (pss_cons (ps_setLc (i := 5) (own := [("number", 6)]) (g := gName 6) (by rfl) sc_column_of.nd rfl rfl (sw_true rfl rfl rfl (by decide +kernel)) (pi_tup (pv 4)) (blkOk_by (own := [("number", 6)]) (N := N_column_of) (sc := defScope s_column_of) (by decide +kernel)) (fun _ _ _ _ _ => (pg_name (i := 6) sc_column_of.nd rfl (.inl rfl))) (fun _ _ _ _ _ => pts_nil) (fun _ _ _ _ _ => (pe_op op_mul (pe_un un_neg (pe_op op_sub (pv 3) (pv 2))) (pv 6))))
    (pss_cons (ps_augS (pv 5) (pv 1) get_list (pe_op op_mul (pv 3) (pe_callB (cr_sumT rfl) (by rfl) m_sum (by decide +kernel) (pa_cons (pv 4) pa_nil))) ip_add set_list)
    (pss_one (ps_ret (pe_callTy call_tuple_of (by rfl) m_tuple (by decide +kernel) (pa_cons (pv 5) pa_nil)))))))), ?_⟩
    refine ⟨_, rfl, x, _, _, .ref ca, rfl, rfl, .of h1, rfl, ca, _, rfl, .of h7, rfl, _, _, rfl, _, _, rfl, rfl, ?_⟩
    refine ⟨_, rfl, _, rfl, x, a, W, rfl, hW, hok.fits, a0, a1, hT, fun r H1 k1 T1 e1 => ?_⟩
    refine ⟨_, rfl, r, rfl, ⟨_, .of e1⟩, fun D hD => lc_tup (xs := (rowOf W a).map V.int) (fun i H' => Keep [] H1 H' ∧ H' D = some (.lst ((((rowOf W a).take i).map fun n => -(W.q - W.p) * n).map V.int)))
      ⟨(Keep.refl [] H1).new hD, upd_same⟩ ?_ ?_ ?_⟩
    · rintro i H' _ ⟨k2, _⟩
      exact .of (k2 r _ (fun z => nilX z) e1)
    · rintro i v H' hv ⟨k2, e2⟩
      rw [List.getElem?_map] at hv
      obtain ⟨n, hn, rfl⟩ := Option.map_eq_some_iff.mp hv
      have hi := (List.getElem?_eq_some_iff.mp hn).1
      refine ⟨rfl, _, rfl, _, rfl, W.q, W.p, rfl, rfl, W.q - W.p, rfl, _, rfl, -(W.q - W.p), n, rfl, rfl, .inl ⟨by omega, by omega⟩, _, e2, ?_, k2.own hD, ?_⟩
      · rw [List.length_map, List.length_map, List.length_take]
        exact lt_size' (by omega)
      · rw [upd_same, List.take_add_one, hn, List.map_append, List.map_append]
        rfl
    · rintro H2 ⟨k2, e2⟩
      rw [List.length_map, List.take_length] at e2
      obtain ⟨v, hvm, hv, hvA⟩ := at_int a0 (show a < ((rowOf W a).length : Int) by omega)
      have e12 := k2 r _ (fun z => nilX z) e1
      have eA : atI (((rowOf W a).map fun n => -(W.q - W.p) * n).map V.int) a = some (.int (-(W.q - W.p) * v)) := at_col a0 (by rw [List.getElem?_map, hv]; rfl)
      refine ⟨_, rfl, _, rfl, D, _, a, .int (-(W.q - W.p) * v), rfl, rfl, a0, .of e2, eA, _, rfl, _, rfl, r, _, rfl, .of e12, W.q, _, rfl, rfl, .inl ⟨by omega, by omega⟩, _, _, rfl, rfl, D, _, a, a.toNat, rfl, rfl, e2, ixN_int a0 (by rw [List.length_map, List.length_map]; omega), ?_⟩
      have e3 : upd H2 D (.lst ((((rowOf W a).map fun n => -(W.q - W.p) * n).map V.int).set a.toNat (.int (-(W.q - W.p) * v + W.q * (rowOf W a).sum)))) D = some (.lst ((colOf W a).map V.int)) := by
        rw [upd_same, ← col_prog W a0 hv, List.map_set]
      have dT : D ∉ [T] := fun z => by
        obtain ⟨ps, e, _⟩ := T1
        rw [List.mem_singleton.mp z, e] at hD
        cases hD
      have k3 : Keep [] H1 (upd H2 D (.lst ((((rowOf W a).map fun n => -(W.q - W.p) * n).map V.int).set a.toNat (.int (-(W.q - W.p) * v + W.q * (rowOf W a).sum))))) := k2.own hD
      refine ⟨_, rfl, D, _, rfl, .inl ⟨.of e3, fun l nl => ?_⟩⟩
      exact q l _ ((k1.trans (k3.mono (fun _ z => nilX z))).new nl) (tab_keep T1 (k3.new nl) (fun z => nilX z)) upd_same
def spSize (T : Addr) : Sp := fun vs H Q _ => ∃ (x : Addr) (a : Int) (W : Web) (v : Int), vs = [.ref x, .int a] ∧ WebAt H x W ∧ WebOk W ∧ 0 ≤ a ∧ a < W.names.length ∧ GxR.TabG H T ∧ (colOf W a)[a.toNat]? = some v ∧
  ∀ H', Keep [T] H H' → GxR.TabG H' T → Q (.int v) H'
theorem ok_size_of {f T : Addr} {fd : FuncData} (F : FnP K "size_of" s_size_of f fd) (c_column_of : Cal P w K mg base 2 "column_of" (spCol T)) : FnOk P w K mg base CX0 3 f fd ["web", "a"] (spSize T) := by
  refine F.ok sc_size_of (fun vs H Q E h => ?_) (fun cdv A outer s H vs Q E hr h => ?_)
  · obtain ⟨x, a, W, v, rfl, _⟩ := h
    rfl
  · obtain ⟨x, a, W, v, rfl, hW, hok, a0, a1, hT, hv, q⟩ := h
    refine ⟨_, PSs.nox (pss_one (ps_ret (pe_ix ix_tup (pe_k c_column_of (hr.mono (by decide)) (by rfl) (pa_cons (pv 0) (pa_cons (pv 1) pa_nil))) (pv 1) (fun _ _ => rfl)))), ?_⟩
    exact ⟨_, rfl, _, rfl, x, a, W, rfl, hW, hok, a0, a1, hT, fun p H1 k1 T1 e1 => ⟨_, rfl, p, _, a, .int v, rfl, rfl, .of e1, at_col a0 hv, q H1 k1 T1⟩⟩
theorem ok__law_due {f T : Addr} {fd : FuncData} (F : FnP K "_law_due" s__law_due f fd) (m_len : mg "len" = none) (m_range : mg "range" = none) (m_sum : mg "sum" = none) (m_tuple : mg "tuple" = none) (c_row_of : Cal P w K mg base 1 "row_of" (spRow T)) : FnOk P w K mg base CX0 2 f fd ["_law_web_here", "_law_a"] (spCol T) := by
  refine F.ok sc__law_due (fun vs H Q E h => ?_) (fun cdv A outer s H vs Q E hr h => ?_)
  · obtain ⟨x, a, W, rfl, _⟩ := h
    rfl
  · obtain ⟨x, a, W, rfl, hW, hok, a0, a1, hT, q⟩ := h
    obtain ⟨na, ta, la, ca, fa, ts, h1, h2, h3, h4, h5, h6, h7, h8⟩ := hW.ex
    have hc := hok.chance
    have hl := row_len hok.fits a
    have hM := hok.many
    refine ⟨_, PSs.nox (pss_cons (ps_asg (pe_ix ix_tup (pv 0) pe_int (fun _ _ => rfl)) (pg_tup rfl (pgs_cons (pg_name (i := 2) sc__law_due.nd rfl (.inl rfl)) (pgs_cons (pg_name (i := 3) sc__law_due.nd rfl (.inl rfl)) pgs_nil))))
    (pss_cons (ps_set (i := 4) sc__law_due.nd rfl (.inl rfl) (pe_k c_row_of (hr.mono (by decide)) (by rfl) (pa_cons (pv 0) (pa_cons (pv 1) pa_nil))))
    (pss_cons (ps_set (i := 5) sc__law_due.nd rfl (.inl rfl) (pe_lst pa_nil))
    (pss_cons (ps_for PassesOwn.never rfl (pi_range1 rfl m_range (pa_cons (pe_callB call_len_seq (by rfl) m_len (by decide +kernel) (pa_cons (pe_ix ix_tup (pv 0) pe_int (fun _ _ => rfl)) pa_nil)) pa_nil)) (pg_name (i := 6) sc__law_due.nd rfl (.inl rfl))
      (pss_cons (ps_set (i := 7) sc__law_due.nd rfl (.inl rfl) (pe_op op_sub pe_int (pe_op op_mul (pe_op op_sub (pv 3) (pv 2)) (pe_ix ix_tup (pv 4) (pv 6) (fun _ _ => rfl)))))
    (pss_mid (ps_if (pt_cmpR op_eq (pv 6) (pv 1) (nomark _))
      (pss_one (ps_set (i := 7) sc__law_due.nd rfl (.inl rfl) (pe_op op_add (pv 7) (pe_op op_mul (pv 3) (pe_callB (cr_sumT rfl) (by rfl) m_sum (by decide +kernel) (pa_cons (pv 4) pa_nil))))))
      pss_nil)
    (pss_one (ps_expr (pe_bm PySem.F.plainAttrs_list PySem.F.slot_list_append PySem.F.type_list_append mt_append (pv 5) (pa_cons (pv 7) pa_nil)))))))
    (pss_one (ps_ret (pe_callTy call_tuple_of (by rfl) m_tuple (by decide +kernel) (pa_cons (pv 5) pa_nil)))))))), ?_⟩
    refine ⟨_, rfl, x, _, _, .ref ca, rfl, rfl, .of h1, rfl, ca, _, rfl, .of h7, rfl, _, _, rfl, _, _, rfl, rfl, ?_⟩
    refine ⟨_, rfl, _, rfl, x, a, W, rfl, hW, hok.fits, a0, a1, hT, fun r H1 k1 T1 e1 => ?_⟩
    refine ⟨Nat.zero_le _, fun D hD => ?_⟩
    have k2 := (Keep.refl [] H1).new (o := .lst []) hD
    have h12 := k2 x _ (fun z => nilX z) (Keep.tup k1 (noT_tab hT) h1)
    have h22 := k2 na _ (fun z => nilX z) (Keep.tup k1 (noT_tab hT) h2)
    have el : (((W.names.map V.str).length : Nat) : Int).toNat = W.names.length := by rw [List.length_map, Int.toNat_natCast]
    refine ⟨_, rfl, x, _, _, .ref na, rfl, rfl, .of h12, rfl, na, _, rfl, .inr (.of h22), _, rfl, (by omega), (by rw [List.length_map]; omega), for_range (n := (((W.names.map V.str).length : Nat) : Int).toNat) (fun i σ H' => ∃ y6 y7 : Option V, σ = [some (.ref x), some (.int a), some (.int W.p), some (.int W.q), some (.ref r), some (.ref D), y6, y7] ∧ Keep [] H1 H' ∧ H' D = some (.lst (((colOf W a).take i).map V.int)))
      ⟨none, none, rfl, k2, upd_same⟩ ?_ ?_⟩
    · rintro i σ H' hi ⟨y6, y7, rfl, k3, e3⟩
      rw [el] at hi
      have e13 := k3 r _ (fun z => nilX z) e1
      obtain ⟨v, hvm, hv, hvA⟩ := at_int (xs := rowOf W a) (r := 0 + (i : Int)) (by omega) (by omega)
      have ei : (0 + (i : Int)).toNat = i := by omega
      rw [ei] at hv
      refine ⟨_, rfl, _, rfl, W.q, W.p, rfl, rfl, _, rfl, _, rfl, r, _, _, .int v, rfl, rfl, .of e13, hvA, W.q - W.p, v, rfl, rfl, .inl ⟨by omega, by omega⟩, 0, (W.q - W.p) * v, rfl, rfl, ?_⟩
      refine ⟨fun σ' H2 => σ' = [some (.ref x), some (.int a), some (.int W.p), some (.int W.q), some (.ref r), some (.ref D), some (.int (0 + (i : Int))), some (.int (colN W a (i : Int) v))] ∧ H' = H2, ?_, ?_⟩
      · refine ⟨_, rfl, _, rfl, rfl, _, rfl, ite2 (fun c => ?_) (fun c => ?_)⟩
        · have ea : (i : Int) = a := by
            have := V.int.inj (of_decide_eq_true c)
            omega
          refine ⟨_, rfl, _, rfl, _, rfl, r, _, rfl, .of e13, W.q, _, rfl, rfl, .inl ⟨by omega, by omega⟩, _, _, rfl, rfl, ?_, rfl⟩
          unfold colN
          rw [if_pos ea]
          rfl
        · have ea : ¬ (i : Int) = a := fun z => c (decide_eq_true (congrArg V.int (by omega)))
          refine ⟨?_, rfl⟩
          unfold colN
          rw [if_neg ea]
          rfl
      · rintro σ' H2 ⟨rfl, rfl⟩
        refine ⟨_, rfl, .inl ⟨rfl, _, .of e3⟩, _, rfl, D, _, _, rfl, rfl, e3, ?_, some (.int (0 + (i : Int))), some (.int (colN W a (i : Int) v)), rfl, k3.own hD, ?_⟩
        · rw [List.length_map, List.length_take]
          exact lt_size' (by omega)
        · rw [upd_same, List.take_add_one, col_at, hv, List.map_append]
          rfl
    · rintro σ H' ⟨y6, y7, rfl, k3, e3⟩
      rw [el, List.take_of_length_le (by rw [col_len]; omega)] at e3
      refine ⟨_, rfl, D, _, rfl, .inl ⟨.of e3, fun l nl => ?_⟩⟩
      exact q l _ ((k1.trans (k3.mono (fun _ z => nilX z))).new nl) (tab_keep T1 (k3.new nl) (fun z => nilX z)) upd_same
end
end K04
set_option Elab.async false
set_option linter.all false
set_option maxRecDepth 100000
set_option maxHeartbeats 4000000
set_option exponentiation.threshold 10000
set_option pp.maxSteps 300
set_option pp.deepTerms false
namespace K04
open PySem PySem.Spec PyProof.Rows L2 GL
section
variable {P : Program} {w : World} {K : PySem.W.Frag} {mg : Str → Option Value} {base : Heap}
def spRight (T : Addr) : Sp := fun vs H Q _ => ∃ (x : Addr) (a : Int) (W : Web), vs = [.ref x, .int a] ∧ WebAt H x W ∧ WebOk W ∧ 0 ≤ a ∧ a < W.names.length ∧ GxR.TabG H T ∧
  ∀ H', Keep [T] H H' → GxR.TabG H' T → Q (.bl true) H'
theorem ok__law_right {f T : Addr} {fd : FuncData} (F : FnP K "_law_right" s__law_right f fd) (m_isinstance : mg "isinstance" = none) (m_tuple : mg "tuple" = none) (m_repr : mg "repr" = none) (m_sum : mg "sum" = none) (m_len : mg "len" = none) (m_range : mg "range" = none)
    (c__law_due : Cal P w K mg base 2 "_law_due" (spCol T)) (c_column_of : Cal P w K mg base 2 "column_of" (spCol T)) (c_size_of : Cal P w K mg base 3 "size_of" (spSize T)) (c_row_of : Cal P w K mg base 1 "row_of" (spRow T)) :
    FnG P w K mg base CX0 4 f fd ["_law_web_here", "_law_a"] (spRight T) := by
  refine okG F sc__law_right (fun vs H Q E h => ?_) (fun cdv A outer s0 H vs Q E gd hr h => ?_)
  · obtain ⟨x, a, W, rfl, _⟩ := h
    rfl
  · obtain ⟨x, a, W, rfl, hW, hok, a0, a1, hT, q⟩ := h
    refine ⟨_, PSs.nox (pss_cons (ps_set (i := 2) sc__law_right.nd rfl (.inl rfl) (pe_k c__law_due (hr.mono (by decide)) (by rfl) (pa_cons (pv 0) (pa_cons (pv 1) pa_nil))))
    (pss_cons (ps_set (i := 3) sc__law_right.nd rfl (.inr rfl) (pe_k c_column_of (hr.mono (by decide)) (by rfl) (pa_cons (pv 0) (pa_cons (pv 1) pa_nil))))
    (pss_mid (ps_if (PW.pt (pw_or (pt_not (pt_val (pe_callB call_isi (by rfl) m_isinstance (by decide +kernel) (pa_cons (pv 3) (pa_cons (pe_bltn (v := .ty "tuple") (by rfl) m_tuple (by decide +kernel) rfl) pa_nil))))) (pw_or (pt_cmpR op_ne (pe_callB (call_repr gd hr.units) (by rfl) m_repr (by decide +kernel) (pa_cons (pv 3) pa_nil)) (pe_callB (call_repr gd hr.units) (by rfl) m_repr (by decide +kernel) (pa_cons (pv 2) pa_nil)) (nomark _)) (pw_or1 (pt_cmpR op_ne (pe_callB SkE.call_repr_int (by rfl) m_repr (by decide +kernel) (pa_cons (pe_k c_size_of (hr.mono (by decide)) (by rfl) (pa_cons (pv 0) (pa_cons (pv 1) pa_nil))) pa_nil)) (pe_callB SkE.call_repr_int (by rfl) m_repr (by decide +kernel) (pa_cons (pe_ix ix_tup (pv 2) (pv 1) (fun _ _ => rfl)) pa_nil)) (nomark _))))))
      (pss_one (ps_ret pe_bl))
      pss_nil)
    (pss_mid (ps_if (PW.pt (pw_or (pt_cmpR op_lt (pe_ix ix_tup (pv 2) (pv 1) (fun _ _ => rfl)) pe_int (nomark _)) (pw_or1 (pt_cmpR op_ne (pe_callB (cr_sumT rfl) (by rfl) m_sum (by decide +kernel) (pa_cons (pv 2) pa_nil)) (pe_op op_mul (pe_ix ix_tup (pe_ix ix_tup (pv 0) pe_int (fun _ _ => rfl)) pe_int (fun _ _ => rfl)) (pe_callB (cr_sumT rfl) (by rfl) m_sum (by decide +kernel) (pa_cons (pe_k c_row_of (hr.mono (by decide)) (by rfl) (pa_cons (pv 0) (pa_cons (pv 1) pa_nil))) pa_nil))) (nomark _)))))
      (pss_one (ps_ret pe_bl))
      pss_nil)
    (pss_one (ps_ret (pe_cmpR (op_eqD hr.units) (pe_lc (own := [("_law_b", 4)]) (g := gName 4) (tt := tAnd (tTest (tOp rNe (tVar 4) (tVar 1))) (tTest (tOp (rI0 fun i j => .bl (decide (j < i))) (tOp (rIxT K) (tVar 3) (tVar 4)) (tC (.int 0))))) (by rfl) sc__law_right.nd (pi_range1 rfl m_range (pa_cons (pe_callB call_len_seq (by rfl) m_len (by decide +kernel) (pa_cons (pv 2) pa_nil)) pa_nil)) (blkOk_by (own := [("_law_b", 4)]) (N := N__law_right) (sc := defScope s__law_right) (by decide +kernel)) (fun _ _ _ _ _ => (pg_name (i := 4) sc__law_right.nd rfl (.inl rfl))) (fun _ _ _ _ _ => (pts_one (PW.pt (pw_and (pt_cmpR op_ne (pv 4) (pv 1) (nomark _)) (pw_and1 (pt_cmpR op_gt (pe_ix ix_tup (pv 3) (pv 4) (fun _ _ => rfl)) pe_int (nomark _))))))) (fun _ _ _ _ _ => (pv 4))) (pe_lst pa_nil) (nomark _)))))))), ?_⟩
    refine ⟨_, rfl, _, rfl, x, a, W, rfl, hW, hok, a0, a1, hT, fun p H1 k1 T1 e1 => ?_⟩
    have W1 := hW.keep k1 (noT_tab hT)
    refine ⟨_, rfl, _, rfl, x, a, W, rfl, W1, hok, a0, a1, T1, fun r H2 k2 T2 e2 => ?_⟩
    have W2 := W1.keep k2 (noT_tab T1)
    have e12 := Keep.tup k2 (noT_tab T1) e1
    have kH2 : Keep [T] H H2 := k1.trans k2
    obtain ⟨v, hv, v1⟩ := col_own hok a0 a1
    have crng := col_rng hok a
    have clen := col_len W a
    have rlen := row_len hok.fits a
    have hM := hok.many
    have hc := hok.chance
    have sh : Show (.tuple ((colOf W a).map PyData.int)) := show_ints (fun n hn => fineAbs (by have := crng n hn; omega)) (by omega)
    have fv : Fine v := fineAbs (by have := crng v (List.mem_of_getElem? hv); omega)
    have vA := at_col a0 hv
    refine ⟨fun σ' H' => σ' = [some (.ref x), some (.int a), some (.ref p), some (.ref r), none] ∧ Keep [T] H2 H' ∧ GxR.TabG H' T, ?_, ?_⟩
    · refine ⟨_, rfl, .ref r, .ty "tuple", .type "tuple", .type "tuple", true, rfl, .ty _, .base (.tup e2), (by rfl), true, rfl, iteF ?_⟩
      refine ⟨_, rfl, r, _, rfl, .tup (.of e2) (dpAll_ints _), sh.s, sh.n, sh.dp, sh.z, _, rfl, p, _, rfl, .tup (.of e12) (dpAll_ints _), sh.s, sh.n, sh.dp, sh.z, rfl, _, rfl, iteNS rfl ?_⟩
      refine ⟨_, rfl, _, rfl, x, a, W, v, rfl, W2, hok, a0, a1, T2, hv, fun H3 k3 T3 => ?_⟩
      exact ⟨v, rfl, fv.log, _, rfl, _, rfl, p, _, a, .int v, rfl, rfl, .of (Keep.tup k3 (noT_tab T2) e12), vA, v, rfl, fv.log, rfl, _, rfl, iteNS rfl ⟨rfl, k3, T3⟩⟩
    · rintro σ' H3 ⟨rfl, k3, T3⟩
      have W3 := W2.keep k3 (noT_tab T2)
      have e13 := Keep.tup k3 (noT_tab T2) e12
      have e23 := Keep.tup k3 (noT_tab T2) e2
      obtain ⟨na, ta, la, ca, fa, ts, h1, h2, h3, h4, h5, h6, h7, h8⟩ := W3.ex
      refine ⟨fun σ' H' => σ' = [some (.ref x), some (.int a), some (.ref p), some (.ref r), none] ∧ Keep [T] H3 H' ∧ GxR.TabG H' T, ?_, ?_⟩
      · refine ⟨_, rfl, _, rfl, p, _, a, .int v, rfl, rfl, .of e13, vA, v, 1, rfl, rfl, _, rfl, ite2 (fun c => ?_) (fun c => ?_)⟩
        · have := of_decide_eq_true c
          omega
        · refine ⟨_, rfl, p, _, rfl, .of e13, _, rfl, x, _, _, .ref ca, rfl, rfl, .of h1, rfl, ca, _, _, .int W.p, rfl, rfl, .of h7, rfl, _, rfl, _, rfl, x, a, W, rfl, W3, hok.fits, a0, a1, T3, fun r2 H4 k4 T4 e4 => ?_⟩
          exact ⟨r2, _, rfl, .of e4, W.p, _, rfl, rfl, .inl ⟨by omega, by omega⟩, rfl, _, rfl, iteNS (congrArg V.int (col_sum hok a0 a1)) ⟨rfl, k4, T4⟩⟩
      · rintro σ' H4 ⟨rfl, k4, T4⟩
        have e14 := Keep.tup k4 (noT_tab T3) e13
        have e24 := Keep.tup k4 (noT_tab T3) e23
        refine ⟨_, rfl, p, _, rfl, .inr (.of e14), _, rfl, (by omega), (by rw [List.length_map]; omega), fun D hD => lc_range (n := ((((colOf W a).map V.int).length : Nat) : Int).toNat) (fun i G => Keep [] H4 G ∧ G D = some (.lst []))
          ⟨(Keep.refl [] H4).new hD, upd_same⟩ ?_ ?_⟩
        · rintro i G hi ⟨kG, eG⟩
          rw [List.length_map, Int.toNat_natCast] at hi
          refine ⟨rfl, _, rfl, _, rfl, rfl, _, rfl, ite2 (fun c => ?_) (fun c => iteF ⟨kG, eG⟩)⟩
          have hne : (i : Int) ≠ a := fun z => by
            have e : V.int (0 + (i : Int)) = V.int a := congrArg V.int (by omega)
            have c2 : (!decide (V.int (0 + (i : Int)) = V.int a)) = true := c
            rw [decide_eq_true e] at c2
            cases c2
          obtain ⟨u, hum, hu, huA⟩ := at_int (xs := colOf W a) (r := 0 + (i : Int)) (by omega) (by omega)
          have ei : (0 + (i : Int)).toNat = i := by omega
          rw [ei] at hu
          have hle := col_other hok hne hu
          refine ⟨_, rfl, _, rfl, r, _, _, .int u, rfl, rfl, .of (kG r _ (fun z => nilX z) e24), huA, u, 0, rfl, rfl, _, rfl, ite2 (fun c => ?_) (fun c => ⟨kG, eG⟩)⟩
          have := of_decide_eq_true c
          omega
        · rintro G ⟨kG, eG⟩
          refine ⟨Nat.zero_le _, fun n0 nn0 => ?_⟩
          have kn := (Keep.refl [] G).new (o := .lst []) nn0
          refine ⟨.list [], .list [], .lst (.of (kn D _ (fun z => nilX z) eG)) .nil, .lst (.of upd_same) .nil, by decide +kernel, by decide +kernel, ?_⟩
          have kk := kG.trans kn
          exact q _ (((kH2.trans k3).trans k4).trans (kk.mono (fun _ z => nilX z))) (tab_keep T4 kk (fun z => nilX z))
def spLaw (K : PySem.W.Frag) (T : Addr) : Sp := fun vs H Q _ => ∃ (a : Addr) (ns : List Int), vs = [.ref a] ∧ SqL K H a (ns.map V.int) ∧ ns.length ≤ 63 ∧ GxR.TabG H T ∧ ∀ H', Q (.bl true) H'
theorem ok_law {f T : Addr} {fd : FuncData} (F : FnP K "law" s_law f fd) (m_range : mg "range" = none) (m_repr : mg "repr" = none) (m_len : mg "len" = none) (m_list : mg "list" = none)
    (c__law_pen : Cal P w K mg base 1 "_law_pen" (spPen K)) (c__law_draw : Cal P w K mg base 1 "_law_draw" spDraw) (c__law_web : Cal P w K mg base 4 "_law_web" spWeb) (c__law_twins : Cal P w K mg base 4 "_law_twins" spTwins)
    (c__law_right : CalG P w K mg base 4 "_law_right" (spRight T)) (c_column_of : Cal P w K mg base 2 "column_of" (spCol T)) :
    FnG P w K mg base CX0 5 f fd ["_law_script"] (spLaw K T) := by
  refine okG F sc_law (fun vs H Q E h => ?_) (fun cdv A outer s0 H vs Q E gd hr h => ?_)
  · obtain ⟨a, ns, rfl, _⟩ := h
    rfl
  · obtain ⟨a, ns, rfl, hS, hl, hT, q⟩ := h
    refine ⟨_, PSs.nox (pss_cons (ps_set (i := 1) sc_law.nd rfl (.inl rfl) (pe_k c__law_pen (hr.mono (by decide)) (by rfl) (pa_cons (pv 0) pa_nil)))
    (pss_cons (ps_for PassesOwn.never rfl (pi_range1 rfl m_range (pa_cons pe_int pa_nil)) (pg_name (i := 2) sc_law.nd rfl (.inl rfl))
      (pss_cons (ps_set (i := 3) sc_law.nd rfl (.inl rfl) (pe_k c__law_twins (hr.mono (by decide)) (by rfl) (pa_cons (pv 1) (pa_cons (pe_k c__law_web (hr.mono (by decide)) (by rfl) (pa_cons (pv 1) (pa_cons pe_int pa_nil))) pa_nil))))
    (pss_cons (ps_set (i := 4) sc_law.nd rfl (.inl rfl) (pe_callB (call_repr gd hr.units) (by rfl) m_repr (by decide +kernel) (pa_cons (pv 3) pa_nil)))
    (pss_cons (ps_set (i := 5) sc_law.nd rfl (.inl rfl) (pe_k c__law_draw (hr.mono (by decide)) (by rfl) (pa_cons (pv 1) (pa_cons (pe_callB call_len_seq (by rfl) m_len (by decide +kernel) (pa_cons (pe_ix ix_tup (pe_ix ix_list (pv 3) pe_int (fun _ _ => rfl)) pe_int (fun _ _ => rfl)) pa_nil)) pa_nil))))
    (pss_cons (ps_set (i := 6) sc_law.nd rfl (.inl rfl) (pe_listRg rfl (by rfl) m_list (prg_1 (by rfl) m_range (pe_callB call_len_seq (by rfl) m_len (by decide +kernel) (pa_cons (pe_ix ix_tup (pe_ix ix_list (pv 3) pe_int (fun _ _ => rfl)) pe_int (fun _ _ => rfl)) pa_nil)))))
    (pss_cons (ps_for PassesOwn.never rfl (pi_list (pe_op op_cat (pe_slice sl_list (pv 6) (po_some (pv 5)) po_none) (pe_slice sl_list (pv 6) po_none (po_some (pv 5))))) (pg_name (i := 7) sc_law.nd rfl (.inr rfl))
      (pss_one (ps_if (pt_cmpR (op_neD hr.units) (pe_lc (own := [("_law_web_here", 8)]) (g := gName 8) (by rfl) sc_law.nd (pi_list (pv 3)) (blkOk_by (own := [("_law_web_here", 8)]) (N := N_law) (sc := defScope s_law) (by decide +kernel)) (fun _ _ _ _ _ => (pg_name (i := 8) sc_law.nd rfl (.inl rfl))) (fun _ _ _ _ _ => (pts_one (pt_not (pt_val (pe_kG c__law_right gd (hr.mono (by decide)) (by rfl) (pa_cons (pv 8) (pa_cons (pv 7) pa_nil))))))) (fun _ _ _ _ _ => (pv 8))) (pe_lst pa_nil) (nomark _))
      (pss_one (ps_ret pe_bl))
      pss_nil)))
    (pss_one (ps_if (pt_cmpR op_ne (pe_callB (call_repr gd hr.units) (by rfl) m_repr (by decide +kernel) (pa_cons (pv 3) pa_nil)) (pv 4) (nomark _))
      (pss_one (ps_ret pe_bl))
      pss_nil))))))))
    (pss_one (ps_ret (pe_cmpR (op_eqD hr.units) (pe_k c_column_of (hr.mono (by decide)) (by rfl) (pa_cons (pe_tup (pa_cons (pe_tup (pa_cons pe_str (pa_cons pe_str pa_nil))) (pa_cons (pe_tup (pa_cons (pe_tup (pa_cons pe_int (pa_cons pe_int (pa_cons pe_int pa_nil)))) pa_nil)) (pa_cons (pe_tup (pa_cons pe_int (pa_cons pe_int pa_nil))) (pa_cons (pe_tup (pa_cons pe_int (pa_cons pe_int pa_nil))) (pa_cons (pe_tup pa_nil) pa_nil)))))) (pa_cons pe_int pa_nil))) (pe_tup (pa_cons pe_int (pa_cons (pe_un un_neg pe_int) pa_nil))) (nomark _)))))), ?_⟩
    refine ⟨_, rfl, a, ns, rfl, hS, hl, fun d c H1 k1 p1 => ?_⟩
    refine ⟨3, rfl, by decide, by decide, for_range (n := 3) (fun i σ H' => ∃ y2 y3 y4 y5 y6 y7 : Option V, σ = [some (.ref a), some (.ref d), y2, y3, y4, y5, y6, y7, none] ∧ Pen H' d c ns (1000 * i) ∧ GxR.TabG H' T)
      ⟨none, none, none, none, none, none, rfl, p1, tab_keep hT k1 (fun z => nilX z)⟩ ?_ ?_⟩
    · rintro i σ H2 hi ⟨y2, y3, y4, y5, y6, y7, rfl, p2, t2⟩
      have Td : ∀ {H' : Hp} {n : Nat}, Pen H' d c ns n → GxR.TabG H' T → T ∉ [d] := fun {H' n} hp ht z => by
        obtain ⟨i, l, e⟩ := hp.ex
        obtain ⟨ps, e2, _⟩ := ht
        rw [List.mem_singleton.mp z, e] at e2
        cases e2
      refine ⟨_, rfl, _, rfl, d, c, ns, _, 10, rfl, p2, by omega, by decide, by decide, fun x W H3 k3 p3 w3 ok3 l3 => ?_⟩
      have t3 := tab_keep t2 k3 (Td p2 t2)
      refine ⟨d, c, ns, _, x, W, rfl, p3, by omega, w3, ok3, fun p xs H4 k4 p4 np e4 len4 x0 tw => ?_⟩
      have t4 := tab_keep t3 k4 (Td p3 t3)
      obtain ⟨Ws, ws4, wok, wlen⟩ := webs_of tw
      have hx : x ∈ xs := List.mem_of_getElem? x0
      have w4 : WebAt H4 x W := w3.keep k4 (noT_pen p3)
      have hM := ok3.many
      have sh : Show (.list (Ws.map webD)) := (Sm.lst (SmAll.map fun W' h => sm_web (wok W' h).1)).show (by decide) (by rw [wlen, len4]; decide)
      -- shown
      refine ⟨_, rfl, p, _, rfl, .lst (.of e4) (dp_webs ws4), sh.s, sh.n, sh.dp, sh.z, ?_⟩
      -- begin
      obtain ⟨na, ta, la, ca, fa, ts, h1, h2, _⟩ := w4.ex
      have ex0 : atI (xs.map V.ref) 0 = some (.ref x) := atI_nat (j := 0) (by rw [List.getElem?_map, x0]; rfl)
      refine ⟨_, rfl, _, rfl, p, _, _, .ref x, rfl, rfl, .of e4, ex0, x, _, _, .ref na, rfl, rfl, .of h1, rfl, na, _, rfl, .inr (.of h2), d, c, ns, _, _, rfl, p4, by omega, (by rw [List.length_map]; omega), (by rw [List.length_map]; omega), fun b H5 b0 b1 k5 p5 => ?_⟩
      have t5 := tab_keep t4 k5 (Td p4 t4)
      have e5 := k5 p _ np e4
      have w5 := w4.keep k5 (noT_pen p4)
      have ws5 := ws4.keep k5 (noT_pen p4)
      have h15 := Keep.tup k5 (noT_pen p4) h1
      have h25 := Keep.tup k5 (noT_pen p4) h2
      -- places
      refine ⟨_, rfl, p, _, _, .ref x, rfl, rfl, .of e5, ex0, x, _, _, .ref na, rfl, rfl, .of h15, rfl, na, _, rfl, .inr (.of h25), _, rfl, .of_le (by decide) (by rw [List.length_map]; omega) (by decide) (by omega), fun pl npl => ?_⟩
      have k6 := (Keep.refl [] H5).new (o := .lst (rgV 0 ((W.names.map V.str).length : Nat))) npl
      have e6 : upd H5 pl (.lst (rgV 0 ((W.names.map V.str).length : Nat))) pl = some (.lst (rgV 0 ((W.names.map V.str).length : Nat))) := upd_same
      generalize upd H5 pl (.lst (rgV 0 ((W.names.map V.str).length : Nat))) = H6 at k6 e6
      refine ⟨_, rfl, _, rfl, b, rfl, pl, _, rfl, .of e6, fun s1 ns1 => ?_⟩
      have k7 := (Keep.refl [] H6).new (o := .lst (cutV (rgV 0 ((W.names.map V.str).length : Nat)) (some b) none)) ns1
      refine ⟨_, rfl, _, rfl, b, rfl, pl, _, rfl, .of (k7 pl _ (fun z => nilX z) e6), fun s2 ns2 => ?_⟩
      have k8 := (Keep.refl [] (upd H6 s1 (.lst (cutV (rgV 0 ((W.names.map V.str).length : Nat)) (some b) none)))).new (o := .lst (cutV (rgV 0 ((W.names.map V.str).length : Nat)) none (some b))) ns2
      have lp : (rgV 0 ((W.names.map V.str).length : Nat)).length ≤ 10 := by
        rw [rgV_length, List.length_map]
        omega
      refine ⟨s1, s2, _, _, rfl, rfl, k8 s1 _ (fun z => nilX z) upd_same, upd_same, ?_, fun s3 ns3 => ?_⟩
      · have g1 := cutV_length (rgV 0 ((W.names.map V.str).length : Nat)) (some b) none
        have g2 := cutV_length (rgV 0 ((W.names.map V.str).length : Nat)) none (some b)
        exact lt_size (by omega)
      have k9 := (k7.trans k8).new (o := .lst (cutV (rgV 0 ((W.names.map V.str).length : Nat)) (some b) none ++ cutV (rgV 0 ((W.names.map V.str).length : Nat)) none (some b))) ns3
      have e9 : upd (upd (upd H6 s1 (.lst (cutV (rgV 0 ((W.names.map V.str).length : Nat)) (some b) none))) s2 (.lst (cutV (rgV 0 ((W.names.map V.str).length : Nat)) none (some b)))) s3 (.lst (cutV (rgV 0 ((W.names.map V.str).length : Nat)) (some b) none ++ cutV (rgV 0 ((W.names.map V.str).length : Nat)) none (some b))) s3 = some (.lst (cutV (rgV 0 ((W.names.map V.str).length : Nat)) (some b) none ++ cutV (rgV 0 ((W.names.map V.str).length : Nat)) none (some b))) := upd_same
      generalize upd (upd (upd H6 s1 (.lst (cutV (rgV 0 ((W.names.map V.str).length : Nat)) (some b) none))) s2 (.lst (cutV (rgV 0 ((W.names.map V.str).length : Nat)) none (some b)))) s3 (.lst (cutV (rgV 0 ((W.names.map V.str).length : Nat)) (some b) none ++ cutV (rgV 0 ((W.names.map V.str).length : Nat)) none (some b))) = H9 at k9 e9
      have k59 := k6.trans k9
      have p9 := p5.keep0 k59
      have t9 := tab_keep t5 k59 (fun z => nilX z)
      have ws9 := ws5.keep k59 (noT_nil _)
      have ep9 := k59 p _ (fun z => nilX z) e5
      have hall : ∀ v ∈ cutV (rgV 0 ((W.names.map V.str).length : Nat)) (some b) none ++ cutV (rgV 0 ((W.names.map V.str).length : Nat)) none (some b), ∃ j : Int, v = .int j ∧ 0 ≤ j ∧ j < W.names.length := by
        intro v hv
        have hv2 : v ∈ rgV 0 ((W.names.map V.str).length : Nat) := by
          rcases List.mem_append.mp hv with z | z
          · exact cut_mem z
          · exact cut_mem z
        unfold rgV at hv2
        obtain ⟨j, hj, rfl⟩ := List.mem_map.mp hv2
        have := List.mem_range.mp hj
        rw [List.length_map] at this
        exact ⟨_, rfl, by omega, by omega⟩
      generalize cutV (rgV 0 ((W.names.map V.str).length : Nat)) (some b) none ++ cutV (rgV 0 ((W.names.map V.str).length : Nat)) none (some b) = L at e9 hall
      have s3T : s3 ∉ [T] := tab_ne t9 e9 (by intro q z; cases z)
      have pT : p ∉ [T] := tab_ne t9 ep9 (by intro q z; cases z)
      refine ⟨s3, rfl, ⟨_, .of e9⟩, for_list (xs := L) (fun j σ H' => ∃ y7 : Option V, σ = [some (.ref a), some (.ref d), some (.int (0 + (i : Int))), some (.ref p), some (.str (PyData.shown (.list (Ws.map webD)))), some (.int b), some (.ref pl), y7, none] ∧ Keep [T] H9 H' ∧ GxR.TabG H' T)
        ⟨y7, rfl, Keep.refl _ _, t9⟩ ?_ ?_ ?_⟩
      · rintro j σ H' _ ⟨y7, rfl, k, _⟩
        exact .of (k s3 _ s3T e9)
      · rintro j v σ H' hv ⟨y7, rfl, k, tb⟩
        obtain ⟨at_, rfl, at0, at1⟩ := hall v (List.mem_of_getElem? hv)
        have ep' := k p _ pT ep9
        have ws' := ws9.keep k (noT_tab t9)
        refine ⟨_, rfl, p, rfl, ⟨_, .of ep'⟩, fun D hD => lc_list (xs := xs.map V.ref) (fun j G => Keep [T] H' G ∧ GxR.TabG G T ∧ G D = some (.lst []))
          ⟨(Keep.refl _ H').new hD, tab_keep tb ((Keep.refl [] H').new hD) (fun z => nilX z), upd_same⟩ ?_ ?_ ?_⟩
        · rintro j G _ ⟨kG, _⟩
          exact .of (kG p _ pT ep')
        · rintro j u G hu ⟨kG, tG, eG⟩
          rw [List.getElem?_map] at hu
          obtain ⟨ad, had, rfl⟩ := Option.map_eq_some_iff.mp hu
          obtain ⟨W', hW', atW'⟩ := ws'.get (List.mem_of_getElem? had)
          obtain ⟨okW, nm⟩ := wok W' hW'
          refine ⟨rfl, _, rfl, _, rfl, ad, at_, W', rfl, atW'.keep kG (noT_tab tb), okW, at0, by rw [nm]; exact at1, tG, fun G2 kG2 tG2 => ⟨true, rfl, iteF ⟨kG.trans kG2, tG2, ?_⟩⟩⟩
          exact kG2 D _ (tab_ne tG eG (by intro q z; cases z)) eG
        · rintro G ⟨kG, tG, eG⟩
          refine ⟨Nat.zero_le _, fun n0 nn0 => ?_⟩
          have kn := (Keep.refl [] G).new (o := .lst []) nn0
          refine ⟨.list [], .list [], .lst (.of (kn D _ (fun z => nilX z) eG)) .nil, .lst (.of upd_same) .nil, by decide +kernel, by decide +kernel, _, rfl, iteF ?_⟩
          exact ⟨_, rfl, (k.trans kG).new nn0, tab_keep tG kn (fun z => nilX z)⟩
      · rintro σ H' ⟨y7, rfl, k, tb⟩
        have ws' := ws9.keep k (noT_tab t9)
        refine ⟨_, rfl, p, _, rfl, .lst (.of (k p _ pT ep9)) (dp_webs ws'), sh.s, sh.n, sh.dp, sh.z, _, rfl, rfl, _, rfl, iteNS rfl ?_⟩
        refine ⟨_, _, _, _, _, _, rfl, (p9.keep k (fun b hb xs z => ?_)).mono (by omega), tb⟩
        rw [List.mem_singleton.mp hb] at z
        obtain ⟨ps, e, _⟩ := t9
        rw [e] at z
        cases z
    · rintro σ H2 ⟨y2, y3, y4, y5, y6, y7, rfl, p2, t2⟩
      refine ⟨(by show 2 ≤ sizeLine; decide), fun a1 n1 => ⟨(by show 3 ≤ sizeLine; decide), fun a2 n2 => ⟨(by show 1 ≤ sizeLine; decide), fun a3 n3 => ⟨(by show 2 ≤ sizeLine; decide), fun a4 n4 => ⟨(by show 2 ≤ sizeLine; decide), fun a5 n5 => ⟨Nat.zero_le _, fun a6 n6 => ⟨(by show 5 ≤ sizeLine; decide), fun a7 n7 => ?_⟩⟩⟩⟩⟩⟩⟩
      have kk1 := (Keep.refl [] H2).new (o := .tup [.str "b", .str "a"]) n1
      have kk2 := (Keep.refl [] _).new (o := .tup [.int 0, .int 1, .int 3]) n2
      have kk3 := (Keep.refl [] _).new (o := .tup [.ref a2]) n3
      have kk4 := (Keep.refl [] _).new (o := .tup [.int 0, .int 1]) n4
      have kk5 := (Keep.refl [] _).new (o := .tup [.int 1, .int 4]) n5
      have kk6 := (Keep.refl [] _).new (o := .tup []) n6
      have kk7 := (Keep.refl [] _).new (o := .tup [.ref a1, .ref a3, .ref a4, .ref a5, .ref a6]) n7
      have k17 := kk2.trans (kk3.trans (kk4.trans (kk5.trans (kk6.trans kk7))))
      have k27 := kk3.trans (kk4.trans (kk5.trans (kk6.trans kk7)))
      have k37 := kk4.trans (kk5.trans (kk6.trans kk7))
      have k47 := kk5.trans (kk6.trans kk7)
      have k57 := kk6.trans kk7
      refine ⟨a7, 0, ⟨["b", "a"], [(0, 1, 3)], [0, 1], 1, 4, []⟩, rfl, ?_, ⟨⟨by decide, by decide⟩, ?_, ⟨?_, by decide, List.pairwise_singleton _ _⟩, ⟨by decide, by decide, ⟨1, by decide, by decide⟩⟩, by decide, .inl rfl⟩, by decide, by decide, tab_keep t2 (kk1.trans k17) (fun z => nilX z), fun r H3 k3 t3 e3 => ?_⟩
      · refine webAt_mk upd_same (k17 a1 _ (fun z => nilX z) upd_same) ⟨[a2], k37 a3 _ (fun z => nilX z) upd_same, rfl, fun j b x hj hx => ?_⟩ (k47 a4 _ (fun z => nilX z) upd_same) (k57 a5 _ (fun z => nilX z) upd_same) (kk7 a6 _ (fun z => nilX z) upd_same)
        match j, hj, hx with
        | 0, hj, hx =>
          obtain rfl : a2 = b := Option.some.inj hj
          obtain rfl : ((0, 1, 3) : Tie) = x := Option.some.inj hx
          exact k27 a2 _ (fun z => nilX z) upd_same
        | j + 1, hj, _ => exact absurd hj (by simp)
      · intro x hx
        rcases List.mem_cons.mp hx with e | e
        · rw [e]
          exact ⟨by decide +kernel, by decide +kernel⟩
        · rw [List.mem_singleton.mp e]
          exact ⟨by decide +kernel, by decide +kernel⟩
      · intro t ht
        rw [List.mem_singleton.mp ht]
        decide
      · refine ⟨9, rfl, (by show 2 ≤ sizeLine; decide), fun a8 n8 => ?_⟩
        have er : colOf ⟨["b", "a"], [(0, 1, 3)], [0, 1], 1, 4, []⟩ 0 = [12, -9] := by decide
        rw [er] at e3
        have e8 := ((Keep.refl [] H3).new (o := .tup [.int 12, .int (-9)]) n8) r _ (fun z => nilX z) e3
        refine ⟨.tuple ([(12 : Int), -9].map PyData.int), .tuple ([(12 : Int), -9].map PyData.int), .tup (.of e8) (dpAll_ints [(12 : Int), -9]), .tup (.of upd_same) (dpAll_ints [(12 : Int), -9]), shaped_tup _, shaped_tup _, ?_⟩
        rw [SeqAt.eqv_refl (.tuple ([(12 : Int), -9].map PyData.int)) (canLay_ints [12, -9])]
        exact q _
end
end K04
set_option Elab.async false
set_option linter.all false
set_option maxRecDepth 100000
set_option maxHeartbeats 0
set_option exponentiation.threshold 10000
namespace K04
open PySem PySem.Spec PyProof.Rows L2 GL
/-! ### the head -/
def dd (x : Str) (st : Stmt) : He.DefD := ⟨(x, none), x, x, defArgs st, defBody st, defScope st, [], []⟩
def fn : List He.DefD := [dd "row_of" s_row_of, dd "_law_pen" s__law_pen, dd "_law_draw" s__law_draw, dd "_law_pick" s__law_pick, dd "_law_names" s__law_names, dd "_law_leaps" s__law_leaps, dd "_law_ties" s__law_ties, dd "_law_web" s__law_web, dd "_law_twins" s__law_twins, dd "column_of" s_column_of, dd "size_of" s_size_of, dd "_law_due" s__law_due, dd "_law_right" s__law_right, dd "law" s_law]
def fa : List He.Fa := [.glo "row_of", .glo "_law_pen", .glo "_law_draw", .glo "_law_pick", .glo "_law_names", .glo "_law_leaps", .glo "_law_ties", .glo "_law_web", .glo "_law_twins", .glo "column_of", .glo "size_of", .glo "_law_due", .glo "_law_right", .glo "law",
  .free "len", .free "any", .free "tuple", .free "abs", .free "range", .free "int", .free "max", .free "sorted", .free "sum", .free "isinstance", .free "repr", .free "list"]
def names : List PySem.Str := ["row_of", "_law_pen", "_law_draw", "_law_pick", "_law_names", "_law_leaps", "_law_ties", "_law_web", "_law_twins", "column_of", "size_of", "_law_due", "_law_right"]
abbrev R : PySem.W.OpenRow := PySem.W.OpenLaw.row PySem.Challenge.rw_leapranks_k04_columns_and_sizes
abbrev hk : PySem.W.Hook := He.hookX 3 fa fn [] [("row_of", none)] (fun _ => true)
def ob (s : PySem.W.SharedT) : He.AlX := He.obsX 3 fa fn [] [("row_of", none)] (fun _ => true) (HandSHeadRun.getT s)
theorem ob_eq (s : PySem.W.SharedT) : ob s = hk.obs s.abs := He.obsX_eq (HandSHeadRun.getT_eq s)
theorem run (w : World) : HandSHeadRun.RunEq R (PySem.W.view R.prog [16]) hk ob 600 names w := by
  intro os
  kernel_rfl
end K04
set_option Elab.async false
set_option linter.all false
set_option maxRecDepth 100000
set_option maxHeartbeats 0
set_option exponentiation.threshold 10000
set_option pp.maxSteps 300
set_option pp.deepTerms false
namespace K04
open PySem PySem.Spec PyProof.Rows L2 GL
theorem code_of {K : PySem.W.Frag} {x : Str} {st : Stmt} {fd : FuncData} (F : FnP K x st (He.fAd K (x, none)) fd) : fd.code = .ref (He.codeOf K (x, none)) := by
  obtain ⟨oc, od, dV, kV, doc, pm, an, cdv, ct, osl, e, lk, hcd, _, _⟩ := F.ex
  obtain ⟨c, rfl⟩ := He.codeIn_ref hcd
  have e1 : fd.code = .ref c := by rw [e]
  rw [He.codeOf_eq lk e1, e1]
theorem facts {P : Program} {w : World} {K : PySem.W.Frag} {h : Heap} {mg : Str → Option Value} {f : Addr} (X : K.In h) (G : h.Ns mainGlobals mg) (hfa : mg ("law" : Str) = some (.ref f))
    (c : He.SaysX fa fn [] [("row_of", none)] (fun _ => true) w h K) : LawG P w K 5 63 "_law_script" mg f h := by
  have cd := c.t.d
  obtain ⟨d0, F0⟩ := cd.def_ 0 (d := dd "row_of" s_row_of) rfl
  obtain ⟨d1, F1⟩ := cd.def_ 1 (d := dd "_law_pen" s__law_pen) rfl
  obtain ⟨d2, F2⟩ := cd.def_ 2 (d := dd "_law_draw" s__law_draw) rfl
  obtain ⟨d3, F3⟩ := cd.def_ 3 (d := dd "_law_pick" s__law_pick) rfl
  obtain ⟨d4, F4⟩ := cd.def_ 4 (d := dd "_law_names" s__law_names) rfl
  obtain ⟨d5, F5⟩ := cd.def_ 5 (d := dd "_law_leaps" s__law_leaps) rfl
  obtain ⟨d6, F6⟩ := cd.def_ 6 (d := dd "_law_ties" s__law_ties) rfl
  obtain ⟨d7, F7⟩ := cd.def_ 7 (d := dd "_law_web" s__law_web) rfl
  obtain ⟨d8, F8⟩ := cd.def_ 8 (d := dd "_law_twins" s__law_twins) rfl
  obtain ⟨d9, F9⟩ := cd.def_ 9 (d := dd "column_of" s_column_of) rfl
  obtain ⟨d10, F10⟩ := cd.def_ 10 (d := dd "size_of" s_size_of) rfl
  obtain ⟨d11, F11⟩ := cd.def_ 11 (d := dd "_law_due" s__law_due) rfl
  obtain ⟨d12, F12⟩ := cd.def_ 12 (d := dd "_law_right" s__law_right) rfl
  obtain ⟨d13, F13⟩ := cd.def_ 13 (d := dd "law" s_law) rfl
  have g : ∀ (i : Nat) {x : Str}, fa[i]? = some (.glo x) → mg x = some (.ref (He.ga K x)) := fun i x hi => He.glo_ok X G (cd.fact i (f := .glo x) hi)
  have z : ∀ (i : Nat) {x : Str}, fa[i]? = some (.free x) → mg x = none := fun i x hi => He.free_ok X G (cd.fact i (f := .free x) hi)
  have e := hfa.symm.trans (g 13 (x := "law") rfl)
  cases e
  have b := FunD.bindsA (ps := ["_law_script"]) F13 fun _ _ _ _ _ _ us hl => match us, hl with | [_], _ => rfl
  have mem0 : (("row_of", none) : He.Defn) ∈ ([("row_of", none)] : List He.Defn) := List.mem_singleton.mpr rfl
  refine ⟨d13, [He.cT K ("row_of", none)], (spLaw K (He.cT K ("row_of", none)).2), ?_, fun s v => b s [v] rfl, ?_, ?_⟩
  · intro p hp
    rw [List.mem_singleton.mp hp]
    exact ⟨c.empty _ mem0, c.out _ mem0, c.hd _ mem0⟩
  · intro H a ns hl hT hS
    have TT0 : GxR.TabG H (He.cT K ("row_of", none)).2 := ⟨#[], hT _ (List.mem_singleton.mpr rfl), by first | trivial | exact .nil | simp [TriplesOk]⟩
    exact ⟨a, ns, rfl, hS, hl, TT0, fun _ => rfl⟩
  · intro base inB nsB TB
    have c0 : Cal P w K mg base 1 "row_of" (spRow (He.cT K ("row_of", none)).2) := ⟨_, _, _, ok_row F0 (code_of (st := s_row_of) F0) (TB _ (List.mem_singleton.mpr rfl)) (z 14 rfl) (z 15 rfl) (z 16 rfl), g 0 rfl, F0.kp, F0.bindsN fun _ _ _ _ _ _ us hl => match us, hl with | [_, _], _ => rfl⟩
    have c1 : Cal P w K mg base 1 "_law_pen" (spPen K) := ⟨_, _, _, ok__law_pen F1 , g 1 rfl, F1.kp, F1.bindsN fun _ _ _ _ _ _ us hl => match us, hl with | [_], _ => rfl⟩
    have c2 : Cal P w K mg base 1 "_law_draw" spDraw := ⟨_, _, _, ok__law_draw F2 (z 14 rfl) (z 17 rfl), g 2 rfl, F2.kp, F2.bindsN fun _ _ _ _ _ _ us hl => match us, hl with | [_, _], _ => rfl⟩
    have c3 : Cal P w K mg base 2 "_law_pick" spPick := ⟨_, _, _, ok__law_pick F3 (z 14 rfl) c2, g 3 rfl, F3.kp, F3.bindsN fun _ _ _ _ _ _ us hl => match us, hl with | [_, _], _ => rfl⟩
    have c4 : Cal P w K mg base 3 "_law_names" spNames := ⟨_, _, _, ok__law_names F4 (z 14 rfl) (z 18 rfl) (z 16 rfl) c2 c3, g 4 rfl, F4.kp, F4.bindsN fun _ _ _ _ _ _ us hl => match us, hl with | [_, _], _ => rfl⟩
    have c5 : Cal P w K mg base 3 "_law_leaps" spLeaps := ⟨_, _, _, ok__law_leaps F5 (z 18 rfl) (z 19 rfl) (z 20 rfl) (z 16 rfl) c2 c3, g 5 rfl, F5.kp, F5.bindsN fun _ _ _ _ _ _ us hl => match us, hl with | [_, _], _ => rfl⟩
    have c6 : Cal P w K mg base 3 "_law_ties" spTies := ⟨_, _, _, ok__law_ties F6 (z 14 rfl) (z 18 rfl) (z 16 rfl) (z 21 rfl) c2 c3, g 6 rfl, F6.kp, F6.bindsN fun _ _ _ _ _ _ us hl => match us, hl with | [_, _], _ => rfl⟩
    have c7 : Cal P w K mg base 4 "_law_web" spWeb := ⟨_, _, _, ok__law_web F7 c2 c3 c4 c5 c6, g 7 rfl, F7.kp, F7.bindsN fun _ _ _ _ _ _ us hl => match us, hl with | [_, _], _ => rfl⟩
    have c8 : Cal P w K mg base 4 "_law_twins" spTwins := ⟨_, _, _, ok__law_twins F8 (z 14 rfl) (z 19 rfl) c5, g 8 rfl, F8.kp, F8.bindsN fun _ _ _ _ _ _ us hl => match us, hl with | [_, _], _ => rfl⟩
    have c9 : Cal P w K mg base 2 "column_of" (spCol (He.cT K ("row_of", none)).2) := ⟨_, _, _, ok_column_of F9 (z 22 rfl) (z 16 rfl) c0, g 9 rfl, F9.kp, F9.bindsN fun _ _ _ _ _ _ us hl => match us, hl with | [_, _], _ => rfl⟩
    have c10 : Cal P w K mg base 3 "size_of" (spSize (He.cT K ("row_of", none)).2) := ⟨_, _, _, ok_size_of F10 c9, g 10 rfl, F10.kp, F10.bindsN fun _ _ _ _ _ _ us hl => match us, hl with | [_, _], _ => rfl⟩
    have c11 : Cal P w K mg base 2 "_law_due" (spCol (He.cT K ("row_of", none)).2) := ⟨_, _, _, ok__law_due F11 (z 14 rfl) (z 18 rfl) (z 22 rfl) (z 16 rfl) c0, g 11 rfl, F11.kp, F11.bindsN fun _ _ _ _ _ _ us hl => match us, hl with | [_, _], _ => rfl⟩
    have c12 : CalG P w K mg base 4 "_law_right" (spRight (He.cT K ("row_of", none)).2) := ⟨_, _, _, ok__law_right F12 (z 23 rfl) (z 16 rfl) (z 24 rfl) (z 22 rfl) (z 14 rfl) (z 18 rfl) c11 c9 c10 c0, g 12 rfl, F12.kp, F12.bindsN fun _ _ _ _ _ _ us hl => match us, hl with | [_, _], _ => rfl⟩
    exact ok_law F13 (z 18 rfl) (z 24 rfl) (z 14 rfl) (z 25 rfl) c1 c2 c7 c8 c12 c9
end K04
open PySem PySem.W PySem.Calls PyProof.Rows
theorem PySem.Challenge.cw_leapranks_k04_columns_and_sizes_holds : PySem.Challenge.rw_leapranks_k04_columns_and_sizes.Holds := by
  w_on; o_law
  refine HandSHeadRun.head_any (r := OpenLaw.row PySem.Challenge.rw_leapranks_k04_columns_and_sizes) (q := view (OpenLaw.row PySem.Challenge.rw_leapranks_k04_columns_and_sizes).prog [16]) (H := K04.hk) (ob := K04.ob) (M := 600) (loose := K04.names) (d := HandSHeadRun.topDef (OpenLaw.row PySem.Challenge.rw_leapranks_k04_columns_and_sizes).prog 16) (kwd := []) K04.ob_eq
    (by kernel_rfl) (fun s => by kernel_rfl) K04.run (by kernel_rfl) (by kernel_rfl) (by kernel_rfl) (by rfl) (by first | assumption | decide +kernel) (by decide +kernel) ⟨rfl, rfl, rfl, rfl, rfl, by decide +kernel⟩ ?hw ?hc
  case hw => w_witness2
  case hc =>
    refine GL.walk_G (l := PySem.Challenge.rw_leapranks_k04_columns_and_sizes) (n := 63) (k := 5) (x := "_law_script") rfl (by decide) (by kernel_rfl) ⟨rfl, by decide, by decide⟩ ?F
    intro w mg fa h Y G hmg0
    obtain ⟨K, KX, c⟩ := Y
    have hmg : mg ("law" : PySem.Str) = some (.ref fa) := by
      have e : (HandSHeadRun.topDef (OpenLaw.row PySem.Challenge.rw_leapranks_k04_columns_and_sizes).prog 16).name = ("law" : PySem.Str) := by kernel_rfl
      rw [← e]
      exact hmg0
    exact ⟨K, KX, K04.facts KX G hmg c⟩
