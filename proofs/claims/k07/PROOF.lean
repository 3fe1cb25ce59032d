import PyProof.Rows.All
import Wide.All
import OpenK.AllK
import Wide.FinOn
import PyProof.ReprRoads
import PyProof.TupleOfGen
import HandS.ForMost
import HandS.Wide
import HandS.Defaults
import HandS.AnyAll
import HandS.JoinGen
import HandS.EndBits
import KE.KLam
import KE.KNestM
import PyProof.GenCompD
import PyProof.TupleIter
import PyProof.Walks
import KE.KTupSum
import KE.GoesMore
import KE.GoesEnum
import PyProof.ReprBulk
import PyProof.ReprRoom
import KE.KStateDown
import Lean
import HandS.More
import HandS.WordsExc
import HandS.Head0
import HandS.Head1
import HandS.Head2
import HandS.HeadEnd
import HandS.HeadHook1
import HandS.HeadHook2
import HandS.HeadHook3
import HandS.HeadHook4
import PySem.Challenge.RW_leapranks_k07_splits_made
set_option Elab.async false
set_option linter.all false
set_option maxRecDepth 100000
set_option maxHeartbeats 2000000
/-! Defs that are called where no repr is under way (so that they may call repr), and repr of nested data. -/
namespace GL
open PySem PySem.Spec PyProof.Rows L2
variable {P : Program} {w : World} {K : PySem.W.Frag} {mg : Str → Option Value} {base : Heap} {CX : CXT} {k : Nat} {f : Addr} {fd : FuncData} {ps : List Str} {sp : Sp}

structure FnG (P : Program) (w : World) (K : PySem.W.Frag) (mg : Str → Option Value) (base : Heap) (CX : CXT) (k : Nat) (f : Addr) (fd : FuncData) (ps : List Str) (sp : Sp) : Prop where
  len : ∀ vs H Q E, sp vs H Q E → vs.length = ps.length
  run : ∀ (A : Around) (outer : List Env) (s : Shared) (H : Hp) (args : Args) (us : List Value) (vs : List V) (Q : VK) (E : XK), A.guards = some [] → Room k A →
    Env0 P w K mg base A outer s H → BindsTo s fd args (ps.zip us) → Vals vs us → sp vs H Q E →
    codeAny (model P w) A (.call (.ref f) args) (CR CX outer P w H s Q E) s

theorem FnG.of (F : FnOk P w K mg base CX k f fd ps sp) : FnG P w K mg base CX k f fd ps sp :=
  ⟨F.len, fun A outer s H args us vs Q E _ hr e0 hb r h => F.run A outer s H args us vs Q E hr e0 hb r h⟩

/-- by its body, as for every def, but the guards are known -/
theorem okG {x qual : Str} {params : Arguments} {body : List Stmt} {scope : Scope} {dvs : List V} {kws : List (Str × V)} {N : List Str} (F : FunD K x qual params body scope dvs kws f fd) (S : FnScope N ps scope)
    (len : ∀ vs H Q E, sp vs H Q E → vs.length = ps.length)
    (hbody : ∀ (cdv : Value) (A : Around) (outer : List Env) (s : Shared) (H : Hp) (vs : List V) (Q : VK) (E : XK), A.guards = some [] →
      Room k (A.deeper (envOfC qual scope s.heap.objs.size f cdv)) → sp vs H Q E →
      ∃ t, PSs (cxOf CX0 P w K mg base N qual scope f cdv A outer s H E).nox body t ∧ t { nx := fun _ H' => Q .non H', rt := Q } (start N vs) H) :
    FnG P w K mg base CX0 (k + 1) f fd ps sp := by
  obtain ⟨oc, od, dV, kV, doc, pm, an, cdv, ct, osl, rfl, lk, hcd, _, _⟩ := F.ex
  refine ⟨len, ?_⟩
  intro A outer s H args us vs Q E gd hr e0 hb r hsp
  have l0 := len _ _ _ _ hsp
  have stay : ∀ b o, base.get? b = some o → s.heap.get? b = some o := fun b o e => (e0.bs b o e).1
  have inK : K.In s.heap := e0.mod.kin.keeps stay
  have par : ∀ y ∈ ps.zip us, scope.names.lookup y.1 = some .local ∨
      (scope.names.lookup y.1 = some .cell ∧ ((cellsFrom (s.heap.objs.size + 1) scope.names []).lookup y.1).isSome = true) := by
    intro y hy
    exact (S.par y.1 (List.of_mem_zip (a := y.1) (b := y.2) hy).1).imp (fun q => q) (fun q => ⟨q, PySem.W.cellsFrom_some _ _ _ (.inl q)⟩)
  refine codeAny_call_function hr.depth (inK _ _ lk) rfl S.co S.gen rfl (PySem.W.codeRec_of inK hcd) (hb _ _ _ _ ?_)
  refine wpAny_newFunctionEnv_cells S.kind par ?_
  intro env he s1 x
  subst he
  refine ⟨(e0.mod.nolimit.keeps stay).keeps x.toInCall.keep, codeAny_func ?_⟩
  obtain ⟨t, ht, hq⟩ := hbody cdv A outer s H vs Q E gd (hr.deeper _) hsp
  have I := inv_start (CX := CX0) (E := E) S hr.hd e0 l0 r x
  refine wpAny_mono (ht.nox.run [] s1 (start N vs) H _ I hq) ?_ (fun _ _ z => z)
  intro fl s' hs
  match fl, hs with
  | .ret u, ⟨v, σ', H', J, rv, q⟩ => exact ⟨v, H', J.os, J.bare, J.base, J.hok, rv, q⟩
  | .next, ⟨σ', H', J, q⟩ => exact ⟨V.non, H', J.os, J.bare, J.base, J.hok, rfl, q⟩
  | .brk, ⟨_, _, _, q⟩ => exact q.elim
  | .cont, ⟨_, _, _, q⟩ => exact q.elim

section
variable {X : Cx} {dvs : List V} {ds : List Value} {E : XK} {x : Str} {p pos : Pos} {e : Expr} {es : List Expr} {t : TA}
/-- the call of such a def -/
theorem pe_callG (F : FnG X.prog X.w X.K X.mg X.base CX k f fd ps sp) (gd : X.A.guards = some []) (hr : Room k X.A) (hg : Gl X x) (hm : X.mg x = some (.ref f)) (hk : PySem.W.keepIn X.K (.ref f) = true) (hb : Binds X.K fd ps ds) (hd : Vals dvs ds)
    (hx : Passes CX X E) (ha : PA X (e :: es) t) (hdb : (x == ("__debug__" : Str)) = false := by decide)
    (he : starEach (e :: es) X.env = (false, eval e X.env) :: starEach es X.env := by rfl) (hpl : (backTo pos (starEach es X.env)).any (·.1) = false := by rfl) :
    PE X (.Call (.Name x p) (e :: es) [] pos) (tCall sp dvs E t) := by
  constructor
  intro pins s σ H Q I h
  refine wpAny_Call_Name_kw (ld_glob I hg hm (PySem.W.callWith_K (h₀ := X.base) I.ok.mod.kin hk (thn (ha.run pos pins s σ H _ I h) ?_) he hpl) hdb)
  rintro us s1 ⟨vs, H1, I1, r, q⟩
  refine ⟨I1.kIn, ?_⟩
  have r2 := r.append hd
  have hl : (us ++ ds).length = ps.length := r2.length.symm.trans (F.len _ _ _ _ q)
  refine wpAny_call (codeAny_mono (F.run X.A X.stack s1 H1 ⟨us, []⟩ (us ++ ds) (vs ++ dvs) Q E gd hr I1.env0 (hb s1 us I1.kIn hl) r2 q) ?_)
  intro r0 s' hq
  match r0, hq with
  | .error e, hq => exact hx pins σ H1 s1 e s' I1 hq
  | .ok (.ret u), hq => exact I1.after hq
  | .ok .next, hq => exact hq.elim
  | .ok .brk, hq => exact hq.elim
  | .ok .cont, hq => exact hq.elim

/-- repr of data -/
def rRepr (K : PySem.W.Frag) : List V → Hp → VK → Prop := fun xs H Q => ∃ (a : Addr) (d : PyData), xs = [.ref a] ∧ Dp K H (.ref a) d ∧ d.showable = true ∧ d.hasDict = false ∧ d.depth ≤ 60 ∧ d.shown.length ≤ sizeLine ∧ Q (.str d.shown) H
theorem call_repr (gd : X.A.guards = some []) (hu : X.A.units + 64 < cLine) : CallR X (.builtin "repr") (rRepr X.K) := by
  intro pins s σ H xs us Q I r h
  obtain ⟨a, d, rfl, hd, h1, h2, h3, h4, q⟩ := h
  obtain ⟨u, rfl, ru⟩ := vals1 r
  obtain rfl : u = Value.ref a := ru
  obtain ⟨as, rd⟩ := Dp.reads I d _ _ hd (show RelV (.ref a) (Value.ref a) from rfl)
  refine repr_of_reads' rd h1 (fun z => by rw [h2] at z; cases z) gd (by omega) (fun _ _ e => e) ?_ h4
  intro h' u tk hk
  exact ⟨.str _, H, I.kept hk, ⟨_, rfl⟩, q⟩
end
end GL
set_option Elab.async false
set_option linter.all false
set_option maxRecDepth 100000
set_option maxHeartbeats 2000000
/-! The end of a law over defs as in GLa; tables of code objects (generator expressions) are tracked. -/
namespace GL
open PySem PySem.Spec PyProof.Rows L2

/-- the heap at the law's entry: the tables, the script -/
def atLaw (K : PySem.W.Frag) (tabs : List Addr) (a : Addr) (o : Obj) (ns : List Int) : Hp := fun b =>
  if b ∈ tabs then some (.tbl #[]) else if b = a ∧ K.lookup a = none then some (.frz o (.lst (ns.map V.int))) else none

/-- what is wanted of the law: where its def stands, which tables there are, its promise -/
structure LawG (P : Program) (w : World) (K : PySem.W.Frag) (k n : Nat) (x : Str) (mg : Str → Option Value) (fa : Addr) (h : Heap) : Prop where
  ex : ∃ (fd : FuncData) (cs : List (Addr × Addr)) (sp : Sp),
    (∀ p ∈ cs, h.get? p.2 = some { cls := .none, data := .fields #[] } ∧ K.lookup p.2 = none ∧ PySem.W.codeHdIn K p.1 p.2 = true) ∧
    (∀ (s : Shared) (u : Value), BindsTo s fd ⟨[u], []⟩ [(x, u)]) ∧
    (∀ (H : Hp) (a : Addr) (ns : List Int), ns.length ≤ n → (∀ p ∈ cs, H p.2 = some (.tbl #[])) → SqL K H a (ns.map V.int) → sp [.ref a] H (fun v _ => v = .bl true) fun _ _ _ => False) ∧
    ∀ base : Heap, K.In base → base.Ns mainGlobals mg → (∀ p ∈ cs, GxR.TabB base mg p.1 p.2) → FnG P w K mg base CX0 k fa fd [x] sp

theorem law_callG {P : Program} {w : World} {K : PySem.W.Frag} {mg mb : Str → Option Value} {k n : Nat} {fa a : Addr} {x : Str} {s : Shared} {vs : List Value} {ns : List Int}
    (L : LawG P w K k n x mg fa s.heap) (inK : K.In s.heap) (g : s.heap.Ns mainGlobals mg) (b : s.heap.Ns builtinsNs mb) (bb : ∀ y : Str, y ≠ "__name__" → mb y = bootBuiltins y) (lim : s.heap.NoLimit) (gn : s.gens = #[])
    (bm : ∃ (bm : Addr) (ob : Obj), mg "__builtins__" = some (.ref bm) ∧ bm ≠ builtinsNs ∧ s.heap.get? bm = some ob ∧ ob.cls = .type "module" ∧ ob.dict = some builtinsNs ∧ ob.data = .plain)
    (ha : s.heap.get? a = some { cls := .type "list", data := .seq vs.toArray }) (hi : IntsAre vs ns) (hl : ns.length ≤ n) (hl2 : n ≤ sizeLine) (hr : Room k callerA) :
    codeAny (model P w) callerA (.call (.ref fa) ⟨[.ref a], []⟩) (fun r s' => r = .ok (.ret (.bool true)) ∧ OldK s.heap s'.heap ∧ s'.os = s.os ∧ AllBare s'.gens) s := by
  obtain ⟨fd, cs, sp, T, bd, hsp, F⟩ := L.ex
  let so : Obj := { cls := .type "list", data := .seq vs.toArray }
  let tabs := cs.map (·.2)
  have tab : ∀ c ∈ tabs, s.heap.get? c = some { cls := .none, data := .fields #[] } ∧ K.lookup c = none := by
    intro c hc
    obtain ⟨p, hp, rfl⟩ := List.mem_map.mp hc
    exact ⟨(T p hp).1, (T p hp).2.1⟩
  have at_ : a ∉ tabs := by
    intro hc
    have e := (tab a hc).1
    rw [ha] at e
    exact absurd (congrArg Obj.data (Option.some.inj e)) (by intro z; cases z)
  let H : Hp := atLaw K tabs a so ns
  have Ht : ∀ c ∈ tabs, H c = some (.tbl #[]) := fun c hc => if_pos hc
  have Ha : K.lookup a = none → H a = some (.frz so (.lst (ns.map V.int))) := fun e => (if_neg at_).trans (if_pos ⟨rfl, e⟩)
  have Hk : ∀ c o, H c = some o → (c ∈ tabs ∧ o = .tbl #[]) ∨ (c ∉ tabs ∧ c = a ∧ K.lookup a = none ∧ o = .frz so (.lst (ns.map V.int))) := by
    intro c o e
    by_cases hc : c ∈ tabs
    · exact .inl ⟨hc, (Option.some.inj ((Ht c hc).symm.trans e)).symm⟩
    · by_cases h2 : c = a ∧ K.lookup a = none
      · have e2 : H c = some (.frz so (.lst (ns.map V.int))) := (if_neg hc).trans (if_pos h2)
        exact .inr ⟨hc, h2.1, h2.2, (Option.some.inj (e2.symm.trans e)).symm⟩
      · have e2 : H c = none := (if_neg hc).trans (if_neg h2)
        rw [e2] at e
        cases e
  have script : SqL K H a (ns.map V.int) := by
    cases e : K.lookup a with
    | none => exact .inl (.inr ⟨so, Ha e⟩)
    | some o =>
      have e2 := inK a o e
      rw [ha] at e2
      obtain rfl := Option.some.inj e2
      refine .inr ⟨_, vs.toArray, _, e, rfl, rfl, rfl, ?_, ?_⟩
      · rw [List.size_toArray, hi.length]
        omega
      · exact vals_ints hi
  have hok : HOk P w H s.heap := by
    intro c o e
    rcases Hk c o e with ⟨hc, rfl⟩ | ⟨_, rfl, _, rfl⟩
    · exact (tab c hc).1
    · refine ⟨ha, ?_, vs, _, vals_ints hi, ha⟩
      rw [List.length_map]
      omega
  have free : ∀ {c : Addr} {o : Obj}, s.heap.get? c = some o → (∀ q m, o.data ≠ .seq q m) → o.data ≠ .fields #[] → H c = none := by
    intro c o e h1 h2
    cases q : H c with
    | none => rfl
    | some u =>
      rcases Hk c u q with ⟨hc, _⟩ | ⟨_, rfl, _, _⟩
      · rw [(tab c hc).1] at e
        exact absurd (congrArg Obj.data (Option.some.inj e)).symm h2
      · rw [ha] at e
        exact absurd (congrArg Obj.data (Option.some.inj e)).symm (h1 _ _)
  have names : ∀ {c : Addr} {m : Str → Option Value}, s.heap.Ns c m → (hidT s.heap H).Ns c m := by
    rintro c m ⟨o, es, ep, e, d, r⟩
    exact ⟨o, es, ep, hidT_get e (free e (fun q m z => by rw [d] at z; cases z) (fun z => by rw [d] at z; cases z)), d, r⟩
  have inB : K.In (hidT s.heap H) := by
    intro c o e
    refine hidT_get (inK c o e) ?_
    cases q : H c with
    | none => rfl
    | some u =>
      rcases Hk c u q with ⟨hc, _⟩ | ⟨_, rfl, h0, _⟩
      · rw [(tab c hc).2] at e
        cases e
      · rw [h0] at e
        cases e
  obtain ⟨mc, l1, l2⟩ := lim
  have M : L2.Mod K mg (hidT s.heap H) := ⟨inB, names g, ⟨mb, names b, bb⟩, ⟨mc, names l1, l2⟩⟩
  have TB : ∀ p ∈ cs, GxR.TabB (hidT s.heap H) mg p.1 p.2 := by
    intro p hp
    obtain ⟨t1, t2, t3⟩ := T p hp
    obtain ⟨gm, ob, c1, c2, c3, c4, c5, c6⟩ := bm
    have ng : ∀ {m : Str → Option Value} {c : Addr}, s.heap.Ns c m → ∃ o es ep, s.heap.get? c = some o ∧ o.data = .dict es ep := fun ⟨o, es, ep, e, d, _⟩ => ⟨o, es, ep, e, d⟩
    obtain ⟨og, es, ep, e1, e2⟩ := ng g
    refine ⟨PySem.W.codeHd_of_K inB t3, ⟨gm, ob, c1, c2, ?_, ?_, hidT_get c3 (free c3 (fun q m z => by rw [c6] at z; cases z) (fun z => by rw [c6] at z; cases z)), c4, c5, c6⟩, ?_⟩
    · intro z
      rw [z, e1] at c3
      cases c3
      rw [e2] at c6
      cases c6
    · intro z
      rw [z, t1] at c3
      cases c3
      cases c6
    · intro z
      rw [z, t1] at e1
      cases e1
      cases e2
  have e0 : Env0 P w K mg (hidT s.heap H) callerA [] s H := ⟨rfl, M, fun _ _ e => of_hidT e, Nat.le_of_eq (hidT_size _ _), trivial, fun _ z => (nomatch z), hok, .of_eq gn⟩
  have go := (F _ inB (names g) TB).run callerA [] s H ⟨[.ref a], []⟩ [.ref a] [.ref a] _ _ rfl hr e0 (bd s (.ref a)) (.cons rfl .nil) (hsp H a ns hl (fun p hp => Ht _ (List.mem_map.mpr ⟨p, hp, rfl⟩)) script)
  refine codeAny_mono go ?_
  intro r s' hq
  match r, hq with
  | .error _, hq => exact hq.elim
  | .ok .next, hq => exact hq.elim
  | .ok .brk, hq => exact hq.elim
  | .ok .cont, hq => exact hq.elim
  | .ok (.ret u), ⟨v, H', os, bare, un, hok', rv, qv⟩ =>
    have qv2 : v = .bl true := qv
    subst qv2
    obtain rfl : u = Value.bool true := rv
    have kept : ∀ c o, c ∉ tabs → s.heap.get? c = some o → s'.heap.get? c = some o := by
      intro c o hc e
      cases q : H c with
      | none => exact un.keep c o e q (fun z => (nomatch z)) (fun z => (nomatch z))
      | some u =>
        rcases Hk c u q with ⟨h1, _⟩ | ⟨_, rfl, _, rfl⟩
        · exact absurd h1 hc
        · have e1 := (hok' c _ (un.frzs c so _ q)).1
          rw [ha] at e
          cases e
          exact e1
    have grown : ∀ c ∈ tabs, ∃ more : Array Value, s'.heap.get? c = some { cls := .none, data := .fields more } := by
      intro c hc
      obtain ⟨more, z⟩ := un.tbls c #[] (Ht c hc)
      exact ⟨_, hok' c _ z⟩
    refine ⟨rfl, ⟨?_, ?_⟩, os, bare⟩
    · intro c o e
      by_cases hc : c ∈ tabs
      · obtain ⟨more, hm⟩ := grown c hc
        obtain ⟨p, hp, rfl⟩ := List.mem_map.mp hc
        have t1 := (T p hp).1
        rw [t1] at e
        cases e
        exact .inr (.inl ⟨((PySem.W.codeHd_of_K inK (T p hp).2.2).tab t1).isCodeTable, rfl, #[], more, rfl, by rw [Array.empty_append]; exact hm⟩)
      · exact .inl (kept c o hc e)
    · intro c o e
      by_cases hc : c ∈ tabs
      · exact let ⟨_, hm⟩ := grown c hc; ⟨_, hm⟩
      · exact ⟨o, kept c o hc e⟩

theorem walk_G {l : PySem.W.OpenLaw} {n k : Nat} {q : Program} {loose : List Str} {XP : (Str → Option Value) → Heap → Prop} {YP : World → Heap → Prop} {d : DefRec} {x : Str}
    (hn : l.most = some n) (hn2 : n ≤ sizeLine) (hdf : d.params.defaults = []) (hr : Room k callerA)
    (F : ∀ (w : World) (mg : Str → Option Value) (fa : Addr) (h : Heap), YP w h → h.Ns mainGlobals mg → mg d.name = some (.ref fa) → ∃ K : PySem.W.Frag, K.In h ∧ LawG l.prog w K k n x mg fa h) :
    PySem.W.WalkO q loose XP YP l.row.toRowW d [] (fun f vs => PySem.call f vs) := by
  refine Att.attach_callB hn hdf ?_
  intro w s0 s mg mb fa o pm cd doc a vs ns G Y ho hd hcd hmg hobj hints hlen hbits hg
  obtain ⟨K, inK, L⟩ := F w mg fa _ Y G.T.g hmg
  exact law_callG L inK G.T.g G.T.b G.T.builtins G.T.nolimit hg G.T.bmain hobj hints hlen hn2 hr
end GL
set_option Elab.async false
set_option linter.all false
set_option maxRecDepth 100000
set_option maxHeartbeats 2000000
/-! Generator expressions over a list or a tuple, one for, no test; consumers: tuple, any, all. -/
namespace GL
open PySem PySem.Spec PyProof.Rows L2

/-- what is walked: an iterator may be made of the object at a, that gives its in turn -/
def Src (prog : Program) (w : World) (s : Shared) (a : Addr) (its : List Value) : Prop := ∃ (o : Obj) (St : Nat → Heap → Prop),
  (∀ (A : Around) (E : Value → Shared → Prop) (Q : Value → Shared → Prop), Q (.ref s.heap.objs.size) { s with heap := s.heap.push o } → wpAny (model prog w) A (pyIter (.ref a)) Q E s) ∧
  (∀ A' : Around, A'.handled = none → Walks prog w A' s.heap.objs.size [s.heap.objs.size, a] [s.heap.objs.size] its.toArray.size (fun i v => its.toArray[i]? = some v) St) ∧
  St 0 (s.heap.push o) ∧ ∃ ob q n, s.heap.get? a = some ob ∧ ob.data = .seq q n

theorem src_list {prog : Program} {w : World} {s : Shared} {a : Addr} {its : List Value} (h : s.heap.IsList a its.toArray) : Src prog w s a its := by
  have lt : a < s.heap.objs.size := let ⟨_, e, _⟩ := h; Heap.lt_size e
  refine ⟨_, _, fun A E Q q => wpAny_pyIter_list h q, fun A' hA => Walks.list hA _ _ (Nat.ne_of_lt lt) _, ⟨⟨_, Heap.get?_push_size _ rfl, rfl, rfl⟩, ?_⟩, ?_⟩
  · obtain ⟨ob, e, r⟩ := h
    exact ⟨ob, Heap.get?_push_of_some _ e, r⟩
  · obtain ⟨ob, e, h1, h2, h3⟩ := h
    exact ⟨ob, _, _, e, h3⟩
theorem src_tuple {prog : Program} {w : World} {s : Shared} {a : Addr} {its : List Value} (h : s.heap.IsTuple a its.toArray) : Src prog w s a its := by
  have lt : a < s.heap.objs.size := let ⟨_, e, _⟩ := h; Heap.lt_size e
  refine ⟨_, _, fun A E Q q => wpAny_pyIter_tuple h q, fun A' hA => Walks.tuple hA _ _ (Nat.ne_of_lt lt) _, ⟨⟨_, Heap.get?_push_size _ rfl, rfl, rfl⟩, h.push _⟩, ?_⟩
  obtain ⟨ob, e, h1, n, h2⟩ := h
  exact ⟨ob, _, n, e, h2⟩

section
variable {X : Cx} {pins : List (Addr × Obj)} {σ : L2.St} {H : Hp} {s : Shared}

/-- the element: of an item v with dom v it is f v; what the def holds in cells may be read -/
def EltG (X : Cx) (P : Addr) (scope : Scope) (x : Str) (elt : Expr) (σ : L2.St) (dom : V → Prop) (f : V → V) : Prop :=
  ∀ (pins : List (Addr × Obj)) (H1 : Hp) (s1 : Shared) (cenv : Env) (A' : Around) (E' : Value → Shared → Prop) (v : V) (u : Value) (s2 : Shared) (m2 : Str → Option Value),
    Inv X pins σ H1 s1 → GxR.TabG H1 P → cenv.scope = scope → cenv.cells = cloFrom X.env.cells scope.names [] → A'.handled = none → A'.depth ≤ X.A.depth + 1 → A'.units ≤ X.A.units + 8 → dom v → RelV v u →
    s2.heap.Ns cenv.locals m2 → m2 x = some u → (∀ b o, b ≠ P → s1.heap.get? b = some o → s2.heap.get? b = some o) →
    wpAny (model X.prog X.w) A' (eval elt cenv) (fun y s3 => RelV (f v) y ∧ Keeps s2 s3) E' s2

/-- the generator g, ready to give the values f of xs; H1: what was held before -/
def ReadyG (X : Cx) (pins : List (Addr × Obj)) (σ : L2.St) (H1 : Hp) (P : Addr) (xs : List V) (f : V → V) (g : Addr) (s5 : Shared) : Prop :=
  ∃ (fp wr : List Addr) (G : Array GenState → Array GenState → Prop) (F : Nat → Value → Prop) (St : Nat → Shared → Prop),
    WalksS X.prog X.w X.A.in4 g fp wr G xs.length F St ∧ St 0 s5 ∧ (∀ b ∈ fp, b < s5.heap.objs.size) ∧ g ∈ fp ∧ (∀ i s9, St i s9 → s9.TypeIs (.ref g) "generator") ∧
    (∀ j y, F j y → ∃ v, xs[j]? = some v ∧ RelV (f v) y) ∧ ∀ s', Moved wr G s5 s' → ∃ H2, GxR.Tabbed P H1 H2 ∧ Inv X pins σ H2 s'

theorem gen_seq {c P : Addr} {elt iter : Expr} {x : Str} {px gpos : Pos} {scope : Scope} {dom : V → Prop} {f : V → V} {te : TE} {k : Nat} {Q' : Value → Shared → Prop} {R : List V → Hp → Prop}
    (hr : Room k X.A) (TB : GxR.TabB X.base X.mg c P) (hcode : X.env.code = .ref c) (S : GxR.GenS X.env scope x) (hi : PE X iter te) (hel : EltG X P scope x elt σ dom f)
    (hs : ∀ v, genFold iter X.env v = pure v) (I : Inv X pins σ H s)
    (h : te σ H fun v H1 => ∃ (a : Addr) (xs : List V), v = .ref a ∧ (SqL X.K H1 a xs ∨ SqT X.K H1 a xs) ∧ (∀ v ∈ xs, dom v) ∧ GxR.TabG H1 P ∧ R xs H1)
    (hQ : ∀ xs H1 g s5, R xs H1 → ReadyG X pins σ H1 P xs f g s5 → Q' (.ref g) s5) :
    wpAny (model X.prog X.w) X.A (eval (.GeneratorExp elt [⟨.Name x px, iter, [], 0⟩] scope gpos) X.env) Q' X.xe s := by
  refine wpAny_GeneratorExp_walksQD hr.hd S.co (closure_ok S.free) S.cell S.dot S.loc S.kind (by have := hr.dp; omega) ?_ hs
  refine thn (hi.run pins s σ H _ I h) ?_
  rintro xv s1 ⟨v, H1, I1, r1, a, xs, rfl, sq, hdom, hT, q1⟩
  obtain rfl : xv = Value.ref a := r1
  obtain ⟨its, rv, ⟨o, St, mk, W, hst, ob, qs, nq, hob, hod⟩⟩ : ∃ its : List Value, Vals xs its ∧ Src X.prog X.w s1 a its := by
    rcases sq with sq | sq
    · obtain ⟨its, rv, hl, _⟩ := I1.list sq
      exact ⟨its, rv, src_list hl.isList⟩
    · obtain ⟨its, rv, hl, _⟩ := I1.tuple sq
      exact ⟨its, rv, src_tuple hl⟩
  have nlen : its.toArray.size = xs.length := by rw [List.size_toArray]; exact rv.length.symm
  have item : ∀ (i : Nat) (u : Value), its.toArray[i]? = some u → ∃ v, xs[i]? = some v ∧ RelV v u := by
    intro i u hu
    have hu2 : its[i]? = some u := by simpa using hu
    have hi2 : i < xs.length := by rw [rv.length]; exact (List.getElem?_eq_some_iff.mp hu2).1
    obtain ⟨u', e1, e2⟩ := rv.get (List.getElem?_eq_getElem hi2)
    rw [hu2] at e1
    cases e1
    exact ⟨_, List.getElem?_eq_getElem hi2, e2⟩
  refine mk _ _ _ ?_
  obtain ⟨ps, hP, ht⟩ := _root_.id hT
  have gP : s1.heap.get? P = some { cls := .none, data := .fields ps } := I1.hok P _ hP
  have ltP : P < s1.heap.objs.size := Heap.lt_size gP
  have lta : a < s1.heap.objs.size := Heap.lt_size hob
  have neP : ∀ {b : Addr} {u : Obj}, s1.heap.get? b = some u → u.data ≠ .fields ps → b ≠ P := by
    intro b u e d z
    rw [z, gP] at e
    cases e
    exact d rfl
  have aP : a ≠ P := neP hob (by rw [hod]; intro z; cases z)
  have P2 : (s1.heap.push o).get? P = some { cls := .none, data := .fields ps } := Heap.get?_push_of_some _ gP
  have lim : (s1.heap.push o).NoLimit := I1.nolimit.push o
  have cd : PySem.W.CodeHd (s1.heap.push o) c P := TB.code.keeps fun b u e => Heap.get?_push_of_some _ (I1.bk b u e)
  have szo : (s1.heap.push o).objs.size = s1.heap.objs.size + 1 := Heap.size_push ..
  -- behind the code object's making: h3, the table ps'
  have go : ∀ (code : Value) (h3 : Heap) (tk : Nat) (ps' : Array Value), Heap.ExtBut P (s1.heap.push o) h3 → (s1.heap.push o).objs.size ≤ h3.objs.size → h3.get? P = some { cls := .none, data := .fields ps' } →
      (∃ more, ps' = ps ++ more) → TriplesOk ps'.toList → wpAny (model X.prog X.w) X.A (builtinsFor X.env.globals X.env.builtins) (fun bi s4 =>
        ∃ Ia fp wr n0 Pf St0 pz F, Value.ref s1.heap.objs.size = .ref Ia ∧ (∀ A' : Around, A'.handled = none → Walks X.prog X.w A' Ia fp wr n0 Pf St0) ∧ St0 0 s4.heap ∧ (∀ b ∈ fp, b < s4.heap.objs.size) ∧ s4.heap.NoLimit ∧ cStatics ∉ wr ∧
          (∀ href : Heap, (∀ b o, s4.heap.get? b = some o → href.get? b = some o) →
            QuietGenD X.prog X.w (genEnv scope (cloFrom X.env.cells scope.names []) s4.heap.objs.size code bi X.env) x [] elt (List.range s4.heap.objs.size) wr Pf pz F href (X.A.depth + 1) (X.A.units + 8)) ∧
          (∀ a h5 tk gs, gs.bare = true → s4.heap.objs.size < a → h5.objs.size = a + 1 → (∀ b o, s4.heap.get? b = some o → h5.get? b = some o) →
            WalksS X.prog X.w X.A.in4 a (a :: s4.heap.objs.size :: List.range s4.heap.objs.size) (s4.heap.objs.size :: wr) (GenOnlyQ s4.gens.size) (passing pz n0 0).length
              (fun j y => ∃ i, (passing pz n0 0)[j]? = some i ∧ F i y) (GenAt X.prog X.w X.A.in4 a s4.gens.size s4.heap.objs.size (List.range s4.heap.objs.size) wr pz n0 F) →
            GenAt X.prog X.w X.A.in4 a s4.gens.size s4.heap.objs.size (List.range s4.heap.objs.size) wr pz n0 F 0 { s4 with gens := s4.gens.push gs, toks := tk, heap := h5 } →
            Q' (.ref a) { s4 with gens := s4.gens.push gs, toks := tk, heap := h5 })) X.xe { s1 with heap := h3, toks := tk } := by
    intro code h3 tk ps' ext sz P3 more tr
    obtain ⟨bm, ob', b1, b2, b3, b4, b5, b6, b7, b8⟩ := TB.bm
    have keep3 : ∀ b u, b ≠ P → s1.heap.get? b = some u → h3.get? b = some u := fun b u hb e => ext b u hb (Heap.get?_push_of_some _ e)
    obtain ⟨mc, lns, _⟩ := _root_.id I1.nolimit
    have ltC : cStatics < s1.heap.objs.size := lns.lt
    have cP : cStatics ≠ P := by
      obtain ⟨o', es, ep, e, d, _⟩ := lns
      exact neP e (by rw [d]; intro z; cases z)
    refine wpAny_builtinsFor (m := X.mg) (by rw [I1.ok.glob]; exact ((I1.mod.glob.keeps I1.bk).push o).extBut ext TB.gP) b1 b2 (keep3 _ _ b4 (I1.bk _ _ b5)) b6 b7 b8 ?_
    refine ⟨s1.heap.objs.size, [s1.heap.objs.size, a], [s1.heap.objs.size], its.toArray.size, (fun i v => its.toArray[i]? = some v), St, (fun _ => true), (fun i y => ∃ v, xs[i]? = some v ∧ RelV (f v) y), rfl, W, ?_, ?_, lim.extBut ext cP, ?_, ?_, ?_⟩
    · refine (W X.A hr.hd).frame _ _ _ hst ?_
      intro b hb u e
      refine ext b u ?_ e
      rcases List.mem_cons.mp hb with z | z
      · rw [z]
        exact Nat.ne_of_gt ltP
      · rw [List.mem_singleton.mp z]
        exact aP
    · intro b hb
      show b < h3.objs.size
      rcases List.mem_cons.mp hb with z | z
      · rw [z]
        have z2 : s1.heap.objs.size < h3.objs.size := by omega
        exact z2
      · rw [List.mem_singleton.mp z]
        exact Nat.lt_of_lt_of_le lta (by omega)
    · intro z
      exact Nat.ne_of_lt ltC (List.mem_singleton.mp z)
    · intro href hh
      refine ⟨?_, ?_⟩
      · intro A' E' i v s2 m2 _ _ _ _ _ _ _
        simp only [List.forIn_nil]
        exact wpAny_pure ⟨rfl, GxR.keeps_refl _⟩
      · intro A' E' i u s2 m2 hA hD hU hPu _ hn hm hk
        obtain ⟨v, hv, ru⟩ := item i u hPu
        refine wpAny_mono (hel pins H1 s1 _ A' E' v u s2 m2 I1 ⟨ps, hP, ht⟩ rfl rfl hA hD hU (hdom v (List.mem_of_getElem? hv)) ru hn hm ?_) (fun y s3 r => ⟨⟨v, hv, r.1⟩, r.2⟩) (fun _ _ e => e)
        intro b ob2 hb e
        have e3 := keep3 b ob2 hb e
        refine hk b (List.mem_range.mpr (Heap.lt_size e3)) ?_ ob2 (hh b ob2 e3)
        intro z
        exact absurd (Heap.lt_size e) (by rw [List.mem_singleton.mp z]; exact Nat.lt_irrefl _)
    · intro g h5 tk5 gs hgb hag hsz5 hk5 W5 hgat
      simp only [GxR.passing_true, List.length_range] at W5
      rw [nlen] at W5 hgat
      refine hQ xs H1 g _ q1 ⟨_, _, _, _, _, W5, hgat, ?_, List.mem_cons_self, (fun i s9 h9 => h9.1.typeIs), ?_, ?_⟩
      · intro b hb
        show b < h5.objs.size
        have h8 : h3.objs.size < g := hag
        rw [hsz5]
        rcases List.mem_cons.mp hb with z | z
        · rw [z]
          exact Nat.lt_succ_self g
        · rcases List.mem_cons.mp z with z | z
          · rw [z]
            exact Nat.lt_succ_of_lt h8
          · exact Nat.lt_succ_of_lt (Nat.lt_trans (List.mem_range.mp z) h8)
      · rintro j y ⟨i, hij, v, hv, rel⟩
        obtain ⟨hj, ej⟩ := List.getElem?_eq_some_iff.mp hij
        rw [List.getElem_range] at ej
        subst ej
        exact ⟨v, hv, rel⟩
      · intro s' hm
        obtain ⟨mr, rfl⟩ := more
        have old : ∀ b u, s1.heap.get? b = some u → b ∉ h3.objs.size :: [s1.heap.objs.size] := by
          intro b u e hb
          have l := Heap.lt_size e
          rcases List.mem_cons.mp hb with z | z
          · have l2 : (h3.objs.size : Nat) < s1.heap.objs.size := by rw [← z]; exact l
            omega
          · rw [List.mem_singleton.mp z] at l
            exact Nat.lt_irrefl _ l
        have J := GxR.inv_tab (more := mr) (h' := s'.heap) (g' := s'.gens) (d' := s'.drawn) (t' := s'.toks) I1 hP (fun b u hb e => hm.heap b u (old b u e) (hk5 b u (keep3 b u hb e)))
          (hm.heap P _ (old P _ gP) (hk5 P _ P3)) (AllBare.movedS (I1.bare.push hgb) hm)
        rw [GxR.sh_eta s1 s' hm.os] at J
        exact ⟨_, ⟨⟨_, upd_same, tr⟩, fun b hb => upd_ne hb⟩, J⟩
  refine ⟨lim, ?_⟩
  cases hf : codeAmong gpos ps.toList with
  | some cv => exact wpAny_genexprCode_hit hcode (cd.code P2 ht) hf (go cv _ s1.toks ps (Heap.ExtBut.refl _ _) (Nat.le_refl _) P2 ⟨#[], by simp⟩ ht)
  | none =>
    refine wpAny_genexprCodeX hcode (cd.code P2 ht) (cd.tab P2) hf ?_
    intro c' h' tk ext ge lt co _ tab _
    obtain ⟨o1, vs, f1, tf, fl, tg, inF, tx, tt, op, _, _, _, _, _, _, _, _, _, tr, _⟩ := co
    exact go _ h' tk _ ext (Nat.le_trans ge (Nat.le_of_lt lt)) tab.2 ⟨_, rfl⟩ tr

/-- what a consumer asks of the walked thing: the values, each in dom, the def's table -/
def tGen (K : PySem.W.Frag) (P : Addr) (dom : L2.St → V → Prop) (te : TE) (R : List V → L2.St → Hp → VK → Prop) : TE := fun σ H Q => te σ H fun v H1 => ∃ (a : Addr) (xs : List V), v = .ref a ∧ (SqL K H1 a xs ∨ SqT K H1 a xs) ∧ (∀ v ∈ xs, dom σ v) ∧ GxR.TabG H1 P ∧ R xs σ H1 Q
/-- tuple(elt for x in e) -/
def rTupG (P : Addr) (f : L2.St → V → V) : List V → L2.St → Hp → VK → Prop := fun xs σ H1 Q => xs.length ≤ sizeLine ∧ ∀ H2, GxR.Tabbed P H1 H2 → ∀ D, H2 D = none → Q (.ref D) (upd H2 D (.tup (xs.map (f σ))))
theorem pe_tupG {c P : Addr} {elt iter : Expr} {x : Str} {px p pos gpos : Pos} {scope : Scope} {dom : L2.St → V → Prop} {f : L2.St → V → V} {te : TE} {k : Nat}
    (hr : Room k X.A) (hg : Gl X "tuple") (hm : X.mg "tuple" = none) (TB : GxR.TabB X.base X.mg c P) (hcode : X.env.code = .ref c) (S : GxR.GenS X.env scope x) (hi : PE X iter te) (hel : ∀ σ, EltG X P scope x elt σ (dom σ) (f σ))
    (hs : ∀ v, genFold iter X.env v = pure v) (hb : bootBuiltins "tuple" = some (.type "tuple") := by decide +kernel)
    (he : starEach [.GeneratorExp elt [⟨.Name x px, iter, [], 0⟩] scope gpos] X.env = (false, eval (.GeneratorExp elt [⟨.Name x px, iter, [], 0⟩] scope gpos) X.env) :: starEach [] X.env := by rfl) :
    PE X (.Call (.Name "tuple" p) [.GeneratorExp elt [⟨.Name x px, iter, [], 0⟩] scope gpos] [] pos) (tGen X.K P dom te (rTupG P f)) := by
  constructor
  intro pins s σ H Q I h
  refine wpAny_Call_Name_kw (ld_blt I hg hm hb (PyProof.Rows.callWith_type1 ?_ he (by rfl)))
  rw [he]
  show wpAny _ _ (spliced ((false, eval (.GeneratorExp elt [⟨.Name x px, iter, [], 0⟩] scope gpos) X.env) :: backTo pos (starEach [] X.env))) _ _ s
  refine Calls.spliced_cons (gen_seq (R := fun xs H1 => rTupG P f xs σ H1 Q) hr TB hcode S hi (hel σ) hs I h ?_)
  rintro xs H1 g s5 ⟨hz, hR⟩ ⟨fp, wr, G, F, St, W, hst, hfp, hgf, hty, hF, hI⟩
  refine Calls.spliced_nil ?_
  refine call_tuple_gen (hsz := hz) W.in4_3 hty hst hfp hgf ?_
  intro s' acc hmv hacc
  obtain ⟨H2, hT, J⟩ := hI s' hmv
  have rel : Vals (xs.map (f σ)) acc.toList := by
    have key : ∀ (ys : List V) (us : List Value), ys.length = us.length → (∀ (j : Nat) (u : Value), us[j]? = some u → ∃ v, ys[j]? = some v ∧ RelV (f σ v) u) → Vals (ys.map (f σ)) us := by
      intro ys
      induction ys with
      | nil =>
        intro us hl _
        cases us with
        | nil => exact .nil
        | cons _ _ => cases hl
      | cons y ys ih =>
        intro us hl hv
        cases us with
        | nil => cases hl
        | cons u us =>
          refine .cons ?_ (ih us (Nat.succ.inj hl) (fun j w hw => hv (j + 1) w hw))
          obtain ⟨v, h1, h2⟩ := hv 0 u rfl
          cases h1
          exact h2
    refine key xs acc.toList ?_ ?_
    · rw [Array.length_toList]
      exact hacc.1.symm
    · intro j u hu
      exact hF j u (hacc.2 j u (by simpa using hu))
  refine ⟨.ref s'.heap.objs.size, _, J.laid (t' := s'.toks) (fun b u e => Heap.get?_push_of_some _ e) (Nat.le_refl _) ?_, rfl, hR H2 hT _ (J.hok.fresh (Nat.le_refl _))⟩
  refine ⟨?_, acc.toList, rel, _, Heap.get?_push_size _ rfl, rfl, 0, ?_⟩
  · rw [List.length_map]
    exact hz
  · simp

/-- any, all of truths -/
def rAnyG (P : Addr) (b : L2.St → V → Bool) : List V → L2.St → Hp → VK → Prop := fun xs σ H1 Q => ∀ H2, GxR.Tabbed P H1 H2 → Q (.bl (xs.any (b σ))) H2
def rAllG (P : Addr) (b : L2.St → V → Bool) : List V → L2.St → Hp → VK → Prop := fun xs σ H1 Q => ∀ H2, GxR.Tabbed P H1 H2 → Q (.bl (xs.all (b σ))) H2
def atV (b : V → Bool) (xs : List V) (j : Nat) : Bool := ((xs[j]?).map b).getD false
theorem atV_some {b : V → Bool} {xs : List V} {j : Nat} {v : V} (h : xs[j]? = some v) : atV b xs j = b v := by
  unfold atV
  rw [h]
  rfl
theorem any_atV (b : V → Bool) (xs : List V) : (List.range xs.length).any (atV b xs) = xs.any b := by
  rw [Bool.eq_iff_iff, List.any_eq_true, List.any_eq_true]
  constructor
  · rintro ⟨j, hj, h⟩
    have hj := List.mem_range.mp hj
    rw [atV_some (List.getElem?_eq_getElem hj)] at h
    exact ⟨_, List.getElem_mem hj, h⟩
  · rintro ⟨v, hv, h⟩
    obtain ⟨j, hj, rfl⟩ := List.getElem_of_mem hv
    exact ⟨j, List.mem_range.mpr hj, by rw [atV_some (List.getElem?_eq_getElem hj)]; exact h⟩
theorem all_atV (b : V → Bool) (xs : List V) : (List.range xs.length).all (atV b xs) = xs.all b := by
  rw [Bool.eq_iff_iff, List.all_eq_true, List.all_eq_true]
  constructor
  · intro h v hv
    obtain ⟨j, hj, rfl⟩ := List.getElem_of_mem hv
    have q := h j (List.mem_range.mpr hj)
    rw [atV_some (List.getElem?_eq_getElem hj)] at q
    exact q
  · intro h j hj
    have hj := List.mem_range.mp hj
    rw [atV_some (List.getElem?_eq_getElem hj)]
    exact h _ (List.getElem_mem hj)
theorem pe_anyG {c P : Addr} {elt iter : Expr} {x : Str} {px p pos gpos : Pos} {scope : Scope} {dom : L2.St → V → Prop} {b : L2.St → V → Bool} {te : TE} {k : Nat}
    (hr : Room k X.A) (hg : Gl X "any") (hm : X.mg "any" = none) (TB : GxR.TabB X.base X.mg c P) (hcode : X.env.code = .ref c) (S : GxR.GenS X.env scope x) (hi : PE X iter te) (hel : ∀ σ, EltG X P scope x elt σ (dom σ) (fun v => .bl (b σ v)))
    (hs : ∀ v, genFold iter X.env v = pure v)
    (he : starEach [.GeneratorExp elt [⟨.Name x px, iter, [], 0⟩] scope gpos] X.env = (false, eval (.GeneratorExp elt [⟨.Name x px, iter, [], 0⟩] scope gpos) X.env) :: starEach [] X.env := by rfl) :
    PE X (.Call (.Name "any" p) [.GeneratorExp elt [⟨.Name x px, iter, [], 0⟩] scope gpos] [] pos) (tGen X.K P dom te (rAnyG P b)) := by
  constructor
  intro pins s σ H Q I h
  refine wpAny_Call_Name_kw (ld_blt I hg hm boot_any (PyProof.Rows.callWith_builtin1 ?_ he (by rfl)))
  rw [he]
  show wpAny _ _ (spliced ((false, eval (.GeneratorExp elt [⟨.Name x px, iter, [], 0⟩] scope gpos) X.env) :: backTo pos (starEach [] X.env))) _ _ s
  refine Calls.spliced_cons (gen_seq (R := fun xs H1 => rAnyG P b xs σ H1 Q) hr TB hcode S hi (hel σ) hs I h ?_)
  rintro xs H1 g s5 hR ⟨fp, wr, G, F, St, W, hst, hfp, hgf, hty, hF, hI⟩
  refine Calls.spliced_nil (call_any_walkS (W.in4_1.self 0 _ _ _ hst ⟨g, fp, wr, G, _, F, St, atV (b σ) xs, rfl, W.in4_1, hst, ?_, ?_⟩))
  · intro j y s' Q' E' hy hQ
    obtain ⟨v, hv, r⟩ := hF j y hy
    rw [atV_some hv] at hQ
    have e : y = Value.bool (b σ v) := r
    rw [e]
    exact wpAny_truthy_bool hQ
  · intro s' hmv
    obtain ⟨H2, hT, J⟩ := hI s' hmv
    rw [any_atV]
    exact ⟨.bl _, H2, J, rfl, hR H2 hT⟩
theorem pe_allG {c P : Addr} {elt iter : Expr} {x : Str} {px p pos gpos : Pos} {scope : Scope} {dom : L2.St → V → Prop} {b : L2.St → V → Bool} {te : TE} {k : Nat}
    (hr : Room k X.A) (hg : Gl X "all") (hm : X.mg "all" = none) (TB : GxR.TabB X.base X.mg c P) (hcode : X.env.code = .ref c) (S : GxR.GenS X.env scope x) (hi : PE X iter te) (hel : ∀ σ, EltG X P scope x elt σ (dom σ) (fun v => .bl (b σ v)))
    (hs : ∀ v, genFold iter X.env v = pure v) (hb : bootBuiltins "all" = some (.builtin "all") := by decide +kernel)
    (he : starEach [.GeneratorExp elt [⟨.Name x px, iter, [], 0⟩] scope gpos] X.env = (false, eval (.GeneratorExp elt [⟨.Name x px, iter, [], 0⟩] scope gpos) X.env) :: starEach [] X.env := by rfl) :
    PE X (.Call (.Name "all" p) [.GeneratorExp elt [⟨.Name x px, iter, [], 0⟩] scope gpos] [] pos) (tGen X.K P dom te (rAllG P b)) := by
  constructor
  intro pins s σ H Q I h
  refine wpAny_Call_Name_kw (ld_blt I hg hm hb (PyProof.Rows.callWith_builtin1 ?_ he (by rfl)))
  rw [he]
  show wpAny _ _ (spliced ((false, eval (.GeneratorExp elt [⟨.Name x px, iter, [], 0⟩] scope gpos) X.env) :: backTo pos (starEach [] X.env))) _ _ s
  refine Calls.spliced_cons (gen_seq (R := fun xs H1 => rAllG P b xs σ H1 Q) hr TB hcode S hi (hel σ) hs I h ?_)
  rintro xs H1 g s5 hR ⟨fp, wr, G, F, St, W, hst, hfp, hgf, hty, hF, hI⟩
  refine Calls.spliced_nil (call_all_walkS (W.in4_1.self 0 _ _ _ hst ⟨g, fp, wr, G, _, F, St, atV (b σ) xs, rfl, W.in4_1, hst, ?_, ?_⟩))
  · intro j y s' Q' E' hy hQ
    obtain ⟨v, hv, r⟩ := hF j y hy
    rw [atV_some hv] at hQ
    have e : y = Value.bool (b σ v) := r
    rw [e]
    exact wpAny_truthy_bool hQ
  · intro s' hmv
    obtain ⟨H2, hT, J⟩ := hI s' hmv
    rw [all_atV]
    exact ⟨.bl _, H2, J, rfl, hR H2 hT⟩

/-- the item's own name, in the element -/
theorem elt_own {scope : Scope} {x : Str} {cenv : Env} {M : Model} {A' : Around} {E' : Value → Shared → Prop} {Q : Value → Shared → Prop} {s2 : Shared} {m2 : Str → Option Value} {u : Value} {pos : Pos} (hsc : cenv.scope = scope) (hkd : scope.kind = .function)
    (hl : scope.names.lookup x = some .local) (hn : s2.heap.Ns cenv.locals m2) (hm : m2 x = some u) (h : Q u s2) (hd : (x == ("__debug__" : Str)) = false := by decide) : wpAny M A' (eval (.Name x pos) cenv) Q E' s2 :=
  wpAny_Name (wpAny_loadName_local (by rw [hsc]; exact hkd) (show cenv.scope.names.lookup x = some .local by rw [hsc]; exact hl) hn hm h) hd
/-- a name of the def that the generator captures -/
theorem elt_cap {P : Addr} {scope : Scope} {y : Str} {i : Nat} {z : V} {cenv : Env} {M : Model} {A' : Around} {E' : Value → Shared → Prop} {Q : Value → Shared → Prop} {H1 : Hp} {s1 s2 : Shared} {pos : Pos}
    (I : Inv X pins σ H1 s1) (hT : GxR.TabG H1 P) (hsc : cenv.scope = scope) (hkd : scope.kind = .function) (hce : cenv.cells = cloFrom X.env.cells scope.names []) (hk : ∀ b o, b ≠ P → s1.heap.get? b = some o → s2.heap.get? b = some o)
    (hf : (y, NameKind.free) ∈ scope.names) (hl : scope.names.lookup y = some .free) (hN : X.N[i]? = some y) (hc : X.env.scope.names.lookup y = some .cell) (hz : σ[i]? = some (some z)) (h : ∀ u, RelV z u → Q u s2)
    (hd : (y == ("__debug__" : Str)) = false := by decide) (hd2 : (y == ("__classdict__" : Str)) = false := by decide) : wpAny M A' (eval (.Name y pos) cenv) Q E' s2 := by
  obtain ⟨m, hn, hlook⟩ := I.loc
  obtain ⟨u, r, l⟩ := hlook i y z hN hz (.inr (.inl hc))
  rcases l with ⟨hk1, _⟩ | ⟨_, c, ec, hcell⟩
  · have e1 : X.env.scope.names.lookup y = some .local := hk1
    rw [hc] at e1
    cases e1
  · have e2 : cenv.cells.lookup y = some c := by
      rw [hce]
      obtain ⟨c', e3⟩ := mem_lookup (cloFrom_has (cells := X.env.cells) (acc := []) hf)
      rcases cloFrom_mem (PySem.mem_of_lookup e3) with z | ⟨_, z⟩
      · cases z
      · rw [ec] at z
        rw [e3, z]
        rfl
    obtain ⟨o, ho, hd0⟩ := hcell
    have cP : c ≠ P := by
      intro z
      obtain ⟨ps, hP, _⟩ := hT
      have gP : s1.heap.get? P = some { cls := .none, data := .fields ps } := I.hok P _ hP
      rw [z, gP] at ho
      cases ho
      cases hd0
    exact wpAny_Name (wpAny_loadName_free (by rw [hsc]; exact hkd) (show cenv.scope.names.lookup y = some .free by rw [hsc]; exact hl) e2 ⟨o, hk c o cP ho, hd0⟩ (h u r) hd2) hd
end
end GL
set_option Elab.async false
set_option linter.all false
set_option maxRecDepth 100000
set_option maxHeartbeats 2000000
/-! Defs by their names; sum of a tuple; heaps that keep all but some places. -/
namespace GL
open PySem PySem.Spec PyProof.Rows L2

structure Cal (P : Program) (w : World) (K : PySem.W.Frag) (mg : Str → Option Value) (base : Heap) (k : Nat) (x : Str) (sp : Sp) : Prop where
  ex : ∃ (f : Addr) (fd : FuncData) (ps : List Str), FnOk P w K mg base CX0 k f fd ps sp ∧ mg x = some (.ref f) ∧ PySem.W.keepIn K (.ref f) = true ∧ Binds K fd ps []
structure CalG (P : Program) (w : World) (K : PySem.W.Frag) (mg : Str → Option Value) (base : Heap) (k : Nat) (x : Str) (sp : Sp) : Prop where
  ex : ∃ (f : Addr) (fd : FuncData) (ps : List Str), FnG P w K mg base CX0 k f fd ps sp ∧ mg x = some (.ref f) ∧ PySem.W.keepIn K (.ref f) = true ∧ Binds K fd ps []
section
variable {X : Cx} {k j : Nat} {x : Str} {sp : Sp} {p pos : Pos} {e : Expr} {es : List Expr} {t : TA}
theorem pe_k (c : Cal X.prog X.w X.K X.mg X.base k x sp) (hr : Room k X.A) (hg : Gl X x) (ha : PA X (e :: es) t) (hdb : (x == ("__debug__" : Str)) = false := by decide)
    (he : starEach (e :: es) X.env = (false, eval e X.env) :: starEach es X.env := by rfl) (hpl : (backTo pos (starEach es X.env)).any (·.1) = false := by rfl) : PE X (.Call (.Name x p) (e :: es) [] pos) (tCall sp [] E0 t) := by
  obtain ⟨f, fd, ps, F, m, kp, b⟩ := c.ex
  exact pe_call F hr hg m kp b .nil pass0 ha hdb he hpl
theorem pe_kG (c : CalG X.prog X.w X.K X.mg X.base k x sp) (gd : X.A.guards = some []) (hr : Room k X.A) (hg : Gl X x) (ha : PA X (e :: es) t) (hdb : (x == ("__debug__" : Str)) = false := by decide)
    (he : starEach (e :: es) X.env = (false, eval e X.env) :: starEach es X.env := by rfl) (hpl : (backTo pos (starEach es X.env)).any (·.1) = false := by rfl) : PE X (.Call (.Name x p) (e :: es) [] pos) (tCall sp [] E0 t) := by
  obtain ⟨f, fd, ps, F, m, kp, b⟩ := c.ex
  exact pe_callG F gd hr hg m kp b .nil pass0 ha hdb he hpl

/-- sum of a tuple of whole numbers -/
def rSumT (K : PySem.W.Frag) : List V → Hp → VK → Prop := fun vs H Q => ∃ (a : Addr) (ns : List Int), vs = [V.ref a] ∧ SqT K H a (ns.map V.int) ∧ Q (.int ns.sum) H
theorem cr_sumT (hc : X.calm = true) : CallR X (.builtin "sum") (rSumT X.K) := by
  intro pins s σ H vs us Q I r h
  obtain ⟨a, ns, rfl, hs, q⟩ := h
  obtain ⟨its, rv, hl, _⟩ := I.tuple hs
  rw [Vals.ref1 r]
  have hi : IntsAre its ns := rv.ints
  obtain ⟨xs, hx⟩ := hi.allInts.items
  have hn : numsOf its.toArray.toList = ns := by rw [show its.toArray.toList = its from rfl, hi.numsOf]
  rw [hx] at hl hn
  rw [nums_intItems] at hn
  refine PySem.W.ktm_sumG (I.ok.hd hc) hl ?_
  intro h' tk t' hk
  rw [preSum_eq, List.take_of_length_le (by simp), hn]
  exact ⟨.int _, H, I.kept hk, ⟨_, rfl⟩, q⟩
end

/-- what follows a statement is shown once, from Mid -/
def tMid (t u : TS) : TS := fun D σ H => ∃ Mid : L2.St → Hp → Prop, t { D with nx := Mid } σ H ∧ ∀ σ' H', Mid σ' H' → u D σ' H'
theorem pss_mid {X : Cx} {st : Stmt} {rest : List Stmt} {t u : TS} (a : PS X st t) (b : PSs X rest u) : PSs X (st :: rest) (tMid t u) := by
  constructor
  rintro pins s σ H D I ⟨Mid, h1, h2⟩
  refine wpAny_execs_cons (thn (a.run pins s σ H { D with nx := Mid } I h1) ?_)
  intro fl s1 q
  match fl, q with
  | .next, ⟨σ', H', J, q⟩ => exact b.run pins s1 σ' H' D J (h2 σ' H' q)
  | .ret _, q => exact q
  | .brk, q => exact q
  | .cont, q => exact q

/-! ### heaps -/
def Keep (ex : List Addr) (H H' : Hp) : Prop := ∀ b o, b ∉ ex → H b = some o → H' b = some o
theorem Keep.refl (ex : List Addr) (H : Hp) : Keep ex H H := fun _ _ _ h => h
theorem Keep.trans {ex : List Addr} {H H1 H2 : Hp} (a : Keep ex H H1) (b : Keep ex H1 H2) : Keep ex H H2 := fun c o n h => b c o n (a c o n h)
theorem Keep.mono {ex ex' : List Addr} {H H1 : Hp} (a : Keep ex H H1) (h : ∀ b ∈ ex, b ∈ ex') : Keep ex' H H1 := fun c o n e => a c o (fun z => n (h c z)) e
theorem Keep.new {ex : List Addr} {H H1 : Hp} {p : Addr} {o : HO} (a : Keep ex H H1) (h : H1 p = none) : Keep ex H (upd H1 p o) := fun c u n e => by
  rw [upd_ne (ne_of_none (a c u n e) h)]
  exact a c u n e
theorem Keep.set {ex : List Addr} {H H1 : Hp} {p : Addr} {o : HO} (a : Keep ex H H1) (h : p ∈ ex) : Keep ex H (upd H1 p o) := fun c u n e => by
  rw [upd_ne (fun z => n (by rw [z]; exact h))]
  exact a c u n e
/-- an object that H did not know may change -/
theorem Keep.own {ex : List Addr} {H H1 : Hp} {p : Addr} {o : HO} (a : Keep ex H H1) (h : H p = none) : Keep ex H (upd H1 p o) := fun c u n e => by
  rw [upd_ne (ne_of_none e h)]
  exact a c u n e
theorem Keep.fresh {ex : List Addr} {H H1 : Hp} {p : Addr} (a : Keep ex H H1) (n : p ∉ ex) (h : H1 p = none) : H p = none := by
  cases e : H p with
  | none => rfl
  | some o =>
    rw [a p o n e] at h
    cases h
theorem Keep.rd {ex : List Addr} {H H1 : Hp} {a : Addr} {u : HO} (k : Keep ex H H1) (n : H a ≠ none → a ∉ ex) (h : Rd H a u) : Rd H1 a u := by
  rcases h with h | ⟨o, h⟩
  · exact .inl (k a _ (n (by rw [h]; simp)) h)
  · exact .inr ⟨o, k a _ (n (by rw [h]; simp)) h⟩
theorem Keep.sql {K : PySem.W.Frag} {ex : List Addr} {H H1 : Hp} {a : Addr} {xs : List V} (k : Keep ex H H1) (n : H a ≠ none → a ∉ ex) (h : SqL K H a xs) : SqL K H1 a xs := by
  rcases h with h | h
  · exact .inl (k.rd n h)
  · exact .inr h
theorem Keep.sqt {K : PySem.W.Frag} {ex : List Addr} {H H1 : Hp} {a : Addr} {xs : List V} (k : Keep ex H H1) (n : H a ≠ none → a ∉ ex) (h : SqT K H a xs) : SqT K H1 a xs := by
  rcases h with h | h
  · exact .inl (k.rd n h)
  · exact .inr h
/-- a tabled heap keeps all but the table -/
theorem tabbed_keep {P : Addr} {H H1 : Hp} (h : GxR.Tabbed P H H1) : Keep [P] H H1 := fun b o n e => by
  rw [h.2 b (fun z => n (by rw [z]; exact List.mem_singleton.mpr rfl))]
  exact e
theorem lt_size {n : Nat} (h : n ≤ 100000) : n ≤ sizeLine := Nat.le_trans h (by decide)
theorem lt_size' {n : Nat} (h : n < 100000) : n < sizeLine := Nat.lt_of_lt_of_le h (by decide)
end GL
set_option Elab.async false
set_option linter.all false
set_option maxRecDepth 100000
set_option maxHeartbeats 2000000
/-! Comprehensions whose element is reckoned without a change of the heap. -/
namespace GL
open PySem PySem.Spec PyProof.Rows L2
theorem lc_map {K : PySem.W.Frag} {a : Addr} {xs : List V} {te : TE} {k : Nat} {vs : List Nat} {σ : L2.St} {H1 : Hp} {D : Addr} {Qd : Hp → Prop} (f : V → V) (hS : SqL K H1 a xs) (hD : H1 D = none) (hz : xs.length ≤ 100000)
    (hw : ∀ x, wipe ((wipe σ vs).set k (some x)) vs = wipe σ vs)
    (hel : ∀ x ∈ xs, ∀ (H : Hp) (Q : VK), Keep [] H1 H → Q (f x) H → te ((wipe σ vs).set k (some x)) H Q)
    (hd : ∀ H, Keep [] H1 H → H D = some (.lst (xs.map f)) → Qd H) :
    ∃ W : Nat → Nat → Hp → Prop, (∃ m, W 0 m (upd H1 D (.lst []))) ∧ ∀ i m H, W i m H →
      ((Itl K a).stop i H ∧ Qd H) ∨ ((Itl K a).go i H ∧ ∃ Nx : Hp → Prop, (∀ H', Nx H' → ∃ m', m' < m ∧ W (i + 1) m' H') ∧ ∀ x H', (Itl K a).yld i H x H' → gName k x (wipe σ vs) H' fun σ2 H2 => wipe σ2 vs = wipe σ vs ∧ tYes σ2 H2 fun b H3 =>
        if b = true then te σ2 H3 fun y H4 => ∃ acc, H4 D = some (.lst acc) ∧ acc.length < sizeLine ∧ Nx (upd H4 D (.lst (acc ++ [y]))) else Nx H3) := by
  refine lc_list (xs := xs) (fun i H => Keep [] H1 H ∧ H D = some (.lst ((xs.take i).map f))) ⟨(Keep.refl [] H1).new hD, upd_same⟩ ?_ ?_ ?_
  · rintro i H _ ⟨k1, _⟩
    exact k1.sql (fun _ z => (nomatch z)) hS
  · rintro i x H hx ⟨k1, e1⟩
    refine ⟨hw x, hel x (List.mem_of_getElem? hx) H _ k1 ⟨_, e1, ?_, k1.own hD, ?_⟩⟩
    · rw [List.length_map, List.length_take]
      exact lt_size' (by have := (List.getElem?_eq_some_iff.mp hx).1; omega)
    · rw [upd_same, List.take_add_one, hx, List.map_append]
      rfl
  · rintro H ⟨k1, e1⟩
    rw [List.take_length] at e1
    exact hd H k1 e1
end GL
set_option Elab.async false
set_option linter.all false
set_option maxRecDepth 100000
set_option maxHeartbeats 2000000
/-! enumerate and sum of a list or a tuple; comprehensions with any target. -/
namespace GL
open PySem PySem.Spec PyProof.Rows L2
/-- a list, a tuple -/
def SqB (b : Bool) (K : PySem.W.Frag) (H : Hp) (a : Addr) (xs : List V) : Prop := match b with
  | true => SqL K H a xs
  | false => SqT K H a xs
theorem Keep.sqb {b : Bool} {K : PySem.W.Frag} {ex : List Addr} {H H1 : Hp} {a : Addr} {xs : List V} (k : Keep ex H H1) (n : H a ≠ none → a ∉ ex) (h : SqB b K H a xs) : SqB b K H1 a xs := by
  cases b with
  | true => exact k.sql n h
  | false => exact k.sqt n h
def rSumB (K : PySem.W.Frag) : List V → Hp → VK → Prop := fun vs H Q => ∃ (b : Bool) (a : Addr) (ns : List Int), vs = [V.ref a] ∧ SqB b K H a (ns.map V.int) ∧ Q (.int ns.sum) H
theorem cr_sumB {X : Cx} (hc : X.calm = true) : CallR X (.builtin "sum") (rSumB X.K) := by
  rintro pins s σ H vs us Q I r ⟨b, a, ns, e, hs, q⟩
  cases b with
  | true => exact cr_sum hc pins s σ H vs us Q I r ⟨a, ns, e, hs, q⟩
  | false => exact cr_sumT hc pins s σ H vs us Q I r ⟨a, ns, e, hs, q⟩

/-! ### enumerate -/
def IteB (b : Bool) (K : PySem.W.Frag) (a : Addr) : It :=
  ⟨fun i H => ∃ (xs : List V) (x : V), SqB b K H a xs ∧ xs[i]? = some x, fun i H v H' => ∃ T x, v = .ref T ∧ H T = none ∧ H' = upd H T (.tup [.int (i : Nat), x]) ∧ ∀ xs, SqB b K H a xs → xs[i]? = some x, fun i H => ∃ xs : List V, SqB b K H a xs ∧ xs.length = i⟩
theorem turn_enumL {P : Program} {w : World} {K : PySem.W.Frag} {elts : List Expr} {kk : Nat} {tpos : Pos} (a e it : Addr) :
    Turn P w K (.Tuple elts kk tpos) (IteB true K a) [e, it] e (fun i h => (∃ old, IsEnum h e it ((i : Nat) : Int) old) ∧ h.IsListIter it a i ∧ e ≠ it) := by
  have T := turn_enum (P := P) (w := w) (K := K) (elts := elts) (kk := kk) (tpos := tpos) a e it
  refine ⟨T.mem, T.obj, T.keep, T.item, ?_, T.self⟩
  intro X hP hw hK hc i pins s σ H E I hf st hg
  obtain ⟨xs, h1, h2⟩ := hg
  exact T.done X hP hw hK hc i pins s σ H E I hf st ⟨xs, h1, Nat.le_of_eq h2⟩
theorem turn_enumT {P : Program} {w : World} {K : PySem.W.Frag} {elts : List Expr} {kk : Nat} {tpos : Pos} (a e it : Addr) :
    Turn P w K (.Tuple elts kk tpos) (IteB false K a) [e, it] e (fun i h => (∃ old, IsEnum h e it ((i : Nat) : Int) old) ∧ h.IsTupleIter it a i ∧ e ≠ it) where
  mem := List.mem_cons_self
  obj := by
    rintro i h ⟨⟨old, he⟩, ⟨o, ho, hc, hd⟩, _⟩ b hb
    rcases List.mem_cons.mp hb with z | z
    · rw [z]
      exact ⟨_, he, fun v q => (nomatch q)⟩
    · rw [List.mem_singleton.mp z]
      exact ⟨o, ho, fun v q => by rw [hd] at q; cases q⟩
  keep := by
    rintro i h h' ⟨⟨old, he⟩, hi, hne⟩ k
    exact ⟨⟨old, k e List.mem_cons_self _ he⟩, hi.at (fun o q => k it (List.mem_cons_of_mem _ List.mem_cons_self) o q), hne⟩
  self := by
    rintro A i s Q E ⟨⟨_, he⟩, _⟩ h
    exact wpAny_pyIter_enum he h
  item := by
    intro X hP hw hK hc i pins s σ H E I hf st hg
    subst hP hw hK
    obtain ⟨⟨old, he⟩, hit, hne⟩ := st
    obtain ⟨xs, x, hq, hx⟩ := hg
    obtain ⟨its, rv, p, hz⟩ := I.tuple hq
    obtain ⟨u, hu, ru⟩ := rv.get hx
    have hu2 : its.toArray[i]? = some u := by simpa using hu
    have hel : e < s.heap.objs.size := Heap.lt_size he
    have hil : it < s.heap.objs.size := by obtain ⟨_, q, _⟩ := hit; exact Heap.lt_size q
    have hai : a ≠ it := fun z => by
      obtain ⟨o, e1, c1, _⟩ := p
      obtain ⟨o2, e2, c2, d2⟩ := hit
      rw [z, e2] at e1
      cases e1
      rw [c2] at c1
      exact absurd c1 (by decide)
    have hae : e ≠ a := fun z => by
      obtain ⟨o, e1, c1, _⟩ := p
      have e2 : s.heap.get? e = some _ := he
      rw [← z, e2] at e1
      cases e1
      have c2 : Value.type "enumerate" = Value.type "tuple" := c1
      exact absurd c2 (by decide)
    have nef : e ∉ [it, a] := fun z => by
      rcases List.mem_cons.mp z with z | z
      · exact hne z
      · exact hae (List.mem_singleton.mp z)
    refine wpAny_pyNext_enum_itemD (Draws.tuple (A := X.A.in1) (I.ok.hd hc) it a hai its.toArray) he ⟨hit, p⟩ (Array.getElem?_eq_some_iff.mp hu2).1 hne nef ?_
    intro x' h' tk hP ho hst hT hsz hk
    rw [hu2] at hP
    cases hP
    refine ⟨_, rfl, wpAny_letOwnedTupleGo_enum (s := { s with heap := h', toks := tk + 1 }) ho ?_⟩
    intro h'' he' sb
    have sb2 : ∀ b o, b ≠ e → h'.get? b = some o → h''.get? b = some o := fun b o hb q => (sb.2 b hb).trans q
    have hT2 := sb2 _ _ (Nat.ne_of_gt hel) hT
    have J : Inv X pins σ (upd H s.heap.objs.size (.tup [.int (i : Nat), x])) { s with heap := h'', toks := tk + 1 } :=
      I.turnedNew (ch := [e, it]) (fun b ob hb q => sb2 b ob (fun z => hb (by simp [z])) (hk b ob (fun z => hb (by simp [z])) (fun z => hb (by simp [z])) q)) hf (Nat.le_refl _)
        ⟨by show 2 ≤ sizeLine; decide, [.int i tk, u], .cons ⟨_, rfl⟩ (.cons ru .nil), ⟨_, hT2, rfl, _, rfl⟩⟩
    refine ⟨.ref s.heap.objs.size, _, J, rfl, ⟨_, x, rfl, I.hok.fresh (Nat.le_refl _), rfl, fun ys hy => by rw [I.tuple_inj hy hq]; exact hx⟩, ⟨⟨u, ?_⟩, hst.1.at (fun o q => sb2 it o (Ne.symm hne) q), hne⟩, ?_⟩
    · have e1 : ((i + 1 : Nat) : Int) = (i : Int) + 1 := by omega
      rw [e1]
      exact he'
    · intro b hb
      have lb : b < s.heap.objs.size := by
        rcases List.mem_cons.mp hb with z | z
        · rw [z]
          exact hel
        · rw [List.mem_singleton.mp z]
          exact hil
      rw [upd_ne (Nat.ne_of_lt lb)]
      exact (hf b hb).1
  done := by
    intro X hP hw hK hc i pins s σ H E I hf st hg
    subst hP hw hK
    obtain ⟨⟨old, he⟩, hit, hne⟩ := st
    obtain ⟨xs, hq, hx⟩ := hg
    obtain ⟨its, rv, p, hz⟩ := I.tuple hq
    have hai : a ≠ it := fun z => by
      obtain ⟨o, e1, c1, _⟩ := p
      obtain ⟨o2, e2, c2, d2⟩ := hit
      rw [z, e2] at e1
      cases e1
      rw [c2] at c1
      exact absurd c1 (by decide)
    obtain ⟨f0, f1, f2, f3, f4, f5⟩ := hf it (List.mem_cons_of_mem _ List.mem_cons_self)
    have hn : its.toArray.size = i := by rw [List.size_toArray, ← rv.length, hx]
    refine wpAny_pyNext_enum_endD (Draws.tuple (A := X.A.in1) (I.ok.hd hc) it a hai its.toArray) he (by rw [hn]; exact ⟨hit, p⟩) ?_
    intro h' eb
    exact ⟨rfl, I.turned (t' := s.toks) (fun b o hb q => eb b o hb q) f0 f1 f3 f4 f5⟩

set_option maxHeartbeats 4000000 in
theorem meets_enumT (l : Addr) (items : Array Value) :
    Meets (Builtin.«enumerate.__new__» ⟨[.type "enumerate", .ref l], []⟩) (fun _ R s => s.heap.IsTuple l items ∧
      R (.ok (.ret (.ref (s.heap.push { cls := .type "tuple_iterator", data := .fields #[.ref l, .int 0 0] }).objs.size)))
        { s with heap := (s.heap.push { cls := .type "tuple_iterator", data := .fields #[.ref l, .int 0 0] }).push { cls := .type "enumerate", data := .fields #[.none, .bool false, .ref s.heap.objs.size, rawInt 0, .none, .none] } }) :=
  .of_wp fun prog w A R s h => by
    obtain ⟨hp, g, d, tk, os⟩ := s
    obtain ⟨h1, h⟩ := h
    have hsub := sub_enumerate
    have q1 : ∀ {A' : Around} {E : Value → Shared → Prop} {Q : Value → Shared → Prop}, Q (.ref hp.objs.size) ⟨hp.push { cls := .type "tuple_iterator", data := .fields #[.ref l, .int 0 0] }, g, d, tk, os⟩ → wpAny (model prog w) A' (pyIter (.ref l)) Q E ⟨hp, g, d, tk, os⟩ :=
      fun q => wpAny_pyIter_tuple h1 q
    wp_walk using q1
    refine wpAny_stack_any fun st => wpAny_pure ?_
    split
    · rename_i c _ _ _ _ _
      cases (c == Value.type "enumerate")
      · wp_walk using q1
        exact ⟨_, rfl, h⟩
      · wp_walk using q1
        exact ⟨_, rfl, h⟩
    · wp_walk using q1
      exact ⟨_, rfl, h⟩
theorem call_enumT {prog : Program} {w : World} {A : Around} {E : Value → Shared → Prop} {s : Shared} {l : Addr} {items : Array Value} {Q : Value → Shared → Prop} (hL : s.heap.IsTuple l items)
    (h : ∀ h', IsEnum h' (s.heap.objs.size + 1) s.heap.objs.size 0 .none → h'.IsTupleIter s.heap.objs.size l 0 → h'.objs.size = s.heap.objs.size + 2 → (∀ b o, s.heap.get? b = some o → h'.get? b = some o) → Q (.ref (s.heap.objs.size + 1)) { s with heap := h' }) :
    wpAny (model prog w) A (call (.type "enumerate") [.ref l]) Q E s := by
  refine callType_new F.called_enumerate (by decide) (F.typeCall_enumerate_1 _) (F.newCall_enumerate_1 _) (fun obj => F.args_object_init_2 obj _) F.entry_enumerate_new (meets_enumT l items) ⟨hL, ?_⟩
  have hz : (s.heap.push { cls := .type "tuple_iterator", data := .fields #[.ref l, .int 0 0] }).objs.size = s.heap.objs.size + 1 := Heap.size_push ..
  show _ ∧ _
  rw [hz]
  generalize ho : ({ cls := .type "tuple_iterator", data := .fields #[.ref l, .int 0 0] } : Obj) = o at hz
  have g1 := Heap.get?_push_size (s.heap.push o) (o := { cls := .type "enumerate", data := .fields #[.none, .bool false, .ref s.heap.objs.size, rawInt 0, .none, .none] }) rfl
  rw [hz] at g1
  refine ⟨⟨_, g1, rfl⟩, h _ g1 ⟨o, Heap.get?_push_of_some _ (Heap.get?_push_size _ (by rw [← ho]; rfl)), by rw [← ho], by rw [← ho]; rfl⟩ (by rw [Heap.size_push, hz]) (fun b u x => Heap.get?_push_of_some _ (Heap.get?_push_of_some _ x))⟩
def iEnumB (K : PySem.W.Frag) (ta : TA) : TI := fun σ H R => ta σ H fun vs H1 => ∃ (b : Bool) (a : Addr) (xs : List V), vs = [.ref a] ∧ SqB b K H1 a xs ∧ R (IteB b K a) H1
theorem pi_enumB {X : Cx} {e : Expr} {ta : TA} {p pos tpos : Pos} {elts : List Expr} {kk : Nat} (hg : Gl X "enumerate") (hm : X.mg "enumerate" = none) (ha : PA X [e] ta) (hs : starEach [e] X.env = [(false, eval e X.env)] := by rfl) :
    PI X (.Tuple elts kk tpos) (.Call (.Name "enumerate" p) [e] [] pos) (iEnumB X.K ta) := by
  constructor
  intro pins s σ H R I h
  refine Call_ (ld_blt I hg hm boot_enumerate (PyProof.Rows.callWith_type1 (thn (ha.run pos pins s σ H _ I h) ?_) hs rfl))
  rintro us s1 ⟨vs, H1, I1, r1, b, a, xs, rfl, hq, q⟩
  obtain rfl : us = [Value.ref a] := by
    cases r1 with
    | cons r rr =>
      cases rr
      cases r
      rfl
  have fin : ∀ b, b ∈ [s1.heap.objs.size + 1, s1.heap.objs.size] → FpOk X pins H1 b := by
    intro b hb
    have hle : s1.heap.objs.size ≤ b := by
      rcases List.mem_cons.mp hb with z | z
      · rw [z]
        exact Nat.le_add_right _ _
      · rw [List.mem_singleton.mp z]
        exact Nat.le_refl _
    exact I1.fpOk hle (I1.hok.fresh hle)
  cases b with
  | true =>
    obtain ⟨its, rv, p', hz⟩ := I1.list hq
    refine call_enumerate_list p'.isList fun h' he hit hsz hk => wpAny_pyIter_enum he ?_
    exact ⟨_, _, _, _, H1, rfl, I1.kept (t' := s1.toks) hk, turn_enumL a _ _, ⟨⟨.none, he⟩, hit, Nat.succ_ne_self _⟩, fin, q⟩
  | false =>
    obtain ⟨its, rv, p', hz⟩ := I1.tuple hq
    refine call_enumT p' fun h' he hit hsz hk => wpAny_pyIter_enum he ?_
    exact ⟨_, _, _, _, H1, rfl, I1.kept (t' := s1.toks) hk, turn_enumT a _ _, ⟨⟨.none, he⟩, hit, Nat.succ_ne_self _⟩, fin, q⟩
theorem for_enumB {b : Bool} {K : PySem.W.Frag} {a : Addr} {xs : List V} {g : TG} {tb : TS} {D : Ends} {σ : L2.St} {H : Hp} (Pv : Nat → L2.St → Hp → Prop) (h0 : Pv 0 σ H) (hl : ∀ i σ H, i ≤ xs.length → Pv i σ H → SqB b K H a xs)
    (hs : ∀ i x σ H T, xs[i]? = some x → Pv i σ H → H T = none → g (.ref T) σ (upd H T (.tup [.int (i : Nat), x])) fun σ2 H2 => tb { D with nx := Pv (i + 1), ct := Pv (i + 1), bk := D.nx } σ2 H2) (hd : ∀ σ H, Pv xs.length σ H → D.nx σ H) :
    ∃ W : Nat → Nat → L2.St → Hp → Prop, (∃ m, W 0 m σ H) ∧ ∀ i m σ H, W i m σ H →
      ((IteB b K a).stop i H ∧ D.nx σ H) ∨ ((IteB b K a).go i H ∧ ∃ N : L2.St → Hp → Prop, (∀ σ' H', N σ' H' → ∃ m', m' < m ∧ W (i + 1) m' σ' H') ∧ ∀ x H', (IteB b K a).yld i H x H' → g x σ H' fun σ2 H2 => tb { D with nx := N, ct := N, bk := D.nx } σ2 H2) := by
  refine ⟨fun i m σ H => i + m = xs.length ∧ Pv i σ H, ⟨xs.length, Nat.zero_add _, h0⟩, ?_⟩
  rintro i m σ H ⟨em, p⟩
  have q := hl i σ H (by omega) p
  by_cases hi : i < xs.length
  · refine .inr ⟨⟨xs, xs[i], q, List.getElem?_eq_getElem hi⟩, Pv (i + 1), fun σ' H' p' => ⟨m - 1, by omega, by omega, p'⟩, ?_⟩
    rintro x H' ⟨T, y, rfl, hT, rfl, hy⟩
    exact hs i y σ H T (hy xs q) p hT
  · have e : i = xs.length := by omega
    subst e
    exact .inl ⟨⟨xs, q, rfl⟩, hd σ H p⟩

/-! ### comprehensions with any target -/
theorem lc_mapG {K : PySem.W.Frag} {a : Addr} {xs : List V} {g : TG} {te : TE} {vs : List Nat} {σ : L2.St} {H1 : Hp} {D : Addr} {Qd : Hp → Prop} (f : V → V) (hS : SqL K H1 a xs) (hD : H1 D = none) (hz : xs.length ≤ 100000)
    (hel : ∀ x ∈ xs, ∀ (H : Hp) (Q : VK), Keep [] H1 H → Q (f x) H → g x (wipe σ vs) H fun σ2 H2 => wipe σ2 vs = wipe σ vs ∧ te σ2 H2 Q)
    (hd : ∀ H, Keep [] H1 H → H D = some (.lst (xs.map f)) → Qd H) :
    ∃ W : Nat → Nat → Hp → Prop, (∃ m, W 0 m (upd H1 D (.lst []))) ∧ ∀ i m H, W i m H →
      ((Itl K a).stop i H ∧ Qd H) ∨ ((Itl K a).go i H ∧ ∃ Nx : Hp → Prop, (∀ H', Nx H' → ∃ m', m' < m ∧ W (i + 1) m' H') ∧ ∀ x H', (Itl K a).yld i H x H' → g x (wipe σ vs) H' fun σ2 H2 => wipe σ2 vs = wipe σ vs ∧ tYes σ2 H2 fun b H3 =>
        if b = true then te σ2 H3 fun y H4 => ∃ acc, H4 D = some (.lst acc) ∧ acc.length < sizeLine ∧ Nx (upd H4 D (.lst (acc ++ [y]))) else Nx H3) := by
  refine lc_list (xs := xs) (fun i H => Keep [] H1 H ∧ H D = some (.lst ((xs.take i).map f))) ⟨(Keep.refl [] H1).new hD, upd_same⟩ ?_ ?_ ?_
  · rintro i H _ ⟨k1, _⟩
    exact k1.sql (fun _ z => (nomatch z)) hS
  · rintro i x H hx ⟨k1, e1⟩
    refine hel x (List.mem_of_getElem? hx) H _ k1 ⟨_, e1, ?_, k1.own hD, ?_⟩
    · rw [List.length_map, List.length_take]
      exact lt_size' (by have := (List.getElem?_eq_some_iff.mp hx).1; omega)
    · rw [upd_same, List.take_add_one, hx, List.map_append]
      rfl
  · rintro H ⟨k1, e1⟩
    rw [List.take_length] at e1
    exact hd H k1 e1
end GL
set_option Elab.async false
set_option linter.all false
set_option maxRecDepth 100000
set_option maxHeartbeats 2000000
set_option exponentiation.threshold 10000
/-! What repr asks of data. -/
namespace GL
open PySem PySem.Spec PyProof.Rows L2
structure Show (d : PyData) : Prop where
  s : d.showable = true
  n : d.hasDict = false
  z : d.shown.length ≤ sizeLine
  dp : d.depth ≤ 60
theorem rRepr_of {K : PySem.W.Frag} {H : Hp} {a : Addr} {d : PyData} {Q : VK} (h : Dp K H (.ref a) d) (s : Show d) (q : Q (.str d.shown) H) : rRepr K [.ref a] H Q := ⟨a, d, rfl, h, s.s, s.n, s.dp, s.z, q⟩
/-- an int of not too many figures -/
def Fine (i : Int) : Prop := i.natAbs < 2 ^ 1900
theorem Fine.log {i : Int} (h : Fine i) : i.natAbs.log2 < 1920 := log2_small (Nat.lt_trans h (by decide))
theorem Fine.len {i : Int} (h : Fine i) : (PyData.shown (.int i)).length ≤ 600 := by
  have e := int_text_length_le10 (k := 599) (a := i) (by decide) (Nat.lt_trans h (by decide))
  show (Str.ofString (toString i)).length ≤ 600
  rw [PySem.ofString_length]
  exact e
theorem Fine.of {i : Int} (h0 : 0 ≤ i) (h : i < 2 ^ 1900) : Fine i := by
  unfold Fine
  have e : ((2 ^ 1900 : Nat) : Int) = (2 : Int) ^ 1900 := by simp
  omega
theorem leaves_ints : ∀ ns : List Int, (∀ n ∈ ns, Fine n) → PyData.leavesShortAll 600 (ns.map PyData.int) = true
  | [], _ => rfl
  | n :: r, h => by
    have h1 : PyData.leavesShort 600 (.int n) = true := decide_eq_true (h n List.mem_cons_self).len
    have h2 := leaves_ints r (fun m hm => h m (List.mem_cons_of_mem _ hm))
    simp only [List.map_cons, PyData.leavesShortAll, h1, h2, Bool.and_true]
theorem bulk_ints : ∀ ns : List Int, PyData.bulkAll (ns.map PyData.int) = ns.length
  | [] => rfl
  | n :: r => by
    simp only [List.map_cons, PyData.bulkAll, PyData.bulk, bulk_ints r, List.length_cons]
    omega
theorem noDict_ints : ∀ ns : List Int, PyData.hasDictAll (ns.map PyData.int) = false
  | [] => rfl
  | n :: r => by
    simp only [List.map_cons, PyData.hasDictAll, PyData.hasDict, noDict_ints r, Bool.or_false]
theorem depth_ints : ∀ ns : List Int, PyData.depthAll (ns.map PyData.int) = 0
  | [] => rfl
  | n :: r => by
    simp only [List.map_cons, PyData.depthAll, PyData.depth, depth_ints r, Nat.max_self]
theorem show_of {d : PyData} (h1 : d.showable = true) (h2 : d.hasDict = false) (h3 : d.depth ≤ 60) (h4 : d.leavesShort 600 = true) (h5 : d.bulk ≤ 20000) : Show d := by
  refine ⟨h1, h2, ?_, h3⟩
  have h := PyData.shown_le_bulk 600 (by decide) d h4
  have e : 13000000 ≤ sizeLine := by decide
  omega
theorem show_ints {ns : List Int} (h : ∀ n ∈ ns, Fine n) (hl : ns.length ≤ 1000) : Show (.tuple (ns.map PyData.int)) := by
  refine show_of ?_ ?_ ?_ ?_ ?_
  · simp only [PyData.showable]
    exact PyData.showableAll_ints ns (fun n hn => (h n hn).log)
  · simp only [PyData.hasDict, noDict_ints]
  · simp only [PyData.depth, depth_ints]
    omega
  · simp only [PyData.leavesShort, leaves_ints ns h]
  · simp only [PyData.bulk, bulk_ints]
    omega
/-- a tuple of a tuple of ints and an int -/
theorem show_split {ns : List Int} {t : Int} (h : ∀ n ∈ ns, Fine n) (ht : Fine t) (hl : ns.length ≤ 1000) : Show (.tuple [.tuple (ns.map PyData.int), .int t]) := by
  refine show_of ?_ ?_ ?_ ?_ ?_
  · simp only [PyData.showable, PyData.showableAll, PyData.showableAll_ints ns (fun n hn => (h n hn).log), decide_eq_true ht.log, Bool.and_self]
  · simp only [PyData.hasDict, PyData.hasDictAll, noDict_ints, Bool.or_self]
  · simp only [PyData.depth, PyData.depthAll, depth_ints]
    decide
  · have h1 : decide ((PyData.shown (.int t)).length ≤ 600) = true := decide_eq_true ht.len
    simp only [PyData.leavesShort, PyData.leavesShortAll, leaves_ints ns h, h1, Bool.and_self]
  · simp only [PyData.bulk, PyData.bulkAll, bulk_ints]
    omega
theorem dpAll_ints {K : PySem.W.Frag} {H : Hp} : ∀ ns : List Int, DpAll K H (ns.map V.int) (ns.map PyData.int)
  | [] => .nil
  | x :: r => .cons (.int x) (dpAll_ints r)
theorem dp_split {K : PySem.W.Frag} {H : Hp} {s t : Addr} {ns : List Int} {m : Int} (hs : SqT K H s [.ref t, .int m]) (ht : SqT K H t (ns.map V.int)) : Dp K H (.ref s) (.tuple [.tuple (ns.map PyData.int), .int m]) :=
  .tup hs (.cons (.tup ht (dpAll_ints ns)) (.cons (.int m) .nil))
end GL
set_option Elab.async false
set_option linter.all false
set_option maxRecDepth 100000
set_option maxHeartbeats 2000000
namespace K07
open PySem PySem.Spec PyProof.Rows L2 GL
def top (i : Nat) : Stmt := PySem.Challenge.pw_leapranks_k07_splits_made.main.body.getD i (.Pass ⟨0, 0, 0, 0⟩)
abbrev FnP (K : PySem.W.Frag) (x : Str) (st : Stmt) (f : Addr) (fd : FuncData) : Prop := FunD K x x (defArgs st) (defBody st) (defScope st) [] [] f fd
abbrev sGcd : Stmt := top 1
abbrev sGcdAll : Stmt := top 2
abbrev sFrac : Stmt := top 4
abbrev sSplit : Stmt := top 6
abbrev sShare : Stmt := top 7
abbrev sPen : Stmt := top 9
abbrev sDraw : Stmt := top 10
abbrev sMeas : Stmt := top 11
abbrev sGreat : Stmt := top 12
abbrev sNums : Stmt := top 13
abbrev sMany : Stmt := top 14
abbrev sRight : Stmt := top 15
abbrev sLaw : Stmt := top 16
theorem scGcd : FnScope ["one", "other"] ["one", "other"] (defScope sGcd) := ⟨rfl, rfl, rfl, by decide +kernel, rfl, by decide +kernel, by decide +kernel⟩
theorem scGcdAll : FnScope ["numbers", "divisor", "number"] ["numbers"] (defScope sGcdAll) := ⟨rfl, rfl, rfl, by decide +kernel, rfl, by decide +kernel, by decide +kernel⟩
theorem scFrac : FnScope ["top", "bottom", "divisor"] ["top", "bottom"] (defScope sFrac) := ⟨rfl, rfl, rfl, by decide +kernel, rfl, by decide +kernel, by decide +kernel⟩
theorem scSplit : FnScope ["numbers", "divisor", "parts"] ["numbers"] (defScope sSplit) := ⟨rfl, rfl, rfl, by decide +kernel, rfl, by decide +kernel, by decide +kernel⟩
theorem scShare : FnScope ["split", "a", "numbers", "total"] ["split", "a"] (defScope sShare) := ⟨rfl, rfl, rfl, by decide +kernel, rfl, by decide +kernel, by decide +kernel⟩
theorem scPen : FnScope ["_law_script"] ["_law_script"] (defScope sPen) := ⟨rfl, rfl, rfl, by decide +kernel, rfl, by decide +kernel, by decide +kernel⟩
theorem scDraw : FnScope ["_law_pen_here", "_law_many_here", "_law_digit", "_law_script", "_law_at", "_law_cell", "_law_prime", "_law_number"] ["_law_pen_here", "_law_many_here"] (defScope sDraw) := ⟨rfl, rfl, rfl, by decide +kernel, rfl, by decide +kernel, by decide +kernel⟩
theorem scMeas : FnScope ["_law_numbers_here", "_law_found", "_law_number"] ["_law_numbers_here"] (defScope sMeas) := ⟨rfl, rfl, rfl, by decide +kernel, rfl, by decide +kernel, by decide +kernel⟩
theorem scGreat : FnScope ["_law_pen_here", "_law_most", "_law_found", "_law_k"] ["_law_pen_here", "_law_most"] (defScope sGreat) := ⟨rfl, rfl, rfl, by decide +kernel, rfl, by decide +kernel, by decide +kernel⟩
theorem scNums : FnScope ["_law_pen_here", "_law_many_here", "_law_most", "_law_way", "_law_found", "_law_k", "_law_by", "_law_number"] ["_law_pen_here", "_law_many_here", "_law_most"] (defScope sNums) := ⟨rfl, rfl, rfl, by decide +kernel, rfl, by decide +kernel, by decide +kernel⟩
theorem scMany : FnScope ["_law_pen_here", "_law_way"] ["_law_pen_here"] (defScope sMany) := ⟨rfl, rfl, rfl, by decide +kernel, rfl, by decide +kernel, by decide +kernel⟩
theorem scRight : FnScope ["_law_split", "_law_numbers_here", "_law_total", "_law_bottoms", "_law_shares", "_law_a", "_law_number", "_law_by", "_law_found", "_law_top", "_law_bottom"] ["_law_split", "_law_numbers_here"] (defScope sRight) := ⟨rfl, rfl, rfl, by decide +kernel, rfl, by decide +kernel, by decide +kernel⟩
theorem scLaw : FnScope ["_law_script", "_law_pen_here", "_law_turn", "_law_by", "_law_numbers_here", "_law_handed", "_law_divisor", "_law_due", "_law_some", "_law_split", "_law_number"] ["_law_script"] (defScope sLaw) := ⟨rfl, rfl, rfl, by decide +kernel, rfl, by decide +kernel, by decide +kernel⟩

section
variable {P : Program} {w : World} {K : PySem.W.Frag} {mg : Str → Option Value} {base : Heap}
/-! ### common_divisor -/
def spGcd : Sp := fun vs H Q _ => ∃ a b : Int, vs = [.int a, .int b] ∧ Q (.int (Nat.gcd a.natAbs b.natAbs)) H
theorem ok_gcd {f : Addr} {fd : FuncData} {k : Nat} (F : FnP K "common_divisor" sGcd f fd) (mabs : mg "abs" = none) : FnOk P w K mg base CX0 (k + 1) f fd ["one", "other"] spGcd := by
  refine F.ok scGcd (fun vs H Q E h => ?_) (fun cdv A outer s H vs Q E hr h => ?_)
  · obtain ⟨a, b, rfl, _⟩ := h
    rfl
  · obtain ⟨a, b, rfl, q⟩ := h
    refine ⟨_, PSs.nox (pss_cons (ps_par (i := 0) (j := 1) rfl scGcd.nd rfl rfl (by decide) rfl rfl
          (pa_cons (pe_callB call_abs (by rfl) mabs (by decide +kernel) (pa_cons (pv 0) pa_nil)) (pa_cons (pe_callB call_abs (by rfl) mabs (by decide +kernel) (pa_cons (pv 1) pa_nil)) pa_nil)) rfl)
      (pss_cons (ps_while PassesOwn.never (pt_cmpR op_gt (pv 1) pe_int (nomark _))
          (pss_one (ps_par (i := 0) (j := 1) rfl scGcd.nd rfl rfl (by decide) rfl rfl (pa_cons (pv 1) (pa_cons (pe_op op_mod (pv 0) (pv 1)) pa_nil)) rfl)))
      (pss_one (ps_ret (pv 0))))), ?_⟩
    refine ⟨_, rfl, a, rfl, _, rfl, b, rfl, _, _, rfl, ?_⟩
    have e1 : ∀ x : Int, (if x < 0 then -x else x) = (x.natAbs : Int) := fun x => by split <;> omega
    rw [e1 a, e1 b]
    refine ⟨fun m σ H' => ∃ x y : Nat, σ = [some (.int x), some (.int y)] ∧ y = m ∧ Nat.gcd x y = Nat.gcd a.natAbs b.natAbs ∧ H = H', ⟨_, _, _, rfl, rfl, rfl, rfl⟩, ?_⟩
    rintro m σ H' ⟨x, y, rfl, rfl, eg, rfl⟩
    refine ⟨_, rfl, _, _, rfl, rfl, _, rfl, ite2 (fun c => ?_) (fun c => ?_)⟩
    · have hy : 0 < y := by
        have := of_decide_eq_true c
        omega
      refine ⟨fun σ' H' => ∃ x' y' : Nat, σ' = [some (.int x'), some (.int y')] ∧ y' < y ∧ Nat.gcd x' y' = Nat.gcd a.natAbs b.natAbs ∧ H = H', ?_, ?_⟩
      · rintro σ' H' ⟨x', y', rfl, h1, h2, rfl⟩
        exact ⟨y', h1, x', y', rfl, rfl, h2, rfl⟩
      · refine ⟨_, rfl, _, rfl, _, rfl, _, _, rfl, rfl, (by omega), _, _, rfl, y, x % y, rfl, Nat.mod_lt _ hy, ?_, rfl⟩
        rw [← eg, Nat.gcd_comm x y, Nat.gcd_rec y x, Nat.gcd_comm]
    · have hy : y = 0 := by
        have := mt decide_eq_true c
        omega
      subst hy
      rw [Nat.gcd_zero_right] at eg
      refine ⟨_, rfl, ?_⟩
      rw [eg]
      exact q
end
end K07
set_option Elab.async false
set_option linter.all false
set_option maxRecDepth 100000
set_option maxHeartbeats 2000000
set_option exponentiation.threshold 10000
namespace K07
open PySem PySem.Spec PyProof.Rows L2 GL
section
variable {P : Program} {w : World} {K : PySem.W.Frag} {mg : Str → Option Value} {base : Heap}

/-! ### common_divisor_of_all -/
def gcdAll (ns : List Int) : Nat := ns.foldl (fun g x => Nat.gcd g x.natAbs) 0
def spGcdAll (K : PySem.W.Frag) : Sp := fun vs H Q _ => ∃ (a : Addr) (ns : List Int), vs = [.ref a] ∧ SqT K H a (ns.map V.int) ∧ Q (.int (gcdAll ns)) H
theorem foldl_take {α β : Type} (f : β → α → β) (b : β) {xs : List α} {i : Nat} {x : α} (h : xs[i]? = some x) : (xs.take (i + 1)).foldl f b = f ((xs.take i).foldl f b) x := by
  rw [List.take_add_one, h]
  simp
theorem ok_gcdAll {f : Addr} {fd : FuncData} (F : FnP K "common_divisor_of_all" sGcdAll f fd) (c_common_divisor : Cal P w K mg base 1 "common_divisor" spGcd) :
    FnOk P w K mg base CX0 2 f fd ["numbers"] (spGcdAll K) := by
  refine F.ok scGcdAll (fun vs H Q E h => ?_) (fun cdv A outer s H vs Q E hr h => ?_)
  · obtain ⟨a, ns, rfl, _⟩ := h
    rfl
  · obtain ⟨a, ns, rfl, hT, q⟩ := h
    refine ⟨_, PSs.nox (pss_cons (ps_set (i := 1) scGcdAll.nd rfl (.inl rfl) pe_int)
    (pss_cons (ps_for PassesOwn.never rfl (pi_tup (pv 0)) (pg_name (i := 2) scGcdAll.nd rfl (.inl rfl))
      (pss_one (ps_set (i := 1) scGcdAll.nd rfl (.inl rfl) (pe_k c_common_divisor (hr.mono (by decide)) (by rfl) (pa_cons (pv 1) (pa_cons (pv 2) pa_nil))))))
    (pss_one (ps_ret (pv 1))))), ?_⟩
    refine ⟨_, rfl, a, rfl, ⟨_, hT⟩, for_tup (xs := ns.map V.int) (fun i σ H' => ∃ y, σ = [some (.ref a), some (.int (gcdAll (ns.take i))), y] ∧ H = H') ⟨_, rfl, rfl⟩ ?_ ?_ ?_⟩
    · rintro i σ H' _ ⟨y, rfl, rfl⟩
      exact hT
    · rintro i x σ H' hx ⟨y, rfl, rfl⟩
      rw [List.getElem?_map] at hx
      obtain ⟨n, hn, rfl⟩ := Option.map_eq_some_iff.mp hx
      refine ⟨_, rfl, _, rfl, _, _, rfl, some (.int n), ?_, rfl⟩
      unfold gcdAll
      rw [foldl_take _ _ hn]
      rfl
    · rintro σ H' ⟨y, rfl, rfl⟩
      refine ⟨_, rfl, ?_⟩
      rw [List.length_map, List.take_length]
      exact q

/-! ### fraction: of a positive bottom -/
def spFrac : Sp := fun vs H Q _ => ∃ t b : Int, vs = [.int t, .int b] ∧ 0 < b ∧ b < 2 ^ 2000 ∧ ∀ p H', H p = none → Keep [] H H' → H' p = some (.tup [.int (t / (Nat.gcd t.natAbs b.natAbs : Nat)), .int (b / (Nat.gcd t.natAbs b.natAbs : Nat))]) → Q (.ref p) H'
theorem gcd_pos {t b : Int} (h : 0 < b) : 0 < Nat.gcd t.natAbs b.natAbs := Nat.gcd_pos_of_pos_right _ (by omega)
theorem gcd_le {t b : Int} (h : 0 < b) : ((Nat.gcd t.natAbs b.natAbs : Nat) : Int) ≤ b := by
  have := Nat.gcd_le_right t.natAbs (n := b.natAbs) (by omega)
  omega
theorem div_ok {i j : Int} (h0 : 0 < j) (h : j < 2 ^ 2000) : CDivW i j := wide_div h0 (b := 2000) (by
  have e : ((2 ^ 2000 : Nat) : Int) = (2 : Int) ^ 2000 := by simp
  omega) (by decide) (by decide)
theorem ok_frac {f : Addr} {fd : FuncData} (F : FnP K "fraction" sFrac f fd) (c_common_divisor : Cal P w K mg base 1 "common_divisor" spGcd) :
    FnOk P w K mg base CX0 2 f fd ["top", "bottom"] spFrac := by
  refine F.ok scFrac (fun vs H Q E h => ?_) (fun cdv A outer s H vs Q E hr h => ?_)
  · obtain ⟨t, b, rfl, _⟩ := h
    rfl
  · obtain ⟨t, b, rfl, hb, hb2, q⟩ := h
    refine ⟨_, PSs.nox (pss_cons (ps_set (i := 2) scFrac.nd rfl (.inl rfl) (pe_k c_common_divisor (hr.mono (by decide)) (by rfl) (pa_cons (pv 0) (pa_cons (pv 1) pa_nil))))
    (pss_cons (ps_if (pt_cmpR op_lt (pv 1) pe_int (nomark _))
      (pss_one (ps_set (i := 2) scFrac.nd rfl (.inl rfl) (pe_un un_neg (pv 2))))
      pss_nil)
    (pss_one (ps_ret (pe_tup (pa_cons (pe_op op_fdivW (pv 0) (pv 2)) (pa_cons (pe_op op_fdivW (pv 1) (pv 2)) pa_nil))))))), ?_⟩
    refine ⟨_, rfl, _, rfl, t, b, rfl, ?_⟩
    refine ⟨_, rfl, b, 0, rfl, rfl, _, rfl, ite2 (fun c => ?_) (fun _ => ?_)⟩
    · have := of_decide_eq_true c
      omega
    · have h1 := gcd_pos (t := t) hb
      have h2 := gcd_le (t := t) hb
      have hd : ∀ i : Int, CDivW i ((Nat.gcd t.natAbs b.natAbs : Nat) : Int) := fun i => div_ok (by omega) (Int.lt_of_le_of_lt h2 hb2)
      exact ⟨_, rfl, _, rfl, t, _, rfl, rfl, hd _, _, rfl, _, rfl, b, _, rfl, rfl, hd _, (by show 2 ≤ sizeLine; decide), fun p np => q p _ np ((Keep.refl [] H).new np) upd_same⟩

/-! ### share_of -/
def spShare (K : PySem.W.Frag) : Sp := fun vs H Q _ => ∃ (s t : Addr) (ns : List Int) (total : Int) (j : Nat) (n : Int), vs = [.ref s, .int j] ∧ SqT K H s [.ref t, .int total] ∧ SqT K H t (ns.map V.int) ∧ ns[j]? = some n ∧ 0 < total ∧ total < 2 ^ 2000 ∧
  ∀ p H', H p = none → Keep [] H H' → H' p = some (.tup [.int (n / (Nat.gcd n.natAbs total.natAbs : Nat)), .int (total / (Nat.gcd n.natAbs total.natAbs : Nat))]) → Q (.ref p) H'
theorem ok_share {f : Addr} {fd : FuncData} (F : FnP K "share_of" sShare f fd) (c_fraction : Cal P w K mg base 2 "fraction" spFrac) :
    FnOk P w K mg base CX0 3 f fd ["split", "a"] (spShare K) := by
  refine F.ok scShare (fun vs H Q E h => ?_) (fun cdv A outer s H vs Q E hr h => ?_)
  · obtain ⟨s, t, ns, total, j, n, rfl, _⟩ := h
    rfl
  · obtain ⟨s, t, ns, total, j, n, rfl, h1, h2, h3, h4, h5, q⟩ := h
    refine ⟨_, PSs.nox (pss_cons (ps_asg (pv 0) (pg_tup rfl (pgs_cons (pg_name (i := 2) scShare.nd rfl (.inl rfl)) (pgs_cons (pg_name (i := 3) scShare.nd rfl (.inl rfl)) pgs_nil))))
    (pss_one (ps_ret (pe_k c_fraction (hr.mono (by decide)) (by rfl) (pa_cons (pe_ix ix_tup (pv 2) (pv 1) (fun _ _ => rfl)) (pa_cons (pv 3) pa_nil)))))), ?_⟩
    refine ⟨_, rfl, s, _, rfl, h1, rfl, _, _, rfl, _, _, rfl, rfl, ?_⟩
    refine ⟨_, rfl, _, rfl, t, _, _, .int n, rfl, rfl, h2, atI_nat (by rw [List.getElem?_map, h3]; rfl), _, rfl, n, total, rfl, h4, h5, q⟩
end
end K07
set_option Elab.async false
set_option linter.all false
set_option maxRecDepth 100000
set_option maxHeartbeats 2000000
set_option exponentiation.threshold 10000
namespace GL
open PySem PySem.Spec PyProof.Rows L2
/-- a def by its body, the code object known -/
theorem okC {P : Program} {w : World} {K : PySem.W.Frag} {mg : Str → Option Value} {base : Heap} {k : Nat} {f : Addr} {fd : FuncData} {ps : List Str} {sp : Sp}
    {x qual : Str} {params : Arguments} {body : List Stmt} {scope : Scope} {dvs : List V} {kws : List (Str × V)} {N : List Str} (F : FunD K x qual params body scope dvs kws f fd) (S : FnScope N ps scope)
    (len : ∀ vs H Q E, sp vs H Q E → vs.length = ps.length)
    (hbody : ∀ (cdv : Value) (A : Around) (outer : List Env) (s : Shared) (H : Hp) (vs : List V) (Q : VK) (E : XK), fd.code = cdv →
      Room k (A.deeper (envOfC qual scope s.heap.objs.size f cdv)) → sp vs H Q E →
      ∃ t, PSs (cxOf CX0 P w K mg base N qual scope f cdv A outer s H E).nox body t ∧ t { nx := fun _ H' => Q .non H', rt := Q } (start N vs) H) :
    FnOk P w K mg base CX0 (k + 1) f fd ps sp := by
  obtain ⟨oc, od, dV, kV, doc, pm, an, cdv, ct, osl, rfl, lk, hcd, _, _⟩ := F.ex
  refine fn_of lk hcd S len ?_
  intro A outer s H vs Q E hr hsp
  obtain ⟨t, ht, hq⟩ := hbody cdv A outer s H vs Q E rfl hr hsp
  exact ⟨t, ht.nox, hq⟩
/-- the scope of a generator expression that captures cells of its def alone -/
theorem genS_mk {qual : Str} {sc scope : Scope} {n : Nat} {f : Addr} {cdv : Value} {x : Str} (h1 : scope.kind = .function) (h2 : scope.isCoroutine = false) (h3 : scope.names.all (fun y => decide (y.2 ≠ .cell)) = true)
    (h4 : scope.names.lookup (".0" : Str) = some NameKind.local) (h5 : scope.names.lookup x = some .local) (h6 : scope.names.all (fun y => decide (y.2 ≠ .free) || decide (sc.names.lookup y.1 = some .cell)) = true) :
    GxR.GenS (envOfC qual sc n f cdv) scope x := by
  refine ⟨h1, h2, fun y hy => of_decide_eq_true (List.all_eq_true.mp h3 y hy), h4, h5, fun y hy hf => ?_⟩
  have h := List.all_eq_true.mp h6 y hy
  rw [hf, Bool.or_eq_true] at h
  rcases h with h | h
  · exact absurd rfl (of_decide_eq_true h)
  · exact cell_has (of_decide_eq_true h)
end GL
namespace K07
open PySem PySem.Spec PyProof.Rows L2 GL
section
variable {P : Program} {w : World} {K : PySem.W.Frag} {mg : Str → Option Value} {base : Heap}
/-! ### split_of -/
def partsOf (ns : List Int) : List Int := ns.map fun n => n / (gcdAll ns : Int)
def spSplit (K : PySem.W.Frag) (T : Addr) : Sp := fun vs H Q _ => ∃ (a : Addr) (ns : List Int), vs = [.ref a] ∧ SqT K H a (ns.map V.int) ∧ ns.length ≤ 1000 ∧ 0 < gcdAll ns ∧ (gcdAll ns : Int) < 2 ^ 2000 ∧ GxR.TabG H T ∧
  ∀ H' t p, Keep [T] H H' → GxR.TabG H' T → H t = none → H p = none → H' t = some (.tup ((partsOf ns).map V.int)) → H' p = some (.tup [.ref t, .int (partsOf ns).sum]) → Q (.ref p) H'
def fDiv (σ : L2.St) (v : V) : V := match (σ[1]? : Option (Option V)), v with
  | some (some (V.int g)), V.int n => V.int (n / g)
  | _, _ => V.non
def dDiv (σ : L2.St) (v : V) : Prop := ∃ n g : Int, v = .int n ∧ σ[1]? = some (some (.int g)) ∧ CDivW n g
theorem ok_split {f c T : Addr} {fd : FuncData} (F : FnP K "split_of" sSplit f fd) (hcd : fd.code = .ref c) (TB : GxR.TabB base mg c T) (m_tuple : mg "tuple" = none) (m_sum : mg "sum" = none)
    (c_common_divisor_of_all : Cal P w K mg base 2 "common_divisor_of_all" (spGcdAll K)) : FnOk P w K mg base CX0 3 f fd ["numbers"] (spSplit K T) := by
  refine okC F scSplit (fun vs H Q E h => ?_) (fun cdv A outer s H vs Q E hcv hr h => ?_)
  · obtain ⟨a, ns, rfl, _⟩ := h
    rfl
  · obtain ⟨a, ns, rfl, hT, hlen, hg0, hg1, hTab, q⟩ := h
    obtain rfl : cdv = .ref c := hcv.symm.trans hcd
    refine ⟨_, PSs.nox (pss_cons (ps_set (i := 1) scSplit.nd rfl (.inr rfl) (pe_k c_common_divisor_of_all (hr.mono (by decide)) (by rfl) (pa_cons (pv 0) pa_nil)))
    (pss_cons (ps_set (i := 2) scSplit.nd rfl (.inl rfl) (pe_tupG (dom := dDiv) (f := fDiv) hr (by rfl) m_tuple TB rfl (genS_mk (by rfl) (by rfl) (by decide +kernel) (by rfl) (by rfl) (by decide +kernel)) (pv 0) (by
        intro σ pins H1 s1 cenv A' E' v u s2 m2 I hTb hsc hce hA hD hU hdom ru hn hm hk
        obtain ⟨n, g, rfl, hg, hdv⟩ := hdom
        obtain ⟨tn, rfl⟩ := ru
        refine wpAny_BinOp (elt_own hsc (by rfl) (by rfl) hn hm ?_)
        refine elt_cap I hTb hsc (by rfl) hce hk (by decide +kernel) (by rfl) (i := 1) rfl (by rfl) hg ?_
        rintro u ⟨tg, rfl⟩
        have h1 : (0 : Int) < g := hdv.1
        refine floordiv_int (by omega) ?_ (.inl (PyProof.noPylong_of_log2 hdv.2))
        rw [Int.fdiv_eq_ediv_of_nonneg n (by omega)]
        refine ⟨?_, GxR.keeps_tok _ _⟩
        unfold fDiv
        rw [hg]
        exact ⟨_, rfl⟩) (fun _ => rfl)))
    (pss_one (ps_ret (pe_tup (pa_cons (pv 2) (pa_cons (pe_callB (cr_sumT rfl) (by rfl) m_sum (by decide +kernel) (pa_cons (pv 2) pa_nil)) pa_nil))))))), ?_⟩
    refine ⟨_, rfl, a, ns, rfl, hT, ?_⟩
    have hdv : ∀ n : Int, CDivW n (gcdAll ns : Int) := fun n => div_ok (by omega) hg1
    refine ⟨_, rfl, a, _, rfl, .inr hT, ?_, hTab, ?_, ?_⟩
    · intro v hv
      obtain ⟨n, _, rfl⟩ := List.mem_map.mp hv
      exact ⟨n, _, rfl, rfl, hdv n⟩
    · rw [List.length_map]
      exact lt_size (by omega)
    · intro H2 hT2 t ht
      have e1 : ((ns.map V.int).map (fDiv [some (.ref a), some (.int (gcdAll ns)), none])) = (partsOf ns).map V.int := by
        unfold partsOf
        rw [List.map_map, List.map_map]
        rfl
      have tT : t ≠ T := fun z => by
        obtain ⟨ps, e, _⟩ := hT2.1
        rw [z, e] at ht
        cases ht
      refine ⟨_, rfl, _, rfl, t, partsOf ns, rfl, .of (by rw [← e1]; exact upd_same), (by show 2 ≤ sizeLine; decide), ?_⟩
      intro p hp
      have pt : p ≠ t := fun z => by
        rw [z, upd_same] at hp
        cases hp
      have hp2 : H2 p = none := by
        rw [upd_ne pt] at hp
        exact hp
      have pT : p ≠ T := fun z => by
        obtain ⟨ps, e, _⟩ := hT2.1
        rw [z, e] at hp2
        cases hp2
      have k2 := tabbed_keep hT2
      refine q _ t p ((k2.new ht).new hp) ?_ ?_ ?_ ?_ upd_same
      · obtain ⟨ps, e, tr⟩ := hT2.1
        exact ⟨ps, by rw [upd_ne pT.symm, upd_ne tT.symm]; exact e, tr⟩
      · exact k2.fresh (fun z => tT (List.mem_singleton.mp z)) ht
      · exact k2.fresh (fun z => pT (List.mem_singleton.mp z)) hp2
      · rw [upd_ne pt.symm, upd_same, ← e1]
        rfl
end
end K07
set_option Elab.async false
set_option linter.all false
set_option maxRecDepth 100000
set_option maxHeartbeats 2000000
set_option exponentiation.threshold 10000
namespace K07
open PySem PySem.Spec PyProof.Rows L2 GL
/-! ### the pen -/
def penL (a : Addr) (i l : Int) : List (Key × V) := [(.inr "script", .ref a), (.inr "at", .int i), (.inr "left", .int l)]
theorem pen_script (a : Addr) (i l : Int) : valV (penL a i l) (.inr "script") = some (.ref a) := by rfl
theorem pen_at (a : Addr) (i l : Int) : valV (penL a i l) (.inr "at") = some (.int i) := by rfl
theorem pen_left (a : Addr) (i l : Int) : valV (penL a i l) (.inr "left") = some (.int l) := by rfl
theorem put_at (a : Addr) (i l j : Int) : putK (penL a i l) (.inr "at") (.int j) = penL a j l := by rfl
theorem put_left (a : Addr) (i l j : Int) : putK (penL a i l) (.inr "left") (.int j) = penL a i j := by rfl
theorem get_script {H : Hp} {d a : Addr} {i l : Int} (h : H d = some (.dK (penL a i l))) : DGet H d (.str "script") (some (.ref a)) := by
  have := DGet.k (k := .inr "script") h
  rw [pen_script] at this
  exact this
theorem get_at {H : Hp} {d a : Addr} {i l : Int} (h : H d = some (.dK (penL a i l))) : DGet H d (.str "at") (some (.int i)) := by
  have := DGet.k (k := .inr "at") h
  rw [pen_at] at this
  exact this
theorem get_left {H : Hp} {d a : Addr} {i l : Int} (h : H d = some (.dK (penL a i l))) : DGet H d (.str "left") (some (.int l)) := by
  have := DGet.k (k := .inr "left") h
  rw [pen_left] at this
  exact this
theorem dput_at {H : Hp} {d a : Addr} {i l j : Int} (h : H d = some (.dK (penL a i l))) : DPut H d (.str "at") (.int j) (upd H d (.dK (penL a j l))) := by
  have := DPut.k (k := .inr "at") (v := .int j) h (by show 3 < sizeLine; decide)
  rw [put_at] at this
  exact this
theorem dput_left {H : Hp} {d a : Addr} {i l j : Int} (h : H d = some (.dK (penL a i l))) : DPut H d (.str "left") (.int j) (upd H d (.dK (penL a i j))) := by
  have := DPut.k (k := .inr "left") (v := .int j) h (by show 3 < sizeLine; decide)
  rw [put_left] at this
  exact this
/-- the pen at d, over the script at a, behind at most n draws -/
structure Pen (K : PySem.W.Frag) (H : Hp) (d a : Addr) (ns : List Int) (n : Nat) : Prop where
  at_ : ∃ i l : Int, H d = some (.dK (penL a i l)) ∧ 0 ≤ i ∧ i ≤ n ∧ 0 ≤ l
  script : SqL K H a (ns.map V.int)
  few : ns.length ≤ 63
theorem Pen.some {K : PySem.W.Frag} {H : Hp} {d a : Addr} {ns : List Int} {n : Nat} (p : Pen K H d a ns n) : ∃ kvs, H d = some (.dK kvs) := let ⟨_, _, h, _⟩ := p.at_; ⟨_, h⟩
theorem Pen.mono {K : PySem.W.Frag} {H : Hp} {d a : Addr} {ns : List Int} {n m : Nat} (p : Pen K H d a ns n) (h : n ≤ m) : Pen K H d a ns m := by
  obtain ⟨i, l, h1, h2, h3, h4⟩ := p.at_
  exact ⟨⟨i, l, h1, h2, by omega, h4⟩, p.script, p.few⟩
theorem Pen.apart {K : PySem.W.Frag} {H : Hp} {d a : Addr} {ns : List Int} {n : Nat} (p : Pen K H d a ns n) : ∀ {xs : List V} {b : Addr}, Rd H b (.lst xs) → b ≠ d := by
  intro xs b h z
  obtain ⟨kvs, e⟩ := p.some
  rcases h with h | ⟨o, h⟩
  · rw [z, e] at h
    cases h
  · rw [z, e] at h
    cases h
theorem sql_upd {K : PySem.W.Frag} {H : Hp} {d a : Addr} {xs : List V} {kvs : List (Key × V)} {o : HO} (h : SqL K H a xs) (e : H d = some (.dK kvs)) : SqL K (upd H d o) a xs := by
  rcases h with h | h
  · have n : a ≠ d := by
      intro z
      rcases h with h | ⟨o, h⟩
      · rw [z, e] at h
        cases h
      · rw [z, e] at h
        cases h
    rcases h with h | ⟨o, h⟩
    · exact .inl (.inl (by rw [upd_ne n]; exact h))
    · exact .inl (.inr ⟨o, by rw [upd_ne n]; exact h⟩)
  · exact .inr h
/-- the pen stands where all but other places is kept -/
theorem Pen.keep {K : PySem.W.Frag} {H H' : Hp} {d a : Addr} {ns : List Int} {n : Nat} {ex : List Addr} (p : Pen K H d a ns n) (k : Keep ex H H') (h : ∀ b ∈ ex, b ≠ d ∧ (∀ xs, ¬ Rd H b (.lst xs))) : Pen K H' d a ns n := by
  obtain ⟨i, l, h1, h2, h3, h4⟩ := p.at_
  refine ⟨⟨i, l, k d _ (fun z => (h d z).1 rfl) h1, h2, h3, h4⟩, ?_, p.few⟩
  rcases p.script with q | q
  · exact .inl (k.rd (fun _ z => (h a z).2 _ q) q)
  · exact .inr q
section
variable {P : Program} {w : World} {K : PySem.W.Frag} {mg : Str → Option Value} {base : Heap}
def spPen (K : PySem.W.Frag) : Sp := fun vs H Q _ => ∃ (a : Addr) (ns : List Int), vs = [.ref a] ∧ SqL K H a (ns.map V.int) ∧ ns.length ≤ 63 ∧ ∀ d H', H d = none → Keep [] H H' → Pen K H' d a ns 0 → Q (.ref d) H'
theorem ok_pen {f : Addr} {fd : FuncData} {k : Nat} (F : FnP K "_law_pen" sPen f fd) : FnOk P w K mg base CX0 (k + 1) f fd ["_law_script"] (spPen K) := by
  refine F.ok scPen (fun vs H Q E h => ?_) (fun cdv A outer s H vs Q E hr h => ?_)
  · obtain ⟨a, ns, rfl, _⟩ := h
    rfl
  · obtain ⟨a, ns, rfl, hS, hl, q⟩ := h
    refine ⟨_, PSs.nox (pss_one (ps_ret (pe_disp (pps_cons pe_str (pv 0) (pps_cons pe_str pe_int (pps_cons pe_str pe_int pps_nil))) (by rfl) (by rfl) (fun z => by cases z) (by decide)))), ?_⟩
    intro d hd
    refine ⟨_, rfl, upd_same, penL a 0 0, rfl, (by show 3 ≤ 15; decide), ?_⟩
    have e : mergeK [] (penL a 0 0) = penL a 0 0 := by rfl
    rw [e]
    have k : Keep [] H (upd (upd H d (.dK [])) d (.dK (penL a 0 0))) := ((Keep.refl [] H).new hd).own hd
    exact q d _ hd k ⟨⟨0, 0, upd_same, by omega, by omega, by omega⟩, k.sql (fun _ z => (nomatch z)) hS, hl⟩

/-! ### draws -/
def spDraw (K : PySem.W.Frag) : Sp := fun vs H Q _ => ∃ (d a : Addr) (ns : List Int) (n : Nat) (m : Int), vs = [.ref d, .int m] ∧ Pen K H d a ns n ∧ n ≤ 1000000 ∧ 0 < m ∧ m ≤ 1000000 ∧
  ∀ (r : Int) (H' : Hp), 0 ≤ r → r < m → Keep [d] H H' → Pen K H' d a ns (n + 1) → Q (.int r) H'
theorem small_div {i j : Int} (h0 : 0 < j) (h : j ≤ 1000000) : CDivW i j := wide_div h0 (b := 20) (by omega) (by decide) (by decide)
theorem abs_nat (x : Int) : (if x < 0 then -x else x) = (x.natAbs : Int) := by split <;> omega
theorem canLay_ints : ∀ ns : List Int, PyData.canLayAll0 (ns.map PyData.int) = true
  | [] => rfl
  | _ :: r => by
    show (PyData.canLay0 (.int _) && PyData.canLayAll0 (r.map PyData.int)) = true
    rw [canLay_ints r]
    rfl
theorem depth_ints : ∀ ns : List Int, PyData.depthAll (ns.map PyData.int) ≤ 1
  | [] => by decide
  | x :: r => by
    have := depth_ints r
    simp only [List.map_cons, PyData.depthAll, PyData.depth]
    omega
theorem dp_ints {K : PySem.W.Frag} {H : Hp} : ∀ ns : List Int, DpAll K H (ns.map V.int) (ns.map PyData.int)
  | [] => .nil
  | x :: r => .cons (.int x) (dp_ints r)
theorem shaped_ints (ns : List Int) : SeqAt.shaped (.list (ns.map PyData.int)) = true := by
  unfold SeqAt.shaped
  rw [Bool.and_eq_true]
  refine ⟨?_, ?_⟩
  · show PyData.canLayAll0 (ns.map PyData.int) = true
    exact canLay_ints ns
  · have := depth_ints ns
    simp only [PyData.depth]
    exact decide_eq_true (by omega)
theorem eqv_nil (ns : List Int) : PyData.eqv (.list (ns.map PyData.int)) (.list []) = ns.isEmpty := by
  cases ns <;> rfl
end
end K07
set_option Elab.async false
set_option linter.all false
set_option maxRecDepth 100000
set_option maxHeartbeats 2000000
set_option exponentiation.threshold 10000
namespace K07
open PySem PySem.Spec PyProof.Rows L2 GL
section
variable {P : Program} {w : World} {K : PySem.W.Frag} {mg : Str → Option Value} {base : Heap}
def primes : List Int := [2147483647, 2147483629, 2147483587, 2147483579, 2147483563, 2147483549, 2147483543]
theorem primes_at (i : Int) (h : 0 ≤ i) : ∃ q : Int, atI (primes.map V.int) (i % 7) = some (.int q) ∧ 0 < q ∧ q < 2147483648 := by
  have h1 : 0 ≤ i % 7 := Int.emod_nonneg _ (by decide)
  have h2 : i % 7 < 7 := Int.emod_lt_of_pos _ (by decide)
  generalize i % 7 = j at h1 h2
  obtain ⟨k, rfl⟩ := Int.eq_ofNat_of_zero_le h1
  have h3 : k < 7 := by omega
  match k, h3 with
  | 0, _ => exact ⟨2147483647, rfl, by decide, by decide⟩
  | 1, _ => exact ⟨2147483629, rfl, by decide, by decide⟩
  | 2, _ => exact ⟨2147483587, rfl, by decide, by decide⟩
  | 3, _ => exact ⟨2147483579, rfl, by decide, by decide⟩
  | 4, _ => exact ⟨2147483563, rfl, by decide, by decide⟩
  | 5, _ => exact ⟨2147483549, rfl, by decide, by decide⟩
  | 6, _ => exact ⟨2147483543, rfl, by decide, by decide⟩
theorem ok_draw {f : Addr} {fd : FuncData} {k : Nat} (F : FnP K "_law_draw" sDraw f fd) (m_len : mg "len" = none) (m_abs : mg "abs" = none) : FnOk P w K mg base CX0 (k + 1) f fd ["_law_pen_here", "_law_many_here"] (spDraw K) := by
  refine F.ok scDraw (fun vs H Q E h => ?_) (fun cdv A outer s H vs Q E hr h => ?_)
  · obtain ⟨d, a, ns, n, m, rfl, _⟩ := h
    rfl
  · obtain ⟨d, a, ns, n, m, rfl, hp, hn, hm0, hm1, q⟩ := h
    obtain ⟨i, l, ed, hi0, hi1, hl0⟩ := hp.at_
    refine ⟨_, PSs.nox (pss_cons (ps_if (pt_cmpR op_gt (pe_dget (hu_of hr) (pv 0) pe_str (fun _ _ => rfl)) pe_int (nomark _))
      (pss_cons (ps_set (i := 2) scDraw.nd rfl (.inl rfl) (pe_op op_mod (pe_dget (hu_of hr) (pv 0) pe_str (fun _ _ => rfl)) (pv 1)))
    (pss_cons (ps_dput (hu_of hr) (pv 0) pe_str (pe_op op_fdivW (pe_dget (hu_of hr) (pv 0) pe_str (fun _ _ => rfl)) (pv 1)) rfl)
    (pss_one (ps_ret (pv 2)))))
      pss_nil)
    (pss_cons (ps_set (i := 3) scDraw.nd rfl (.inl rfl) (pe_dget (hu_of hr) (pv 0) pe_str (fun _ _ => rfl)))
    (pss_cons (ps_set (i := 4) scDraw.nd rfl (.inl rfl) (pe_dget (hu_of hr) (pv 0) pe_str (fun _ _ => rfl)))
    (pss_cons (ps_dput (hu_of hr) (pv 0) pe_str (pe_op op_add (pv 4) pe_int) rfl)
    (pss_cons (ps_set (i := 5) scDraw.nd rfl (.inl rfl) (pe_op op_add (pe_op op_mul pe_int (pv 4)) pe_int))
    (pss_mid (ps_if (pt_cmpR (op_neD hr.units) (pv 3) (pe_lst pa_nil) (nomark _))
      (pss_one (ps_set (i := 5) scDraw.nd rfl (.inl rfl) (pe_ix ix_list (pv 3) (pe_op op_mod (pv 4) (pe_callB call_len_seq (by rfl) m_len (by decide +kernel) (pa_cons (pv 3) pa_nil))) (fun _ _ => rfl))))
      pss_nil)
    (pss_mid (ps_if (PW.pt (pw_and (pt_cmpR op_lt (pv 4) (pe_callB call_len_seq (by rfl) m_len (by decide +kernel) (pa_cons (pv 3) pa_nil)) (nomark _)) (pw_and1 (pt_cmpR op_ge (pe_callB call_abs (by rfl) m_abs (by decide +kernel) (pa_cons (pv 5) pa_nil)) (pe_op op_pow pe_int pe_int) (nomark _)))))
      (pss_cons (ps_dput (hu_of hr) (pv 0) pe_str (pe_op op_fdivW (pe_callB call_abs (by rfl) m_abs (by decide +kernel) (pa_cons (pv 5) pa_nil)) (pv 1)) rfl)
    (pss_one (ps_ret (pe_op op_mod (pe_callB call_abs (by rfl) m_abs (by decide +kernel) (pa_cons (pv 5) pa_nil)) (pv 1)))))
      pss_nil)
    (pss_cons (ps_set (i := 6) scDraw.nd rfl (.inl rfl) (pe_ix ix_list (pe_lst (pa_cons pe_int (pa_cons pe_int (pa_cons pe_int (pa_cons pe_int (pa_cons pe_int (pa_cons pe_int (pa_cons pe_int pa_nil)))))))) (pe_op op_mod (pv 4) pe_int) (fun _ _ => rfl)))
    (pss_cons (ps_set (i := 7) scDraw.nd rfl (.inl rfl) (pe_op op_mod (pe_op op_add (pe_op op_add (pe_op op_mod (pv 5) pe_int) (pe_op op_mul (pe_op op_mul pe_int (pv 4)) (pv 4))) pe_int) (pv 6)))
    (pss_cons (ps_set (i := 7) scDraw.nd rfl (.inl rfl) (pe_op op_mod (pe_op op_add (pe_op op_add (pe_op op_pow (pv 7) pe_int) (pe_op op_mul pe_int (pv 7))) (pv 4)) pe_int))
    (pss_one (ps_ret (pe_op op_mod (pe_op op_fdivW (pe_op op_mod (pe_op op_mul (pv 7) (pe_op op_add (pe_op op_add (pe_op op_mod (pv 7) pe_int) (pe_op op_mul pe_int (pv 4))) pe_int)) pe_int) pe_int) (pv 1)))))))))))))), ?_⟩
    refine ⟨_, rfl, d, _, rfl, get_left ed, l, 0, rfl, rfl, _, rfl, ite2 (fun c => ?_) (fun c => ?_)⟩
    · -- a digit of what is left
      refine ⟨_, rfl, d, _, rfl, get_left ed, _, rfl, l, m, rfl, rfl, hm0, ?_⟩
      refine ⟨_, rfl, d, _, rfl, get_left ed, _, rfl, l, m, rfl, rfl, small_div hm0 hm1, _, rfl, d, _, rfl, dput_left ed, _, rfl, ?_⟩
      refine q _ _ (Int.emod_nonneg _ (by omega)) (Int.emod_lt_of_pos _ hm0) ((Keep.refl _ H).set (List.mem_singleton.mpr rfl)) ⟨⟨i, l / m, upd_same, hi0, by omega, Int.ediv_nonneg hl0 (by omega)⟩, sql_upd hp.script ed, hp.few⟩
    · -- a cell
      refine ⟨_, rfl, d, _, rfl, get_script ed, ?_⟩
      refine ⟨_, rfl, d, _, rfl, get_at ed, ?_⟩
      refine ⟨_, rfl, i, 1, rfl, rfl, _, rfl, d, _, rfl, dput_at ed, ?_⟩
      refine ⟨_, rfl, 50021, i, rfl, rfl, .inl ⟨by decide, by decide⟩, _, 37, rfl, rfl, ?_⟩
      have s1 : SqL K (upd H d (.dK (penL a (i + 1) l))) a (ns.map V.int) := sql_upd hp.script ed
      have k1 : Keep [d] H (upd H d (.dK (penL a (i + 1) l))) := (Keep.refl _ H).set (List.mem_singleton.mpr rfl)
      have e1 : upd H d (.dK (penL a (i + 1) l)) d = some (.dK (penL a (i + 1) l)) := upd_same
      generalize upd H d (.dK (penL a (i + 1) l)) = H1 at s1 k1 e1
      refine ⟨fun σ' H' => ∃ c : Int, σ' = [some (.ref d), some (.int m), none, some (.ref a), some (.int i), some (.int c), none, none] ∧ Keep [d] H H' ∧ SqL K H' a (ns.map V.int) ∧ H' d = some (.dK (penL a (i + 1) l)), ?_, ?_⟩
      · refine ⟨_, rfl, Nat.zero_le _, fun p np => ?_⟩
        have s2 : SqL K (upd H1 p (.lst [])) a (ns.map V.int) := ((Keep.refl [] H1).new np).sql (fun _ z => (nomatch z)) s1
        have k2 : Keep [d] H (upd H1 p (.lst [])) := k1.new np
        have e2 : upd H1 p (.lst []) d = some (.dK (penL a (i + 1) l)) := ((Keep.refl [] H1).new np) d _ (fun z => (nomatch z)) e1
        refine ⟨.list (ns.map PyData.int), .list [], .lst s2 (dp_ints ns), .lst (.of upd_same) .nil, shaped_ints ns, by decide +kernel, _, rfl, ?_⟩
        rw [eqv_nil]
        refine ite2 (fun c2 => ?_) (fun c2 => ?_)
        · have hne : 0 < ns.length := by
            cases ns with
            | nil => exact absurd c2 (by decide)
            | cons _ _ => exact Nat.succ_pos _
          have g1 : 0 ≤ i % (ns.length : Int) := Int.emod_nonneg _ (by omega)
          have g2 : i % (ns.length : Int) < ns.length := Int.emod_lt_of_pos _ (by omega)
          obtain ⟨j, ej⟩ := Int.eq_ofNat_of_zero_le g1
          have hj : j < ns.length := by omega
          refine ⟨_, rfl, _, rfl, _, rfl, a, _, rfl, .inl s2, i, ((ns.map V.int).length : Int), rfl, rfl, ?_, a, _, _, .int ns[j], rfl, rfl, s2, ?_, ns[j], rfl, k2, s2, e2⟩
          · rw [List.length_map]
            omega
          · rw [List.length_map, ej]
            exact atI_nat (by rw [List.getElem?_map, List.getElem?_eq_getElem hj]; rfl)
        · exact ⟨_, rfl, k2, s2, e2⟩
      · rintro σ2 H2 ⟨c, rfl, k2, s2, e2⟩
        have pen2 : ∀ l' : Int, 0 ≤ l' → ∀ H3 : Hp, H3 d = some (.dK (penL a (i + 1) l')) → SqL K H3 a (ns.map V.int) → Pen K H3 d a ns (n + 1) := fun l' hl' H3 e3 s3 => ⟨⟨i + 1, l', e3, by omega, by omega, hl'⟩, s3, hp.few⟩
        refine ⟨fun σ' H' => σ' = [some (.ref d), some (.int m), none, some (.ref a), some (.int i), some (.int c), none, none] ∧ H2 = H', ?_, ?_⟩
        · refine ⟨_, rfl, _, rfl, a, _, rfl, .inl s2, i, _, rfl, rfl, _, rfl, ite2 (fun c3 => ?_) (fun c3 => ?_)⟩
          · refine ⟨_, rfl, c, rfl, 10, 18, rfl, rfl, ⟨by decide, by decide, by decide⟩, _, _, rfl, rfl, _, rfl, ite2 (fun c4 => ?_) (fun c4 => ?_)⟩
            · refine ⟨_, rfl, c, rfl, _, rfl, _, m, rfl, rfl, small_div hm0 hm1, _, rfl, d, _, rfl, dput_left e2, _, rfl, c, rfl, _, rfl, _, m, rfl, rfl, hm0, ?_⟩
              rw [abs_nat c]
              exact q _ _ (Int.emod_nonneg _ (by omega)) (Int.emod_lt_of_pos _ hm0) (k2.set (List.mem_singleton.mpr rfl)) (pen2 _ (Int.ediv_nonneg (by omega) (by omega)) _ upd_same (sql_upd s2 e2))
            · exact ⟨rfl, rfl⟩
          · exact iteF ⟨rfl, rfl⟩
        · rintro σ3 H3 ⟨rfl, rfl⟩
          obtain ⟨qp, eq, hq0, hq1⟩ := primes_at i hi0
          refine ⟨(by show 7 ≤ sizeLine; decide), fun p np => ⟨_, rfl, i, 7, rfl, rfl, (by show (0 : Int) < 7; decide), p, _, _, .int qp, rfl, rfl, .of upd_same, eq, ?_⟩⟩
          have k3 : Keep [d] H (upd H2 p (.lst (primes.map V.int))) := k2.new np
          have s3 : SqL K (upd H2 p (.lst (primes.map V.int))) a (ns.map V.int) := ((Keep.refl [] H2).new np).sql (fun _ z => (nomatch z)) s2
          have e3 : upd H2 p (.lst (primes.map V.int)) d = some (.dK (penL a (i + 1) l)) := ((Keep.refl [] H2).new np) d _ (fun z => (nomatch z)) e2
          have b1 : i * 40009 < 2 ^ 64 := by omega
          refine ⟨_, rfl, c, 2147483497, rfl, rfl, (by show (0 : Int) < 2147483497; decide), _, rfl, 40009, i, rfl, rfl, .inl ⟨by decide, by decide⟩, _, rfl, _, i, rfl, rfl, .inr ⟨by omega, by omega⟩, _, _, rfl, rfl, _, 21, rfl, rfl, _, rfl, _, qp, rfl, rfl, hq0, ?_⟩
          obtain ⟨x, hx⟩ : ∃ x : Int, (c % 2147483497 + 40009 * i * i + 21) % qp = x := ⟨_, rfl⟩
          have hx0 : 0 ≤ x := by
            rw [← hx]
            exact Int.emod_nonneg _ (by omega)
          have hx1 : x < 2147483648 := by
            have := Int.emod_lt_of_pos (c % 2147483497 + 40009 * i * i + 21) hq0
            omega
          refine ⟨_, rfl, x, 3, congrArg V.int hx, rfl, ⟨by decide, by decide, by omega⟩, _, rfl, 69621, x, rfl, congrArg V.int hx, .inl ⟨by decide, by decide⟩, _, _, rfl, rfl, _, rfl, _, i, rfl, rfl, _, 2147483489, rfl, rfl, (by show (0 : Int) < 2147483489; decide), ?_⟩
          obtain ⟨y, hy⟩ : ∃ y : Int, (x ^ (3 : Int).toNat + 69621 * x + i) % 2147483489 = y := ⟨_, rfl⟩
          have hy0 : 0 ≤ y := by
            rw [← hy]
            exact Int.emod_nonneg _ (by decide)
          have hy1 : y < 2147483489 := by
            rw [← hy]
            exact Int.emod_lt_of_pos _ (by decide)
          refine ⟨_, rfl, _, rfl, y, 65521, congrArg V.int hy, rfl, (by show (0 : Int) < 65521; decide), _, rfl, 2, i, rfl, rfl, .inl ⟨by decide, by decide⟩, _, _, rfl, rfl, _, 3, rfl, rfl, y, _, congrArg V.int hy, rfl, .inl ⟨by omega, by omega⟩, _, 2147483477, rfl, rfl, (by show (0 : Int) < 2147483477; decide), _, 64, rfl, rfl, ⟨by decide, by decide⟩, _, rfl, _, m, rfl, rfl, hm0, ?_⟩
          exact q _ _ (Int.emod_nonneg _ (by omega)) (Int.emod_lt_of_pos _ hm0) k3 (pen2 l hl0 _ e3 s3)
end
end K07
set_option Elab.async false
set_option linter.all false
set_option maxRecDepth 100000
set_option maxHeartbeats 2000000
set_option exponentiation.threshold 10000
namespace K07
open PySem PySem.Spec PyProof.Rows L2 GL
section
variable {P : Program} {w : World} {K : PySem.W.Frag} {mg : Str → Option Value} {base : Heap}
/-! ### _law_measure -/
def spMeas (K : PySem.W.Frag) : Sp := fun vs H Q _ => ∃ (a : Addr) (ns : List Int), vs = [.ref a] ∧ SqL K H a (ns.map V.int) ∧ (∀ x ∈ ns, 0 ≤ x) ∧ Q (.int (gcdAll ns)) H
theorem ok_meas {f : Addr} {fd : FuncData} {k : Nat} (F : FnP K "_law_measure" sMeas f fd) : FnOk P w K mg base CX0 (k + 1) f fd ["_law_numbers_here"] (spMeas K) := by
  refine F.ok scMeas (fun vs H Q E h => ?_) (fun cdv A outer s H vs Q E hr h => ?_)
  · obtain ⟨a, ns, rfl, _⟩ := h
    rfl
  · obtain ⟨a, ns, rfl, hS, h0, q⟩ := h
    refine ⟨_, PSs.nox (pss_cons (ps_set (i := 1) scMeas.nd rfl (.inl rfl) pe_int)
    (pss_cons (ps_for PassesOwn.never rfl (pi_list (pv 0)) (pg_name (i := 2) scMeas.nd rfl (.inl rfl))
      (pss_one (ps_while PassesOwn.never (pt_cmpR op_gt (pv 2) pe_int (nomark _))
      (pss_one (ps_par (i := 1) (j := 2) rfl scMeas.nd rfl rfl (by decide) rfl rfl (pa_cons (pv 2) (pa_cons (pe_op op_mod (pv 1) (pv 2)) pa_nil)) rfl)))))
    (pss_one (ps_ret (pv 1))))), ?_⟩
    refine ⟨_, rfl, a, rfl, ⟨_, hS⟩, for_list (xs := ns.map V.int) (fun i σ H' => ∃ y, σ = [some (.ref a), some (.int (gcdAll (ns.take i))), y] ∧ H = H') ⟨_, rfl, rfl⟩ ?_ ?_ ?_⟩
    · rintro i σ H' _ ⟨y, rfl, rfl⟩
      exact hS
    · rintro i x σ H' hx ⟨y, rfl, rfl⟩
      rw [List.getElem?_map] at hx
      obtain ⟨n, hn, rfl⟩ := Option.map_eq_some_iff.mp hx
      have n0 : 0 ≤ n := h0 n (List.mem_of_getElem? hn)
      have eg : gcdAll (ns.take (i + 1)) = Nat.gcd (gcdAll (ns.take i)) n.natAbs := by
        unfold gcdAll
        rw [foldl_take _ _ hn]
      refine ⟨fun m σ H' => ∃ x y : Nat, σ = [some (.ref a), some (.int x), some (.int y)] ∧ y = m ∧ Nat.gcd x y = gcdAll (ns.take (i + 1)) ∧ H = H', ⟨n.natAbs, _, n.natAbs, ?_, rfl, eg.symm, rfl⟩, ?_⟩
      · show [some (V.ref a), some (V.int (gcdAll (ns.take i))), some (V.int n)] = _
        rw [Int.natAbs_of_nonneg n0]
      rintro m σ H' ⟨x, y, rfl, rfl, eg, rfl⟩
      refine ⟨_, rfl, _, _, rfl, rfl, _, rfl, ite2 (fun c => ?_) (fun c => ?_)⟩
      · have hy : 0 < y := by
          have := of_decide_eq_true c
          omega
        refine ⟨fun σ' H' => ∃ x' y' : Nat, σ' = [some (.ref a), some (.int x'), some (.int y')] ∧ y' < y ∧ Nat.gcd x' y' = gcdAll (ns.take (i + 1)) ∧ H = H', ?_, ?_⟩
        · rintro σ' H' ⟨x', y', rfl, h1, h2, rfl⟩
          exact ⟨y', h1, x', y', rfl, rfl, h2, rfl⟩
        · refine ⟨_, rfl, _, rfl, _, rfl, _, _, rfl, rfl, (by omega), _, _, rfl, y, x % y, rfl, Nat.mod_lt _ hy, ?_, rfl⟩
          rw [← eg, Nat.gcd_comm x y, Nat.gcd_rec y x, Nat.gcd_comm]
      · have hy : y = 0 := by
          have := mt decide_eq_true c
          omega
        subst hy
        rw [Nat.gcd_zero_right] at eg
        exact ⟨_, by rw [eg], rfl⟩
    · rintro σ H' ⟨y, rfl, rfl⟩
      refine ⟨_, rfl, ?_⟩
      rw [List.length_map, List.take_length]
      exact q

/-! ### _law_great -/
def spGreat (K : PySem.W.Frag) : Sp := fun vs H Q _ => ∃ (d a : Addr) (ns : List Int) (n : Nat) (m : Int), vs = [.ref d, .int m] ∧ Pen K H d a ns n ∧ n ≤ 900000 ∧ 0 < m ∧ m ≤ 33 ∧
  ∀ (r : Int) (H' : Hp), 0 ≤ r → r < 2 ^ 660 → Keep [d] H H' → Pen K H' d a ns (n + 34) → Q (.int r) H'
theorem pow_le (i : Nat) (h : i ≤ 33) : (1000000 : Int) ^ i < 2 ^ 660 := by
  have h1 : (1000000 : Int) ^ i ≤ 1000000 ^ 33 := by
    have : (1000000 : Nat) ^ i ≤ 1000000 ^ 33 := Nat.pow_le_pow_right (by decide) h
    have h2 : ((1000000 ^ i : Nat) : Int) ≤ ((1000000 ^ 33 : Nat) : Int) := Int.ofNat_le.mpr this
    simpa using h2
  have h3 : (1000000 : Int) ^ 33 < 2 ^ 660 := by decide
  omega
theorem ok_great {f : Addr} {fd : FuncData} (F : FnP K "_law_great" sGreat f fd) (m_range : mg "range" = none) (c__law_draw : Cal P w K mg base 1 "_law_draw" (spDraw K)) :
    FnOk P w K mg base CX0 2 f fd ["_law_pen_here", "_law_most"] (spGreat K) := by
  refine F.ok scGreat (fun vs H Q E h => ?_) (fun cdv A outer s H vs Q E hr h => ?_)
  · obtain ⟨d, a, ns, n, m, rfl, _⟩ := h
    rfl
  · obtain ⟨d, a, ns, n, m, rfl, hp, hn, hm0, hm1, q⟩ := h
    refine ⟨_, PSs.nox (pss_cons (ps_set (i := 2) scGreat.nd rfl (.inl rfl) pe_int)
    (pss_cons (ps_for PassesOwn.never rfl (pi_range1 rfl m_range (pa_cons (pe_op op_add pe_int (pe_k c__law_draw (hr.mono (by decide)) (by rfl) (pa_cons (pv 0) (pa_cons (pv 1) pa_nil)))) pa_nil)) (pg_name (i := 3) scGreat.nd rfl (.inl rfl))
      (pss_one (ps_set (i := 2) scGreat.nd rfl (.inl rfl) (pe_op op_add (pe_op op_mul (pv 2) (pe_op op_pow pe_int pe_int)) (pe_k c__law_draw (hr.mono (by decide)) (by rfl) (pa_cons (pv 0) (pa_cons (pe_op op_pow pe_int pe_int) pa_nil)))))))
    (pss_one (ps_ret (pv 2))))), ?_⟩
    refine ⟨_, rfl, _, rfl, d, a, ns, n, m, rfl, hp, by omega, hm0, by omega, fun r H1 r0 r1 k1 p1 => ?_⟩
    refine ⟨1, r, rfl, rfl, 1 + r, rfl, by omega, by omega, for_range (n := (1 + r).toNat) (fun i σ H' => ∃ (y : Option V) (x : Int), σ = [some (.ref d), some (.int m), some (.int x), y] ∧ 0 ≤ x ∧ x < 1000000 ^ i ∧ Keep [d] H H' ∧ Pen K H' d a ns (n + 1 + i) ∧ i ≤ (1 + r).toNat)
      ⟨none, 0, rfl, by decide, by decide, k1, p1, Nat.zero_le _⟩ ?_ ?_⟩
    · rintro i σ H' hi ⟨y, x, rfl, x0, x1, k2, p2, _⟩
      refine ⟨_, rfl, 10, 6, rfl, rfl, ⟨by decide, by decide, by decide⟩, x, 10 ^ (6 : Int).toNat, rfl, rfl, .inr ⟨by decide, by decide⟩, _, rfl, 10, 6, rfl, rfl, ⟨by decide, by decide, by decide⟩, d, a, ns, _, 1000000, rfl, p2, by omega, by decide, by decide, fun t H3 t0 t1 k3 p3 => ?_⟩
      refine ⟨_, t, rfl, rfl, _, x * 1000000 + t, rfl, by omega, ?_, k2.trans k3, p3, hi⟩
      rw [Int.pow_succ]
      omega
    · rintro σ H' ⟨y, x, rfl, x0, x1, k2, p2, _⟩
      refine ⟨_, rfl, q x H' x0 (Int.lt_trans x1 (pow_le _ (by omega))) k2 (p2.mono (by omega))⟩

/-! ### _law_many -/
def spMany (K : PySem.W.Frag) : Sp := fun vs H Q _ => ∃ (d a : Addr) (ns : List Int) (n : Nat), vs = [.ref d] ∧ Pen K H d a ns n ∧ n ≤ 900000 ∧
  ∀ (r : Int) (H' : Hp), 1 ≤ r → r ≤ 10 → Keep [d] H H' → Pen K H' d a ns (n + 4) → Q (.int r) H'
theorem pen_new {K : PySem.W.Frag} {H : Hp} {d a p : Addr} {ns : List Int} {n : Nat} {o : HO} (h : Pen K H d a ns n) (hp : H p = none) : Pen K (upd H p o) d a ns n := h.keep ((Keep.refl [] H).new hp) (fun _ z => (nomatch z))
theorem ok_many {f : Addr} {fd : FuncData} (F : FnP K "_law_many" sMany f fd) (c__law_draw : Cal P w K mg base 1 "_law_draw" (spDraw K)) :
    FnOk P w K mg base CX0 2 f fd ["_law_pen_here"] (spMany K) := by
  refine F.ok scMany (fun vs H Q E h => ?_) (fun cdv A outer s H vs Q E hr h => ?_)
  · obtain ⟨d, a, ns, n, rfl, _⟩ := h
    rfl
  · obtain ⟨d, a, ns, n, rfl, hp, hn, q⟩ := h
    refine ⟨_, PSs.nox (pss_cons (ps_set (i := 1) scMany.nd rfl (.inl rfl) (pe_k c__law_draw (hr.mono (by decide)) (by rfl) (pa_cons (pv 0) (pa_cons pe_int pa_nil))))
    (pss_one (ps_ret (pe_ix ix_list (pe_lst (pa_cons (pe_op op_add pe_int (pe_k c__law_draw (hr.mono (by decide)) (by rfl) (pa_cons (pv 0) (pa_cons pe_int pa_nil)))) (pa_cons (pe_op op_add pe_int (pe_k c__law_draw (hr.mono (by decide)) (by rfl) (pa_cons (pv 0) (pa_cons pe_int pa_nil)))) (pa_cons (pe_op op_add pe_int (pe_k c__law_draw (hr.mono (by decide)) (by rfl) (pa_cons (pv 0) (pa_cons pe_int pa_nil)))) (pa_cons pe_int pa_nil))))) (pv 1) (fun _ _ => rfl))))), ?_⟩
    refine ⟨_, rfl, d, a, ns, n, 4, rfl, hp, by omega, by decide, by decide, fun r H1 r0 r1 k1 p1 => ?_⟩
    refine ⟨_, rfl, d, a, ns, n + 1, 10, rfl, p1, by omega, by decide, by decide, fun x H2 x0 x1 k2 p2 => ⟨1, x, rfl, rfl, ?_⟩⟩
    refine ⟨_, rfl, d, a, ns, n + 2, 4, rfl, p2, by omega, by decide, by decide, fun y H3 y0 y1 k3 p3 => ⟨1, y, rfl, rfl, ?_⟩⟩
    refine ⟨_, rfl, d, a, ns, n + 3, 10, rfl, p3, by omega, by decide, by decide, fun z H4 z0 z1 k4 p4 => ⟨1, z, rfl, rfl, ?_⟩⟩
    refine ⟨(by show 4 ≤ sizeLine; decide), fun p np => ⟨_, rfl, ?_⟩⟩
    have k5 : Keep [d] H (upd H4 p (.lst [.int (1 + x), .int (1 + y), .int (1 + z), .int 10])) := (((k1.trans k2).trans k3).trans k4).new np
    obtain ⟨j, rfl⟩ := Int.eq_ofNat_of_zero_le r0
    match j, r1 with
    | 0, _ => exact ⟨p, _, _, .int (1 + x), rfl, rfl, .of upd_same, rfl, q _ _ (by omega) (by omega) k5 (pen_new p4 np)⟩
    | 1, _ => exact ⟨p, _, _, .int (1 + y), rfl, rfl, .of upd_same, rfl, q _ _ (by omega) (by omega) k5 (pen_new p4 np)⟩
    | 2, _ => exact ⟨p, _, _, .int (1 + z), rfl, rfl, .of upd_same, rfl, q _ _ (by omega) (by omega) k5 (pen_new p4 np)⟩
    | 3, _ => exact ⟨p, _, _, .int 10, rfl, rfl, .of upd_same, rfl, q _ _ (by omega) (by omega) k5 (pen_new p4 np)⟩
    | j + 4, h => omega
end
end K07
set_option Elab.async false
set_option linter.all false
set_option maxRecDepth 100000
set_option maxHeartbeats 2000000
set_option exponentiation.threshold 10000
namespace K07
open PySem PySem.Spec PyProof.Rows L2 GL
/-- the list of whole numbers at p: so many, from 0 on, not too great -/
structure Nums (H : Hp) (p : Addr) (M : Nat) (xs : List Int) : Prop where
  at_ : H p = some (.lst (xs.map V.int))
  len : xs.length = M
  ok : ∀ x ∈ xs, 0 ≤ x ∧ x < 2 ^ 660
theorem Nums.set {H : Hp} {p : Addr} {M : Nat} {xs : List Int} (h : Nums H p M xs) {j : Nat} (v : Int) (h0 : 0 ≤ v) (h1 : v < 2 ^ 660) : Nums (upd H p (.lst ((xs.map V.int).set j (.int v)))) p M (xs.set j v) := by
  refine ⟨?_, by rw [List.length_set]; exact h.len, fun x hx => ?_⟩
  · rw [upd_same, List.map_set]
  · rcases List.mem_or_eq_of_mem_set hx with z | z
    · exact h.ok x z
    · rw [z]
      exact ⟨h0, h1⟩
theorem Nums.keep {H H' : Hp} {p d : Addr} {M : Nat} {xs : List Int} (h : Nums H p M xs) (k : Keep [d] H H') (n : p ≠ d) : Nums H' p M xs := ⟨k p _ (fun z => n (List.mem_singleton.mp z)) h.at_, h.len, h.ok⟩
theorem Pen.own {K : PySem.W.Frag} {H H' : Hp} {d a p : Addr} {ns : List Int} {n n0 : Nat} {o : HO} (p' : Pen K H' d a ns n) (p0 : Pen K H d a ns n0) (hp : H p = none) : Pen K (upd H' p o) d a ns n := by
  have pd : d ≠ p := let ⟨_, e⟩ := p0.some; ne_of_none e hp
  obtain ⟨i, l, h1, h2, h3, h4⟩ := p'.at_
  refine ⟨⟨i, l, by rw [upd_ne pd]; exact h1, h2, h3, h4⟩, ?_, p'.few⟩
  rcases p0.script with q | q
  · have pa : a ≠ p := by
      rcases q with q | ⟨o, q⟩
      · exact ne_of_none q hp
      · exact ne_of_none q hp
    rcases p'.script with (z | ⟨o, z⟩) | z
    · exact .inl (.inl (by rw [upd_ne pa]; exact z))
    · exact .inl (.inr ⟨o, by rw [upd_ne pa]; exact z⟩)
    · exact .inr z
  · exact .inr q
theorem ixN_nat {n j : Nat} (h : j < n) : ixN n (j : Int) = some j := by
  unfold ixN
  rw [if_pos (by omega), if_pos (by omega)]
  simp
theorem sum_pos : ∀ {xs : List Int}, (∀ x ∈ xs, 0 ≤ x) → xs.sum ≠ 0 → ∃ x ∈ xs, 0 < x
  | [], _, h => absurd rfl h
  | x :: r, h0, h => by
    by_cases hx : 0 < x
    · exact ⟨x, List.mem_cons_self, hx⟩
    · have e : x = 0 := by
        have := h0 x List.mem_cons_self
        omega
      rw [List.sum_cons, e, Int.zero_add] at h
      obtain ⟨y, hy, hp⟩ := sum_pos (fun z hz => h0 z (List.mem_cons_of_mem _ hz)) h
      exact ⟨y, List.mem_cons_of_mem _ hy, hp⟩
theorem weights_at (r : Int) (h0 : 0 ≤ r) (h1 : r < 6) : ∃ q : Int, atI ([1, 1, 9, 50, 1000, 1000].map V.int) r = some (.int q) ∧ 0 < q ∧ q ≤ 1000 := by
  obtain ⟨k, rfl⟩ := Int.eq_ofNat_of_zero_le h0
  have h3 : k < 6 := by omega
  match k, h3 with
  | 0, _ => exact ⟨1, rfl, by decide, by decide⟩
  | 1, _ => exact ⟨1, rfl, by decide, by decide⟩
  | 2, _ => exact ⟨9, rfl, by decide, by decide⟩
  | 3, _ => exact ⟨50, rfl, by decide, by decide⟩
  | 4, _ => exact ⟨1000, rfl, by decide, by decide⟩
  | 5, _ => exact ⟨1000, rfl, by decide, by decide⟩
theorem lt660 {x : Int} (h : x ≤ 1000000) : x < 2 ^ 660 := by
  have : (1000000 : Int) < 2 ^ 660 := by decide
  omega
section
variable {P : Program} {w : World} {K : PySem.W.Frag} {mg : Str → Option Value} {base : Heap}
def spNums (K : PySem.W.Frag) : Sp := fun vs H Q _ => ∃ (d a : Addr) (ns : List Int) (n : Nat) (m t : Int), vs = [.ref d, .int m, .int t] ∧ Pen K H d a ns n ∧ n ≤ 800000 ∧ 1 ≤ m ∧ m ≤ 10 ∧ 0 < t ∧ t ≤ 33 ∧
  ∀ (p : Addr) (xs : List Int) (H' : Hp), H p = none → Keep [d] H H' → H' p = some (.lst (xs.map V.int)) → xs.length = m.toNat → (∀ x ∈ xs, 0 ≤ x ∧ x < 2 ^ 666) → (∃ x ∈ xs, 0 < x) → Pen K H' d a ns (n + 400) → Q (.ref p) H'
theorem ok_nums {f : Addr} {fd : FuncData} (F : FnP K "_law_numbers" sNums f fd) (m_range : mg "range" = none) (m_int : mg "int" = none) (m_sum : mg "sum" = none) (c__law_draw : Cal P w K mg base 1 "_law_draw" (spDraw K)) (c__law_great : Cal P w K mg base 2 "_law_great" (spGreat K)) :
    FnOk P w K mg base CX0 3 f fd ["_law_pen_here", "_law_many_here", "_law_most"] (spNums K) := by
  refine F.ok scNums (fun vs H Q E h => ?_) (fun cdv A outer s H vs Q E hr h => ?_)
  · obtain ⟨d, a, ns, n, m, t, rfl, _⟩ := h
    rfl
  · obtain ⟨d, a, ns, n, m, t, rfl, hp, hn, hm0, hm1, ht0, ht1, q⟩ := h
    refine ⟨_, PSs.nox (pss_cons (ps_set (i := 3) scNums.nd rfl (.inl rfl) (pe_k c__law_draw (hr.mono (by decide)) (by rfl) (pa_cons (pv 0) (pa_cons pe_int pa_nil))))
    (pss_cons (ps_set (i := 4) scNums.nd rfl (.inl rfl) (pe_op op_rep (pe_lst (pa_cons pe_int pa_nil)) (pv 1)))
    (pss_mid (ps_if (pt_cmpR op_eq (pv 3) pe_int (nomark _))
      (pss_one (ps_asg (pe_op op_add pe_int (pe_k c__law_draw (hr.mono (by decide)) (by rfl) (pa_cons (pv 0) (pa_cons pe_int pa_nil)))) (pg_sub (pv 4) (pe_k c__law_draw (hr.mono (by decide)) (by rfl) (pa_cons (pv 0) (pa_cons (pv 1) pa_nil))) set_list)))
      pss_nil)
    (pss_cons (ps_for PassesOwn.never rfl (pi_range1 rfl m_range (pa_cons (pe_op op_mul (pv 1) (pe_callTy call_int1 (by rfl) m_int (by decide +kernel) (pa_cons (pe_cmpR op_gt (pv 3) pe_int (nomark _)) pa_nil))) pa_nil)) (pg_name (i := 5) scNums.nd rfl (.inl rfl))
      (pss_cons (ps_asg (pe_k c__law_draw (hr.mono (by decide)) (by rfl) (pa_cons (pv 0) (pa_cons (pe_ix ix_list (pe_lst (pa_cons pe_int (pa_cons pe_int (pa_cons pe_int (pa_cons pe_int (pa_cons pe_int (pa_cons pe_int pa_nil))))))) (pv 3) (fun _ _ => rfl)) pa_nil))) (pg_sub (pv 4) (pv 5) set_list))
    (pss_mid (ps_if (pt_cmpR op_eq (pv 3) pe_int (nomark _))
      (pss_one (ps_asg (pe_k c__law_great (hr.mono (by decide)) (by rfl) (pa_cons (pv 0) (pa_cons (pv 2) pa_nil))) (pg_sub (pv 4) (pv 5) set_list)))
      pss_nil)
    (pss_one (ps_if (PW.pt (pw_and (pt_cmpR op_eq (pv 3) pe_int (nomark _)) (pw_and1 (pt_cmpR op_gt (pe_k c__law_draw (hr.mono (by decide)) (by rfl) (pa_cons (pv 0) (pa_cons pe_int pa_nil))) pe_int (nomark _)))))
      (pss_one (ps_asg pe_int (pg_sub (pv 4) (pv 5) set_list)))
      pss_nil)))))
    (pss_mid (ps_if (pt_cmpR op_eq (pe_callB (cr_sum rfl) (by rfl) m_sum (by decide +kernel) (pa_cons (pv 4) pa_nil)) pe_int (nomark _))
      (pss_one (ps_asg pe_int (pg_sub (pv 4) (pe_k c__law_draw (hr.mono (by decide)) (by rfl) (pa_cons (pv 0) (pa_cons (pv 1) pa_nil))) set_list)))
      pss_nil)
    (pss_mid (ps_if (pt_cmpR op_eq (pv 3) pe_int (nomark _))
      (pss_cons (ps_set (i := 6) scNums.nd rfl (.inr rfl) (pe_op op_add pe_int (pe_k c__law_draw (hr.mono (by decide)) (by rfl) (pa_cons (pv 0) (pa_cons pe_int pa_nil)))))
    (pss_one (ps_setLc (i := 4) (own := [("_law_number", 7)]) (g := gName 7) (by rfl) scNums.nd rfl rfl (sw_true rfl rfl rfl (by decide +kernel)) (pi_list (pv 4)) (blkOk_by (own := [("_law_number", 7)]) (N := ["_law_pen_here", "_law_many_here", "_law_most", "_law_way", "_law_found", "_law_k", "_law_by", "_law_number"]) (sc := defScope sNums) (by decide +kernel)) (fun _ _ _ _ _ => (pg_name (i := 7) scNums.nd rfl (.inl rfl))) (fun _ _ _ _ _ => pts_nil) (fun _ _ _ _ _ => (pe_op op_mul (pv 6) (pv 7))))))
      pss_nil)
    (pss_one (ps_ret (pv 4))))))))), ?_⟩
    -- way, found
    refine ⟨_, rfl, d, a, ns, n, 6, rfl, hp, by omega, by decide, by decide, fun way H1 y0 y1 k1 p1 => ?_⟩
    refine ⟨(by show 1 ≤ sizeLine; decide), fun p0 np0 => ⟨_, rfl, p0, m, _, rfl, rfl, upd_same, by omega, by omega, ?_, fun p np => ?_⟩⟩
    · show 1 * m.toNat ≤ sizeLine
      exact lt_size (by omega)
    have p2 : Pen K (upd (upd H1 p0 (.lst [.int 0])) p (.lst (List.replicate m.toNat [V.int 0]).flatten)) d a ns (n + 1) := pen_new (pen_new p1 np0) np
    have k2 : Keep [d] H (upd (upd H1 p0 (.lst [.int 0])) p (.lst (List.replicate m.toNat [V.int 0]).flatten)) := (k1.new np0).new np
    have pd : p ≠ d := fun z => by
      obtain ⟨kvs, e⟩ := (pen_new (o := .lst [.int 0]) p1 np0).some
      rw [z, e] at np
      cases np
    have hp0 : H p = none := (k1.new np0).fresh (fun z => pd (List.mem_singleton.mp z)) np
    have n2 : Nums (upd (upd H1 p0 (.lst [.int 0])) p (.lst (List.replicate m.toNat [V.int 0]).flatten)) p m.toNat (List.replicate m.toNat 0) := by
      refine ⟨?_, List.length_replicate, fun x hx => ?_⟩
      · rw [upd_same, List.map_replicate]
        congr 2
        clear np p2 k2
        induction m.toNat with
        | zero => rfl
        | succ i ih =>
          rw [List.replicate_succ, List.flatten_cons, ih]
          rfl
      · rw [(List.mem_replicate.mp hx).2]
        exact ⟨by decide, by decide⟩
    generalize upd (upd H1 p0 (.lst [.int 0])) p (.lst (List.replicate m.toNat [V.int 0]).flatten) = H2 at p2 k2 n2
    -- one alone
    refine ⟨fun σ' H' => ∃ xs : List Int, σ' = [some (.ref d), some (.int m), some (.int t), some (.int way), some (.ref p), none, none, none] ∧ Keep [d] H H' ∧ Pen K H' d a ns (n + 3) ∧ Nums H' p m.toNat xs, ?_, ?_⟩
    · refine ⟨_, rfl, rfl, _, rfl, ite2 (fun c => ?_) (fun c => ?_)⟩
      · refine ⟨_, rfl, d, a, ns, _, 9, rfl, p2, by omega, by decide, by decide, fun r H3 r0 r1 k3 p3 => ⟨1, r, rfl, rfl, _, rfl, _, rfl, _, rfl, d, a, ns, _, m, rfl, p3, by omega, by omega, by omega, fun j H4 j0 j1 k4 p4 => ?_⟩⟩
        have n4 := (n2.keep k3 pd).keep k4 pd
        obtain ⟨i, rfl⟩ := Int.eq_ofNat_of_zero_le j0
        refine ⟨p, _, _, i, rfl, rfl, n4.at_, ixN_nat (by rw [List.length_map, n4.len]; omega), _, rfl, ((k2.trans k3).trans k4).own hp0, ?_, n4.set (1 + r) (by omega) (lt660 (by omega))⟩
        exact p4.own hp hp0
      · exact ⟨_, rfl, k2, p2.mono (by omega), n2⟩
    · rintro σ3 H3 ⟨xs, rfl, k3, p3, n3⟩
      -- the loop
      have cnt : (m * (if decide ((0 : Int) < way) = true then (1 : Int) else 0)) = 0 ∨ (m * (if decide ((0 : Int) < way) = true then (1 : Int) else 0)) = m := by
        by_cases c : (0 : Int) < way
        · right
          rw [decide_eq_true c]
          simp
        · left
          rw [decide_eq_false c]
          simp
      refine ⟨_, rfl, _, rfl, way, 0, rfl, rfl, .inr ⟨_, rfl, m, _, rfl, rfl, .inl ⟨by omega, by omega⟩, _, rfl, by omega, by omega, ?_⟩⟩
      have cnt2 : (m * (if decide ((0 : Int) < way) = true then (1 : Int) else 0)).toNat ≤ m.toNat := by omega
      refine for_range (fun i σ' H' => ∃ (y : Option V) (xs : List Int), σ' = [some (.ref d), some (.int m), some (.int t), some (.int way), some (.ref p), y, none, none] ∧ Keep [d] H H' ∧ Pen K H' d a ns (n + 3 + 36 * i) ∧ Nums H' p m.toNat xs ∧ i ≤ m.toNat) ⟨none, xs, rfl, k3, p3, n3, Nat.zero_le _⟩ ?_ ?_
      · rintro i σ4 H4 hi ⟨y, xs, rfl, k4, p4, n4, _⟩
        have hi2 : i < m.toNat := Nat.lt_of_lt_of_le hi cnt2
        have ix : ∀ (zs : List Int), zs.length = m.toNat → ixN (zs.map V.int).length (0 + (i : Int)) = some i := fun zs hz => by
          rw [Int.zero_add]
          exact ixN_nat (by rw [List.length_map, hz]; exact hi2)
        obtain ⟨wt, ew, w0, w1⟩ := weights_at way y0 y1
        refine ⟨_, rfl, (by show 6 ≤ sizeLine; decide), fun p6 np6 => ⟨_, rfl, p6, _, _, .int wt, rfl, rfl, .of upd_same, ew, d, a, ns, _, wt, rfl, pen_new p4 np6, by omega, w0, by omega, fun r H5 r0 r1 k5 p5 => ?_⟩⟩
        have p6p : p ≠ p6 := ne_of_none n4.at_ np6
        have n5 : Nums H5 p m.toNat xs := Nums.keep (d := d) ⟨by rw [upd_ne p6p]; exact n4.at_, n4.len, n4.ok⟩ k5 pd
        have k6 := (k4.new np6).trans k5
        refine ⟨_, rfl, _, rfl, p, _, _, i, rfl, rfl, n5.at_, ix _ n5.len, ?_⟩
        refine ⟨fun σ' H' => ∃ xs : List Int, σ' = [some (.ref d), some (.int m), some (.int t), some (.int way), some (.ref p), some (.int (0 + (i : Int))), none, none] ∧ Keep [d] H H' ∧ Pen K H' d a ns (n + 3 + 36 * i + 35) ∧ Nums H' p m.toNat xs, ?_, ?_⟩
        · refine ⟨_, rfl, rfl, _, rfl, ite2 (fun c => ?_) (fun c => ?_)⟩
          · refine ⟨_, rfl, _, rfl, d, a, ns, _, t, rfl, p5.own hp hp0, by omega, ht0, ht1, fun g H6 g0 g1 k7 p7 => ?_⟩
            have n6 := (n5.set (j := i) r r0 (lt660 (by omega))).keep k7 pd
            exact ⟨_, rfl, _, rfl, p, _, _, i, rfl, rfl, n6.at_, ix _ n6.len, _, rfl, ((k6.own hp0).trans k7).own hp0, p7.own hp hp0, n6.set g g0 g1⟩
          · exact ⟨_, rfl, k6.own hp0, (p5.own hp hp0).mono (by omega), n5.set r r0 (lt660 (by omega))⟩
        · rintro σ6 H6 ⟨zs, rfl, k7, p7, n7⟩
          refine ⟨_, rfl, rfl, _, rfl, ite2 (fun c => ?_) (fun c => ?_)⟩
          · refine ⟨_, rfl, d, a, ns, _, 3, rfl, p7, by omega, by decide, by decide, fun g H7 g0 g1 k8 p8 => ⟨g, 0, rfl, rfl, _, rfl, ite2 (fun c2 => ?_) (fun c2 => ?_)⟩⟩
            · have n8 := n7.keep k8 pd
              exact ⟨_, rfl, _, rfl, p, _, _, i, rfl, rfl, n8.at_, ix _ n8.len, _, _, rfl, (k7.trans k8).own hp0, (p8.own hp hp0).mono (by omega), n8.set 0 (by decide) (by decide), by omega⟩
            · exact ⟨_, _, rfl, k7.trans k8, p8.mono (by omega), n7.keep k8 pd, by omega⟩
          · exact iteF ⟨_, _, rfl, k7, p7.mono (by omega), n7, by omega⟩
      · rintro σ4 H4 ⟨y, xs, rfl, k4, p4, n4, _⟩
        -- not all 0
        refine ⟨fun σ' H' => ∃ xs : List Int, σ' = [some (.ref d), some (.int m), some (.int t), some (.int way), some (.ref p), y, none, none] ∧ Keep [d] H H' ∧ Pen K H' d a ns (n + 364) ∧ Nums H' p m.toNat xs ∧ ∃ x ∈ xs, 0 < x, ?_, ?_⟩
        · refine ⟨_, rfl, p, xs, rfl, .of n4.at_, rfl, _, rfl, ite2 (fun c => ?_) (fun c => ?_)⟩
          · refine ⟨_, rfl, _, rfl, _, rfl, d, a, ns, _, m, rfl, p4, by omega, by omega, by omega, fun g H5 g0 g1 k5 p5 => ?_⟩
            obtain ⟨i, rfl⟩ := Int.eq_ofNat_of_zero_le g0
            have n5 := n4.keep k5 pd
            have hi : i < xs.length := by
              rw [n4.len]
              omega
            exact ⟨p, _, _, i, rfl, rfl, n5.at_, ixN_nat (by rw [List.length_map]; exact hi), _, rfl, (k4.trans k5).own hp0, (p5.own hp hp0).mono (by omega), n5.set 1 (by decide) (by decide), 1, List.mem_set hi 1, by decide⟩
          · refine ⟨_, rfl, k4, p4.mono (by omega), n4, sum_pos (fun x hx => (n4.ok x hx).1) (fun z => c ?_)⟩
            rw [z]
            exact decide_eq_true rfl
        · rintro σ5 H5 ⟨xs, rfl, k5, p5, n5, x0, hx0, px0⟩
          refine ⟨fun σ' H' => ∃ (p' : Addr) (y z u : Option V) (xs : List Int), σ' = [some (.ref d), some (.int m), some (.int t), some (.int way), some (.ref p'), y, z, u] ∧ H p' = none ∧ Keep [d] H H' ∧ H' p' = some (.lst (xs.map V.int)) ∧ xs.length = m.toNat ∧ (∀ x ∈ xs, 0 ≤ x ∧ x < 2 ^ 666) ∧ (∃ x ∈ xs, 0 < x) ∧ Pen K H' d a ns (n + 400), ?_, ?_⟩
          · refine ⟨_, rfl, rfl, _, rfl, ite2 (fun c => ?_) (fun c => ?_)⟩
            · refine ⟨_, rfl, d, a, ns, _, 30, rfl, p5, by omega, by decide, by decide, fun g H6 g0 g1 k6 p6 => ⟨2, g, rfl, rfl, ?_⟩⟩
              have n6 := n5.keep k6 pd
              refine ⟨_, rfl, p, rfl, ⟨_, .of n6.at_⟩, fun D hD => lc_map (fun v => match v with | .int x => .int ((2 + g) * x) | v => v) (SqL.of n6.at_) hD (by rw [List.length_map, n6.len]; omega) (fun _ => rfl) ?_ ?_⟩
              · intro v hv H7 Q7 _ hQ
                obtain ⟨x, _, rfl⟩ := List.mem_map.mp hv
                exact ⟨_, rfl, _, rfl, 2 + g, x, rfl, rfl, .inl ⟨by omega, by omega⟩, hQ⟩
              · intro H7 k7 e7
                have Dd : D ≠ d := fun z => by
                  obtain ⟨kvs, e⟩ := p6.some
                  rw [z, e] at hD
                  cases hD
                refine ⟨D, _, _, _, xs.map (fun x => (2 + g) * x), rfl, (k5.trans k6).fresh (fun z => Dd (List.mem_singleton.mp z)) hD, (k5.trans k6).trans (k7.mono (fun _ z => (nomatch z))), ?_, by rw [List.length_map]; exact n6.len, ?_, ?_, (p6.keep k7 (fun _ z => (nomatch z))).mono (by omega)⟩
                · rw [e7, List.map_map, List.map_map]
                  rfl
                · intro z hz
                  obtain ⟨x, hx, rfl⟩ := List.mem_map.mp hz
                  have h1 := n6.ok x hx
                  have h2 : (2 + g) * x ≤ 31 * x := Int.mul_le_mul_of_nonneg_right (by omega) h1.1
                  have h3 : (31 : Int) * 2 ^ 660 < 2 ^ 666 := by decide
                  exact ⟨Int.mul_nonneg (by omega) h1.1, by omega⟩
                · exact ⟨_, List.mem_map.mpr ⟨x0, hx0, rfl⟩, Int.mul_pos (by omega) px0⟩
            · refine ⟨p, _, _, _, xs, rfl, hp0, k5, n5.at_, n5.len, fun x hx => ⟨(n5.ok x hx).1, ?_⟩, ⟨x0, hx0, px0⟩, p5.mono (by omega)⟩
              have h1 := (n5.ok x hx).2
              have h3 : (2 : Int) ^ 660 < 2 ^ 666 := by decide
              omega
          · rintro σ6 H6 ⟨p', y, z, u, xs, rfl, h1, h2, h3, h4, h5, h6, h7⟩
            exact ⟨_, rfl, q p' xs H6 h1 h2 h3 h4 h5 h6 h7⟩
end
end K07
set_option Elab.async false
set_option linter.all false
set_option maxRecDepth 100000
set_option maxHeartbeats 2000000
set_option exponentiation.threshold 10000
namespace K07
open PySem PySem.Spec PyProof.Rows L2 GL
/-! ### the mathematics of shares -/
/-- top and bottom of y over S -/
def tp (S y : Nat) : Nat := y / Nat.gcd y S
def bt (S y : Nat) : Nat := S / Nat.gcd y S
theorem gcd_pos' {S y : Nat} (h : 0 < S) : 0 < Nat.gcd y S := Nat.gcd_pos_of_pos_right _ h
theorem tp_mul (S y : Nat) : tp S y * Nat.gcd y S = y := Nat.div_mul_cancel (Nat.gcd_dvd_left y S)
theorem bt_mul (S y : Nat) : bt S y * Nat.gcd y S = S := Nat.div_mul_cancel (Nat.gcd_dvd_right y S)
theorem bt_dvd (S y : Nat) : bt S y ∣ S := ⟨_, (bt_mul S y).symm⟩
theorem bt_pos {S y : Nat} (h : 0 < S) : 0 < bt S y := Nat.pos_of_dvd_of_pos (bt_dvd S y) h
theorem bt_le {S y : Nat} (h : 0 < S) : bt S y ≤ S := Nat.le_of_dvd h (bt_dvd S y)
theorem tp_le (S y : Nat) : tp S y ≤ y := Nat.div_le_self _ _
theorem scaled {c S y : Nat} (hc : 0 < c) : (c * y) / Nat.gcd (c * y) (c * S) = tp S y ∧ (c * S) / Nat.gcd (c * y) (c * S) = bt S y := by
  rw [Nat.gcd_mul_left]
  exact ⟨Nat.mul_div_mul_left _ _ hc, Nat.mul_div_mul_left _ _ hc⟩
/-- one summand, times S -/
theorem summand {S y L : Nat} (h : bt S y ∣ L) (hS : 0 < S) : S * (tp S y * (L / bt S y)) = y * L := by
  obtain ⟨m, rfl⟩ := h
  rw [Nat.mul_div_cancel_left _ (bt_pos hS)]
  have h1 := tp_mul S y
  have h2 := bt_mul S y
  calc S * (tp S y * m) = (bt S y * Nat.gcd y S) * (tp S y * m) := by rw [h2]
    _ = (tp S y * Nat.gcd y S) * (bt S y * m) := by
      rw [Nat.mul_mul_mul_comm, Nat.mul_comm (bt S y) (tp S y), Nat.mul_assoc, Nat.mul_assoc, Nat.mul_left_comm (bt S y)]
    _ = y * (bt S y * m) := by rw [h1]
theorem sum_shares {S L : Nat} (hS : 0 < S) : ∀ ys : List Nat, (∀ y ∈ ys, bt S y ∣ L) → S * (ys.map fun y => tp S y * (L / bt S y)).sum = ys.sum * L
  | [], _ => by simp
  | y :: r, h => by
    rw [List.map_cons, List.sum_cons, List.sum_cons, Nat.mul_add, Nat.add_mul, summand (h y List.mem_cons_self) hS, sum_shares hS r (fun z hz => h z (List.mem_cons_of_mem _ hz))]
theorem sum_shares1 {L : Nat} {ys : List Nat} (hS : 0 < ys.sum) (h : ∀ y ∈ ys, bt ys.sum y ∣ L) : (ys.map fun y => tp ys.sum y * (L / bt ys.sum y)).sum = L :=
  Nat.eq_of_mul_eq_mul_left hS (sum_shares hS ys h)
theorem lcm_eq (L b : Nat) : L / Nat.gcd L b * b = Nat.lcm L b := by
  rw [Nat.lcm, Nat.div_mul_right_comm (Nat.gcd_dvd_left L b)]
theorem sum_cast : ∀ ys : List Nat, (ys.map fun y : Nat => (y : Int)).sum = (ys.sum : Int)
  | [] => rfl
  | y :: r => by
    rw [List.map_cons, List.sum_cons, List.sum_cons, sum_cast r]
    omega
theorem gcdAll2 (a b : Nat) : gcdAll [(a : Int), (b : Int)] = Nat.gcd a b := by
  show Nat.gcd (Nat.gcd 0 a) b = _
  rw [Nat.gcd_zero_left]
theorem le_sum_nat : ∀ {ys : List Nat} {y : Nat}, y ∈ ys → y ≤ ys.sum
  | z :: r, y, h => by
    rw [List.sum_cons]
    rcases List.mem_cons.mp h with e | e
    · omega
    · have := le_sum_nat e
      omega
theorem cast_lt {n : Nat} {k : Nat} (h : n < 2 ^ k) : (n : Int) < 2 ^ k := by
  have e : ((2 ^ k : Nat) : Int) = (2 : Int) ^ k := by simp
  omega
theorem mulW_nat {a b : Nat} (ha : a < 2 ^ 700) (hb : b < 2 ^ 700) : CMulW (a : Int) (b : Int) := wide_mul (a := 700) (b := 700) (by simpa using ha) (by simpa using hb) (by decide) (by decide) (by decide)
theorem divW_nat {i : Int} {b : Nat} (h0 : 0 < b) (hb : b < 2 ^ 700) : CDivW i (b : Int) := wide_div (b := 700) (by omega) (by simpa using hb) (by decide) (by decide)
theorem fine_nat {n : Nat} (h : n < 2 ^ 700) : Fine (n : Int) := Nat.lt_of_lt_of_le (by simpa using h) (by decide)
end K07
set_option Elab.async false
set_option linter.all false
set_option maxRecDepth 100000
set_option maxHeartbeats 2000000
set_option exponentiation.threshold 10000
set_option pp.maxSteps 300
set_option pp.deepTerms false
namespace K07
open PySem PySem.Spec PyProof.Rows L2 GL
abbrev vN (n : Nat) : V := .int (n : Int)
/-- the pair of y over S stands at a -/
def Pr (H : Hp) (S y : Nat) (a : Addr) : Prop := H a = some (.tup [vN (tp S y), vN (bt S y)])
structure Made (H : Hp) (S : Nat) (ys : List Nat) (i : Nat) (ts : List Addr) (L : Nat) : Prop where
  len : ts.length = i
  at_ : ∀ (j : Nat) (y : Nat), j < i → ys[j]? = some y → ∃ a, ts[j]? = some a ∧ Pr H S y a
  div : ∀ (j : Nat) (y : Nat), j < i → ys[j]? = some y → bt S y ∣ L
  tot : L ∣ S
  pos : 0 < L
section
variable {P : Program} {w : World} {K : PySem.W.Frag} {mg : Str → Option Value} {base : Heap}
def spRight (K : PySem.W.Frag) : Sp := fun vs H Q _ => ∃ (s t p : Addr) (b : Bool) (ys : List Nat) (c : Nat), vs = [.ref s, .ref p] ∧ SqT K H s [.ref t, vN ys.sum] ∧ SqT K H t ((ys.map fun y : Nat => (y : Int)).map V.int) ∧
  SqB b K H p ((ys.map fun y : Nat => ((c * y : Nat) : Int)).map V.int) ∧ 0 < c ∧ 0 < ys.sum ∧ c * ys.sum < 2 ^ 700 ∧ ys.length ≤ 100 ∧ ∀ H', Keep [] H H' → Q (.bl true) H'
theorem ok_right {f : Addr} {fd : FuncData} (F : FnP K "_law_shares_right" sRight f fd) (m_sum : mg "sum" = none) (m_enumerate : mg "enumerate" = none) (m_repr : mg "repr" = none) (c__law_measure : Cal P w K mg base 1 "_law_measure" (spMeas K)) (c_share_of : Cal P w K mg base 3 "share_of" (spShare K)) :
    FnG P w K mg base CX0 4 f fd ["_law_split", "_law_numbers_here"] (spRight K) := by
  refine okG F scRight (fun vs H Q E h => ?_) (fun cdv A outer s0 H vs Q E gd hr h => ?_)
  · obtain ⟨s, t, p, b, ys, c, rfl, _⟩ := h
    rfl
  · obtain ⟨s, t, p, b, ys, c, rfl, hs, ht, hp, hc, hS, hcS, hlen, q⟩ := h
    refine ⟨_, PSs.nox (pss_cons (ps_set (i := 2) scRight.nd rfl (.inl rfl) (pe_callB (cr_sumB rfl) (by rfl) m_sum (by decide +kernel) (pa_cons (pv 1) pa_nil)))
    (pss_cons (ps_set (i := 3) scRight.nd rfl (.inr rfl) pe_int)
    (pss_cons (ps_set (i := 4) scRight.nd rfl (.inl rfl) (pe_lst pa_nil))
    (pss_cons (ps_for PassesOwn.never rfl (pi_enumB (by rfl) m_enumerate (pa_cons (pv 1) pa_nil)) (pg_tup rfl (pgs_cons (pg_name (i := 5) scRight.nd rfl (.inl rfl)) (pgs_cons (pg_name (i := 6) scRight.nd rfl (.inl rfl)) pgs_nil)))
      (pss_cons (ps_set (i := 7) scRight.nd rfl (.inl rfl) (pe_k c__law_measure (hr.mono (by decide)) (by rfl) (pa_cons (pe_lst (pa_cons (pv 6) (pa_cons (pv 2) pa_nil))) pa_nil)))
    (pss_cons (ps_set (i := 8) scRight.nd rfl (.inl rfl) (pe_k c_share_of (hr.mono (by decide)) (by rfl) (pa_cons (pv 0) (pa_cons (pv 5) pa_nil))))
    (pss_cons (ps_if (pt_cmpR op_ne (pe_callB (call_repr gd hr.units) (by rfl) m_repr (by decide +kernel) (pa_cons (pv 8) pa_nil)) (pe_callB (call_repr gd hr.units) (by rfl) m_repr (by decide +kernel) (pa_cons (pe_tup (pa_cons (pe_op op_fdivW (pv 6) (pv 7)) (pa_cons (pe_op op_fdivW (pv 2) (pv 7)) pa_nil))) pa_nil)) (nomark _))
      (pss_one (ps_ret pe_bl))
      pss_nil)
    (pss_cons (ps_expr (pe_bm PySem.F.plainAttrs_list PySem.F.slot_list_append PySem.F.type_list_append mt_append (pv 4) (pa_cons (pv 8) pa_nil)))
    (pss_one (ps_set (i := 3) scRight.nd rfl (.inr rfl) (pe_op op_mulW (pe_op op_fdivW (pv 3) (pe_k c__law_measure (hr.mono (by decide)) (by rfl) (pa_cons (pe_lst (pa_cons (pv 3) (pa_cons (pe_ix ix_tup (pv 8) pe_int (fun _ _ => rfl)) pa_nil))) pa_nil))) (pe_ix ix_tup (pv 8) pe_int (fun _ _ => rfl))))))))))
    (pss_one (ps_ret (pe_cmpR op_eq (pe_callB (cr_sum rfl) (by rfl) m_sum (by decide +kernel) (pa_cons (pe_lc (own := [("_law_top", 9), ("_law_bottom", 10)]) (g := gTup K 2 (gCons (gName 9) (gCons (gName 10) gNil))) (by rfl) scRight.nd (pi_list (pv 4)) (blkOk_by (own := [("_law_top", 9), ("_law_bottom", 10)]) (N := ["_law_split", "_law_numbers_here", "_law_total", "_law_bottoms", "_law_shares", "_law_a", "_law_number", "_law_by", "_law_found", "_law_top", "_law_bottom"]) (sc := defScope sRight) (by decide +kernel)) (fun _ _ _ _ _ => (pg_tup rfl (pgs_cons (pg_name (i := 9) scRight.nd rfl (.inl rfl)) (pgs_cons (pg_name (i := 10) scRight.nd rfl (.inl rfl)) pgs_nil)))) (fun _ _ _ _ _ => pts_nil) (fun _ _ _ _ _ => (pe_op op_mulW (pv 9) (pe_op op_fdivW (pv 3) (pv 10))))) pa_nil)) (pv 3) (nomark _)))))))), ?_⟩
    have hSc : ys.sum ≤ c * ys.sum := Nat.le_mul_of_pos_left _ hc
    have hS7 : ys.sum < 2 ^ 700 := Nat.lt_of_le_of_lt hSc hcS
    have eT : (ys.map fun y : Nat => ((c * y : Nat) : Int)).sum = ((c * ys.sum : Nat) : Int) := by
      have e1 := sum_cast (ys.map fun y => c * y)
      rw [List.map_map] at e1
      have e2 : ∀ zs : List Nat, (zs.map fun y => c * y).sum = c * zs.sum := by
        intro zs
        induction zs with
        | nil => rfl
        | cons z r ih => rw [List.map_cons, List.sum_cons, List.sum_cons, ih, Nat.mul_add]
      rw [← e2, ← e1]
      rfl
    refine ⟨_, rfl, b, p, _, rfl, hp, ?_⟩
    rw [eT]
    refine ⟨Nat.zero_le _, fun o no => ?_⟩
    have k1 : Keep [] H (upd H o (.lst [])) := (Keep.refl [] H).new no
    have nil : ∀ {z : Addr} {X : Prop}, z ∈ ([] : List Addr) → X := fun z => (nomatch z)
    refine ⟨_, rfl, b, p, _, rfl, k1.sqb (fun _ z => nil z) hp, for_enumB (xs := (ys.map fun y : Nat => ((c * y : Nat) : Int)).map V.int) (fun i σ H' => ∃ (y5 y6 y7 y8 : Option V) (L : Nat) (ts : List Addr), σ = [some (.ref s), some (.ref p), some (vN (c * ys.sum)), some (vN L), some (.ref o), y5, y6, y7, y8, none, none] ∧ Keep [] H H' ∧ H' o = some (.lst (ts.map V.ref)) ∧ Made H' ys.sum ys i ts L)
      ⟨none, none, none, none, 1, [], rfl, k1, upd_same, rfl, fun j y h => absurd h (Nat.not_lt_zero _), fun j y h => absurd h (Nat.not_lt_zero _), Nat.one_dvd _, Nat.one_pos⟩ ?_ ?_ ?_⟩
    · rintro i σ H' _ ⟨_, _, _, _, _, _, rfl, k2, _⟩
      exact k2.sqb (fun _ z => nil z) hp
    · rintro i x σ H' T hx ⟨y5, y6, y7, y8, L, ts, rfl, k2, eo, M⟩ hT
      rw [List.getElem?_map, List.getElem?_map] at hx
      obtain ⟨m, hm, rfl⟩ := Option.map_eq_some_iff.mp hx
      obtain ⟨y, hy, rfl⟩ := Option.map_eq_some_iff.mp hm
      have hyS : y ≤ ys.sum := le_sum_nat (List.mem_of_getElem? hy)
      have hcy : c * y ≤ c * ys.sum := Nat.mul_le_mul_left _ hyS
      -- a, number
      refine ⟨T, _, rfl, .of upd_same, rfl, _, _, rfl, _, _, rfl, rfl, ?_⟩
      have k3 : Keep [] H' (upd H' T (.tup [vN i, vN (c * y)])) := (Keep.refl [] H').new hT
      -- by
      refine ⟨_, rfl, _, rfl, (by show 2 ≤ sizeLine; decide), fun l nl => ?_⟩
      refine ⟨l, [((c * y : Nat) : Int), ((c * ys.sum : Nat) : Int)], rfl, .of upd_same, ?_, ?_⟩
      · intro z hz
        rcases List.mem_cons.mp hz with e | hz
        · rw [e]
          omega
        · rw [List.mem_singleton.mp hz]
          omega
      rw [gcdAll2]
      have k4 := k3.new (o := .lst [vN (c * y), vN (c * ys.sum)]) nl
      have g0 : 0 < Nat.gcd (c * y) (c * ys.sum) := Nat.gcd_pos_of_pos_right _ (Nat.mul_pos hc hS)
      have g1 : Nat.gcd (c * y) (c * ys.sum) < 2 ^ 700 := Nat.lt_of_le_of_lt (Nat.gcd_le_right _ (Nat.mul_pos hc hS)) hcS
      -- found
      refine ⟨_, rfl, _, rfl, s, t, _, _, i, _, rfl, (k2.trans k4).sqt (fun _ z => nil z) hs, (k2.trans k4).sqt (fun _ z => nil z) ht, (by rw [List.getElem?_map, hy]; rfl), (by omega), Int.lt_trans (cast_lt hS7) (by decide), fun fo H5 nfo k50 ef0 => ?_⟩
      have ef : H5 fo = some (.tup [vN (tp ys.sum y), vN (bt ys.sum y)]) := ef0
      have k5 := k4.trans k50
      have st : tp ys.sum y < 2 ^ 700 := Nat.lt_of_le_of_lt (Nat.le_trans (tp_le _ _) hyS) hS7
      have sb : bt ys.sum y < 2 ^ 700 := Nat.lt_of_le_of_lt (bt_le hS) hS7
      have sh : Show (.tuple ([((tp ys.sum y : Nat) : Int), ((bt ys.sum y : Nat) : Int)].map PyData.int)) := show_ints (fun n hn => by
        rcases List.mem_cons.mp hn with e | hn
        · rw [e]
          exact fine_nat st
        · rw [List.mem_singleton.mp hn]
          exact fine_nat sb) (by show 2 ≤ 1000; decide)
      have sc := scaled (S := ys.sum) (y := y) hc
      -- repr
      refine ⟨_, rfl, fo, _, rfl, .tup (.of ef) (dpAll_ints [((tp ys.sum y : Nat) : Int), ((bt ys.sum y : Nat) : Int)]), sh.s, sh.n, sh.dp, sh.z, ?_⟩
      refine ⟨_, rfl, _, rfl, _, _, rfl, rfl, divW_nat g0 g1, _, rfl, _, rfl, _, _, rfl, rfl, divW_nat g0 g1, (by show 2 ≤ sizeLine; decide), fun r nr => ?_⟩
      have er : (upd H5 r (.tup [.int (((c * y : Nat) : Int) / (Nat.gcd (c * y) (c * ys.sum) : Nat)), .int (((c * ys.sum : Nat) : Int) / (Nat.gcd (c * y) (c * ys.sum) : Nat))])) r = some (.tup [vN (tp ys.sum y), vN (bt ys.sum y)]) := by
        rw [upd_same, ← Int.natCast_ediv, ← Int.natCast_ediv, sc.1, sc.2]
      have k6 := k5.new (o := .tup [.int (((c * y : Nat) : Int) / (Nat.gcd (c * y) (c * ys.sum) : Nat)), .int (((c * ys.sum : Nat) : Int) / (Nat.gcd (c * y) (c * ys.sum) : Nat))]) nr
      have ef6 := ((Keep.refl [] H5).new (o := .tup [.int (((c * y : Nat) : Int) / (Nat.gcd (c * y) (c * ys.sum) : Nat)), .int (((c * ys.sum : Nat) : Int) / (Nat.gcd (c * y) (c * ys.sum) : Nat))]) nr) fo _ (fun z => nil z) ef
      refine ⟨r, _, rfl, .tup (.of er) (dpAll_ints [((tp ys.sum y : Nat) : Int), ((bt ys.sum y : Nat) : Int)]), sh.s, sh.n, sh.dp, sh.z, rfl, _, rfl, iteNS rfl ?_⟩
      generalize upd H5 r (.tup [.int (((c * y : Nat) : Int) / (Nat.gcd (c * y) (c * ys.sum) : Nat)), .int (((c * ys.sum : Nat) : Int) / (Nat.gcd (c * y) (c * ys.sum) : Nat))]) = H6 at k6 ef6
      -- append
      have eo6 := k6 o _ (fun z => nil z) eo
      have lts : ts.length < sizeLine := by
        rw [M.len]
        have := (List.getElem?_eq_some_iff.mp hy).1
        exact lt_size' (by omega)
      refine ⟨_, rfl, .inl ⟨rfl, _, .of eo6⟩, _, rfl, o, _, _, rfl, rfl, eo6, (by rw [List.length_map]; exact lts), ?_⟩
      have of : o ≠ fo := ne_of eo6 ef6 (by intro z; cases z)
      have k7 : Keep [o] H' (upd H6 o (.lst (ts.map V.ref ++ [.ref fo]))) := (k6.mono (fun _ z => nil z)).set (List.mem_singleton.mpr rfl)
      have ef7 : (upd H6 o (.lst (ts.map V.ref ++ [.ref fo]))) fo = some (.tup [vN (tp ys.sum y), vN (bt ys.sum y)]) := by
        rw [upd_ne of.symm]
        exact ef6
      have kH7 : Keep [] H (upd H6 o (.lst (ts.map V.ref ++ [.ref fo]))) := (k2.trans k6).own no
      have eo7 : (upd H6 o (.lst (ts.map V.ref ++ [.ref fo]))) o = some (.lst ((ts ++ [fo]).map V.ref)) := by
        rw [upd_same, List.map_append]
        rfl
      generalize upd H6 o (.lst (ts.map V.ref ++ [.ref fo])) = H7 at k7 ef7 kH7 eo7
      -- bottoms
      have L7 : L < 2 ^ 700 := Nat.lt_of_le_of_lt (Nat.le_of_dvd hS M.tot) hS7
      have b0 : 0 < bt ys.sum y := bt_pos hS
      refine ⟨_, rfl, _, rfl, _, rfl, fo, _, 1, vN (bt ys.sum y), rfl, rfl, .of ef7, rfl, (by show 2 ≤ sizeLine; decide), fun l2 nl2 => ?_⟩
      refine ⟨l2, [((L : Nat) : Int), ((bt ys.sum y : Nat) : Int)], rfl, .of upd_same, ?_, ?_⟩
      · intro z hz
        rcases List.mem_cons.mp hz with e | hz
        · rw [e]
          omega
        · rw [List.mem_singleton.mp hz]
          omega
      rw [gcdAll2]
      have k8 := (Keep.refl [] H7).new (o := .lst [vN L, vN (bt ys.sum y)]) nl2
      have h0 : 0 < Nat.gcd L (bt ys.sum y) := Nat.gcd_pos_of_pos_right _ b0
      have h1 : Nat.gcd L (bt ys.sum y) < 2 ^ 700 := Nat.lt_of_le_of_lt (Nat.gcd_le_right _ b0) sb
      refine ⟨_, _, rfl, rfl, divW_nat h0 h1, _, rfl, fo, _, 1, vN (bt ys.sum y), rfl, rfl, .of (k8 fo _ (fun z => nil z) ef7), rfl, ((L / Nat.gcd L (bt ys.sum y) : Nat) : Int), _, ?_, rfl, mulW_nat (Nat.lt_of_le_of_lt (Nat.div_le_self _ _) L7) sb, ?_⟩
      · show V.int _ = V.int _
        rw [← Int.natCast_ediv]
      have eL : (((L / Nat.gcd L (bt ys.sum y) : Nat) : Int) * ((bt ys.sum y : Nat) : Int)) = ((Nat.lcm L (bt ys.sum y) : Nat) : Int) := by
        rw [← lcm_eq, Int.natCast_mul]
      refine ⟨some (vN i), some (vN (c * y)), some (vN (Nat.gcd (c * y) (c * ys.sum))), some (.ref fo), Nat.lcm L (bt ys.sum y), ts ++ [fo], ?_, kH7.trans k8, k8 o _ (fun z => nil z) eo7, ?_⟩
      · show [some (V.ref s), some (V.ref p), some (vN (c * ys.sum)), some (V.int (((L / Nat.gcd L (bt ys.sum y) : Nat) : Int) * ((bt ys.sum y : Nat) : Int))), some (V.ref o), some (vN i), some (vN (c * y)), some (vN (Nat.gcd (c * y) (c * ys.sum))), some (V.ref fo), none, none] = _
        rw [eL]
      have hil : i < ys.length := (List.getElem?_eq_some_iff.mp hy).1
      refine ⟨by rw [List.length_append, M.len]; rfl, ?_, ?_, Nat.lcm_dvd M.tot (bt_dvd _ _), Nat.lcm_pos M.pos b0⟩
      · intro j z hj hz
        by_cases e : j < i
        · obtain ⟨a, ha, hpa⟩ := M.at_ j z e hz
          have ao : a ≠ o := ne_of hpa eo (by intro z; cases z)
          exact ⟨a, by rw [List.getElem?_append_left (by rw [M.len]; exact e)]; exact ha, k8 a _ (fun z => nil z) (k7 a _ (fun z => ao (List.mem_singleton.mp z)) hpa)⟩
        · have ej : j = i := by omega
          subst ej
          rw [hy] at hz
          cases hz
          refine ⟨fo, ?_, k8 fo _ (fun z => nil z) ef7⟩
          rw [List.getElem?_append_right (by rw [M.len]; exact Nat.le_refl _), M.len, Nat.sub_self]
          rfl
      · intro j z hj hz
        by_cases e : j < i
        · exact Nat.dvd_trans (M.div j z e hz) (Nat.dvd_lcm_left _ _)
        · have ej : j = i := by omega
          subst ej
          rw [hy] at hz
          cases hz
          exact Nat.dvd_lcm_right _ _
    · rintro σ H' ⟨y5, y6, y7, y8, L, ts, rfl, k2, eo, M⟩
      rw [List.length_map, List.length_map] at M
      have L7 : L < 2 ^ 700 := Nat.lt_of_le_of_lt (Nat.le_of_dvd hS M.tot) hS7
      have pick : ∀ a ∈ ts, ∃ y ∈ ys, Pr H' ys.sum y a ∧ bt ys.sum y ∣ L := by
        intro a ha
        obtain ⟨j, hj, ej⟩ := List.getElem_of_mem ha
        have hj2 : j < ys.length := by
          rw [M.len] at hj
          exact hj
        obtain ⟨a', h1, h2⟩ := M.at_ j ys[j] hj2 (List.getElem?_eq_getElem hj2)
        rw [List.getElem?_eq_getElem hj] at h1
        have e : a = a' := ej.symm.trans (Option.some.inj h1)
        exact ⟨ys[j], List.getElem_mem hj2, by rw [e]; exact h2, M.div j _ hj2 (List.getElem?_eq_getElem hj2)⟩
      let f : V → V := fun v => match v with
        | .ref a => (match H' a with
          | some (.tup [.int t, .int b]) => .int (t * ((L : Int) / b))
          | _ => .non)
        | _ => .non
      have ff : ∀ a y, Pr H' ys.sum y a → f (.ref a) = vN (tp ys.sum y * (L / bt ys.sum y)) := by
        intro a y h
        show (match H' a with
          | some (.tup [.int t, .int b]) => V.int (t * ((L : Int) / b))
          | _ => V.non) = _
        have h2 : H' a = some (.tup [vN (tp ys.sum y), vN (bt ys.sum y)]) := h
        rw [h2]
        show V.int _ = V.int _
        rw [Int.natCast_mul, Int.natCast_ediv]
      refine ⟨_, rfl, o, rfl, ⟨_, .of eo⟩, fun D hD => lc_mapG f (SqL.of eo) hD (by rw [List.length_map, M.len]; omega) ?_ ?_⟩
      · intro v hv H6 Q6 k6 hQ
        obtain ⟨a, ha, rfl⟩ := List.mem_map.mp hv
        obtain ⟨y, hy, hpr, hdv⟩ := pick a ha
        have b0 : 0 < bt ys.sum y := bt_pos hS
        have sb : bt ys.sum y < 2 ^ 700 := Nat.lt_of_le_of_lt (bt_le hS) hS7
        have st : tp ys.sum y < 2 ^ 700 := Nat.lt_of_le_of_lt (Nat.le_trans (tp_le _ _) (le_sum_nat hy)) hS7
        refine ⟨a, _, rfl, .of (k6 a _ (fun z => nil z) hpr), rfl, _, _, rfl, _, _, rfl, rfl, rfl, _, rfl, _, rfl, _, rfl, _, _, rfl, rfl, divW_nat b0 sb, ((tp ys.sum y : Nat) : Int), ((L / bt ys.sum y : Nat) : Int), rfl, ?_, mulW_nat st (Nat.lt_of_le_of_lt (Nat.div_le_self _ _) L7), ?_⟩
        · show V.int _ = V.int _
          rw [← Int.natCast_ediv]
        · rw [ff a y hpr] at hQ
          show Q6 (V.int _) H6
          rw [← Int.natCast_mul]
          exact hQ
      · intro H6 k6 e6
        have el : (ts.map V.ref).map f = (ys.map fun y : Nat => ((tp ys.sum y * (L / bt ys.sum y) : Nat) : Int)).map V.int := by
          rw [List.map_map, List.map_map]
          refine List.ext_getElem? fun j => ?_
          rw [List.getElem?_map, List.getElem?_map]
          by_cases hj : j < ys.length
          · obtain ⟨a, h1, h2⟩ := M.at_ j ys[j] hj (List.getElem?_eq_getElem hj)
            rw [h1, List.getElem?_eq_getElem hj]
            show some (f (.ref a)) = some (V.int _)
            rw [ff a _ h2]
          · rw [List.getElem?_eq_none (by rw [M.len]; omega), List.getElem?_eq_none (by omega)]
            rfl
        rw [el] at e6
        have es : (ys.map fun y : Nat => ((tp ys.sum y * (L / bt ys.sum y) : Nat) : Int)).sum = (L : Int) := by
          have e1 := sum_cast (ys.map fun y : Nat => tp ys.sum y * (L / bt ys.sum y))
          rw [List.map_map] at e1
          have e2 := sum_shares1 (L := L) hS (fun y hy => by
            obtain ⟨j, hj, rfl⟩ := List.getElem_of_mem hy
            exact M.div j _ hj (List.getElem?_eq_getElem hj))
          rw [e2] at e1
          exact e1
        refine ⟨D, _, rfl, .of e6, _, rfl, rfl, ?_⟩
        rw [es, decide_eq_true rfl]
        exact q H6 (k2.trans k6)
end
end K07
set_option Elab.async false
set_option linter.all false
set_option maxRecDepth 100000
set_option maxHeartbeats 2000000
set_option exponentiation.threshold 10000
set_option pp.maxSteps 300
set_option pp.deepTerms false
namespace K07
open PySem PySem.Spec PyProof.Rows L2 GL
/-! ### numbers by their common divisor -/
def up (c : Nat) (ys : List Nat) : List Int := ys.map fun y : Nat => ((c * y : Nat) : Int)
theorem fold_mul (c : Nat) : ∀ (ys : List Nat) (g : Nat), (up c ys).foldl (fun g x => Nat.gcd g x.natAbs) (c * g) = c * ((up 1 ys).foldl (fun g x => Nat.gcd g x.natAbs) g)
  | [], _ => rfl
  | y :: r, g => by
    have ih := fold_mul c r (Nat.gcd g y)
    have e1 : (up c (y :: r)).foldl (fun g x => Nat.gcd g x.natAbs) (c * g) = (up c r).foldl (fun g x => Nat.gcd g x.natAbs) (Nat.gcd (c * g) (c * y)) := rfl
    have e2 : (up 1 (y :: r)).foldl (fun g x => Nat.gcd g x.natAbs) g = (up 1 r).foldl (fun g x => Nat.gcd g x.natAbs) (Nat.gcd g (1 * y)) := rfl
    rw [e1, e2, Nat.gcd_mul_left, Nat.one_mul]
    exact ih
theorem gcd_up (c : Nat) (ys : List Nat) : gcdAll (up c ys) = c * gcdAll (up 1 ys) := by
  have := fold_mul c ys 0
  rw [Nat.mul_zero] at this
  exact this
theorem fold_dvd : ∀ (xs : List Int) (g : Nat), xs.foldl (fun g x => Nat.gcd g x.natAbs) g ∣ g ∧ ∀ x ∈ xs, xs.foldl (fun g x => Nat.gcd g x.natAbs) g ∣ x.natAbs
  | [], g => ⟨Nat.dvd_refl _, fun _ h => (nomatch h)⟩
  | y :: r, g => by
    obtain ⟨h1, h2⟩ := fold_dvd r (Nat.gcd g y.natAbs)
    refine ⟨Nat.dvd_trans h1 (Nat.gcd_dvd_left _ _), fun x hx => ?_⟩
    rcases List.mem_cons.mp hx with e | e
    · rw [e]
      exact Nat.dvd_trans h1 (Nat.gcd_dvd_right _ _)
    · exact h2 x e
theorem gcd_dvd_all {xs : List Int} {x : Int} (h : x ∈ xs) : gcdAll xs ∣ x.natAbs := (fold_dvd xs 0).2 x h
theorem split_up {xs : List Int} (h0 : ∀ x ∈ xs, 0 ≤ x) (hp : ∃ x ∈ xs, 0 < x) : ∃ (g : Nat) (ys : List Nat), 0 < g ∧ xs = up g ys ∧ gcdAll xs = g ∧ gcdAll (up 1 ys) = 1 ∧ 0 < ys.sum ∧ ys.length = xs.length := by
  obtain ⟨x, hx, px⟩ := hp
  have g0 : 0 < gcdAll xs := Nat.pos_of_dvd_of_pos (gcd_dvd_all hx) (by omega)
  have e : xs = up (gcdAll xs) (xs.map fun x => x.natAbs / gcdAll xs) := by
    unfold up
    rw [List.map_map]
    conv => lhs; rw [← List.map_id xs]
    refine List.map_congr_left fun z hz => ?_
    show z = ((gcdAll xs * (z.natAbs / gcdAll xs) : Nat) : Int)
    rw [Nat.mul_div_cancel' (gcd_dvd_all hz)]
    have := h0 z hz
    omega
  refine ⟨gcdAll xs, xs.map fun x => x.natAbs / gcdAll xs, g0, e, rfl, ?_, ?_, List.length_map ..⟩
  · have h1 := gcd_up (gcdAll xs) (xs.map fun x => x.natAbs / gcdAll xs)
    rw [← e] at h1
    exact Nat.eq_of_mul_eq_mul_left g0 (by omega)
  · have h1 : x.natAbs / gcdAll xs ∈ xs.map fun x => x.natAbs / gcdAll xs := List.mem_map.mpr ⟨x, hx, rfl⟩
    have h2 : 0 < x.natAbs / gcdAll xs := Nat.div_pos (Nat.le_of_dvd (by omega) (gcd_dvd_all hx)) g0
    have := le_sum_nat h1
    omega
theorem parts_up {c : Nat} {ys : List Nat} (hc : 0 < c) (h1 : gcdAll (up 1 ys) = 1) : gcdAll (up c ys) = c ∧ partsOf (up c ys) = up 1 ys := by
  have e : gcdAll (up c ys) = c := by rw [gcd_up, h1, Nat.mul_one]
  refine ⟨e, ?_⟩
  unfold partsOf
  rw [e]
  unfold up
  rw [List.map_map]
  refine List.map_congr_left fun y _ => ?_
  show ((c * y : Nat) : Int) / (c : Int) = ((1 * y : Nat) : Int)
  rw [← Int.natCast_ediv, Nat.mul_div_cancel_left _ hc, Nat.one_mul]
theorem sum_up (c : Nat) : ∀ ys : List Nat, (up c ys).sum = ((c * ys.sum : Nat) : Int)
  | [] => rfl
  | y :: r => by
    have ih := sum_up c r
    have e : (up c (y :: r)).sum = ((c * y : Nat) : Int) + (up c r).sum := rfl
    rw [e, ih, List.sum_cons, Nat.mul_add, Int.natCast_add]
theorem up_one (ys : List Nat) : up 1 ys = ys.map fun y : Nat => (y : Int) := List.map_congr_left fun y _ => by rw [Nat.one_mul]
theorem mul_up (b c : Nat) (ys : List Nat) : (up c ys).map (fun x => (b : Int) * x) = up (b * c) ys := by
  unfold up
  rw [List.map_map]
  refine List.map_congr_left fun y _ => ?_
  show (b : Int) * ((c * y : Nat) : Int) = _
  rw [← Int.natCast_mul, Nat.mul_assoc]
theorem mem_up {c : Nat} {ys : List Nat} {x : Int} (h : x ∈ up c ys) : ∃ y ∈ ys, x = ((c * y : Nat) : Int) := by
  obtain ⟨y, hy, rfl⟩ := List.mem_map.mp h
  exact ⟨y, hy, rfl⟩
theorem sum_lt : ∀ {xs : List Int} {B : Int}, (∀ x ∈ xs, 0 ≤ x ∧ x < B) → 0 ≤ B → xs.sum ≤ xs.length * B
  | [], _, _, _ => by simp
  | x :: r, B, h, hB => by
    have ih := sum_lt (fun z hz => h z (List.mem_cons_of_mem _ hz)) hB
    have h1 := (h x List.mem_cons_self).2
    rw [List.sum_cons, List.length_cons]
    have e : ((r.length + 1 : Nat) : Int) * B = (r.length : Int) * B + B := by
      rw [Int.natCast_add, Int.add_mul]
      simp
    omega
theorem up_len (c : Nat) (ys : List Nat) : (up c ys).length = ys.length := List.length_map ..
theorem tab_keep {H H' : Hp} {T : Addr} {ex : List Addr} (h : GxR.TabG H T) (k : Keep ex H H') (n : T ∉ ex) : GxR.TabG H' T := by
  obtain ⟨ps, e, t⟩ := h
  exact ⟨ps, k T _ n e, t⟩
theorem shaped_split (ns : List Int) (m : Int) : SeqAt.shaped (.tuple [.tuple (ns.map PyData.int), .int m]) = true := by
  unfold SeqAt.shaped
  rw [Bool.and_eq_true]
  refine ⟨?_, ?_⟩
  · show (PyData.canLayAll0 (ns.map PyData.int) && (true && true)) = true
    rw [canLay_ints]
    rfl
  · have := GL.depth_ints ns
    simp only [PyData.depth, PyData.depthAll, this]
    decide
theorem shaped_tup (ns : List Int) : SeqAt.shaped (.tuple (ns.map PyData.int)) = true := by
  unfold SeqAt.shaped
  rw [Bool.and_eq_true]
  refine ⟨canLay_ints ns, ?_⟩
  have := GL.depth_ints ns
  simp only [PyData.depth, this]
  decide
end K07
set_option Elab.async false
set_option linter.all false
set_option maxRecDepth 100000
set_option maxHeartbeats 4000000
set_option exponentiation.threshold 10000
set_option pp.maxSteps 300
set_option pp.deepTerms false
namespace K07
open PySem PySem.Spec PyProof.Rows L2 GL
section
variable {P : Program} {w : World} {K : PySem.W.Frag} {mg : Str → Option Value} {base : Heap}
def spLaw (K : PySem.W.Frag) (T : Addr) : Sp := fun vs H Q _ => ∃ (a : Addr) (ns : List Int), vs = [.ref a] ∧ SqL K H a (ns.map V.int) ∧ ns.length ≤ 63 ∧ GxR.TabG H T ∧ ∀ H', Q (.bl true) H'
theorem nilX {z : Addr} {X : Prop} (h : z ∈ ([] : List Addr)) : X := (nomatch h)
/-- what stands ahead of the four asks: numbers xs at p, handed h, due du with its tuple t; xs = g times ys -/
structure Ready (K : PySem.W.Frag) (H : Hp) (d a T p h t du : Addr) (ns : List Int) (n g : Nat) (ys : List Nat) : Prop where
  pen : Pen K H d a ns n
  tab : GxR.TabG H T
  num : H p = some (.lst ((up g ys).map V.int))
  han : H h = some (.tup ((up g ys).map V.int))
  par : H t = some (.tup ((up 1 ys).map V.int))
  due : H du = some (.tup [.ref t, .int ((1 * ys.sum : Nat) : Int)])
theorem Ready.keep {K : PySem.W.Frag} {H H' : Hp} {d a T p h t du : Addr} {ns : List Int} {n g : Nat} {ys : List Nat} (r : Ready K H d a T p h t du ns n g ys) (k : Keep [T] H H') (tab : GxR.TabG H' T) : Ready K H' d a T p h t du ns n g ys := by
  obtain ⟨ps, e, _⟩ := r.tab
  have nT : ∀ {b : Addr} {o : HO}, H b = some o → (∀ q, o ≠ .tbl q) → b ∉ [T] := fun {b o} hb ho z => by
    rw [List.mem_singleton.mp z, e] at hb
    exact ho ps (Option.some.inj hb).symm
  refine ⟨r.pen.keep k (fun b hb => ?_), tab, k p _ (nT r.num (by intro q z; cases z)) r.num, k h _ (nT r.han (by intro q z; cases z)) r.han, k t _ (nT r.par (by intro q z; cases z)) r.par, k du _ (nT r.due (by intro q z; cases z)) r.due⟩
  rw [List.mem_singleton.mp hb]
  refine ⟨fun z => ?_, fun xs hx => ?_⟩
  · obtain ⟨kvs, e2⟩ := r.pen.some
    rw [← z, e] at e2
    cases e2
  · rcases hx with hx | ⟨o, hx⟩
    · rw [e] at hx
      cases hx
    · rw [e] at hx
      cases hx
theorem Ready.keep0 {K : PySem.W.Frag} {H H' : Hp} {d a T p h t du : Addr} {ns : List Int} {n g : Nat} {ys : List Nat} (r : Ready K H d a T p h t du ns n g ys) (k : Keep [] H H') : Ready K H' d a T p h t du ns n g ys :=
  r.keep (k.mono (fun _ z => nilX z)) (tab_keep r.tab k (fun z => nilX z))
theorem ok_law {f T : Addr} {fd : FuncData} (F : FnP K "law" sLaw f fd) (m_range : mg "range" = none) (m_tuple : mg "tuple" = none) (m_sum : mg "sum" = none) (m_repr : mg "repr" = none)
    (c__law_pen : Cal P w K mg base 1 "_law_pen" (spPen K)) (c__law_draw : Cal P w K mg base 1 "_law_draw" (spDraw K)) (c__law_numbers : Cal P w K mg base 3 "_law_numbers" (spNums K)) (c__law_many : Cal P w K mg base 2 "_law_many" (spMany K))
    (c__law_measure : Cal P w K mg base 1 "_law_measure" (spMeas K)) (c_split_of : Cal P w K mg base 3 "split_of" (spSplit K T)) (c__law_shares_right : CalG P w K mg base 4 "_law_shares_right" (spRight K)) (c_share_of : Cal P w K mg base 3 "share_of" (spShare K)) :
    FnG P w K mg base CX0 5 f fd ["_law_script"] (spLaw K T) := by
  refine okG F scLaw (fun vs H Q E h => ?_) (fun cdv A outer s0 H vs Q E gd hr h => ?_)
  · obtain ⟨a, ns, rfl, _⟩ := h
    rfl
  · obtain ⟨a, ns, rfl, hS, hl, hT, q⟩ := h
    refine ⟨_, PSs.nox (pss_cons (ps_set (i := 1) scLaw.nd rfl (.inl rfl) (pe_k c__law_pen (hr.mono (by decide)) (by rfl) (pa_cons (pv 0) pa_nil)))
    (pss_cons (ps_for PassesOwn.never rfl (pi_range1 rfl m_range (pa_cons pe_int pa_nil)) (pg_name (i := 2) scLaw.nd rfl (.inl rfl))
      (pss_cons (ps_set (i := 3) scLaw.nd rfl (.inr rfl) (pe_op op_add pe_int (pe_k c__law_draw (hr.mono (by decide)) (by rfl) (pa_cons (pv 1) (pa_cons pe_int pa_nil)))))
    (pss_cons (ps_set (i := 4) scLaw.nd rfl (.inl rfl) (pe_k c__law_numbers (hr.mono (by decide)) (by rfl) (pa_cons (pv 1) (pa_cons (pe_k c__law_many (hr.mono (by decide)) (by rfl) (pa_cons (pv 1) pa_nil)) (pa_cons pe_int pa_nil)))))
    (pss_cons (ps_set (i := 5) scLaw.nd rfl (.inl rfl) (pe_callTy call_tuple_of (by rfl) m_tuple (by decide +kernel) (pa_cons (pv 4) pa_nil)))
    (pss_cons (ps_set (i := 6) scLaw.nd rfl (.inr rfl) (pe_k c__law_measure (hr.mono (by decide)) (by rfl) (pa_cons (pv 4) pa_nil)))
    (pss_cons (ps_set (i := 7) scLaw.nd rfl (.inl rfl) (pe_tup (pa_cons (pe_callTy call_tuple_of (by rfl) m_tuple (by decide +kernel) (pa_cons (pe_lc (own := [("_law_number", 10)]) (g := gName 10) (by rfl) scLaw.nd (pi_list (pv 4)) (blkOk_by (own := [("_law_number", 10)]) (N := ["_law_script", "_law_pen_here", "_law_turn", "_law_by", "_law_numbers_here", "_law_handed", "_law_divisor", "_law_due", "_law_some", "_law_split", "_law_number"]) (sc := defScope sLaw) (by decide +kernel)) (fun _ _ _ _ _ => (pg_name (i := 10) scLaw.nd rfl (.inl rfl))) (fun _ _ _ _ _ => pts_nil) (fun _ _ _ _ _ => (pe_op op_fdivW (pv 10) (pv 6)))) pa_nil)) (pa_cons (pe_op op_fdivW (pe_callB (cr_sum rfl) (by rfl) m_sum (by decide +kernel) (pa_cons (pv 4) pa_nil)) (pv 6)) pa_nil))))
    (pss_cons (ps_for PassesOwn.never rfl (pi_list (pe_lst (pa_cons (pv 5) (pa_cons (pe_callTy call_tuple_of (by rfl) m_tuple (by decide +kernel) (pa_cons (pe_lc (own := [("_law_number", 10)]) (g := gName 10) (by rfl) scLaw.nd (pi_list (pv 4)) (blkOk_by (own := [("_law_number", 10)]) (N := ["_law_script", "_law_pen_here", "_law_turn", "_law_by", "_law_numbers_here", "_law_handed", "_law_divisor", "_law_due", "_law_some", "_law_split", "_law_number"]) (sc := defScope sLaw) (by decide +kernel)) (fun _ _ _ _ _ => (pg_name (i := 10) scLaw.nd rfl (.inl rfl))) (fun _ _ _ _ _ => pts_nil) (fun _ _ _ _ _ => (pe_op op_mul (pv 3) (pv 10)))) pa_nil)) (pa_cons (pe_ix ix_tup (pv 7) pe_int (fun _ _ => rfl)) (pa_cons (pv 5) pa_nil)))))) (pg_name (i := 8) scLaw.nd rfl (.inl rfl))
      (pss_one (ps_if (pt_cmpR op_ne (pe_callB (call_repr gd hr.units) (by rfl) m_repr (by decide +kernel) (pa_cons (pe_k c_split_of (hr.mono (by decide)) (by rfl) (pa_cons (pv 8) pa_nil)) pa_nil)) (pe_callB (call_repr gd hr.units) (by rfl) m_repr (by decide +kernel) (pa_cons (pv 7) pa_nil)) (nomark _))
      (pss_one (ps_ret pe_bl))
      pss_nil)))
    (pss_cons (ps_set (i := 9) scLaw.nd rfl (.inl rfl) (pe_k c_split_of (hr.mono (by decide)) (by rfl) (pa_cons (pv 5) pa_nil)))
    (pss_mid (ps_if (PW.pt (pw_or (pt_not (pt_val (pe_kG c__law_shares_right gd (hr.mono (by decide)) (by rfl) (pa_cons (pv 9) (pa_cons (pv 4) pa_nil))))) (pw_or1 (pt_not (pt_val (pe_kG c__law_shares_right gd (hr.mono (by decide)) (by rfl) (pa_cons (pv 9) (pa_cons (pe_ix ix_tup (pv 7) pe_int (fun _ _ => rfl)) pa_nil))))))))
      (pss_one (ps_ret pe_bl))
      pss_nil)
    (pss_one (ps_if (PW.pt (pw_or (pt_cmpR (op_neD hr.units) (pv 5) (pe_callTy call_tuple_of (by rfl) m_tuple (by decide +kernel) (pa_cons (pv 4) pa_nil)) (nomark _)) (pw_or1 (pt_cmpR op_ne (pe_callB (call_repr gd hr.units) (by rfl) m_repr (by decide +kernel) (pa_cons (pv 9) pa_nil)) (pe_callB (call_repr gd hr.units) (by rfl) m_repr (by decide +kernel) (pa_cons (pv 7) pa_nil)) (nomark _)))))
      (pss_one (ps_ret pe_bl))
      pss_nil)))))))))))
    (pss_one (ps_ret (pe_and (pe_cmpR (op_eqD hr.units) (pe_k c_split_of (hr.mono (by decide)) (by rfl) (pa_cons (pe_tup (pa_cons pe_int (pa_cons pe_int (pa_cons pe_int pa_nil)))) pa_nil)) (pe_tup (pa_cons (pe_tup (pa_cons pe_int (pa_cons pe_int (pa_cons pe_int pa_nil)))) (pa_cons pe_int pa_nil))) (nomark _)) (pe_one (pe_cmpR (op_eqD hr.units) (pe_k c_share_of (hr.mono (by decide)) (by rfl) (pa_cons (pe_tup (pa_cons (pe_tup (pa_cons pe_int (pa_cons pe_int (pa_cons pe_int pa_nil)))) (pa_cons pe_int pa_nil))) (pa_cons pe_int pa_nil))) (pe_tup (pa_cons pe_int (pa_cons pe_int pa_nil))) (nomark _)))))))), ?_⟩
    refine ⟨_, rfl, a, ns, rfl, hS, hl, fun d H1 nd k1 p1 => ?_⟩
    refine ⟨4, rfl, by decide, by decide, for_range (n := 4) (fun i σ H' => ∃ y2 y3 y4 y5 y6 y7 y8 y9 : Option V, σ = [some (.ref a), some (.ref d), y2, y3, y4, y5, y6, y7, y8, y9, none] ∧ Pen K H' d a ns (500 * i) ∧ GxR.TabG H' T)
      ⟨none, none, none, none, none, none, none, none, rfl, p1, tab_keep hT k1 (fun z => nilX z)⟩ ?_ ?_⟩
    · rintro i σ H2 hi ⟨y2, y3, y4, y5, y6, y7, y8, y9, rfl, p2, t2⟩
      have Td : ∀ {H' : Hp} {n : Nat}, Pen K H' d a ns n → GxR.TabG H' T → T ∉ [d] := fun {H' n} hp ht z => by
        obtain ⟨kvs, e⟩ := hp.some
        obtain ⟨ps, e2, _⟩ := ht
        rw [List.mem_singleton.mp z, e] at e2
        cases e2
      -- by, numbers
      refine ⟨_, rfl, d, a, ns, _, 60, rfl, p2, by omega, by decide, by decide, fun r H3 r0 r1 k3 p3 => ⟨2, r, rfl, rfl, ?_⟩⟩
      have t3 := tab_keep t2 k3 (Td p2 t2)
      refine ⟨_, rfl, _, rfl, d, a, ns, _, rfl, p3, by omega, fun m H4 m0 m1 k4 p4 => ?_⟩
      have t4 := tab_keep t3 k4 (Td p3 t3)
      refine ⟨d, a, ns, _, m, 33, rfl, p4, by omega, by omega, by omega, by decide, by decide, fun p xs H5 np k5 e5 hlen hx hpos p5 => ?_⟩
      have t5 := tab_keep t4 k5 (Td p4 t4)
      obtain ⟨g, ys, g0, rfl, eg, h1, ySum, ylen⟩ := split_up (fun x hx' => (hx x hx').1) hpos
      have sumB : g * ys.sum < 2 ^ 680 := by
        have h2 := sum_lt (B := 2 ^ 666) hx (by decide)
        rw [sum_up, hlen] at h2
        have h3 : ((m.toNat : Nat) : Int) * 2 ^ 666 ≤ 10 * 2 ^ 666 := Int.mul_le_mul_of_nonneg_right (by omega) (by decide)
        have h4 : (10 : Int) * 2 ^ 666 < 2 ^ 680 := by decide
        have h5 : ((g * ys.sum : Nat) : Int) < ((2 ^ 680 : Nat) : Int) := by
          have e : ((2 ^ 680 : Nat) : Int) = (2 : Int) ^ 680 := by simp
          omega
        exact Int.ofNat_lt.mp h5
      have yS : ys.sum ≤ g * ys.sum := Nat.le_mul_of_pos_left _ g0
      have gS : g ≤ g * ys.sum := Nat.le_mul_of_pos_right _ ySum
      have ylen10 : ys.length ≤ 10 := by
        rw [ylen, hlen]
        omega
      have fineUp : ∀ n ∈ up 1 ys, Fine n := fun n hn => by
        obtain ⟨y, hy, rfl⟩ := mem_up hn
        have := le_sum_nat hy
        refine fine_nat (Nat.lt_of_le_of_lt (m := ys.sum) (by omega) (Nat.lt_trans (Nat.lt_of_le_of_lt yS sumB) (by decide)))
      have sh : Show (.tuple [.tuple ((up 1 ys).map PyData.int), .int ((1 * ys.sum : Nat) : Int)]) := show_split fineUp (fine_nat (by rw [Nat.one_mul]; exact Nat.lt_trans (Nat.lt_of_le_of_lt yS sumB) (by decide))) (by rw [up_len]; omega)
      -- handed
      refine ⟨_, rfl, p, _, rfl, .inl ⟨.of e5, fun h nh => ?_⟩⟩
      have k6 : Keep [] H5 (upd H5 h (.tup ((up g ys).map V.int))) := (Keep.refl [] H5).new nh
      have eh : upd H5 h (.tup ((up g ys).map V.int)) h = some (.tup ((up g ys).map V.int)) := upd_same
      generalize upd H5 h (.tup ((up g ys).map V.int)) = H6 at k6 eh
      have e6 := k6 p _ (fun z => nilX z) e5
      -- divisor
      refine ⟨_, rfl, p, _, rfl, .of e6, fun x hx' => (hx x hx').1, ?_⟩
      rw [eg]
      have gd700 : g < 2 ^ 700 := Nat.lt_trans (Nat.lt_of_le_of_lt gS sumB) (by decide)
      -- due
      refine ⟨_, rfl, p, rfl, ⟨_, .of e6⟩, fun D hD => lc_map (fun v => match v with | .int x => .int (x / (g : Int)) | v => v) (SqL.of e6) hD (by rw [List.length_map, up_len]; omega) (fun _ => rfl) ?_ ?_⟩
      · intro v hv H7 Q7 _ hQ
        obtain ⟨x, _, rfl⟩ := List.mem_map.mp hv
        exact ⟨_, rfl, _, rfl, x, (g : Int), rfl, rfl, divW_nat g0 gd700, hQ⟩
      intro H7 k7 eD
      have eD2 : H7 D = some (.lst ((up 1 ys).map V.int)) := by
        rw [eD]
        have e1 := (parts_up (c := g) g0 h1).2
        unfold partsOf at e1
        rw [eg] at e1
        rw [← e1, List.map_map, List.map_map]
        rfl
      refine ⟨D, _, rfl, .inl ⟨.of eD2, fun t nt => ?_⟩⟩
      have k8 : Keep [] H7 (upd H7 t (.tup ((up 1 ys).map V.int))) := (Keep.refl [] H7).new nt
      have et : upd H7 t (.tup ((up 1 ys).map V.int)) t = some (.tup ((up 1 ys).map V.int)) := upd_same
      generalize upd H7 t (.tup ((up 1 ys).map V.int)) = H8 at k8 et
      have k68 := k7.trans k8
      refine ⟨_, rfl, p, up g ys, rfl, .of (k68 p _ (fun z => nilX z) e6), _, rfl, _, (g : Int), rfl, rfl, divW_nat g0 gd700, (by show 2 ≤ sizeLine; decide), fun du ndu => ?_⟩
      have edu : upd H8 du (.tup [.ref t, .int ((up g ys).sum / (g : Int))]) du = some (.tup [.ref t, .int ((1 * ys.sum : Nat) : Int)]) := by
        rw [upd_same, sum_up, ← Int.natCast_ediv, Nat.mul_div_cancel_left _ g0, Nat.one_mul]
      have k9 : Keep [] H8 (upd H8 du (.tup [.ref t, .int ((up g ys).sum / (g : Int))])) := (Keep.refl [] H8).new ndu
      have R : Ready K (upd H8 du (.tup [.ref t, .int ((up g ys).sum / (g : Int))])) d a T p h t du ns (500 * i + 405) g ys := by
        have kk := (k6.trans k68).trans k9
        exact ⟨(p5.keep kk (fun _ z => nilX z)).mono (by omega), tab_keep t5 kk (fun z => nilX z), kk p _ (fun z => nilX z) e5, (k68.trans k9) h _ (fun z => nilX z) eh, k9 t _ (fun z => nilX z) et, edu⟩
      generalize upd H8 du (.tup [.ref t, .int ((up g ys).sum / (g : Int))]) = H9 at R
      -- the four asks
      refine ⟨_, rfl, _, rfl, p, rfl, ⟨_, .of R.num⟩, fun D2 hD2 => lc_map (fun v => match v with | .int x => .int ((2 + r) * x) | v => v) (SqL.of R.num) hD2 (by rw [List.length_map, up_len]; omega) (fun _ => rfl) ?_ ?_⟩
      · intro v hv H7 Q7 _ hQ
        obtain ⟨x, _, rfl⟩ := List.mem_map.mp hv
        exact ⟨_, rfl, _, rfl, 2 + r, x, rfl, rfl, .inl ⟨by omega, by omega⟩, hQ⟩
      intro H10 k10 eD3
      have b0 : 0 < (2 + r).toNat * g := Nat.mul_pos (by omega) g0
      have eD4 : H10 D2 = some (.lst ((up ((2 + r).toNat * g) ys).map V.int)) := by
        rw [eD3, ← mul_up, List.map_map, List.map_map]
        congr 2
        refine List.map_congr_left fun x _ => ?_
        show V.int _ = V.int _
        rw [Int.toNat_of_nonneg (by omega)]
      refine ⟨D2, _, rfl, .inl ⟨.of eD4, fun t2 nt2 => ?_⟩⟩
      have et2 : upd H10 t2 (.tup ((up ((2 + r).toNat * g) ys).map V.int)) t2 = some (.tup ((up ((2 + r).toNat * g) ys).map V.int)) := upd_same
      have R2 := (R.keep0 k10).keep0 ((Keep.refl [] H10).new (o := .tup ((up ((2 + r).toNat * g) ys).map V.int)) nt2)
      generalize upd H10 t2 (.tup ((up ((2 + r).toNat * g) ys).map V.int)) = H11 at R2 et2
      refine ⟨_, rfl, du, _, 0, .ref t, rfl, rfl, .of R2.due, rfl, _, rfl, (by show 4 ≤ sizeLine; decide), fun ls nls => ?_⟩
      have els : upd H11 ls (.lst [.ref h, .ref t2, .ref t, .ref h]) ls = some (.lst [.ref h, .ref t2, .ref t, .ref h]) := upd_same
      have k12 : Keep [] H11 (upd H11 ls (.lst [.ref h, .ref t2, .ref t, .ref h])) := (Keep.refl [] H11).new nls
      have R3 := R2.keep0 k12
      have et3 := k12 t2 _ (fun z => nilX z) et2
      generalize upd H11 ls (.lst [.ref h, .ref t2, .ref t, .ref h]) = H12 at R3 els et3
      obtain ⟨ps3, eT3, _⟩ := _root_.id R3.tab
      have nT : ∀ {b : Addr} {o : HO}, H12 b = some o → (∀ q, o ≠ .tbl q) → b ∉ [T] := fun {b o} hb ho z => by
        rw [List.mem_singleton.mp z, eT3] at hb
        exact ho ps3 (Option.some.inj hb).symm
      refine ⟨ls, rfl, ⟨_, .of els⟩, for_list (xs := [.ref h, .ref t2, .ref t, .ref h]) (fun j σ H' => ∃ y8 : Option V, σ = [some (.ref a), some (.ref d), some (.int (0 + (i : Int))), some (.int (2 + r)), some (.ref p), some (.ref h), some (.int (g : Int)), some (.ref du), y8, y9, none] ∧ Keep [T] H12 H' ∧ GxR.TabG H' T)
        ⟨_, rfl, Keep.refl _ _, R3.tab⟩ ?_ ?_ ?_⟩
      · rintro j σ H' _ ⟨y8, rfl, k, _⟩
        exact k.sql (fun _ => nT els (by intro q z; cases z)) (.of els)
      · rintro j x σ H' hx2 ⟨y8, rfl, k, tb⟩
        have R4 := R3.keep k tb
        have et4 := k t2 _ (nT et3 (by intro q z; cases z)) et3
        obtain ⟨ad, c, rfl, c0, cB, ead⟩ : ∃ (ad : Addr) (c : Nat), x = .ref ad ∧ 0 < c ∧ c < 2 ^ 1000 ∧ H' ad = some (.tup ((up c ys).map V.int)) := by
          have gB : g < 2 ^ 680 := Nat.lt_of_le_of_lt gS sumB
          have h2g : (2 + r).toNat * g < 2 ^ 10 * 2 ^ 680 := Nat.mul_lt_mul'' (by omega) gB
          match j, hx2 with
          | 0, e => exact ⟨h, g, (Option.some.inj e).symm, g0, Nat.lt_trans gB (by decide), R4.han⟩
          | 1, e => exact ⟨t2, (2 + r).toNat * g, (Option.some.inj e).symm, b0, Nat.lt_of_lt_of_le h2g (by decide), et4⟩
          | 2, e => exact ⟨t, 1, (Option.some.inj e).symm, Nat.one_pos, by decide, R4.par⟩
          | 3, e => exact ⟨h, g, (Option.some.inj e).symm, g0, Nat.lt_trans gB (by decide), R4.han⟩
          | j + 4, e => exact absurd e (by simp)
        have pu := parts_up c0 h1
        refine ⟨_, rfl, ad, up c ys, rfl, .of ead, by rw [up_len]; omega, by rw [pu.1]; exact c0, by rw [pu.1]; exact Int.lt_trans (cast_lt cB) (by decide), tb, ?_⟩
        rw [pu.2]
        intro H13 t' p' k13 tb13 _ _ et' ep'
        rw [sum_up] at ep'
        have R5 := R4.keep k13 tb13
        exact ⟨p', _, rfl, dp_split (.of ep') (.of et'), sh.s, sh.n, sh.dp, sh.z, _, rfl, du, _, rfl, dp_split (.of R5.due) (.of R5.par), sh.s, sh.n, sh.dp, sh.z, rfl, _, rfl, iteNS rfl ⟨_, rfl, k.trans k13, tb13⟩⟩
      · rintro σ H' ⟨y8, rfl, k, tb⟩
        have R4 := R3.keep k tb
        have pu := parts_up g0 h1
        -- split
        refine ⟨_, rfl, h, up g ys, rfl, .of R4.han, by rw [up_len]; omega, by rw [pu.1]; exact g0, by rw [pu.1]; exact Int.lt_trans (cast_lt gd700) (by decide), tb, ?_⟩
        rw [pu.2]
        intro H13 t' p' k13 tb13 _ _ et' ep'
        rw [sum_up] at ep'
        have R5 := R4.keep k13 tb13
        have e1S : SqT K H13 p' [.ref t', vN ys.sum] := .of (by rw [ep', Nat.one_mul])
        have e1T : SqT K H13 t' ((ys.map fun y : Nat => (y : Int)).map V.int) := .of (by rw [et', up_one])
        have cB : g * ys.sum < 2 ^ 700 := Nat.lt_trans sumB (by decide)
        refine ⟨fun σ' H' => σ' = [some (.ref a), some (.ref d), some (.int (0 + (i : Int))), some (.int (2 + r)), some (.ref p), some (.ref h), some (.int (g : Int)), some (.ref du), y8, some (.ref p'), none] ∧ Keep [] H13 H', ?_, ?_⟩
        · refine ⟨_, rfl, _, rfl, p', t', p, true, ys, g, rfl, e1S, e1T, .of R5.num, g0, ySum, cB, by omega, fun H14 k14 => ⟨true, rfl, iteF ?_⟩⟩
          refine ⟨_, rfl, _, rfl, du, _, 0, .ref t, rfl, rfl, .of (k14 du _ (fun z => nilX z) R5.due), rfl, p', t', t, false, ys, 1, rfl, k14.sqt (fun _ z => nilX z) e1S, k14.sqt (fun _ z => nilX z) e1T, .of (k14 t _ (fun z => nilX z) R5.par), Nat.one_pos, ySum, by omega, by omega, fun H15 k15 => ⟨true, rfl, iteF ⟨rfl, k14.trans k15⟩⟩⟩
        · rintro σ' H14 ⟨rfl, k14⟩
          have R6 := R5.keep0 k14
          refine ⟨_, rfl, _, rfl, p, _, rfl, .inl ⟨.of R6.num, fun h2 nh2 => ?_⟩⟩
          have k15 : Keep [] H14 (upd H14 h2 (.tup ((up g ys).map V.int))) := (Keep.refl [] H14).new nh2
          have R7 := R6.keep0 k15
          have ep7 := (k14.trans k15) p' _ (fun z => nilX z) ep'
          have et7 := (k14.trans k15) t' _ (fun z => nilX z) et'
          refine ⟨.tuple ((up g ys).map PyData.int), .tuple ((up g ys).map PyData.int), .tup (.of R7.han) (dpAll_ints _), .tup (.of upd_same) (dpAll_ints _), shaped_tup _, shaped_tup _, _, rfl, ?_⟩
          rw [SeqAt.eqv_refl (.tuple ((up g ys).map PyData.int)) (canLay_ints (up g ys))]
          refine iteF ⟨_, rfl, p', _, rfl, dp_split (.of ep7) (.of et7), sh.s, sh.n, sh.dp, sh.z, _, rfl, du, _, rfl, dp_split (.of R7.due) (.of R7.par), sh.s, sh.n, sh.dp, sh.z, rfl, _, rfl, iteNS rfl ?_⟩
          exact ⟨_, _, _, _, _, _, _, _, rfl, R7.pen.mono (by omega), R7.tab⟩
    · rintro σ H2 ⟨y2, y3, y4, y5, y6, y7, y8, y9, rfl, p2, t2⟩
      have g7 : gcdAll [0, 7, 0] = 7 := by decide
      have w7 : partsOf [0, 7, 0] = [0, 1, 0] := by decide
      -- split_of((0, 7, 0)) == ((0, 1, 0), 1)
      refine ⟨(by show 3 ≤ sizeLine; decide), fun a1 n1 => ⟨a1, [0, 7, 0], rfl, .of upd_same, by decide, by rw [g7]; decide, by rw [g7]; decide, tab_keep t2 ((Keep.refl [] H2).new n1) (fun z => nilX z), ?_⟩⟩
      rw [w7]
      intro H3 t p k3 tb3 _ _ et ep
      refine ⟨(by show 3 ≤ sizeLine; decide), fun a2 n2 => ⟨(by show 2 ≤ sizeLine; decide), fun a3 n3 => ?_⟩⟩
      have k4 := ((Keep.refl [] H3).new (o := .tup [.int 0, .int 1, .int 0]) n2).new (o := .tup [.ref a2, .int 1]) n3
      have e2 : (upd (upd H3 a2 (.tup [.int 0, .int 1, .int 0])) a3 (.tup [.ref a2, .int 1])) a2 = some (.tup ([(0 : Int), 1, 0].map V.int)) := by
        rw [upd_ne (fun z => by rw [← z, upd_same] at n3; cases n3), upd_same]
        rfl
      refine ⟨_, _, dp_split (.of (k4 p _ (fun z => nilX z) ep)) (.of (k4 t _ (fun z => nilX z) et)), dp_split (.of upd_same) (.of e2), shaped_split _ _, shaped_split _ _, _, rfl, ?_⟩
      have ev : PyData.eqv (.tuple [.tuple ([(0 : Int), 1, 0].map PyData.int), .int ([(0 : Int), 1, 0].sum)]) (.tuple [.tuple ([(0 : Int), 1, 0].map PyData.int), .int 1]) = true := by decide +kernel
      rw [ev]
      refine iteT ?_
      -- share_of(((0, 1, 0), 1), 2) == (0, 1)
      refine ⟨(by show 3 ≤ sizeLine; decide), fun a4 n4 => ⟨(by show 2 ≤ sizeLine; decide), fun a5 n5 => ?_⟩⟩
      have a45 : a4 ≠ a5 := fun z => by rw [← z, upd_same] at n5; cases n5
      refine ⟨a5, a4, [0, 1, 0], 1, 2, 0, rfl, .of upd_same, .of (by rw [upd_ne a45, upd_same]; rfl), rfl, by decide, by decide, fun p6 H6 n6 k6 e6 => ?_⟩
      refine ⟨(by show 2 ≤ sizeLine; decide), fun a7 n7 => ?_⟩
      have e7 := ((Keep.refl [] H6).new (o := .tup [.int 0, .int 1]) n7) p6 _ (fun z => nilX z) e6
      refine ⟨.tuple ([(0 : Int), 1].map PyData.int), .tuple ([(0 : Int), 1].map PyData.int), .tup (.of e7) (dpAll_ints [(0 : Int), 1]), .tup (.of upd_same) (dpAll_ints [(0 : Int), 1]), shaped_tup _, shaped_tup _, ?_⟩
      rw [SeqAt.eqv_refl (.tuple ([(0 : Int), 1].map PyData.int)) (canLay_ints [0, 1])]
      exact q _
end
end K07
set_option Elab.async false
set_option linter.all false
set_option maxRecDepth 100000
set_option maxHeartbeats 0
set_option exponentiation.threshold 10000
namespace K07
open PySem PySem.Spec PyProof.Rows L2 GL
/-! ### the head -/
def dd (x : Str) (st : Stmt) : He.DefD := ⟨(x, none), x, x, defArgs st, defBody st, defScope st, [], []⟩
def fn : List He.DefD := [dd "common_divisor" sGcd, dd "common_divisor_of_all" sGcdAll, dd "fraction" sFrac, dd "split_of" sSplit, dd "share_of" sShare, dd "_law_pen" sPen, dd "_law_draw" sDraw, dd "_law_measure" sMeas, dd "_law_great" sGreat, dd "_law_numbers" sNums, dd "_law_many" sMany, dd "_law_shares_right" sRight, dd "law" sLaw]
def fa : List He.Fa := [.glo "common_divisor", .glo "common_divisor_of_all", .glo "fraction", .glo "split_of", .glo "share_of", .glo "_law_pen", .glo "_law_draw", .glo "_law_measure", .glo "_law_great", .glo "_law_numbers", .glo "_law_many", .glo "_law_shares_right", .glo "law",
  .free "abs", .free "len", .free "range", .free "int", .free "sum", .free "tuple", .free "enumerate", .free "repr"]
def names : List PySem.Str := ["common_divisor", "common_divisor_of_all", "fraction", "split_of", "share_of", "_law_pen", "_law_draw", "_law_measure", "_law_great", "_law_numbers", "_law_many", "_law_shares_right"]
abbrev R : PySem.W.OpenRow := PySem.W.OpenLaw.row PySem.Challenge.rw_leapranks_k07_splits_made
abbrev hk : PySem.W.Hook := He.hookX 3 fa fn [] [("split_of", none)] (fun _ => true)
def ob (s : PySem.W.SharedT) : He.AlX := He.obsX 3 fa fn [] [("split_of", none)] (fun _ => true) (HandSHeadRun.getT s)
theorem ob_eq (s : PySem.W.SharedT) : ob s = hk.obs s.abs := He.obsX_eq (HandSHeadRun.getT_eq s)
theorem run (w : World) : HandSHeadRun.RunEq R (PySem.W.view R.prog [16]) hk ob 600 names w := by
  intro os
  kernel_rfl
end K07
set_option Elab.async false
set_option linter.all false
set_option maxRecDepth 100000
set_option maxHeartbeats 0
set_option exponentiation.threshold 10000
set_option pp.maxSteps 300
set_option pp.deepTerms false
namespace K07
open PySem PySem.Spec PyProof.Rows L2 GL
theorem code_of {K : PySem.W.Frag} {x : Str} {st : Stmt} {fd : FuncData} (F : FnP K x st (He.fAd K (x, none)) fd) : fd.code = .ref (He.codeOf K (x, none)) := by
  obtain ⟨oc, od, dV, kV, doc, pm, an, cdv, ct, osl, e, lk, hcd, _, _⟩ := F.ex
  obtain ⟨c, rfl⟩ := He.codeIn_ref hcd
  have e1 : fd.code = .ref c := by rw [e]
  rw [He.codeOf_eq lk e1, e1]
theorem facts {P : Program} {w : World} {K : PySem.W.Frag} {h : Heap} {mg : Str → Option Value} {f : Addr} (X : K.In h) (G : h.Ns mainGlobals mg) (hfa : mg ("law" : Str) = some (.ref f))
    (c : He.SaysX fa fn [] [("split_of", none)] (fun _ => true) w h K) : LawG P w K 5 63 "_law_script" mg f h := by
  have cd := c.t.d
  obtain ⟨d0, F0⟩ := cd.def_ 0 (d := dd "common_divisor" sGcd) rfl
  obtain ⟨d1, F1⟩ := cd.def_ 1 (d := dd "common_divisor_of_all" sGcdAll) rfl
  obtain ⟨d2, F2⟩ := cd.def_ 2 (d := dd "fraction" sFrac) rfl
  obtain ⟨d3, F3⟩ := cd.def_ 3 (d := dd "split_of" sSplit) rfl
  obtain ⟨d4, F4⟩ := cd.def_ 4 (d := dd "share_of" sShare) rfl
  obtain ⟨d5, F5⟩ := cd.def_ 5 (d := dd "_law_pen" sPen) rfl
  obtain ⟨d6, F6⟩ := cd.def_ 6 (d := dd "_law_draw" sDraw) rfl
  obtain ⟨d7, F7⟩ := cd.def_ 7 (d := dd "_law_measure" sMeas) rfl
  obtain ⟨d8, F8⟩ := cd.def_ 8 (d := dd "_law_great" sGreat) rfl
  obtain ⟨d9, F9⟩ := cd.def_ 9 (d := dd "_law_numbers" sNums) rfl
  obtain ⟨d10, F10⟩ := cd.def_ 10 (d := dd "_law_many" sMany) rfl
  obtain ⟨d11, F11⟩ := cd.def_ 11 (d := dd "_law_shares_right" sRight) rfl
  obtain ⟨d12, F12⟩ := cd.def_ 12 (d := dd "law" sLaw) rfl
  have g : ∀ (i : Nat) {x : Str}, fa[i]? = some (.glo x) → mg x = some (.ref (He.ga K x)) := fun i x hi => He.glo_ok X G (cd.fact i (f := .glo x) hi)
  have z : ∀ (i : Nat) {x : Str}, fa[i]? = some (.free x) → mg x = none := fun i x hi => He.free_ok X G (cd.fact i (f := .free x) hi)
  have e := hfa.symm.trans (g 12 (x := "law") rfl)
  cases e
  have b := FunD.bindsA (ps := ["_law_script"]) F12 fun _ _ _ _ _ _ us hl => match us, hl with | [_], _ => rfl
  have mem : (("split_of", none) : He.Defn) ∈ [(("split_of", none) : He.Defn)] := List.mem_singleton.mpr rfl
  refine ⟨d12, [He.cT K ("split_of", none)], spLaw K (He.cT K ("split_of", none)).2, ?_, fun s v => b s [v] rfl, ?_, ?_⟩
  · intro p hp
    rw [List.mem_singleton.mp hp]
    exact ⟨c.empty _ mem, c.out _ mem, c.hd _ mem⟩
  · intro H a ns hl hT hS
    exact ⟨a, ns, rfl, hS, hl, ⟨#[], hT _ (List.mem_singleton.mpr rfl), by first | trivial | exact .nil | simp [TriplesOk]⟩, fun _ => rfl⟩
  · intro base inB nsB TB
    have c0 : Cal P w K mg base 1 "common_divisor" spGcd := ⟨_, _, _, ok_gcd F0 (z 13 rfl), g 0 rfl, F0.kp, F0.bindsN fun _ _ _ _ _ _ us hl => match us, hl with | [_, _], _ => rfl⟩
    have c1 : Cal P w K mg base 2 "common_divisor_of_all" (spGcdAll K) := ⟨_, _, _, ok_gcdAll F1 c0, g 1 rfl, F1.kp, F1.bindsN fun _ _ _ _ _ _ us hl => match us, hl with | [_], _ => rfl⟩
    have c2 : Cal P w K mg base 2 "fraction" spFrac := ⟨_, _, _, ok_frac F2 c0, g 2 rfl, F2.kp, F2.bindsN fun _ _ _ _ _ _ us hl => match us, hl with | [_, _], _ => rfl⟩
    have c3 : Cal P w K mg base 3 "split_of" (spSplit K (He.cT K ("split_of", none)).2) := ⟨_, _, _, ok_split F3 (code_of (st := sSplit) F3) (TB _ (List.mem_singleton.mpr rfl)) (z 18 rfl) (z 17 rfl) c1, g 3 rfl, F3.kp, F3.bindsN fun _ _ _ _ _ _ us hl => match us, hl with | [_], _ => rfl⟩
    have c4 : Cal P w K mg base 3 "share_of" (spShare K) := ⟨_, _, _, ok_share F4 c2, g 4 rfl, F4.kp, F4.bindsN fun _ _ _ _ _ _ us hl => match us, hl with | [_, _], _ => rfl⟩
    have c5 : Cal P w K mg base 1 "_law_pen" (spPen K) := ⟨_, _, _, ok_pen F5, g 5 rfl, F5.kp, F5.bindsN fun _ _ _ _ _ _ us hl => match us, hl with | [_], _ => rfl⟩
    have c6 : Cal P w K mg base 1 "_law_draw" (spDraw K) := ⟨_, _, _, ok_draw F6 (z 14 rfl) (z 13 rfl), g 6 rfl, F6.kp, F6.bindsN fun _ _ _ _ _ _ us hl => match us, hl with | [_, _], _ => rfl⟩
    have c7 : Cal P w K mg base 1 "_law_measure" (spMeas K) := ⟨_, _, _, ok_meas F7, g 7 rfl, F7.kp, F7.bindsN fun _ _ _ _ _ _ us hl => match us, hl with | [_], _ => rfl⟩
    have c8 : Cal P w K mg base 2 "_law_great" (spGreat K) := ⟨_, _, _, ok_great F8 (z 15 rfl) c6, g 8 rfl, F8.kp, F8.bindsN fun _ _ _ _ _ _ us hl => match us, hl with | [_, _], _ => rfl⟩
    have c9 : Cal P w K mg base 3 "_law_numbers" (spNums K) := ⟨_, _, _, ok_nums F9 (z 15 rfl) (z 16 rfl) (z 17 rfl) c6 c8, g 9 rfl, F9.kp, F9.bindsN fun _ _ _ _ _ _ us hl => match us, hl with | [_, _, _], _ => rfl⟩
    have c10 : Cal P w K mg base 2 "_law_many" (spMany K) := ⟨_, _, _, ok_many F10 c6, g 10 rfl, F10.kp, F10.bindsN fun _ _ _ _ _ _ us hl => match us, hl with | [_], _ => rfl⟩
    have c11 : CalG P w K mg base 4 "_law_shares_right" (spRight K) := ⟨_, _, _, ok_right F11 (z 17 rfl) (z 19 rfl) (z 20 rfl) c7 c4, g 11 rfl, F11.kp, F11.bindsN fun _ _ _ _ _ _ us hl => match us, hl with | [_, _], _ => rfl⟩
    exact ok_law F12 (z 15 rfl) (z 18 rfl) (z 17 rfl) (z 20 rfl) c5 c6 c9 c10 c7 c3 c11 c4
end K07
open PySem PySem.W PySem.Calls PyProof.Rows
theorem PySem.Challenge.cw_leapranks_k07_splits_made_holds : PySem.Challenge.rw_leapranks_k07_splits_made.Holds := by
  w_on; o_law
  refine HandSHeadRun.head_any (r := OpenLaw.row PySem.Challenge.rw_leapranks_k07_splits_made) (q := view (OpenLaw.row PySem.Challenge.rw_leapranks_k07_splits_made).prog [16]) (H := K07.hk) (ob := K07.ob) (M := 600) (loose := K07.names) (d := HandSHeadRun.topDef (OpenLaw.row PySem.Challenge.rw_leapranks_k07_splits_made).prog 16) (kwd := []) K07.ob_eq
    (by kernel_rfl) (fun s => by kernel_rfl) K07.run (by kernel_rfl) (by kernel_rfl) (by kernel_rfl) (by rfl) (by first | assumption | decide +kernel) (by decide +kernel) ⟨rfl, rfl, rfl, rfl, rfl, by decide +kernel⟩ ?hw ?hc
  case hw => w_witness2
  case hc =>
    refine GL.walk_G (l := PySem.Challenge.rw_leapranks_k07_splits_made) (n := 63) (k := 5) (x := "_law_script") rfl (by decide) (by kernel_rfl) ⟨rfl, by decide, by decide⟩ ?F
    intro w mg fa h Y G hmg0
    obtain ⟨K, KX, c⟩ := Y
    have hmg : mg ("law" : PySem.Str) = some (.ref fa) := by
      have e : (HandSHeadRun.topDef (OpenLaw.row PySem.Challenge.rw_leapranks_k07_splits_made).prog 16).name = ("law" : PySem.Str) := by kernel_rfl
      rw [← e]
      exact hmg0
    exact ⟨K, KX, K07.facts KX G hmg c⟩
