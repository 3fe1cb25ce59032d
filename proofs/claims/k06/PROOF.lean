import PyProof.Rows.All
import Wide.All
import OpenK.AllK
import Wide.FinOn
import PyProof.ReprRoads
import PyProof.TupleOfGen
import HandS.ForMost
import HandS.Wide
import HandS.Defaults
import HandS.AnyAll
import HandS.JoinGen
import HandS.EndBits
import KE.KLam
import KE.KNestM
import PyProof.GenCompD
import PyProof.TupleIter
import PyProof.Walks
import KE.KTupSum
import KE.GoesMore
import KE.GoesEnum
import PyProof.ReprBulk
import PyProof.ReprRoom
import KE.KDictSum
import HandS.SortRule
import HandS.TupLen
import HandS.TupMul
import HandS.Iter
import HandS.TupAny
import HandS.Zip
import HandS.Zip0
import PyProof.WalksU
import PyProof.SumAny
import HandS.IsInst
import HandS.Conv
import HandS.RaiseMore
import HandS.Text
import HandS.Exc
import HandS.HeadHook1
import HandS.Lambda
import HandS.GenList
import PyProof.ConsumeS
import PyProof.CollectWalk
import HandS.SortInts
import HandS.Dict
import HandS.Star
import HandS.Deep
import PyProof.WalkInts
import PyProof.TupleOps
import PyProof.WalksMore
import HandS.TupSets
import HandS.TryOnly
import PyProof.StrBlock2
import PyProof.Rows.StrMul
import PyProof.SeqIndex
import HandS.Style
import HandS.ExcOwn
import HandS.WordsExc
import HandS.ExcIs
import HandS.CallSlots
import HandS.ExcValue
import PyProof.P3In
import HandS.Steps
import HandS.List
import PyProof.PureInt
import KE.KDictPairs
import KE.KDictKeyed
import KE.KDictWalk
import KE.KDictDisplayH
import KE.KDictZip
import HandS.Flow
import KE.KStateDown
import HandS.More
import HandS.Head0
import HandS.Head1
import HandS.Head2
import HandS.HeadEnd
import HandS.HeadHook2
import HandS.HeadHook3
import HandS.HeadHook4
import Lean
import PySem.Challenge.RW_leapranks_k06_what_is_a_split
set_option Elab.async false
set_option linter.all false
set_option maxRecDepth 100000
set_option maxHeartbeats 2000000
namespace GL
open PySem PySem.Spec PyProof.Rows L2
variable {P : Program} {w : World} {K : PySem.W.Frag} {mg : Str → Option Value} {base : Heap} {CX : CXT} {k : Nat} {f : Addr} {fd : FuncData} {ps : List Str} {sp : Sp}

structure FnG (P : Program) (w : World) (K : PySem.W.Frag) (mg : Str → Option Value) (base : Heap) (CX : CXT) (k : Nat) (f : Addr) (fd : FuncData) (ps : List Str) (sp : Sp) : Prop where
  len : ∀ vs H Q E, sp vs H Q E → vs.length = ps.length
  run : ∀ (A : Around) (outer : List Env) (s : Shared) (H : Hp) (args : Args) (us : List Value) (vs : List V) (Q : VK) (E : XK), A.guards = some [] → Room k A →
    Env0 P w K mg base A outer s H → BindsTo s fd args (ps.zip us) → Vals vs us → sp vs H Q E →
    codeAny (model P w) A (.call (.ref f) args) (CR CX outer P w H s Q E) s

theorem FnG.of (F : FnOk P w K mg base CX k f fd ps sp) : FnG P w K mg base CX k f fd ps sp :=
  ⟨F.len, fun A outer s H args us vs Q E _ hr e0 hb r h => F.run A outer s H args us vs Q E hr e0 hb r h⟩

section
variable {X : Cx} {dvs : List V} {ds : List Value} {E : XK} {x : Str} {p pos : Pos} {e : Expr} {es : List Expr} {t : TA}
theorem pe_callG (F : FnG X.prog X.w X.K X.mg X.base CX k f fd ps sp) (gd : X.A.guards = some []) (hr : Room k X.A) (hg : Gl X x) (hm : X.mg x = some (.ref f)) (hk : PySem.W.keepIn X.K (.ref f) = true) (hb : Binds X.K fd ps ds) (hd : Vals dvs ds)
    (hx : Passes CX X E) (ha : PA X (e :: es) t) (hdb : (x == ("__debug__" : Str)) = false := by decide)
    (he : starEach (e :: es) X.env = (false, eval e X.env) :: starEach es X.env := by rfl) (hpl : (backTo pos (starEach es X.env)).any (·.1) = false := by rfl) :
    PE X (.Call (.Name x p) (e :: es) [] pos) (tCall sp dvs E t) := by
  constructor
  intro pins s σ H Q I h
  refine wpAny_Call_Name_kw (ld_glob I hg hm (PySem.W.callWith_K (h₀ := X.base) I.ok.mod.kin hk (thn (ha.run pos pins s σ H _ I h) ?_) he hpl) hdb)
  rintro us s1 ⟨vs, H1, I1, r, q⟩
  refine ⟨I1.kIn, ?_⟩
  have r2 := r.append hd
  have hl : (us ++ ds).length = ps.length := r2.length.symm.trans (F.len _ _ _ _ q)
  refine wpAny_call (codeAny_mono (F.run X.A X.stack s1 H1 ⟨us, []⟩ (us ++ ds) (vs ++ dvs) Q E gd hr I1.env0 (hb s1 us I1.kIn hl) r2 q) ?_)
  intro r0 s' hq
  match r0, hq with
  | .error e, hq => exact hx pins σ H1 s1 e s' I1 hq
  | .ok (.ret u), hq => exact I1.after hq
  | .ok .next, hq => exact hq.elim
  | .ok .brk, hq => exact hq.elim
  | .ok .cont, hq => exact hq.elim

def rRepr (K : PySem.W.Frag) : List V → Hp → VK → Prop := fun xs H Q => ∃ (a : Addr) (d : PyData), xs = [.ref a] ∧ Dp K H (.ref a) d ∧ d.showable = true ∧ d.hasDict = false ∧ d.depth ≤ 60 ∧ d.shown.length ≤ sizeLine ∧ Q (.str d.shown) H
theorem call_repr (gd : X.A.guards = some []) (hu : X.A.units + 64 < cLine) : CallR X (.builtin "repr") (rRepr X.K) := by
  intro pins s σ H xs us Q I r h
  obtain ⟨a, d, rfl, hd, h1, h2, h3, h4, q⟩ := h
  obtain ⟨u, rfl, ru⟩ := vals1 r
  obtain rfl : u = Value.ref a := ru
  obtain ⟨as, rd⟩ := Dp.reads I d _ _ hd (show RelV (.ref a) (Value.ref a) from rfl)
  refine repr_of_reads' rd h1 (fun z => by rw [h2] at z; cases z) gd (by omega) (fun _ _ e => e) ?_ h4
  intro h' u tk hk
  exact ⟨.str _, H, I.kept hk, ⟨_, rfl⟩, q⟩
end
end GL
set_option Elab.async false
set_option linter.all false
set_option maxRecDepth 100000
set_option maxHeartbeats 2000000
namespace GL
open PySem PySem.Spec PyProof.Rows L2

def atLaw (K : PySem.W.Frag) (tabs : List Addr) (a : Addr) (o : Obj) (ns : List Int) : Hp := fun b =>
  if b ∈ tabs then some (.tbl #[]) else if b = a ∧ K.lookup a = none then some (.frz o (.lst (ns.map V.int))) else none

structure LawG (P : Program) (w : World) (K : PySem.W.Frag) (k n : Nat) (x : Str) (mg : Str → Option Value) (fa : Addr) (h : Heap) : Prop where
  ex : ∃ (fd : FuncData) (cs : List (Addr × Addr)) (sp : Sp),
    (∀ p ∈ cs, h.get? p.2 = some { cls := .none, data := .fields #[] } ∧ K.lookup p.2 = none ∧ PySem.W.codeHdIn K p.1 p.2 = true) ∧
    (∀ (s : Shared) (u : Value), BindsTo s fd ⟨[u], []⟩ [(x, u)]) ∧
    (∀ (H : Hp) (a : Addr) (ns : List Int), ns.length ≤ n → (∀ p ∈ cs, H p.2 = some (.tbl #[])) → SqL K H a (ns.map V.int) → sp [.ref a] H (fun v _ => v = .bl true) fun _ _ _ => False) ∧
    ∀ base : Heap, K.In base → base.Ns mainGlobals mg → (∀ p ∈ cs, GxR.TabB base mg p.1 p.2) → FnG P w K mg base CX0 k fa fd [x] sp

theorem law_callG {P : Program} {w : World} {K : PySem.W.Frag} {mg mb : Str → Option Value} {k n : Nat} {fa a : Addr} {x : Str} {s : Shared} {vs : List Value} {ns : List Int}
    (L : LawG P w K k n x mg fa s.heap) (inK : K.In s.heap) (g : s.heap.Ns mainGlobals mg) (b : s.heap.Ns builtinsNs mb) (bb : ∀ y : Str, y ≠ "__name__" → mb y = bootBuiltins y) (lim : s.heap.NoLimit) (gn : s.gens = #[])
    (bm : ∃ (bm : Addr) (ob : Obj), mg "__builtins__" = some (.ref bm) ∧ bm ≠ builtinsNs ∧ s.heap.get? bm = some ob ∧ ob.cls = .type "module" ∧ ob.dict = some builtinsNs ∧ ob.data = .plain)
    (ha : s.heap.get? a = some { cls := .type "list", data := .seq vs.toArray }) (hi : IntsAre vs ns) (hl : ns.length ≤ n) (hl2 : n ≤ sizeLine) (hr : Room k callerA) :
    codeAny (model P w) callerA (.call (.ref fa) ⟨[.ref a], []⟩) (fun r s' => r = .ok (.ret (.bool true)) ∧ OldK s.heap s'.heap ∧ s'.os = s.os ∧ AllBare s'.gens) s := by
  obtain ⟨fd, cs, sp, T, bd, hsp, F⟩ := L.ex
  let so : Obj := { cls := .type "list", data := .seq vs.toArray }
  let tabs := cs.map (·.2)
  have tab : ∀ c ∈ tabs, s.heap.get? c = some { cls := .none, data := .fields #[] } ∧ K.lookup c = none := by
    intro c hc
    obtain ⟨p, hp, rfl⟩ := List.mem_map.mp hc
    exact ⟨(T p hp).1, (T p hp).2.1⟩
  have at_ : a ∉ tabs := by
    intro hc
    have e := (tab a hc).1
    rw [ha] at e
    exact absurd (congrArg Obj.data (Option.some.inj e)) (by intro z; cases z)
  let H : Hp := atLaw K tabs a so ns
  have Ht : ∀ c ∈ tabs, H c = some (.tbl #[]) := fun c hc => if_pos hc
  have Ha : K.lookup a = none → H a = some (.frz so (.lst (ns.map V.int))) := fun e => (if_neg at_).trans (if_pos ⟨rfl, e⟩)
  have Hk : ∀ c o, H c = some o → (c ∈ tabs ∧ o = .tbl #[]) ∨ (c ∉ tabs ∧ c = a ∧ K.lookup a = none ∧ o = .frz so (.lst (ns.map V.int))) := by
    intro c o e
    by_cases hc : c ∈ tabs
    · exact .inl ⟨hc, (Option.some.inj ((Ht c hc).symm.trans e)).symm⟩
    · by_cases h2 : c = a ∧ K.lookup a = none
      · have e2 : H c = some (.frz so (.lst (ns.map V.int))) := (if_neg hc).trans (if_pos h2)
        exact .inr ⟨hc, h2.1, h2.2, (Option.some.inj (e2.symm.trans e)).symm⟩
      · have e2 : H c = none := (if_neg hc).trans (if_neg h2)
        rw [e2] at e
        cases e
  have script : SqL K H a (ns.map V.int) := by
    cases e : K.lookup a with
    | none => exact .inl (.inr ⟨so, Ha e⟩)
    | some o =>
      have e2 := inK a o e
      rw [ha] at e2
      obtain rfl := Option.some.inj e2
      refine .inr ⟨_, vs.toArray, _, e, rfl, rfl, rfl, ?_, ?_⟩
      · rw [List.size_toArray, hi.length]
        omega
      · exact vals_ints hi
  have hok : HOk P w H s.heap := by
    intro c o e
    rcases Hk c o e with ⟨hc, rfl⟩ | ⟨_, rfl, _, rfl⟩
    · exact (tab c hc).1
    · refine ⟨ha, ?_, vs, _, vals_ints hi, ha⟩
      rw [List.length_map]
      omega
  have free : ∀ {c : Addr} {o : Obj}, s.heap.get? c = some o → (∀ q m, o.data ≠ .seq q m) → o.data ≠ .fields #[] → H c = none := by
    intro c o e h1 h2
    cases q : H c with
    | none => rfl
    | some u =>
      rcases Hk c u q with ⟨hc, _⟩ | ⟨_, rfl, _, _⟩
      · rw [(tab c hc).1] at e
        exact absurd (congrArg Obj.data (Option.some.inj e)).symm h2
      · rw [ha] at e
        exact absurd (congrArg Obj.data (Option.some.inj e)).symm (h1 _ _)
  have names : ∀ {c : Addr} {m : Str → Option Value}, s.heap.Ns c m → (hidT s.heap H).Ns c m := by
    rintro c m ⟨o, es, ep, e, d, r⟩
    exact ⟨o, es, ep, hidT_get e (free e (fun q m z => by rw [d] at z; cases z) (fun z => by rw [d] at z; cases z)), d, r⟩
  have inB : K.In (hidT s.heap H) := by
    intro c o e
    refine hidT_get (inK c o e) ?_
    cases q : H c with
    | none => rfl
    | some u =>
      rcases Hk c u q with ⟨hc, _⟩ | ⟨_, rfl, h0, _⟩
      · rw [(tab c hc).2] at e
        cases e
      · rw [h0] at e
        cases e
  obtain ⟨mc, l1, l2⟩ := lim
  have M : L2.Mod K mg (hidT s.heap H) := ⟨inB, names g, ⟨mb, names b, bb⟩, ⟨mc, names l1, l2⟩⟩
  have TB : ∀ p ∈ cs, GxR.TabB (hidT s.heap H) mg p.1 p.2 := by
    intro p hp
    obtain ⟨t1, t2, t3⟩ := T p hp
    obtain ⟨gm, ob, c1, c2, c3, c4, c5, c6⟩ := bm
    have ng : ∀ {m : Str → Option Value} {c : Addr}, s.heap.Ns c m → ∃ o es ep, s.heap.get? c = some o ∧ o.data = .dict es ep := fun ⟨o, es, ep, e, d, _⟩ => ⟨o, es, ep, e, d⟩
    obtain ⟨og, es, ep, e1, e2⟩ := ng g
    refine ⟨PySem.W.codeHd_of_K inB t3, ⟨gm, ob, c1, c2, ?_, ?_, hidT_get c3 (free c3 (fun q m z => by rw [c6] at z; cases z) (fun z => by rw [c6] at z; cases z)), c4, c5, c6⟩, ?_⟩
    · intro z
      rw [z, e1] at c3
      cases c3
      rw [e2] at c6
      cases c6
    · intro z
      rw [z, t1] at c3
      cases c3
      cases c6
    · intro z
      rw [z, t1] at e1
      cases e1
      cases e2
  have e0 : Env0 P w K mg (hidT s.heap H) callerA [] s H := ⟨rfl, M, fun _ _ e => of_hidT e, Nat.le_of_eq (hidT_size _ _), trivial, fun _ z => (nomatch z), hok, .of_eq gn⟩
  have go := (F _ inB (names g) TB).run callerA [] s H ⟨[.ref a], []⟩ [.ref a] [.ref a] _ _ rfl hr e0 (bd s (.ref a)) (.cons rfl .nil) (hsp H a ns hl (fun p hp => Ht _ (List.mem_map.mpr ⟨p, hp, rfl⟩)) script)
  refine codeAny_mono go ?_
  intro r s' hq
  match r, hq with
  | .error _, hq => exact hq.elim
  | .ok .next, hq => exact hq.elim
  | .ok .brk, hq => exact hq.elim
  | .ok .cont, hq => exact hq.elim
  | .ok (.ret u), ⟨v, H', os, bare, un, hok', rv, qv⟩ =>
    have qv2 : v = .bl true := qv
    subst qv2
    obtain rfl : u = Value.bool true := rv
    have kept : ∀ c o, c ∉ tabs → s.heap.get? c = some o → s'.heap.get? c = some o := by
      intro c o hc e
      cases q : H c with
      | none => exact un.keep c o e q (fun z => (nomatch z)) (fun z => (nomatch z))
      | some u =>
        rcases Hk c u q with ⟨h1, _⟩ | ⟨_, rfl, _, rfl⟩
        · exact absurd h1 hc
        · have e1 := (hok' c _ (un.frzs c so _ q)).1
          rw [ha] at e
          cases e
          exact e1
    have grown : ∀ c ∈ tabs, ∃ more : Array Value, s'.heap.get? c = some { cls := .none, data := .fields more } := by
      intro c hc
      obtain ⟨more, z⟩ := un.tbls c #[] (Ht c hc)
      exact ⟨_, hok' c _ z⟩
    refine ⟨rfl, ⟨?_, ?_⟩, os, bare⟩
    · intro c o e
      by_cases hc : c ∈ tabs
      · obtain ⟨more, hm⟩ := grown c hc
        obtain ⟨p, hp, rfl⟩ := List.mem_map.mp hc
        have t1 := (T p hp).1
        rw [t1] at e
        cases e
        exact .inr (.inl ⟨((PySem.W.codeHd_of_K inK (T p hp).2.2).tab t1).isCodeTable, rfl, #[], more, rfl, by rw [Array.empty_append]; exact hm⟩)
      · exact .inl (kept c o hc e)
    · intro c o e
      by_cases hc : c ∈ tabs
      · exact let ⟨_, hm⟩ := grown c hc; ⟨_, hm⟩
      · exact ⟨o, kept c o hc e⟩

theorem walk_G {l : PySem.W.OpenLaw} {n k : Nat} {q : Program} {loose : List Str} {XP : (Str → Option Value) → Heap → Prop} {YP : World → Heap → Prop} {d : DefRec} {x : Str}
    (hn : l.most = some n) (hn2 : n ≤ sizeLine) (hdf : d.params.defaults = []) (hr : Room k callerA)
    (F : ∀ (w : World) (mg : Str → Option Value) (fa : Addr) (h : Heap), YP w h → h.Ns mainGlobals mg → mg d.name = some (.ref fa) → ∃ K : PySem.W.Frag, K.In h ∧ LawG l.prog w K k n x mg fa h) :
    PySem.W.WalkO q loose XP YP l.row.toRowW d [] (fun f vs => PySem.call f vs) := by
  refine Att.attach_callB hn hdf ?_
  intro w s0 s mg mb fa o pm cd doc a vs ns G Y ho hd hcd hmg hobj hints hlen hbits hg
  obtain ⟨K, inK, L⟩ := F w mg fa _ Y G.T.g hmg
  exact law_callG L inK G.T.g G.T.b G.T.builtins G.T.nolimit hg G.T.bmain hobj hints hlen hn2 hr
end GL
set_option Elab.async false
set_option linter.all false
set_option maxRecDepth 100000
set_option maxHeartbeats 2000000
namespace GL
open PySem PySem.Spec PyProof.Rows L2

section
variable {X : Cx} {pins : List (Addr × Obj)} {σ : L2.St} {H : Hp} {s : Shared}

end
end GL
set_option Elab.async false
set_option linter.all false
set_option maxRecDepth 100000
set_option maxHeartbeats 2000000
namespace GL
open PySem PySem.Spec PyProof.Rows L2

structure Cal (P : Program) (w : World) (K : PySem.W.Frag) (mg : Str → Option Value) (base : Heap) (k : Nat) (x : Str) (sp : Sp) : Prop where
  ex : ∃ (f : Addr) (fd : FuncData) (ps : List Str), FnOk P w K mg base CX0 k f fd ps sp ∧ mg x = some (.ref f) ∧ PySem.W.keepIn K (.ref f) = true ∧ Binds K fd ps []
structure CalG (P : Program) (w : World) (K : PySem.W.Frag) (mg : Str → Option Value) (base : Heap) (k : Nat) (x : Str) (sp : Sp) : Prop where
  ex : ∃ (f : Addr) (fd : FuncData) (ps : List Str), FnG P w K mg base CX0 k f fd ps sp ∧ mg x = some (.ref f) ∧ PySem.W.keepIn K (.ref f) = true ∧ Binds K fd ps []
section
variable {X : Cx} {k j : Nat} {x : Str} {sp : Sp} {p pos : Pos} {e : Expr} {es : List Expr} {t : TA}
theorem pe_kG (c : CalG X.prog X.w X.K X.mg X.base k x sp) (gd : X.A.guards = some []) (hr : Room k X.A) (hg : Gl X x) (ha : PA X (e :: es) t) (hdb : (x == ("__debug__" : Str)) = false := by decide)
    (he : starEach (e :: es) X.env = (false, eval e X.env) :: starEach es X.env := by rfl) (hpl : (backTo pos (starEach es X.env)).any (·.1) = false := by rfl) : PE X (.Call (.Name x p) (e :: es) [] pos) (tCall sp [] E0 t) := by
  obtain ⟨f, fd, ps, F, m, kp, b⟩ := c.ex
  exact pe_callG F gd hr hg m kp b .nil pass0 ha hdb he hpl

def rSumT (K : PySem.W.Frag) : List V → Hp → VK → Prop := fun vs H Q => ∃ (a : Addr) (ns : List Int), vs = [V.ref a] ∧ SqT K H a (ns.map V.int) ∧ Q (.int ns.sum) H
theorem cr_sumT (hc : X.calm = true) : CallR X (.builtin "sum") (rSumT X.K) := by
  intro pins s σ H vs us Q I r h
  obtain ⟨a, ns, rfl, hs, q⟩ := h
  obtain ⟨its, rv, hl, _⟩ := I.tuple hs
  rw [Vals.ref1 r]
  have hi : IntsAre its ns := rv.ints
  obtain ⟨xs, hx⟩ := hi.allInts.items
  have hn : numsOf its.toArray.toList = ns := by rw [show its.toArray.toList = its from rfl, hi.numsOf]
  rw [hx] at hl hn
  rw [nums_intItems] at hn
  refine PySem.W.ktm_sumG (I.ok.hd hc) hl ?_
  intro h' tk t' hk
  rw [preSum_eq, List.take_of_length_le (by simp), hn]
  exact ⟨.int _, H, I.kept hk, ⟨_, rfl⟩, q⟩
end

def Keep (ex : List Addr) (H H' : Hp) : Prop := ∀ b o, b ∉ ex → H b = some o → H' b = some o
theorem Keep.refl (ex : List Addr) (H : Hp) : Keep ex H H := fun _ _ _ h => h
theorem Keep.trans {ex : List Addr} {H H1 H2 : Hp} (a : Keep ex H H1) (b : Keep ex H1 H2) : Keep ex H H2 := fun c o n h => b c o n (a c o n h)
theorem Keep.mono {ex ex' : List Addr} {H H1 : Hp} (a : Keep ex H H1) (h : ∀ b ∈ ex, b ∈ ex') : Keep ex' H H1 := fun c o n e => a c o (fun z => n (h c z)) e
theorem Keep.new {ex : List Addr} {H H1 : Hp} {p : Addr} {o : HO} (a : Keep ex H H1) (h : H1 p = none) : Keep ex H (upd H1 p o) := fun c u n e => by
  rw [upd_ne (ne_of_none (a c u n e) h)]
  exact a c u n e
theorem Keep.set {ex : List Addr} {H H1 : Hp} {p : Addr} {o : HO} (a : Keep ex H H1) (h : p ∈ ex) : Keep ex H (upd H1 p o) := fun c u n e => by
  rw [upd_ne (fun z => n (by rw [z]; exact h))]
  exact a c u n e
theorem Keep.own {ex : List Addr} {H H1 : Hp} {p : Addr} {o : HO} (a : Keep ex H H1) (h : H p = none) : Keep ex H (upd H1 p o) := fun c u n e => by
  rw [upd_ne (ne_of_none e h)]
  exact a c u n e
theorem Keep.fresh {ex : List Addr} {H H1 : Hp} {p : Addr} (a : Keep ex H H1) (n : p ∉ ex) (h : H1 p = none) : H p = none := by
  cases e : H p with
  | none => rfl
  | some o =>
    rw [a p o n e] at h
    cases h
theorem Keep.rd {ex : List Addr} {H H1 : Hp} {a : Addr} {u : HO} (k : Keep ex H H1) (n : H a ≠ none → a ∉ ex) (h : Rd H a u) : Rd H1 a u := by
  rcases h with h | ⟨o, h⟩
  · exact .inl (k a _ (n (by rw [h]; simp)) h)
  · exact .inr ⟨o, k a _ (n (by rw [h]; simp)) h⟩
theorem lt_size {n : Nat} (h : n ≤ 100000) : n ≤ sizeLine := Nat.le_trans h (by decide)
end GL
set_option Elab.async false
set_option linter.all false
set_option maxRecDepth 100000
set_option maxHeartbeats 2000000
namespace GL
open PySem PySem.Spec PyProof.Rows L2
end GL
set_option Elab.async false
set_option linter.all false
set_option maxRecDepth 100000
set_option maxHeartbeats 2000000
namespace GL
open PySem PySem.Spec PyProof.Rows L2
def SqB (b : Bool) (K : PySem.W.Frag) (H : Hp) (a : Addr) (xs : List V) : Prop := match b with
  | true => SqL K H a xs
  | false => SqT K H a xs
def rSumB (K : PySem.W.Frag) : List V → Hp → VK → Prop := fun vs H Q => ∃ (b : Bool) (a : Addr) (ns : List Int), vs = [V.ref a] ∧ SqB b K H a (ns.map V.int) ∧ Q (.int ns.sum) H
theorem cr_sumB {X : Cx} (hc : X.calm = true) : CallR X (.builtin "sum") (rSumB X.K) := by
  rintro pins s σ H vs us Q I r ⟨b, a, ns, e, hs, q⟩
  cases b with
  | true => exact cr_sum hc pins s σ H vs us Q I r ⟨a, ns, e, hs, q⟩
  | false => exact cr_sumT hc pins s σ H vs us Q I r ⟨a, ns, e, hs, q⟩

set_option maxHeartbeats 4000000 in
theorem meets_enumT (l : Addr) (items : Array Value) :
    Meets (Builtin.«enumerate.__new__» ⟨[.type "enumerate", .ref l], []⟩) (fun _ R s => s.heap.IsTuple l items ∧
      R (.ok (.ret (.ref (s.heap.push { cls := .type "tuple_iterator", data := .fields #[.ref l, .int 0 0] }).objs.size)))
        { s with heap := (s.heap.push { cls := .type "tuple_iterator", data := .fields #[.ref l, .int 0 0] }).push { cls := .type "enumerate", data := .fields #[.none, .bool false, .ref s.heap.objs.size, rawInt 0, .none, .none] } }) :=
  .of_wp fun prog w A R s h => by
    obtain ⟨hp, g, d, tk, os⟩ := s
    obtain ⟨h1, h⟩ := h
    have hsub := sub_enumerate
    have q1 : ∀ {A' : Around} {E : Value → Shared → Prop} {Q : Value → Shared → Prop}, Q (.ref hp.objs.size) ⟨hp.push { cls := .type "tuple_iterator", data := .fields #[.ref l, .int 0 0] }, g, d, tk, os⟩ → wpAny (model prog w) A' (pyIter (.ref l)) Q E ⟨hp, g, d, tk, os⟩ :=
      fun q => wpAny_pyIter_tuple h1 q
    wp_walk using q1
    refine wpAny_stack_any fun st => wpAny_pure ?_
    split
    · rename_i c _ _ _ _ _
      cases (c == Value.type "enumerate")
      · wp_walk using q1
        exact ⟨_, rfl, h⟩
      · wp_walk using q1
        exact ⟨_, rfl, h⟩
    · wp_walk using q1
      exact ⟨_, rfl, h⟩
theorem call_enumT {prog : Program} {w : World} {A : Around} {E : Value → Shared → Prop} {s : Shared} {l : Addr} {items : Array Value} {Q : Value → Shared → Prop} (hL : s.heap.IsTuple l items)
    (h : ∀ h', IsEnum h' (s.heap.objs.size + 1) s.heap.objs.size 0 .none → h'.IsTupleIter s.heap.objs.size l 0 → h'.objs.size = s.heap.objs.size + 2 → (∀ b o, s.heap.get? b = some o → h'.get? b = some o) → Q (.ref (s.heap.objs.size + 1)) { s with heap := h' }) :
    wpAny (model prog w) A (call (.type "enumerate") [.ref l]) Q E s := by
  refine callType_new F.called_enumerate (by decide) (F.typeCall_enumerate_1 _) (F.newCall_enumerate_1 _) (fun obj => F.args_object_init_2 obj _) F.entry_enumerate_new (meets_enumT l items) ⟨hL, ?_⟩
  have hz : (s.heap.push { cls := .type "tuple_iterator", data := .fields #[.ref l, .int 0 0] }).objs.size = s.heap.objs.size + 1 := Heap.size_push ..
  show _ ∧ _
  rw [hz]
  generalize ho : ({ cls := .type "tuple_iterator", data := .fields #[.ref l, .int 0 0] } : Obj) = o at hz
  have g1 := Heap.get?_push_size (s.heap.push o) (o := { cls := .type "enumerate", data := .fields #[.none, .bool false, .ref s.heap.objs.size, rawInt 0, .none, .none] }) rfl
  rw [hz] at g1
  refine ⟨⟨_, g1, rfl⟩, h _ g1 ⟨o, Heap.get?_push_of_some _ (Heap.get?_push_size _ (by rw [← ho]; rfl)), by rw [← ho], by rw [← ho]; rfl⟩ (by rw [Heap.size_push, hz]) (fun b u x => Heap.get?_push_of_some _ (Heap.get?_push_of_some _ x))⟩
end GL
set_option Elab.async false
set_option linter.all false
set_option maxRecDepth 100000
set_option maxHeartbeats 2000000
set_option exponentiation.threshold 10000
namespace GL
open PySem PySem.Spec PyProof.Rows L2
structure Show (d : PyData) : Prop where
  s : d.showable = true
  n : d.hasDict = false
  z : d.shown.length ≤ sizeLine
  dp : d.depth ≤ 60
def Fine (i : Int) : Prop := i.natAbs < 2 ^ 1900
theorem Fine.log {i : Int} (h : Fine i) : i.natAbs.log2 < 1920 := log2_small (Nat.lt_trans h (by decide))
theorem Fine.len {i : Int} (h : Fine i) : (PyData.shown (.int i)).length ≤ 600 := by
  have e := int_text_length_le10 (k := 599) (a := i) (by decide) (Nat.lt_trans h (by decide))
  show (Str.ofString (toString i)).length ≤ 600
  rw [PySem.ofString_length]
  exact e
theorem Fine.of {i : Int} (h0 : 0 ≤ i) (h : i < 2 ^ 1900) : Fine i := by
  unfold Fine
  have e : ((2 ^ 1900 : Nat) : Int) = (2 : Int) ^ 1900 := by simp
  omega
theorem depth_ints : ∀ ns : List Int, PyData.depthAll (ns.map PyData.int) = 0
  | [] => rfl
  | n :: r => by
    simp only [List.map_cons, PyData.depthAll, PyData.depth, depth_ints r, Nat.max_self]
theorem show_of {d : PyData} (h1 : d.showable = true) (h2 : d.hasDict = false) (h3 : d.depth ≤ 60) (h4 : d.leavesShort 600 = true) (h5 : d.bulk ≤ 20000) : Show d := by
  refine ⟨h1, h2, ?_, h3⟩
  have h := PyData.shown_le_bulk 600 (by decide) d h4
  have e : 13000000 ≤ sizeLine := by decide
  omega
end GL
set_option Elab.async false
set_option linter.all false
set_option maxRecDepth 100000
set_option maxHeartbeats 2000000
namespace GL
open PySem PySem.Spec PyProof.Rows L2
end GL
set_option Elab.async false
set_option linter.all false
set_option maxRecDepth 100000
set_option maxHeartbeats 2000000
set_option exponentiation.threshold 10000
namespace GL
open PySem PySem.Spec PyProof.Rows L2
section
variable {X : Cx}
theorem tuple_mul1 (l : Addr) (items : Array Value) (n : Nat) (dd : Option Addr) (sl : Array (Option Value)) (u : Tok) :
    Meets (Builtin.«tuple.__mul__» ⟨[.ref l, .int 1 u], []⟩) (fun _ R s => s.heap.get? l = some { cls := .type "tuple", dict := dd, data := .seq items n, slots := sl } ∧ R (.ok (.ret (Value.ref l))) s) :=
  .of_wp fun prog w A R s h => by
    obtain ⟨hp, g, d, tk, os⟩ := s
    obtain ⟨hl, h⟩ := h
    have f1 := AutoSeq1.idx_int
    wp_walk using wpAny_loadPart' hl
    repeat (first
      | (refine wpAny_ite_false (decide_eq_false (by decide)) ?_; wp_walk using wpAny_loadPart' hl)
      | (refine wpAny_ite_true (decide_eq_true (by rw [show ((1 : Int) == 1) = true from rfl, Bool.or_true])) ?_; wp_walk using wpAny_loadPart' hl))
    exact ⟨_, rfl, h⟩
def rRepA (K : PySem.W.Frag) : R2 := fun x y H Q => ∃ l k xs, x = .ref l ∧ y = .int k ∧ SqT K H l xs ∧ xs ≠ [] ∧ 1 ≤ k ∧ k ≤ 1000 ∧ xs.length ≤ 1000 ∧ (k = 1 → Q (.ref l) H) ∧ (2 ≤ k → ∀ p, H p = none → Q (.ref p) (upd H p (.tup (List.replicate k.toNat xs).flatten)))
theorem op_repA : OpR X (binaryOp .Mult) (rRepA X.K) := by
  intro pins s σ H x y v u Q I rx ry h
  obtain ⟨l, k, xs, rfl, rfl, hT, hne, h1, h2, hz, q1, q2⟩ := h
  by_cases e : k = 1
  · subst e
    cases rx
    obtain ⟨t, rfl⟩ := ry
    obtain ⟨its, r, ⟨⟨cls, dd, data, sl⟩, ho, hc, n, hd⟩, hs⟩ := I.tuple hT
    simp only at hc hd
    subst hc hd
    refine wpAny_binaryOp_repeat_ref (T := "tuple") (U := "int") (by decide) ⟨_, ho, rfl⟩ (fun s' => typeIs_int s' 1 t) noFill_tuple_mul F.fills_int_mul F.slot_int_rmul repeat_tuple F.slot_int_index.lookup
      (call_meets F.slot_int_rmul (typeIs_int s 1 t) F.entry_int_rmul (F.args_int_rmul_2 _ _) (int_rmul_tuple 1 t l its.toArray n dd sl)
        ⟨ho, rfl, ⟨_, ho, rfl⟩, call_meets F.slot_tuple_mul ⟨_, ho, rfl⟩ F.entry_tuple_mul (F.args_tuple_mul_2 _ _) (tuple_mul1 l its.toArray n dd sl t) ⟨ho, ?_⟩⟩)
    exact ⟨.ref l, H, I, rfl, q1 rfl⟩
  · exact op_repT pins s σ H _ _ v u Q I rx ry ⟨l, k, xs, rfl, rfl, hT, hne, by omega, h2, hz, q2 (by omega)⟩
end
end GL
set_option Elab.async false
set_option linter.all false
set_option maxRecDepth 100000
set_option maxHeartbeats 2000000
set_option exponentiation.threshold 10000
namespace GL
open PySem PySem.Spec PyProof.Rows L2
structure Lo (n : Nat) (s : Str) : Prop where
  len : s.cps.size ≤ n
  chars : ∀ c ∈ s.cps.toList, c < 16 ^ 8
theorem Lo.mono {n m : Nat} {s : Str} (h : Lo n s) (l : n ≤ m) : Lo m s := ⟨Nat.le_trans h.len l, h.chars⟩
theorem Lo.app {n m : Nat} {s t : Str} (a : Lo n s) (b : Lo m t) : Lo (n + m) (s ++ t) := by
  have e : (s ++ t).cps = s.cps ++ t.cps := rfl
  refine ⟨?_, fun c hc => ?_⟩
  · rw [e, Array.size_append]
    have := a.len
    have := b.len
    omega
  · rw [e, Array.toList_append] at hc
    rcases List.mem_append.mp hc with z | z
    · exact a.chars c z
    · exact b.chars c z
theorem Lo.one {c : Nat} (h : c < 16 ^ 8) : Lo 1 ⟨#[c]⟩ := ⟨Nat.le_refl _, fun x hx => by
  rw [List.mem_singleton.mp hx]
  exact h⟩
theorem Lo.fold (g : Str) (hg : g.cps = #[]) : ∀ (ps : List Str) (acc : Array Nat) (n : Nat), (∀ p ∈ ps, Lo 1 p) → Lo n ⟨acc⟩ → Lo (n + ps.length) ⟨ps.foldl (fun acc p => acc ++ g.cps ++ p.cps) acc⟩
  | [], acc, n, _, h => h
  | p :: r, acc, n, hp, h => by
    have h1 : Lo (n + 1) ⟨acc ++ g.cps ++ p.cps⟩ := by
      rw [hg, Array.append_empty]
      exact h.app (hp p List.mem_cons_self)
    have h2 := Lo.fold g hg r _ _ (fun q hq => hp q (List.mem_cons_of_mem _ hq)) h1
    rw [List.length_cons, Nat.add_comm r.length, ← Nat.add_assoc]
    exact h2
theorem Lo.join (g : Str) (hg : g.cps = #[]) (ps : List Str) (h : ∀ p ∈ ps, Lo 1 p) : Lo ps.length (Txt.join g ps) := by
  cases ps with
  | nil => exact ⟨Nat.le_refl _, fun c hc => (nomatch hc)⟩
  | cons p r =>
    have h1 : Lo 1 p := h p List.mem_cons_self
    have h2 := Lo.fold g hg r p.cps 1 (fun q hq => h q (List.mem_cons_of_mem _ hq)) h1
    rw [List.length_cons, Nat.add_comm]
    exact h2
structure Sm (k n : Nat) (d : PyData) : Prop where
  s : d.showable = true
  nd : d.hasDict = false
  dp : d.depth ≤ k
  z : d.leavesShort 600 = true
  b : d.bulk ≤ n
structure SmAll (k n : Nat) (ds : List PyData) : Prop where
  s : PyData.showableAll ds = true
  nd : PyData.hasDictAll ds = false
  dp : PyData.depthAll ds ≤ k
  z : PyData.leavesShortAll 600 ds = true
  b : PyData.bulkAll ds ≤ n
theorem Sm.mono {k k' n n' : Nat} {d : PyData} (h : Sm k n d) (h1 : k ≤ k') (h2 : n ≤ n') : Sm k' n' d := ⟨h.s, h.nd, Nat.le_trans h.dp h1, h.z, Nat.le_trans h.b h2⟩
theorem SmAll.mono {k k' n n' : Nat} {d : List PyData} (h : SmAll k n d) (h1 : k ≤ k') (h2 : n ≤ n') : SmAll k' n' d := ⟨h.s, h.nd, Nat.le_trans h.dp h1, h.z, Nat.le_trans h.b h2⟩
theorem Sm.int {i : Int} (h : Fine i) : Sm 0 0 (.int i) := ⟨decide_eq_true h.log, rfl, Nat.le_refl _, decide_eq_true h.len, Nat.le_refl _⟩
theorem Sm.str {n : Nat} {s : Str} (h : Lo n s) : Sm 0 n (.str s) := by
  refine ⟨rfl, rfl, Nat.le_refl _, ?_, h.len⟩
  simp only [PyData.leavesShort, List.all_eq_true, decide_eq_true_eq]
  exact h.chars
theorem SmAll.nil : SmAll 0 0 [] := ⟨rfl, rfl, Nat.le_refl _, rfl, Nat.le_refl _⟩
theorem SmAll.cons {k n m : Nat} {d : PyData} {ds : List PyData} (a : Sm k n d) (b : SmAll k m ds) : SmAll k (n + 1 + m) (d :: ds) := by
  refine ⟨?_, ?_, ?_, ?_, ?_⟩
  · simp only [PyData.showableAll, a.s, b.s, Bool.and_self]
  · simp only [PyData.hasDictAll, a.nd, b.nd, Bool.or_self]
  · have := a.dp
    have := b.dp
    simp only [PyData.depthAll]
    omega
  · simp only [PyData.leavesShortAll, a.z, b.z, Bool.and_self]
  · have := a.b
    have := b.b
    simp only [PyData.bulkAll]
    omega
theorem SmAll.map {α : Type} {k n : Nat} {f : α → PyData} : ∀ {xs : List α}, (∀ x ∈ xs, Sm k n (f x)) → SmAll k (xs.length * (n + 1)) (xs.map f)
  | [], _ => SmAll.nil.mono (Nat.zero_le _) (Nat.zero_le _)
  | x :: r, h => by
    have h2 := SmAll.cons (h x List.mem_cons_self) (SmAll.map (fun y hy => h y (List.mem_cons_of_mem _ hy)))
    rw [List.length_cons, Nat.add_mul, Nat.one_mul, Nat.add_comm]
    exact h2
theorem Sm.tup {k n : Nat} {ds : List PyData} (h : SmAll k n ds) : Sm (k + 1) n (.tuple ds) := by
  refine ⟨?_, ?_, ?_, ?_, ?_⟩
  · simp only [PyData.showable, h.s]
  · simp only [PyData.hasDict, h.nd]
  · have := h.dp
    simp only [PyData.depth]
    omega
  · simp only [PyData.leavesShort, h.z]
  · simp only [PyData.bulk]
    exact h.b
theorem Sm.lst {k n : Nat} {ds : List PyData} (h : SmAll k n ds) : Sm (k + 1) n (.list ds) := by
  refine ⟨?_, ?_, ?_, ?_, ?_⟩
  · simp only [PyData.showable, h.s]
  · simp only [PyData.hasDict, h.nd]
  · have := h.dp
    simp only [PyData.depth]
    omega
  · simp only [PyData.leavesShort, h.z]
  · simp only [PyData.bulk]
    exact h.b
theorem Sm.show {k n : Nat} {d : PyData} (h : Sm k n d) (h1 : k ≤ 60) (h2 : n ≤ 20000) : Show d := show_of h.s h.nd (Nat.le_trans h.dp h1) h.z (Nat.le_trans h.b h2)
end GL
set_option Elab.async false
set_option linter.all false
set_option maxRecDepth 100000
set_option maxHeartbeats 2000000
namespace GL
open PySem PySem.Spec PyProof.Rows L2
section
variable {X : Cx}
end
end GL
set_option Elab.async false
set_option linter.all false
set_option maxRecDepth 100000
set_option maxHeartbeats 4000000
namespace GL
open PySem PySem.Spec PyProof.Rows L2
structure Inner (prog : Program) (w : World) (it l : Addr) (xs : Array Value) (J : Nat → Heap → Prop) : Prop where
  keep : ∀ k g g', J k g → (∀ o, g.get? it = some o → g'.get? it = some o) → (∀ o, g.get? l = some o → g'.get? l = some o) → J k g'
  here : ∀ k g, J k g → (∃ o, g.get? it = some o ∧ ∀ v, o.data ≠ .cell v) ∧ ∃ o, g.get? l = some o
  step : ∀ (A : Around) (E : Value → Shared → Prop) (t : Shared) (k : Nat) (x : Value) (Q : Value → Shared → Prop), J k t.heap → xs[k]? = some x →
    (∀ g', J (k + 1) g' → Heap.SameBut it t.heap g' → Q x { t with heap := g' }) → wpAny (model prog w) A (Builtin.SmallTypes.nextOf (.ref it)) Q E t
  stop : ∀ (A : Around) (E : Value → Shared → Prop) (t : Shared) (k : Nat) (Q : Value → Shared → Prop), A.handled = none → J k t.heap → xs[k]? = none →
    (∀ g' e, Heap.ExtBut it t.heap g' → (∃ o, g'.get? e = some o ∧ o.cls = .type "StopIteration") → E (.ref e) { t with heap := g' }) → wpAny (model prog w) A (Builtin.SmallTypes.nextOf (.ref it)) Q E t
structure Zp (z ti to_ i j : Addr) (J1 J2 : Nat → Heap → Prop) (own : Value) (k : Nat) (g : Heap) : Prop where
  obj : IsZip g z ti to_ own
  its : IsPair g ti (.ref i) (.ref j)
  out : ∃ u v, IsPair g to_ u v
  one : J1 k g
  two : J2 k g
section
variable {prog : Program} {w : World} {z ti to_ i j l m : Addr} {xs ys : Array Value} {J1 J2 : Nat → Heap → Prop}
theorem Zp.keep {own : Value} {k : Nat} {g g' : Heap} (N1 : Inner prog w i l xs J1) (N2 : Inner prog w j m ys J2) (Z : Zp z ti to_ i j J1 J2 own k g) (h : ∀ c ∈ [z, ti, to_, i, j, l, m], ∀ o, g.get? c = some o → g'.get? c = some o) : Zp z ti to_ i j J1 J2 own k g' := by
  obtain ⟨a, b, ⟨u, v, c⟩, d, e⟩ := Z
  exact ⟨h z (by simp) _ a, h ti (by simp) _ b, ⟨u, v, h to_ (by simp) _ c⟩, N1.keep _ _ _ d (h i (by simp)) (h l (by simp)), N2.keep _ _ _ e (h j (by simp)) (h m (by simp))⟩
end
end GL
set_option Elab.async false
set_option linter.all false
set_option maxRecDepth 100000
set_option maxHeartbeats 4000000
namespace GL
open PySem PySem.Spec PyProof.Rows L2
def RawB (b : Bool) (g : Heap) (l : Addr) (xs : Array Value) : Prop := match b with
  | true => g.IsList l xs
  | false => g.IsTuple l xs
theorem RawB.lt {b : Bool} {g : Heap} {l : Addr} {xs : Array Value} (h : RawB b g l xs) : l < g.objs.size := by
  cases b with
  | true => obtain ⟨o, ho, _⟩ := h; exact Heap.lt_size ho
  | false => obtain ⟨o, ho, _⟩ := h; exact Heap.lt_size ho
theorem RawB.push {b : Bool} {g : Heap} {l : Addr} {xs : Array Value} (h : RawB b g l xs) (o : Obj) : RawB b (g.push o) l xs := by
  cases b with
  | true => obtain ⟨u, hu, r⟩ := h; exact ⟨u, Heap.get?_push_of_some _ hu, r⟩
  | false => exact Heap.IsTuple.push h _
theorem RawB.keeps {b : Bool} {g g' : Heap} {l : Addr} {xs : Array Value} (h : RawB b g l xs) (k : ∀ c o, g.get? c = some o → g'.get? c = some o) : RawB b g' l xs := by
  cases b with
  | true => obtain ⟨u, hu, r⟩ := h; exact ⟨u, k _ _ hu, r⟩
  | false => obtain ⟨u, hu, r⟩ := h; exact ⟨u, k _ _ hu, r⟩
def itO (b : Bool) (l : Addr) : Obj := { cls := .type (if b = true then "list_iterator" else "tuple_iterator"), data := .fields #[.ref l, .int 0 0] }
def z1 (g : Heap) (a : Bool) (l : Addr) : Heap := g.push (itO a l)
def z2 (g : Heap) (a b : Bool) (l m : Addr) : Heap := (z1 g a l).push (itO b m)
def z3 (g : Heap) (a b : Bool) (l m : Addr) : Heap := (z2 g a b l m).push { cls := .type "tuple", data := .seq #[.ref g.objs.size, .ref (z1 g a l).objs.size] }
def z4 (g : Heap) (a b : Bool) (l m : Addr) : Heap := (z3 g a b l m).push { cls := .type "tuple", data := .seq #[.none, .none] }
section
variable {prog : Program} {w : World} {z ti to_ i j l m : Addr} {xs ys : Array Value} {J1 J2 : Nat → Heap → Prop}
end
end GL
set_option Elab.async false
set_option linter.all false
set_option maxRecDepth 100000
set_option maxHeartbeats 4000000
namespace GL
open PySem PySem.Spec PyProof.Rows L2
section
variable {X : Cx} {pins : List (Addr × Obj)} {σ : L2.St} {H : Hp} {s : Shared}
end
end GL
set_option Elab.async false
set_option linter.all false
set_option maxRecDepth 100000
set_option maxHeartbeats 4000000
namespace GL
open PySem PySem.Spec PyProof.Rows L2
section
variable {X : Cx}
end
end GL
set_option Elab.async false
set_option linter.all false
set_option maxRecDepth 100000
set_option maxHeartbeats 4000000
namespace GL
open PySem PySem.Spec PyProof.Rows L2
structure Base (K : PySem.W.Frag) (mg : Str → Option Value) (h : Heap) : Prop where
  kin : K.In h
  glo : h.Ns mainGlobals mg
  blt : ∃ mb, h.Ns builtinsNs mb ∧ ∀ y : Str, y ≠ "__name__" → mb y = bootBuiltins y
  lim : h.NoLimit
theorem Base.keeps {K : PySem.W.Frag} {mg : Str → Option Value} {h h' : Heap} (b : Base K mg h) (k : ∀ c o, h.get? c = some o → h'.get? c = some o) : Base K mg h' :=
  ⟨b.kin.keeps k, b.glo.keeps k, let ⟨mb, x, y⟩ := b.blt; ⟨mb, x.keeps k, y⟩, b.lim.keeps k⟩
section
variable {prog : Program} {w : World} {K : PySem.W.Frag} {mg : Str → Option Value}
end
end GL
set_option Elab.async false
set_option linter.all false
set_option maxRecDepth 100000
set_option maxHeartbeats 4000000
namespace GL
open PySem PySem.Spec PyProof.Rows L2
section
variable {X : Cx} {pins : List (Addr × Obj)} {σ : L2.St} {H1 : Hp} {s1 s2 : Shared}
def isInt : V → Bool
  | .int _ => true
  | _ => false
theorem op_isB : OpR X (compareOp .Is) (fun x y H Q => ∃ a b, x = .bl a ∧ y = .bl b ∧ Q (.bl (a == b)) H) := by
  rintro pins s σ H x y v u Q I rx ry ⟨a, b, rfl, rfl, q⟩
  cases (show v = Value.bool a from rx)
  cases (show u = Value.bool b from ry)
  exact wpAny_is_plain rfl (fin_bl I q (by cases a <;> cases b <;> rfl))
theorem op_notB : OpR X (compareOp .IsNot) (fun x y H Q => ∃ a b, x = .bl a ∧ y = .bl b ∧ Q (.bl (!(a == b))) H) := by
  rintro pins s σ H x y v u Q I rx ry ⟨a, b, rfl, rfl, q⟩
  cases (show v = Value.bool a from rx)
  cases (show u = Value.bool b from ry)
  exact wpAny_isNot_plain rfl (fin_bl I q (by cases a <;> cases b <;> rfl))
end
end GL
set_option Elab.async false
set_option linter.all false
set_option maxRecDepth 100000
set_option maxHeartbeats 2000000
namespace DL
open PySem PySem.Spec PyProof.Rows L2 GL
abbrev D := PyData
def kD : Key → D
  | .inl i => .int i
  | .inr x => .str x
def ExA (C : Addr) (d : Option Addr) (a : Addr) : HO := .ext fun h => ∃ (oe : Obj) (vs : Array Value), h.get? a = some oe ∧ Zc (.ref C) d oe ∧ oe.data = .fields vs
def LnAt (H : Hp) (d : Option Addr) : Option Int → Prop
  | none => d = none
  | some i => ∃ dx, d = some dx ∧ H dx = some (.xd [(("line" : Str), .int i)])
def lnD : Option Int → D
  | none => .none
  | some i => .int i
abbrev excD (nm : Str) (ln : Option Int) : D := .dict [(.none, .str nm), (.none, lnD ln)]
mutual
inductive DR (K : PySem.W.Frag) (H : Hp) : V → D → Prop
  | non : DR K H .non .none
  | bl (b : Bool) : DR K H (.bl b) (.bool b)
  | int (i : Int) : DR K H (.int i) (.int i)
  | str (x : Str) : DR K H (.str x) (.str x)
  | lst {a : Addr} {xs : List V} {ds : List D} : SqL K H a xs → DRs K H xs ds → DR K H (.ref a) (.list ds)
  | tup {a : Addr} {xs : List V} {ds : List D} : H a = some (.tup xs) → DRs K H xs ds → DR K H (.ref a) (.tuple ds)
  | dct {a : Addr} {kvs : List (Key × V)} {ds : List (D × D)} : Rd H a (.dK kvs) → DRk K H kvs ds → DR K H (.ref a) (.dict ds)
  | dctT {a : Addr} {ks : List Key} {v : V} {d : D} : H a = some (.dT [(ks, v)]) → DR K H v d → DR K H (.ref a) (.dict [(.tuple (ks.map kD), d)])
  | exn {a : Addr} {d : Option Addr} {nm : Str} {ln : Option Int} : H a = some (ExA (He.ga K nm) d a) → LnAt H d ln → DR K H (.ref a) (excD nm ln)
inductive DRs (K : PySem.W.Frag) (H : Hp) : List V → List D → Prop
  | nil : DRs K H [] []
  | cons {v : V} {vs : List V} {d : D} {ds : List D} : DR K H v d → DRs K H vs ds → DRs K H (v :: vs) (d :: ds)
inductive DRk (K : PySem.W.Frag) (H : Hp) : List (Key × V) → List (D × D) → Prop
  | nil : DRk K H [] []
  | cons {k : Key} {v : V} {vs : List (Key × V)} {d : D} {ds : List (D × D)} : DR K H v d → DRk K H vs ds → DRk K H ((k, v) :: vs) ((kD k, d) :: ds)
end
def Sub (H H' : Hp) : Prop := ∀ b o, H b = some o → (∀ ps, o ≠ .tbl ps) → H' b = some o
theorem Sub.refl (H : Hp) : Sub H H := fun _ _ h _ => h
theorem Sub.trans {H H1 H2 : Hp} (a : Sub H H1) (b : Sub H1 H2) : Sub H H2 := fun c o h n => b c o (a c o h n) n
section
variable {K : PySem.W.Frag} {H H' : Hp}
theorem Rd.sub {a : Addr} {u : HO} (s : Sub H H') (n : ∀ ps, u ≠ .tbl ps) (h : Rd H a u) : Rd H' a u := by
  rcases h with h | ⟨o, h⟩
  · exact .inl (s a _ h n)
  · exact .inr ⟨o, s a _ h (fun _ z => by cases z)⟩
theorem sql_sub {a : Addr} {xs : List V} (s : Sub H H') (h : SqL K H a xs) : SqL K H' a xs := by
  rcases h with h | h
  · exact .inl (Rd.sub s (fun _ z => by cases z) h)
  · exact .inr h
theorem tup_sub {a : Addr} {xs : List V} (s : Sub H H') (h : H a = some (.tup xs)) : H' a = some (.tup xs) := s a _ h (fun _ z => by cases z)
theorem sqt_sub {a : Addr} {xs : List V} (s : Sub H H') (h : H a = some (.tup xs)) : SqT K H' a xs := .inl (.inl (tup_sub s h))
theorem lnAt_sub {d : Option Addr} {ln : Option Int} (s : Sub H H') (h : LnAt H d ln) : LnAt H' d ln := by
  cases ln with
  | none => exact h
  | some i =>
    obtain ⟨dx, e, h⟩ := h
    exact ⟨dx, e, s dx _ h (fun _ z => by cases z)⟩
mutual
theorem DR.sub (s : Sub H H') : ∀ {v : V} {d : D}, DR K H v d → DR K H' v d
  | _, _, .non => .non
  | _, _, .bl b => .bl b
  | _, _, .int i => .int i
  | _, _, .str x => .str x
  | _, _, .lst q h => .lst (sql_sub s q) (DRs.sub s h)
  | _, _, .tup q h => .tup (tup_sub s q) (DRs.sub s h)
  | _, _, .dct q h => .dct (Rd.sub s (fun _ z => by cases z) q) (DRk.sub s h)
  | _, _, .dctT q h => .dctT (s _ _ q (fun _ z => by cases z)) (DR.sub s h)
  | _, _, .exn q l => .exn (s _ _ q (fun _ z => by cases z)) (lnAt_sub s l)
theorem DRs.sub (s : Sub H H') : ∀ {v : List V} {d : List D}, DRs K H v d → DRs K H' v d
  | _, _, .nil => .nil
  | _, _, .cons a b => .cons (DR.sub s a) (DRs.sub s b)
theorem DRk.sub (s : Sub H H') : ∀ {v : List (Key × V)} {d : List (D × D)}, DRk K H v d → DRk K H' v d
  | _, _, .nil => .nil
  | _, _, .cons a b => .cons (DR.sub s a) (DRk.sub s b)
end
theorem DRs.length : ∀ {v : List V} {d : List D}, DRs K H v d → v.length = d.length
  | _, _, .nil => rfl
  | _, _, .cons _ b => congrArg (· + 1) (DRs.length b)
theorem DRs.get : ∀ {v : List V} {d : List D} {i : Nat} {x : V}, DRs K H v d → v[i]? = some x → ∃ y, d[i]? = some y ∧ DR K H x y
  | _, _, _, _, .nil, e => by simp at e
  | _, _, 0, _, .cons r _, e => by simp at e; subst e; exact ⟨_, rfl, r⟩
  | _, _, i + 1, x, .cons _ t, e => by
    obtain ⟨u, h1, h2⟩ := DRs.get (i := i) (x := x) t (by simpa using e)
    exact ⟨u, by simpa using h1, h2⟩
theorem DRs.got {v : List V} {d : List D} {i : Nat} {y : D} (h : DRs K H v d) (e : d[i]? = some y) : ∃ x, v[i]? = some x ∧ DR K H x y := by
  have hi : i < v.length := by rw [h.length]; exact (List.getElem?_eq_some_iff.mp e).1
  obtain ⟨y', e1, r⟩ := h.get (List.getElem?_eq_getElem hi)
  rw [e] at e1
  cases e1
  exact ⟨_, List.getElem?_eq_getElem hi, r⟩
theorem DRs.append : ∀ {v v' : List V} {d d' : List D}, DRs K H v d → DRs K H v' d' → DRs K H (v ++ v') (d ++ d')
  | _, _, _, _, .nil, h => h
  | _, _, _, _, .cons a b, h => .cons a (DRs.append b h)
theorem DRs.set {x : V} {y : D} (r : DR K H x y) : ∀ {v : List V} {d : List D} (i : Nat), DRs K H v d → DRs K H (v.set i x) (d.set i y)
  | _, _, _, .nil => .nil
  | _, _, 0, .cons _ t => .cons r t
  | _, _, i + 1, .cons q t => .cons q (DRs.set r i t)
theorem DRs.take : ∀ {v : List V} {d : List D} (n : Nat), DRs K H v d → DRs K H (v.take n) (d.take n)
  | _, _, 0, _ => .nil
  | _, _, _ + 1, .nil => .nil
  | _, _, n + 1, .cons r t => .cons r (DRs.take n t)
theorem DRs.drop : ∀ {v : List V} {d : List D} (n : Nat), DRs K H v d → DRs K H (v.drop n) (d.drop n)
  | _, _, 0, r => r
  | _, _, _ + 1, .nil => .nil
  | _, _, n + 1, .cons _ t => DRs.drop n t
theorem DRs.reverse : ∀ {v : List V} {d : List D}, DRs K H v d → DRs K H v.reverse d.reverse
  | _, _, .nil => .nil
  | _, _, .cons a b => by
    rw [List.reverse_cons, List.reverse_cons]
    exact (DRs.reverse b).append (.cons a .nil)
theorem DRs.rep {v : List V} {d : List D} (h : DRs K H v d) : ∀ n, DRs K H (List.replicate n v).flatten (List.replicate n d).flatten
  | 0 => .nil
  | n + 1 => by
    rw [List.replicate_succ, List.replicate_succ, List.flatten_cons, List.flatten_cons]
    exact h.append (DRs.rep h n)
theorem DRs.ints : ∀ {v : List V} {ns : List Int}, DRs K H v (ns.map PyData.int) → v = ns.map V.int
  | _, [], h => by cases h; rfl
  | _, n :: ns, h => by
    cases h with
    | cons a b =>
      cases a
      rw [DRs.ints b]
      rfl
theorem drs_ints : ∀ ns : List Int, DRs K H (ns.map V.int) (ns.map PyData.int)
  | [] => .nil
  | x :: r => .cons (.int x) (drs_ints r)
mutual
theorem DR.dp : ∀ {v : V} {d : D}, DR K H v d → d.hasDict = false → Dp K H v d
  | _, _, .non, _ => .non
  | _, _, .bl b, _ => .bl b
  | _, _, .int i, _ => .int i
  | _, _, .str x, _ => .str x
  | _, _, .lst q h, n => .lst q (DRs.dp h (by simpa only [PyData.hasDict] using n))
  | _, _, .tup q h, n => .tup (.inl (.inl q)) (DRs.dp h (by simpa only [PyData.hasDict] using n))
  | _, _, .dct q h, n => by simp [PyData.hasDict] at n
  | _, _, .dctT q h, n => by simp [PyData.hasDict] at n
  | _, _, .exn q l, n => by simp [PyData.hasDict] at n
theorem DRs.dp : ∀ {v : List V} {d : List D}, DRs K H v d → PyData.hasDictAll d = false → DpAll K H v d
  | _, _, .nil, _ => .nil
  | _, _, .cons a b, n => by
    simp only [PyData.hasDictAll, Bool.or_eq_false_iff] at n
    exact .cons (DR.dp a n.1) (DRs.dp b n.2)
end
end
def hide (S : List Addr) (H : Hp) : Hp := fun b => if b ∈ S then none else H b
theorem hide_of {S : List Addr} {H : Hp} {b : Addr} {o : HO} (n : b ∉ S) (h : H b = some o) : hide S H b = some o := by
  unfold hide
  rw [if_neg n]
  exact h
theorem of_hide {S : List Addr} {H : Hp} {b : Addr} {o : HO} (h : hide S H b = some o) : b ∉ S ∧ H b = some o := by
  unfold hide at h
  split at h
  · cases h
  · exact ⟨by assumption, h⟩
theorem hide_sub (S : List Addr) (H : Hp) : Sub (hide S H) H := fun _ _ h _ => (of_hide h).2
theorem hide_mono {S S' : List Addr} {H : Hp} (h : ∀ a ∈ S', a ∈ S) : Sub (hide S H) (hide S' H) := fun _ _ e _ => hide_of (fun z => (of_hide e).1 (h _ z)) (of_hide e).2
inductive Oc where
  | lst (ds : List D)
  | dK (kvs : List (Key × D))
  | dT (kvs : List (List Key × D))
def OcAt (K : PySem.W.Frag) (Hs H : Hp) (a : Addr) : Oc → Prop
  | .lst ds => ∃ xs, H a = some (.lst xs) ∧ DRs K Hs xs ds
  | .dK kvs => ∃ ys, H a = some (.dK ys) ∧ Paired (fun (p : Key × V) (q : Key × D) => p.1 = q.1 ∧ DR K Hs p.2 q.2) ys kvs
  | .dT kvs => ∃ ys, H a = some (.dT ys) ∧ Paired (fun (p : List Key × V) (q : List Key × D) => p.1 = q.1 ∧ DR K Hs p.2 q.2) ys kvs
theorem OcAt.sub {K : PySem.W.Frag} {Hs Hs' H H' : Hp} {a : Addr} {c : Oc} (s : Sub Hs Hs') (e : ∀ o, H a = some o → (∀ ps, o ≠ .tbl ps) → H' a = some o) (h : OcAt K Hs H a c) : OcAt K Hs' H' a c := by
  cases c with
  | lst ds =>
    obtain ⟨xs, h1, h2⟩ := h
    exact ⟨xs, e _ h1 (fun _ z => by cases z), h2.sub s⟩
  | dK kvs =>
    obtain ⟨xs, h1, h2⟩ := h
    exact ⟨xs, e _ h1 (fun _ z => by cases z), Paired.mapP h2 fun p q z => ⟨z.1, z.2.sub s⟩⟩
  | dT kvs =>
    obtain ⟨xs, h1, h2⟩ := h
    exact ⟨xs, e _ h1 (fun _ z => by cases z), Paired.mapP h2 fun p q z => ⟨z.1, z.2.sub s⟩⟩
inductive Sl where
  | un
  | da (d : D)
  | ow (l : Bool) (c : Oc)
  | tk (ks : List Key)
abbrev Ev := List Sl
def strip : Sl → Sl
  | .ow l _ => .ow l (.lst [])
  | s => s
def Same (ρ ρ' : Ev) : Prop := ρ.map strip = ρ'.map strip
theorem Same.refl (ρ : Ev) : Same ρ ρ := rfl
theorem Same.trans {a b c : Ev} (h : Same a b) (k : Same b c) : Same a c := Eq.trans h k
theorem Same.symm {a b : Ev} (h : Same a b) : Same b a := Eq.symm h
theorem Same.len {a b : Ev} (h : Same a b) : a.length = b.length := by
  have := congrArg List.length h
  rw [List.length_map, List.length_map] at this
  exact this
theorem Same.at {a b : Ev} (h : Same a b) (i : Nat) : a[i]?.map strip = b[i]?.map strip := by
  have := congrArg (fun l => l[i]?) h
  rw [List.getElem?_map, List.getElem?_map] at this
  exact this
theorem Same.ow {a b : Ev} {i : Nat} {l : Bool} {c : Oc} (h : Same a b) (e : a[i]? = some (.ow l c)) : ∃ c', b[i]? = some (.ow l c') := by
  have h1 := h.at i
  rw [e] at h1
  cases e2 : b[i]? with
  | none => rw [e2] at h1; cases h1
  | some s =>
    rw [e2] at h1
    have h2 : Sl.ow l (.lst []) = strip s := Option.some.inj h1
    cases s with
    | un => cases h2
    | da d => cases h2
    | tk d => cases h2
    | ow l' c' => cases h2; exact ⟨c', rfl⟩
theorem Same.da {a b : Ev} {i : Nat} {d : D} (h : Same a b) (e : a[i]? = some (.da d)) : b[i]? = some (.da d) := by
  have h1 := h.at i
  rw [e] at h1
  cases e2 : b[i]? with
  | none => rw [e2] at h1; cases h1
  | some s =>
    rw [e2] at h1
    have h2 : Sl.da d = strip s := Option.some.inj h1
    cases s with
    | un => cases h2
    | da d' => cases h2; rfl
    | tk d => cases h2
    | ow l' c' => cases h2
theorem Same.tk {a b : Ev} {i : Nat} {d : List Key} (h : Same a b) (e : a[i]? = some (.tk d)) : b[i]? = some (.tk d) := by
  have h1 := h.at i
  rw [e] at h1
  cases e2 : b[i]? with
  | none => rw [e2] at h1; cases h1
  | some s =>
    rw [e2] at h1
    have h2 : Sl.tk d = strip s := Option.some.inj h1
    cases s with
    | un => cases h2
    | tk d' => cases h2; rfl
    | da d => cases h2
    | ow l' c' => cases h2
theorem same_set {ρ : Ev} {i : Nat} {l : Bool} {c c' : Oc} (h : ρ[i]? = some (.ow l c)) : Same ρ (ρ.set i (.ow l c')) := by
  unfold Same
  refine List.ext_getElem? fun j => ?_
  rw [List.getElem?_map, List.getElem?_map, List.getElem?_set]
  by_cases e : i = j
  · subst e
    have hi := (List.getElem?_eq_some_iff.mp h).1
    rw [if_pos rfl, if_pos hi, h]
    rfl
  · rw [if_neg e]
def MuO : HO → Prop
  | .lst _ => True
  | .dK _ => True
  | .dT _ => True
  | _ => False
def Mu (H : Hp) (a : Addr) : Prop := ∃ o, H a = some o ∧ MuO o
theorem MuO.nt {o : HO} (h : MuO o) (ps : Array Value) : o ≠ .tbl ps := fun z => by
  rw [z] at h
  exact h
theorem Mu.sub {H H' : Hp} {a : Addr} (h : Mu H a) (s : ∀ o, H a = some o → (∀ ps, o ≠ .tbl ps) → H' a = some o) : Mu H' a := by
  obtain ⟨o, e, m⟩ := h
  exact ⟨o, s o e m.nt, m⟩
theorem Mu.upd {H : Hp} {a b : Addr} {o : HO} (h : Mu H a) (m : MuO o) : Mu (L2.upd H b o) a := by
  by_cases e : a = b
  · exact ⟨o, by rw [e, upd_same], m⟩
  · obtain ⟨u, h1, h2⟩ := h
    exact ⟨u, by rw [upd_ne e]; exact h1, h2⟩
theorem OcAt.mu {K : PySem.W.Frag} {Hs H : Hp} {a : Addr} {c : Oc} (h : OcAt K Hs H a c) : Mu H a := by
  cases c with
  | lst ds => obtain ⟨xs, e, _⟩ := h; exact ⟨_, e, True.intro⟩
  | dK ds => obtain ⟨xs, e, _⟩ := h; exact ⟨_, e, True.intro⟩
  | dT ds => obtain ⟨xs, e, _⟩ := h; exact ⟨_, e, True.intro⟩
structure Tbs where
  gs : List Addr
  ls : List (Addr × Str)
  dis : ∀ a ∈ gs, ∀ p ∈ ls, a ≠ p.1
instance : Membership Addr Tbs := ⟨fun t a => a ∈ t.gs⟩
structure Tabd (Ts : Tbs) (H : Hp) : Prop where
  gt : ∀ T ∈ Ts, GxR.TabG H T
  lt : LamX.Tabs Ts.ls H
def Tcd (o : HO) : Prop := (∃ ps, o = .tbl ps) ∨ ∃ c q, o = LamX.CodeO c q
theorem MuO.ntc {o : HO} (h : MuO o) : ¬ Tcd o := fun z => by
  rcases z with ⟨ps, e⟩ | ⟨c, q, e⟩
  · exact h.nt ps e
  · rw [e] at h
    unfold LamX.CodeO at h
    exact h
theorem Tabd.sub {Ts : Tbs} {H H' : Hp} (t : Tabd Ts H) (k : ∀ b o, H b = some o → Tcd o → H' b = some o) : Tabd Ts H' := by
  refine ⟨fun T hT => ?_, fun p hp => ?_⟩
  · obtain ⟨ps, e, q⟩ := t.gt T hT
    exact ⟨ps, k T _ e (.inl ⟨ps, rfl⟩), q⟩
  · obtain ⟨ps, e, q, f⟩ := t.lt p hp
    refine ⟨ps, k p.1 _ e (.inl ⟨ps, rfl⟩), q, fun pos cv hc => ?_⟩
    obtain ⟨c, e1, e2⟩ := f pos cv hc
    exact ⟨c, e1, k c _ e2 (.inr ⟨c, _, rfl⟩)⟩
theorem Tabd.upd {Ts : Tbs} {H : Hp} {p : Addr} {o : HO} (t : Tabd Ts H) (h : ∀ u, H p = some u → ¬ Tcd u) : Tabd Ts (L2.upd H p o) := t.sub fun b u e c => by
  rw [upd_ne (fun z => h u (by rw [← z]; exact e) c)]
  exact e
theorem Tabd.grown {Ts : Tbs} {H H' : Hp} {P : Addr} (t : Tabd Ts H) (hP : P ∈ Ts) (g : GxR.Tabbed P H H') : Tabd Ts H' := by
  obtain ⟨ps0, e0, _⟩ := t.gt P hP
  refine ⟨fun T hT => ?_, fun p hp => ?_⟩
  · by_cases e : T = P
    · rw [e]
      exact g.1
    · obtain ⟨ps, e1, q⟩ := t.gt T hT
      exact ⟨ps, by rw [g.2 T e]; exact e1, q⟩
  · obtain ⟨ps, e, q, f⟩ := t.lt p hp
    refine ⟨ps, by rw [g.2 _ (fun z => Ts.dis P hP p hp z.symm)]; exact e, q, fun pos cv hc => ?_⟩
    obtain ⟨c, e1, e2⟩ := f pos cv hc
    have nc : c ≠ P := fun z => by
      rw [z, e0] at e2
      exact LamX.codeO_ne ps0 (Option.some.inj e2).symm
    exact ⟨c, e1, by rw [g.2 c nc]; exact e2⟩
structure Act where
  OP : List Addr
  S0 : List Addr
  H0 : Hp
structure Rel (K : PySem.W.Frag) (Ts : Tbs) (A : Act) (S : List Addr) (ρ : Ev) (σ : L2.St) (H : Hp) : Prop where
  len : σ.length = ρ.length
  da : ∀ (i : Nat) (d : D), ρ[i]? = some (.da d) → ∃ v, σ[i]? = some (some v) ∧ DR K (hide S H) v d
  ow : ∀ (i : Nat) (l : Bool) (c : Oc), ρ[i]? = some (.ow l c) → ∃ a, σ[i]? = some (some (.ref a)) ∧ a ∈ S ∧ OcAt K (hide S H) H a c ∧ (if l = true then A.H0 a = none else a ∈ A.OP)
  inj : ∀ (i j : Nat) (l l' : Bool) (c c' : Oc) (a : Addr), ρ[i]? = some (.ow l c) → ρ[j]? = some (.ow l' c') → σ[i]? = some (some (.ref a)) → σ[j]? = some (some (.ref a)) → i = j
  dom : ∀ a ∈ S, H a ≠ none
  sub : ∀ a ∈ A.S0, a ∈ S
  ext : ∀ b o, b ∉ A.OP → A.H0 b = some o → (∀ ps, o ≠ .tbl ps) → H b = some o
  tab : Tabd Ts H
  dom0 : ∀ a ∈ A.S0, A.H0 a ≠ none
  op0 : ∀ a ∈ A.OP, a ∈ A.S0
  exd : ∀ b, A.H0 b ≠ none → H b ≠ none
  tk : ∀ (i : Nat) (ks : List Key), ρ[i]? = some (.tk ks) → ∃ a, σ[i]? = some (some (.ref a)) ∧ hide S H a = some (.tup (ks.map kV))
  mu : ∀ a ∈ S, Mu H a
def OwnA (ρ : Ev) (σ : L2.St) (a : Addr) : Prop := ∃ (i : Nat) (l : Bool) (c : Oc), ρ[i]? = some (.ow l c) ∧ σ[i]? = some (some (.ref a))
theorem Same.own {ρ ρ' : Ev} {σ : L2.St} {a : Addr} (h : Same ρ ρ') (k : OwnA ρ σ a) : OwnA ρ' σ a := by
  obtain ⟨i, l, c, e1, e2⟩ := k
  obtain ⟨c', e3⟩ := h.ow e1
  exact ⟨i, l, c', e3, e2⟩
def Fr (ρ : Ev) (σ : L2.St) (H H' : Hp) : Prop := ∀ b o, H b = some o → (∀ ps, o ≠ .tbl ps) → ¬ OwnA ρ σ b → H' b = some o
structure Post (K : PySem.W.Frag) (Ts : Tbs) (A : Act) (S : List Addr) (σ : L2.St) (ρ : Ev) (H : Hp) (ρ' : Ev) (H' : Hp) : Prop where
  rel : Rel K Ts A S ρ' σ H'
  same : Same ρ ρ'
  fr : Fr ρ σ H H'
section
variable {K : PySem.W.Frag} {Ts : Tbs} {A : Act} {S : List Addr} {σ : L2.St} {ρ ρ1 ρ2 : Ev} {H H1 H2 : Hp}
theorem Post.refl (r : Rel K Ts A S ρ σ H) : Post K Ts A S σ ρ H ρ H := ⟨r, .refl _, fun _ _ h _ _ => h⟩
theorem Post.trans (a : Post K Ts A S σ ρ H ρ1 H1) (b : Post K Ts A S σ ρ1 H1 ρ2 H2) : Post K Ts A S σ ρ H ρ2 H2 :=
  ⟨b.rel, a.same.trans b.same, fun c o h n k => b.fr c o (a.fr c o h n k) n (fun z => k (a.same.symm.own z))⟩
theorem Rel.own_in (r : Rel K Ts A S ρ σ H) {a : Addr} (h : OwnA ρ σ a) : a ∈ S := by
  obtain ⟨i, l, c, e1, e2⟩ := h
  obtain ⟨a', e3, h1, _⟩ := r.ow i l c e1
  rw [e2] at e3
  cases e3
  exact h1
theorem Fr.sub (r : Rel K Ts A S ρ σ H) (f : Fr ρ σ H H1) : Sub (hide S H) (hide S H1) := fun b o e n => by
  obtain ⟨e1, e2⟩ := of_hide e
  exact hide_of e1 (f b o e2 n fun z => e1 (r.own_in z))
theorem Post.sub (r : Rel K Ts A S ρ σ H) (p : Post K Ts A S σ ρ H ρ1 H1) : Sub (hide S H) (hide S H1) := p.fr.sub r
structure Grow (Ts : Tbs) (H H' : Hp) : Prop where
  keep : Sub H H'
  tab : Tabd Ts H → Tabd Ts H'
  dom : ∀ a, H a ≠ none → H' a ≠ none
theorem Grow.refl (Ts : Tbs) (H : Hp) : Grow Ts H H := ⟨.refl _, fun h => h, fun _ h => h⟩
theorem Grow.trans (a : Grow Ts H H1) (b : Grow Ts H1 H2) : Grow Ts H H2 := ⟨a.keep.trans b.keep, fun h => b.tab (a.tab h), fun x h => b.dom x (a.dom x h)⟩
theorem Grow.new {p : Addr} {o : HO} (h : H p = none) : Grow Ts H (upd H p o) := by
  refine ⟨fun b u e _ => ?_, fun t => t.upd fun u e => by (rw [h] at e; cases e), fun b hb => ?_⟩
  · rw [upd_ne (ne_of_none e h)]
    exact e
  · by_cases e : b = p
    · rw [e, upd_same]
      exact fun z => by cases z
    · rw [upd_ne e]
      exact hb
theorem Rel.grow (r : Rel K Ts A S ρ σ H) (g : Grow Ts H H1) : Rel K Ts A S ρ σ H1 := by
  have sub : Sub (hide S H) (hide S H1) := fun b o e n => by
    obtain ⟨e1, e2⟩ := of_hide e
    exact hide_of e1 (g.keep b o e2 n)
  refine ⟨r.len, fun i x e => ?_, fun i l c e => ?_, r.inj, fun a ha => g.dom a (r.dom a ha), r.sub, fun b o h1 h2 h3 => g.keep b o (r.ext b o h1 h2 h3) h3, g.tab r.tab, r.dom0, r.op0, fun b hb => g.dom b (r.exd b hb), fun i ks e => ?_, fun a ha => (r.mu a ha).sub (fun o e n => g.keep a o e n)⟩
  · obtain ⟨v, h1, h2⟩ := r.da i x e
    exact ⟨v, h1, h2.sub sub⟩
  · obtain ⟨a, h1, h2, h3, h4⟩ := r.ow i l c e
    exact ⟨a, h1, h2, h3.sub sub (fun o e n => g.keep a o e n), h4⟩
  · obtain ⟨a, h1, h2⟩ := r.tk i ks e
    exact ⟨a, h1, sub a _ h2 (fun _ z => by cases z)⟩
theorem Post.grow (r : Rel K Ts A S ρ σ H) (g : Grow Ts H H1) : Post K Ts A S σ ρ H ρ H1 := ⟨r.grow g, .refl _, fun b o h n _ => g.keep b o h n⟩
theorem new_hid {p : Addr} (d : ∀ a ∈ S, H a ≠ none) (h : H p = none) : p ∉ S := fun z => d p z h
theorem grow_hide (d : ∀ a ∈ S, H a ≠ none) (g : Grow Ts H H1) : Sub (hide S H) (hide S H1) := fun b o e n => by
  obtain ⟨e1, e2⟩ := of_hide e
  exact hide_of e1 (g.keep b o e2 n)
end
end DL
set_option Elab.async false
set_option linter.all false
set_option maxRecDepth 100000
set_option maxHeartbeats 2000000
namespace DL
open PySem PySem.Spec PyProof.Rows L2 GL
abbrev XV := Str × Option Int
abbrev EK := XV → L2.St → Hp → Prop
def XAt (K : PySem.W.Frag) (x : XV) (cls : Value) (d : Option Addr) (H : Hp) : Prop := cls = .ref (He.ga K x.1) ∧ LnAt H d x.2
abbrev Mo (α : Type) := Ev → Option (Except XV α × Ev)
def bnd {α β : Type} (f : Mo α) (g : α → Mo β) : Mo β := fun ρ => match f ρ with
  | none => none
  | some (.error x, ρ1) => some (.error x, ρ1)
  | some (.ok a, ρ1) => g a ρ1
def rt {α : Type} (a : α) : Mo α := fun ρ => some (.ok a, ρ)
def lf {α : Type} (o : Option α) : Mo α := fun ρ => match o with
  | none => none
  | some a => some (.ok a, ρ)
section
variable {α β : Type}
theorem bnd_ok {f : Mo α} {g : α → Mo β} {ρ ρ1 : Ev} {a : α} (h : f ρ = some (.ok a, ρ1)) : bnd f g ρ = g a ρ1 := by
  unfold bnd
  rw [h]
theorem lf_ok {o : Option α} {ρ ρ' : Ev} {r : Except XV α} (h : lf o ρ = some (r, ρ')) : ∃ a, o = some a ∧ r = .ok a ∧ ρ' = ρ := by
  cases o with
  | none => cases h
  | some a => cases h; exact ⟨a, rfl, rfl, rfl⟩
theorem rt_ok {a : α} {ρ ρ' : Ev} {r : Except XV α} (h : rt a ρ = some (r, ρ')) : r = .ok a ∧ ρ' = ρ := by
  cases h
  exact ⟨rfl, rfl⟩
end
section
variable (K : PySem.W.Frag) (Ts : Tbs) (E : EK)
def Err {α : Type} (A : Act) (S : List Addr) (σ : L2.St) (ρ : Ev) (H : Hp) (r : Except XV α) (ρ' : Ev) : Prop := ∀ x, r = .error x → ∀ H', Post K Ts A S σ ρ H ρ' H' → E x σ H'
def tE (f : Mo D) : TE := fun σ H Q => ∃ (A : Act) (S : List Addr) (ρ : Ev) (r : Except XV D) (ρ' : Ev), Rel K Ts A S ρ σ H ∧ f ρ = some (r, ρ') ∧ Err K Ts E A S σ ρ H r ρ' ∧
  ∀ d, r = .ok d → ∀ v H', Post K Ts A S σ ρ H ρ' H' → DR K (hide S H') v d → Q v H'
def tT (f : Mo Bool) : TT := fun σ H Q => ∃ (A : Act) (S : List Addr) (ρ : Ev) (r : Except XV Bool) (ρ' : Ev), Rel K Ts A S ρ σ H ∧ f ρ = some (r, ρ') ∧ Err K Ts E A S σ ρ H r ρ' ∧
  ∀ b, r = .ok b → ∀ H', Post K Ts A S σ ρ H ρ' H' → Q b H'
def tA (f : Mo (List D)) : TA := fun σ H Q => ∃ (A : Act) (S : List Addr) (ρ : Ev) (r : Except XV (List D)) (ρ' : Ev), Rel K Ts A S ρ σ H ∧ f ρ = some (r, ρ') ∧ Err K Ts E A S σ ρ H r ρ' ∧
  ∀ ds, r = .ok ds → ∀ vs H', Post K Ts A S σ ρ H ρ' H' → DRs K (hide S H') vs ds → Q vs H'
end
section
variable {K : PySem.W.Frag} {Ts : Tbs} {E : EK} {A : Act} {S : List Addr} {σ : L2.St} {ρ ρ' ρ1 : Ev} {H H1 : Hp} {β : Type} {r : Except XV β}
theorem Err.step (h : Err K Ts E A S σ ρ H r ρ') (p : Post K Ts A S σ ρ H ρ1 H1) : Err K Ts E A S σ ρ1 H1 r ρ' := fun x e H' q => h x e H' (p.trans q)
theorem bnd_cases {α : Type} {f : Mo α} {g : α → Mo β} (h : bnd f g ρ = some (r, ρ')) : (∃ x, f ρ = some (.error x, ρ') ∧ r = .error x) ∨ ∃ a ρ1, f ρ = some (.ok a, ρ1) ∧ g a ρ1 = some (r, ρ') := by
  unfold bnd at h
  split at h
  · cases h
  · rename_i x ρ1 e
    cases h
    exact .inl ⟨x, e, rfl⟩
  · rename_i a ρ1 e
    exact .inr ⟨a, ρ1, e, h⟩
theorem tE_step {f : Mo D} {g : D → Mo β} {Q : VK} (rel : Rel K Ts A S ρ σ H) (h : bnd f g ρ = some (r, ρ')) (he : Err K Ts E A S σ ρ H r ρ')
    (k : ∀ d ρ1 v H1, Post K Ts A S σ ρ H ρ1 H1 → DR K (hide S H1) v d → g d ρ1 = some (r, ρ') → Q v H1) : tE K Ts E f σ H Q := by
  rcases bnd_cases h with ⟨x, e, rfl⟩ | ⟨a, ρ1, e, h1⟩
  · exact ⟨A, S, ρ, .error x, ρ', rel, e, (fun y hy => by cases hy; exact he x rfl), (fun d hd => by cases hd)⟩
  · exact ⟨A, S, ρ, .ok a, ρ1, rel, e, (fun y hy => by cases hy), (fun d' hd v H1 p dr => by cases hd; exact k _ ρ1 v H1 p dr h1)⟩
theorem tT_step {f : Mo Bool} {g : Bool → Mo β} {Q : Bool → Hp → Prop} (rel : Rel K Ts A S ρ σ H) (h : bnd f g ρ = some (r, ρ')) (he : Err K Ts E A S σ ρ H r ρ')
    (k : ∀ b ρ1 H1, Post K Ts A S σ ρ H ρ1 H1 → g b ρ1 = some (r, ρ') → Q b H1) : tT K Ts E f σ H Q := by
  rcases bnd_cases h with ⟨x, e, rfl⟩ | ⟨a, ρ1, e, h1⟩
  · exact ⟨A, S, ρ, .error x, ρ', rel, e, (fun y hy => by cases hy; exact he x rfl), (fun d hd => by cases hd)⟩
  · exact ⟨A, S, ρ, .ok a, ρ1, rel, e, (fun y hy => by cases hy), (fun d' hd H1 p => by cases hd; exact k _ ρ1 H1 p h1)⟩
theorem tA_step {f : Mo (List D)} {g : List D → Mo β} {Q : List V → Hp → Prop} (rel : Rel K Ts A S ρ σ H) (h : bnd f g ρ = some (r, ρ')) (he : Err K Ts E A S σ ρ H r ρ')
    (k : ∀ ds ρ1 vs H1, Post K Ts A S σ ρ H ρ1 H1 → DRs K (hide S H1) vs ds → f ρ = some (.ok ds, ρ1) → g ds ρ1 = some (r, ρ') → Q vs H1) : tA K Ts E f σ H Q := by
  rcases bnd_cases h with ⟨x, e, rfl⟩ | ⟨a, ρ1, e, h1⟩
  · exact ⟨A, S, ρ, .error x, ρ', rel, e, (fun y hy => by cases hy; exact he x rfl), (fun d hd => by cases hd)⟩
  · exact ⟨A, S, ρ, .ok a, ρ1, rel, e, (fun y hy => by cases hy), (fun d' hd v H1 p dr => by cases hd; exact k _ ρ1 v H1 p dr e h1)⟩
end
section
variable {X : Cx} {Ts : Tbs} {E : EK}
abbrev DE (X : Cx) (Ts : Tbs) (E : EK) (e : Expr) (f : Mo D) : Prop := PE X e (tE X.K Ts E f)
abbrev DT (X : Cx) (Ts : Tbs) (E : EK) (e : Expr) (f : Mo Bool) : Prop := PT X e (tT X.K Ts E f)
abbrev DA (X : Cx) (Ts : Tbs) (E : EK) (es : List Expr) (f : Mo (List D)) : Prop := PA X es (tA X.K Ts E f)
theorem pe_mono {e : Expr} {t t' : TE} (h : PE X e t) (m : ∀ σ H Q, t' σ H Q → t σ H Q) : PE X e t' := ⟨fun pins s σ H Q I q => h.run pins s σ H Q I (m σ H Q q)⟩
theorem pt_mono {e : Expr} {t t' : TT} (h : PT X e t) (m : ∀ σ H Q, t' σ H Q → t σ H Q) : PT X e t' := ⟨fun pins s σ H Q I q => h.run pins s σ H Q I (m σ H Q q)⟩
theorem pa_mono {es : List Expr} {t t' : TA} (h : PA X es t) (m : ∀ σ H Q, t' σ H Q → t σ H Q) : PA X es t' := ⟨fun pos pins s σ H Q I q => h.run pos pins s σ H Q I (m σ H Q q)⟩
def rd (i : Nat) : Mo D := fun ρ => match ρ[i]? with
  | some (.da d) => some (.ok d, ρ)
  | _ => none
theorem rd_ok {i : Nat} {ρ ρ' : Ev} {r : Except XV D} (h : rd i ρ = some (r, ρ')) : ∃ d, ρ[i]? = some (.da d) ∧ r = .ok d ∧ ρ' = ρ := by
  unfold rd at h
  split at h
  · rename_i d e
    cases h
    exact ⟨d, e, rfl, rfl⟩
  · cases h
theorem de_var {e : Expr} {i : Nat} (h : PE X e (tVar i)) : DE X Ts E e (rd i) := by
  refine pe_mono h ?_
  rintro σ H Q ⟨A, S, ρ, r, ρ', rel, hf, he, k⟩
  obtain ⟨d, e1, rfl, rfl⟩ := rd_ok hf
  obtain ⟨v, e2, dr⟩ := rel.da i d e1
  exact ⟨v, e2, k d rfl v H (.refl rel) dr⟩
theorem de_con {e : Expr} {v : V} {d : D} (h : PE X e (tC v)) (dr : ∀ H, DR X.K H v d) : DE X Ts E e (rt d) := by
  refine pe_mono h ?_
  rintro σ H Q ⟨A, S, ρ, r, ρ', rel, hf, he, k⟩
  obtain ⟨rfl, rfl⟩ := rt_ok hf
  exact k d rfl v H (.refl rel) (dr _)
theorem de_int {i : Int} {j : Nat} {pos : Pos} : DE X Ts E (.Constant (.int i) j pos) (rt (.int i)) := de_con pe_int fun _ => .int i
theorem de_str {x : Str} {j : Nat} {pos : Pos} : DE X Ts E (.Constant (.str x) j pos) (rt (.str x)) := de_con pe_str fun _ => .str x
theorem de_bl {b : Bool} {j : Nat} {pos : Pos} : DE X Ts E (.Constant (.bool b) j pos) (rt (.bool b)) := de_con pe_bl fun _ => .bl b
theorem de_non {j : Nat} {pos : Pos} : DE X Ts E (.Constant .none j pos) (rt .none) := de_con pe_non fun _ => .non
def Snd2 (K : PySem.W.Frag) (Ts : Tbs) (r : R2) (o : D → D → Option D) : Prop := ∀ (x y : V) (d1 d2 d : D) (H : Hp) (S : List Addr) (Q : VK), (∀ a ∈ S, H a ≠ none) → DR K (hide S H) x d1 → DR K (hide S H) y d2 → o d1 d2 = some d →
  (∀ v H', Grow Ts H H' → DR K (hide S H') v d → Q v H') → r x y H Q
def op2 (o : D → D → Option D) (f g : Mo D) : Mo D := bnd f fun x => bnd g fun y => lf (o x y)
theorem de_op2 {e : Expr} {r : R2} {o : D → D → Option D} {f g : Mo D} (hs : Snd2 X.K Ts r o) (h : PE X e (tOp r (tE X.K Ts E f) (tE X.K Ts E g))) : DE X Ts E e (op2 o f g) := by
  refine pe_mono h ?_
  rintro σ H Q ⟨A, S, ρ, r, ρ', rel, hf, he, k⟩
  refine tE_step rel hf he fun d1 ρ1 v1 H1 p1 dr1 h1 => ?_
  refine tE_step p1.rel h1 (he.step p1) fun d2 ρ2 v2 H2 p2 dr2 h2 => ?_
  obtain ⟨d, e1, rfl, rfl⟩ := lf_ok h2
  refine hs v1 v2 d1 d2 d H2 S Q p2.rel.dom (dr1.sub (p2.sub p1.rel)) dr2 e1 fun v H' g dr => ?_
  exact k d rfl v H' ((p1.trans p2).trans (.grow p2.rel g)) dr
theorem bnd_assoc {α β γ : Type} {f : Mo α} {g : α → Mo β} {h : β → Mo γ} {ρ : Ev} : bnd (bnd f g) h ρ = bnd f (fun a => bnd (g a) h) ρ := by
  unfold bnd
  cases f ρ with
  | none => rfl
  | some z =>
    obtain ⟨r1, ρ1⟩ := z
    cases r1 <;> rfl
def asB : D → Option Bool
  | .bool b => some b
  | _ => none
theorem asB_ok {d : D} {b : Bool} (h : asB d = some b) : d = .bool b := by
  cases d <;> simp [asB] at h
  subst h
  rfl
def tst (f : Mo D) : Mo Bool := bnd f fun d => lf (asB d)
theorem dt_op2 {e : Expr} {r : R2} {o : D → D → Option D} {f g : Mo D} (hs : Snd2 X.K Ts r o) (h : PT X e (tTest (tOp r (tE X.K Ts E f) (tE X.K Ts E g)))) : DT X Ts E e (tst (op2 o f g)) := by
  refine pt_mono h ?_
  rintro σ H Q ⟨A, S, ρ, r, ρ', rel, hf, he, k⟩
  have e0 : tst (op2 o f g) ρ = bnd f (fun x => bnd g fun y => bnd (lf (o x y)) fun d => lf (asB d)) ρ := by
    unfold tst op2
    rw [bnd_assoc]
    congr 1
    funext x
    funext ρ1
    exact bnd_assoc
  rw [e0] at hf
  refine tE_step rel hf he fun d1 ρ1 v1 H1 p1 dr1 h1 => ?_
  refine tE_step p1.rel h1 (he.step p1) fun d2 ρ2 v2 H2 p2 dr2 h2 => ?_
  cases e1 : o d1 d2 with
  | none => rw [e1] at h2; cases h2
  | some d =>
    rw [e1] at h2
    obtain ⟨b, e2, rfl, rfl⟩ := lf_ok (show lf (asB d) ρ2 = some (r, ρ') from h2)
    obtain rfl := asB_ok e2
    refine hs v1 v2 d1 d2 _ H2 S _ p2.rel.dom (dr1.sub (p2.sub p1.rel)) dr2 e1 fun v H' g dr => ?_
    cases dr
    exact ⟨b, rfl, k b rfl H' ((p1.trans p2).trans (.grow p2.rel g))⟩
theorem dt_val {e : Expr} {f : Mo D} (h : PT X e (tB (tE X.K Ts E f))) : DT X Ts E e (tst f) := by
  refine pt_mono h ?_
  rintro σ H Q ⟨A, S, ρ, r, ρ', rel, hf, he, k⟩
  refine tE_step rel hf he fun d1 ρ1 v1 H1 p1 dr1 h1 => ?_
  obtain ⟨b, e2, rfl, rfl⟩ := lf_ok h1
  obtain rfl := asB_ok e2
  cases dr1
  exact ⟨b, rfl, k b rfl H1 p1⟩
def bnot (f : Mo Bool) : Mo Bool := bnd f fun b => rt (!b)
theorem dt_not {e : Expr} {f : Mo Bool} (h : PT X e (tNot (tT X.K Ts E f))) : DT X Ts E e (bnot f) := by
  refine pt_mono h ?_
  rintro σ H Q ⟨A, S, ρ, r, ρ', rel, hf, he, k⟩
  refine tT_step rel hf he fun b ρ1 H1 p1 h1 => ?_
  obtain ⟨rfl, rfl⟩ := rt_ok h1
  exact k _ rfl H1 p1
def band (f g : Mo Bool) : Mo Bool := bnd f fun b => if b = true then g else rt false
def bor (f g : Mo Bool) : Mo Bool := bnd f fun b => if b = true then rt true else g
theorem t_and {f g : Mo Bool} {σ : L2.St} {H : Hp} {Q : Bool → Hp → Prop} (h : tT X.K Ts E (band f g) σ H Q) : tAnd (tT X.K Ts E f) (tT X.K Ts E g) σ H Q := by
  obtain ⟨A, S, ρ, r, ρ', rel, hf, he, k⟩ := h
  refine tT_step rel hf he fun b ρ1 H1 p1 h1 => ?_
  cases b with
  | true => exact ⟨A, S, ρ1, r, ρ', p1.rel, h1, he.step p1, fun b hb H' p => k b hb H' (p1.trans p)⟩
  | false =>
    obtain ⟨rfl, rfl⟩ := rt_ok h1
    exact k _ rfl H1 p1
theorem t_or {f g : Mo Bool} {σ : L2.St} {H : Hp} {Q : Bool → Hp → Prop} (h : tT X.K Ts E (bor f g) σ H Q) : tOr (tT X.K Ts E f) (tT X.K Ts E g) σ H Q := by
  obtain ⟨A, S, ρ, r, ρ', rel, hf, he, k⟩ := h
  refine tT_step rel hf he fun b ρ1 H1 p1 h1 => ?_
  cases b with
  | true =>
    obtain ⟨rfl, rfl⟩ := rt_ok h1
    exact k _ rfl H1 p1
  | false => exact ⟨A, S, ρ1, r, ρ', p1.rel, h1, he.step p1, fun b hb H' p => k b hb H' (p1.trans p)⟩
def vand (f g : Mo D) : Mo D := bnd f fun d => match d with
  | .bool true => g
  | .bool false => rt (.bool false)
  | _ => fun _ => none
def vor (f g : Mo D) : Mo D := bnd f fun d => match d with
  | .bool true => rt (.bool true)
  | .bool false => g
  | _ => fun _ => none
def vnot (f : Mo D) : Mo D := bnd f fun d => match d with
  | .bool b => rt (.bool (!b))
  | _ => fun _ => none
theorem de_vand {e : Expr} {f g : Mo D} (h : PE X e (tAndV (tE X.K Ts E f) (tE X.K Ts E g))) : DE X Ts E e (vand f g) := by
  refine pe_mono h ?_
  rintro σ H Q ⟨A, S, ρ, r, ρ', rel, hf, he, k⟩
  refine tE_step rel hf he fun d ρ1 v H1 p1 dr h1 => ?_
  cases dr with
  | bl b =>
    refine ⟨b, rfl, ?_⟩
    cases b with
    | true => exact ⟨A, S, ρ1, r, ρ', p1.rel, h1, he.step p1, fun d hd v H' p dr => k d hd v H' (p1.trans p) dr⟩
    | false =>
      obtain ⟨rfl, rfl⟩ := rt_ok h1
      exact k _ rfl _ H1 p1 (.bl _)
  | _ => cases h1
theorem de_vnot {e : Expr} {f : Mo D} (h : PE X e (tNotV (tE X.K Ts E f))) : DE X Ts E e (vnot f) := by
  refine pe_mono h ?_
  rintro σ H Q ⟨A, S, ρ, r, ρ', rel, hf, he, k⟩
  refine tE_step rel hf he fun d ρ1 v H1 p1 dr h1 => ?_
  cases dr with
  | bl b =>
    obtain ⟨rfl, rfl⟩ := rt_ok h1
    exact ⟨b, rfl, k _ rfl _ H1 p1 (.bl _)⟩
  | _ => cases h1
def ife (c : Mo Bool) (f g : Mo D) : Mo D := bnd c fun b => if b = true then f else g
def Snd1 (K : PySem.W.Frag) (Ts : Tbs) (r : V → Hp → VK → Prop) (o : D → Option D) : Prop := ∀ (x : V) (d1 d : D) (H : Hp) (S : List Addr) (Q : VK), (∀ a ∈ S, H a ≠ none) → DR K (hide S H) x d1 → o d1 = some d →
  (∀ v H', Grow Ts H H' → DR K (hide S H') v d → Q v H') → r x H Q
def op1 (o : D → Option D) (f : Mo D) : Mo D := bnd f fun x => lf (o x)
theorem de_op1 {e : Expr} {r : V → Hp → VK → Prop} {o : D → Option D} {f : Mo D} (hs : Snd1 X.K Ts r o) (h : PE X e (tUn r (tE X.K Ts E f))) : DE X Ts E e (op1 o f) := by
  refine pe_mono h ?_
  rintro σ H Q ⟨A, S, ρ, r, ρ', rel, hf, he, k⟩
  refine tE_step rel hf he fun d1 ρ1 v1 H1 p1 dr1 h1 => ?_
  obtain ⟨d, e1, rfl, rfl⟩ := lf_ok h1
  exact hs v1 d1 d H1 S Q p1.rel.dom dr1 e1 fun v H' g dr => k d rfl v H' (p1.trans (.grow p1.rel g)) dr
def args : List (Mo D) → Mo (List D)
  | [] => rt []
  | f :: fs => bnd f fun d => bnd (args fs) fun ds => rt (d :: ds)
theorem da_nil : DA X Ts E [] (args []) := by
  refine pa_mono pa_nil ?_
  rintro σ H Q ⟨A, S, ρ, r, ρ', rel, hf, he, k⟩
  obtain ⟨rfl, rfl⟩ := rt_ok hf
  exact k [] rfl [] H (.refl rel) .nil
theorem da_cons {e : Expr} {es : List Expr} {f : Mo D} {fs : List (Mo D)} (h1 : DE X Ts E e f) (h2 : DA X Ts E es (args fs)) (hs : starEach (e :: es) X.env = (false, eval e X.env) :: starEach es X.env := by rfl) : DA X Ts E (e :: es) (args (f :: fs)) := by
  refine pa_mono (pa_cons h1 h2 hs) ?_
  rintro σ H Q ⟨A, S, ρ, r, ρ', rel, hf, he, k⟩
  refine tE_step rel hf he fun d1 ρ1 v1 H1 p1 dr1 h1 => ?_
  refine tA_step p1.rel h1 (he.step p1) fun ds ρ2 vs H2 p2 dr2 _ h2 => ?_
  obtain ⟨rfl, rfl⟩ := rt_ok h2
  exact k _ rfl _ H2 (p1.trans p2) (.cons (dr1.sub (p2.sub p1.rel)) dr2)
theorem args_len : ∀ {fs : List (Mo D)} {ρ ρ' : Ev} {ds : List D}, args fs ρ = some (.ok ds, ρ') → ds.length = fs.length
  | [], _, _, _, h => by
    obtain ⟨h1, _⟩ := rt_ok h
    cases h1
    rfl
  | f :: fs, ρ, ρ', ds, h => by
    have h0 : bnd f (fun d => bnd (args fs) fun ds => rt (d :: ds)) ρ = some (.ok ds, ρ') := h
    unfold bnd at h0
    cases e : f ρ with
    | none => rw [e] at h0; cases h0
    | some z =>
      obtain ⟨r1, ρ1⟩ := z
      rw [e] at h0
      cases r1 with
      | error x => cases h0
      | ok d =>
        simp only at h0
        cases e2 : args fs ρ1 with
        | none => rw [e2] at h0; cases h0
        | some z =>
          obtain ⟨r2, ρ2⟩ := z
          rw [e2] at h0
          cases r2 with
          | error x => cases h0
          | ok ds2 =>
            obtain ⟨h1, _⟩ := rt_ok h0
            cases h1
            rw [List.length_cons, List.length_cons, args_len e2]
def tup (fs : List (Mo D)) : Mo D := bnd (args fs) fun ds => rt (.tuple ds)
def lst (fs : List (Mo D)) : Mo D := bnd (args fs) fun ds => rt (.list ds)
theorem few {n : Nat} (h : n ≤ 1000) : n ≤ sizeLine := Nat.le_trans h (by decide)
theorem de_tup {es : List Expr} {x1 : Nat} {pos : Pos} {fs : List (Mo D)} (h : DA X Ts E es (args fs)) (hl : fs.length ≤ 1000 := by decide) : DE X Ts E (.Tuple es x1 pos) (tup fs) := by
  refine pe_mono (pe_tup h) ?_
  rintro σ H Q ⟨A, S, ρ, r, ρ', rel, hf, he, k⟩
  refine tA_step rel hf he fun ds ρ1 vs H1 p1 dr e1 h1 => ?_
  obtain ⟨rfl, rfl⟩ := rt_ok h1
  refine ⟨few (by rw [dr.length, args_len e1]; exact hl), fun p np => ?_⟩
  have g : Grow Ts H1 (upd H1 p (.tup vs)) := .new np
  exact k _ rfl _ _ (p1.trans (.grow p1.rel g)) (.tup (hide_of (new_hid p1.rel.dom np) upd_same) (dr.sub (grow_hide p1.rel.dom g)))
theorem de_lst {es : List Expr} {pos : Pos} {fs : List (Mo D)} (h : DA X Ts E es (args fs)) (hl : fs.length ≤ 1000 := by decide) : DE X Ts E (.List es pos) (lst fs) := by
  refine pe_mono (pe_lst h) ?_
  rintro σ H Q ⟨A, S, ρ, r, ρ', rel, hf, he, k⟩
  refine tA_step rel hf he fun ds ρ1 vs H1 p1 dr e1 h1 => ?_
  obtain ⟨rfl, rfl⟩ := rt_ok h1
  refine ⟨few (by rw [dr.length, args_len e1]; exact hl), fun p np => ?_⟩
  have g : Grow Ts H1 (upd H1 p (.lst vs)) := .new np
  exact k _ rfl _ _ (p1.trans (.grow p1.rel g)) (.lst (.inl (.inl (hide_of (new_hid p1.rel.dom np) upd_same))) (dr.sub (grow_hide p1.rel.dom g)))
def SndA (K : PySem.W.Frag) (Ts : Tbs) (r : List V → Hp → VK → Prop) (o : List D → Option D) : Prop := ∀ (xs : List V) (ds : List D) (d : D) (H : Hp) (S : List Addr) (Q : VK), (∀ a ∈ S, H a ≠ none) → DRs K (hide S H) xs ds → o ds = some d →
  (∀ v H', Grow Ts H H' → DR K (hide S H') v d → Q v H') → r xs H Q
def opA (o : List D → Option D) (fs : List (Mo D)) : Mo D := bnd (args fs) fun ds => lf (o ds)
theorem de_opA {e : Expr} {r : List V → Hp → VK → Prop} {o : List D → Option D} {fs : List (Mo D)} (hs : SndA X.K Ts r o) (h : PE X e (tCB r (tA X.K Ts E (args fs)))) : DE X Ts E e (opA o fs) := by
  refine pe_mono h ?_
  rintro σ H Q ⟨A, S, ρ, r, ρ', rel, hf, he, k⟩
  refine tA_step rel hf he fun ds ρ1 vs H1 p1 dr e1 h1 => ?_
  obtain ⟨d, e2, rfl, rfl⟩ := lf_ok h1
  exact hs vs ds d H1 S Q p1.rel.dom dr e2 fun v H' g dr => k d rfl v H' (p1.trans (.grow p1.rel g)) dr
def SndS (K : PySem.W.Frag) (Ts : Tbs) (r : V → Option Int → Option Int → Hp → VK → Prop) (o : D → Option Int → Option Int → Option D) : Prop := ∀ (x : V) (lo hi : Option Int) (d1 d : D) (H : Hp) (S : List Addr) (Q : VK), (∀ a ∈ S, H a ≠ none) → DR K (hide S H) x d1 → o d1 lo hi = some d →
  (∀ v H', Grow Ts H H' → DR K (hide S H') v d → Q v H') → r x lo hi H Q
def asI : D → Option Int
  | .int i => some i
  | _ => none
theorem asI_ok {d : D} {b : Int} (h : asI d = some b) : d = .int b := by
  cases d <;> simp [asI] at h
  subst h
  rfl
def bN : Mo (Option Int) := rt none
def bS (f : Mo D) : Mo (Option Int) := bnd f fun d => bnd (lf (asI d)) fun i => rt (some i)
def tO (K : PySem.W.Frag) (Ts : Tbs) (E : EK) (f : Mo (Option Int)) : TO := fun σ H Q => ∃ (A : Act) (S : List Addr) (ρ : Ev) (r : Except XV (Option Int)) (ρ' : Ev), Rel K Ts A S ρ σ H ∧ f ρ = some (r, ρ') ∧ Err K Ts E A S σ ρ H r ρ' ∧
  ∀ b, r = .ok b → ∀ H', Post K Ts A S σ ρ H ρ' H' → Q b H'
theorem po_mono {e : Option Expr} {t t' : TO} (h : PO X e t) (m : ∀ σ H Q, t' σ H Q → t σ H Q) : PO X e t' := ⟨fun pins s σ H Q I q => h.run pins s σ H Q I (m σ H Q q)⟩
theorem do_none : PO X none (tO X.K Ts E bN) := by
  refine po_mono po_none ?_
  rintro σ H Q ⟨A, S, ρ, r, ρ', rel, hf, he, k⟩
  obtain ⟨rfl, rfl⟩ := rt_ok hf
  exact k _ rfl H (.refl rel)
theorem do_some {e : Expr} {f : Mo D} (h : DE X Ts E e f) : PO X (some e) (tO X.K Ts E (bS f)) := by
  refine po_mono (po_some h) ?_
  rintro σ H Q ⟨A, S, ρ, r, ρ', rel, hf, he, k⟩
  refine tE_step rel hf he fun d1 ρ1 v1 H1 p1 dr1 h1 => ?_
  cases ei : asI d1 with
  | none => rw [ei] at h1; cases h1
  | some i =>
    rw [ei] at h1
    obtain ⟨rfl, rfl⟩ := rt_ok (show rt (some i) ρ1 = some (r, ρ') from h1)
    obtain rfl := asI_ok ei
    cases dr1
    exact ⟨i, rfl, k _ rfl H1 p1⟩
theorem tO_step {A : Act} {S : List Addr} {σ : L2.St} {ρ ρ' : Ev} {H : Hp} {β : Type} {r : Except XV β} {f : Mo (Option Int)} {g : Option Int → Mo β} {Q : Option Int → Hp → Prop} (rel : Rel X.K Ts A S ρ σ H) (h : bnd f g ρ = some (r, ρ')) (he : Err X.K Ts E A S σ ρ H r ρ')
    (k : ∀ b ρ1 H1, Post X.K Ts A S σ ρ H ρ1 H1 → g b ρ1 = some (r, ρ') → Q b H1) : tO X.K Ts E f σ H Q := by
  rcases bnd_cases h with ⟨x, e, rfl⟩ | ⟨a, ρ1, e, h1⟩
  · exact ⟨A, S, ρ, .error x, ρ', rel, e, (fun y hy => by cases hy; exact he x rfl), (fun d hd => by cases hd)⟩
  · exact ⟨A, S, ρ, .ok a, ρ1, rel, e, (fun y hy => by cases hy), (fun d' hd H1 p => by cases hd; exact k _ ρ1 H1 p h1)⟩
def slc (o : D → Option Int → Option Int → Option D) (f : Mo D) (lo hi : Mo (Option Int)) : Mo D := bnd f fun d => bnd lo fun l => bnd hi fun u => lf (o d l u)
theorem de_slc {e : Expr} {r : V → Option Int → Option Int → Hp → VK → Prop} {o : D → Option Int → Option Int → Option D} {f : Mo D} {lo hi : Mo (Option Int)} (hs : SndS X.K Ts r o) (h : PE X e (tSl r (tE X.K Ts E f) (tO X.K Ts E lo) (tO X.K Ts E hi))) : DE X Ts E e (slc o f lo hi) := by
  refine pe_mono h ?_
  rintro σ H Q ⟨A, S, ρ, r, ρ', rel, hf, he, k⟩
  refine tE_step rel hf he fun d1 ρ1 v1 H1 p1 dr1 h1 => ?_
  refine tO_step p1.rel h1 (he.step p1) fun l ρ2 H2 p2 h2 => ?_
  refine tO_step p2.rel h2 (he.step (p1.trans p2)) fun u ρ3 H3 p3 h3 => ?_
  obtain ⟨d, e1, rfl, rfl⟩ := lf_ok h3
  refine hs v1 l u d1 d H3 S Q p3.rel.dom (dr1.sub ((p2.trans p3).sub p1.rel)) e1 fun v H' g dr => ?_
  exact k d rfl v H' (((p1.trans p2).trans p3).trans (.grow p3.rel g)) dr
end
end DL
set_option Elab.async false
set_option linter.all false
set_option maxRecDepth 100000
set_option maxHeartbeats 2000000
namespace DL
open PySem PySem.Spec PyProof.Rows L2 GL
inductive Fl where
  | nx | bk | ct
  | rt (d : D)
  | ex (x : XV)
abbrev Stm := Ev → Option (Fl × Ev)
def ex1 {α : Type} (f : Mo α) (g : α → Stm) : Stm := fun ρ => match f ρ with
  | none => none
  | some (.error x, ρ1) => some (.ex x, ρ1)
  | some (.ok a, ρ1) => g a ρ1
theorem ex1_ok {α : Type} {f : Mo α} {g : α → Stm} {ρ ρ1 : Ev} {a : α} (h : f ρ = some (.ok a, ρ1)) : ex1 f g ρ = g a ρ1 := by
  unfold ex1
  rw [h]
theorem ex1_cases {α : Type} {f : Mo α} {g : α → Stm} {ρ ρ' : Ev} {fl : Fl} (h : ex1 f g ρ = some (fl, ρ')) : (∃ x, f ρ = some (.error x, ρ') ∧ fl = .ex x) ∨ ∃ a ρ1, f ρ = some (.ok a, ρ1) ∧ g a ρ1 = some (fl, ρ') := by
  unfold ex1 at h
  split at h
  · cases h
  · rename_i x ρ1 e
    cases h
    exact .inl ⟨x, e, rfl⟩
  · rename_i a ρ1 e
    exact .inr ⟨a, ρ1, e, h⟩
section
variable (K : PySem.W.Frag) (Ts : Tbs) (E : EK)
def endsAt (Dd : Ends) (S' : List Addr) (σ' : L2.St) (H' : Hp) : Fl → Prop
  | .nx => Dd.nx σ' H'
  | .bk => Dd.bk σ' H'
  | .ct => Dd.ct σ' H'
  | .rt d => ∀ v, DR K (hide S' H') v d → Dd.rt v H'
  | .ex x => E x σ' H'
def Done (A : Act) (S : List Addr) (H : Hp) (Dd : Ends) (fl : Fl) (ρ' : Ev) : Prop := ∀ S' σ' H', Rel K Ts A S' ρ' σ' H' → Sub (hide S H) (hide S' H') → endsAt K E Dd S' σ' H' fl
def tS (f : Stm) : TS := fun Dd σ H => ∃ (A : Act) (S : List Addr) (ρ : Ev) (fl : Fl) (ρ' : Ev), Rel K Ts A S ρ σ H ∧ f ρ = some (fl, ρ') ∧ Done K Ts E A S H Dd fl ρ'
end
section
variable {K : PySem.W.Frag} {Ts : Tbs} {E : EK} {A : Act} {S S1 : List Addr} {σ : L2.St} {ρ ρ' ρ1 : Ev} {H H1 : Hp} {fl : Fl} {Dd : Ends}
theorem Done.step (h : Done K Ts E A S H Dd fl ρ') (s : Sub (hide S H) (hide S1 H1)) : Done K Ts E A S1 H1 Dd fl ρ' := fun S' σ' H' r q => h S' σ' H' r (s.trans q)
theorem sE_step {f : Mo D} {g : D → Stm} {Q : VK} (rel : Rel K Ts A S ρ σ H) (h : ex1 f g ρ = some (fl, ρ')) (he : Done K Ts E A S H Dd fl ρ')
    (k : ∀ d ρ1 v H1, Post K Ts A S σ ρ H ρ1 H1 → DR K (hide S H1) v d → g d ρ1 = some (fl, ρ') → Q v H1) : tE K Ts E f σ H Q := by
  rcases ex1_cases h with ⟨x, e, rfl⟩ | ⟨a, ρ1, e, h1⟩
  · exact ⟨A, S, ρ, .error x, ρ', rel, e, (fun y hy H' p => by cases hy; exact he S σ H' p.rel (p.sub rel)), (fun d hd => by cases hd)⟩
  · exact ⟨A, S, ρ, .ok a, ρ1, rel, e, (fun y hy => by cases hy), (fun d' hd v H1 p dr => by cases hd; exact k _ ρ1 v H1 p dr h1)⟩
theorem sT_step {f : Mo Bool} {g : Bool → Stm} {Q : Bool → Hp → Prop} (rel : Rel K Ts A S ρ σ H) (h : ex1 f g ρ = some (fl, ρ')) (he : Done K Ts E A S H Dd fl ρ')
    (k : ∀ d ρ1 H1, Post K Ts A S σ ρ H ρ1 H1 → g d ρ1 = some (fl, ρ') → Q d H1) : tT K Ts E f σ H Q := by
  rcases ex1_cases h with ⟨x, e, rfl⟩ | ⟨a, ρ1, e, h1⟩
  · exact ⟨A, S, ρ, .error x, ρ', rel, e, (fun y hy H' p => by cases hy; exact he S σ H' p.rel (p.sub rel)), (fun d hd => by cases hd)⟩
  · exact ⟨A, S, ρ, .ok a, ρ1, rel, e, (fun y hy => by cases hy), (fun d' hd H1 p => by cases hd; exact k _ ρ1 H1 p h1)⟩
theorem sA_step {f : Mo (List D)} {g : List D → Stm} {Q : List V → Hp → Prop} (rel : Rel K Ts A S ρ σ H) (h : ex1 f g ρ = some (fl, ρ')) (he : Done K Ts E A S H Dd fl ρ')
    (k : ∀ d ρ1 v H1, Post K Ts A S σ ρ H ρ1 H1 → DRs K (hide S H1) v d → g d ρ1 = some (fl, ρ') → Q v H1) : tA K Ts E f σ H Q := by
  rcases ex1_cases h with ⟨x, e, rfl⟩ | ⟨a, ρ1, e, h1⟩
  · exact ⟨A, S, ρ, .error x, ρ', rel, e, (fun y hy H' p => by cases hy; exact he S σ H' p.rel (p.sub rel)), (fun d hd => by cases hd)⟩
  · exact ⟨A, S, ρ, .ok a, ρ1, rel, e, (fun y hy => by cases hy), (fun d' hd v H1 p dr => by cases hd; exact k _ ρ1 v H1 p dr h1)⟩
theorem Rel.setDa {i : Nat} {v : V} {d : D} (r : Rel K Ts A S ρ σ H) (dr : DR K (hide S H) v d) : Rel K Ts A S (ρ.set i (.da d)) (σ.set i (some v)) H := by
  refine ⟨?_, fun j x e => ?_, fun j l c e => ?_, fun j k l l' c c' a e1 e2 e3 e4 => ?_, r.dom, r.sub, r.ext, r.tab, r.dom0, r.op0, r.exd, fun j ks e => ?_, r.mu⟩
  · rw [List.length_set, List.length_set]
    exact r.len
  · rw [List.getElem?_set] at e
    by_cases hj : i = j
    · subst hj
      rw [if_pos rfl] at e
      split at e
      · rename_i hi
        cases e
        exact ⟨v, by rw [List.getElem?_set, if_pos rfl, if_pos (by rw [r.len]; exact hi)], dr⟩
      · cases e
    · rw [if_neg hj] at e
      obtain ⟨w, h1, h2⟩ := r.da j x e
      exact ⟨w, by rw [List.getElem?_set, if_neg hj]; exact h1, h2⟩
  · rw [List.getElem?_set] at e
    by_cases hj : i = j
    · subst hj
      rw [if_pos rfl] at e
      split at e
      · cases e
      · cases e
    · rw [if_neg hj] at e
      obtain ⟨a, h1, h2⟩ := r.ow j l c e
      exact ⟨a, by rw [List.getElem?_set, if_neg hj]; exact h1, h2⟩
  · have ne : ∀ {j : Nat} {l : Bool} {c : Oc}, (ρ.set i (.da d))[j]? = some (.ow l c) → i ≠ j ∧ ρ[j]? = some (.ow l c) := by
      intro j l c e
      rw [List.getElem?_set] at e
      by_cases hj : i = j
      · subst hj
        rw [if_pos rfl] at e
        split at e
        · cases e
        · cases e
      · rw [if_neg hj] at e
        exact ⟨hj, e⟩
    obtain ⟨n1, q1⟩ := ne e1
    obtain ⟨n2, q2⟩ := ne e2
    rw [List.getElem?_set, if_neg n1] at e3
    rw [List.getElem?_set, if_neg n2] at e4
    exact r.inj j k l l' c c' a q1 q2 e3 e4
  · rw [List.getElem?_set] at e
    by_cases hj : i = j
    · subst hj
      rw [if_pos rfl] at e
      split at e
      · cases e
      · cases e
    · rw [if_neg hj] at e
      obtain ⟨a, h1, h2⟩ := r.tk j ks e
      exact ⟨a, by rw [List.getElem?_set, if_neg hj]; exact h1, h2⟩
theorem Rel.setOw {i : Nat} {p : Addr} {c : Oc} (r : Rel K Ts A (p :: S) ρ σ H) (h0 : A.H0 p = none) (no : ¬ OwnA ρ σ p) (hc : OcAt K (hide (p :: S) H) H p c) : Rel K Ts A (p :: S) (ρ.set i (.ow true c)) (σ.set i (some (.ref p))) H := by
  have other : ∀ {j : Nat} {s : Sl}, i ≠ j → (ρ.set i (.ow true c))[j]? = some s → ρ[j]? = some s := fun hj e => by
    rw [List.getElem?_set, if_neg hj] at e
    exact e
  have same : ∀ {s : Sl}, (ρ.set i (.ow true c))[i]? = some s → i < ρ.length ∧ s = .ow true c := fun {s} e => by
    rw [List.getElem?_set, if_pos rfl] at e
    split at e
    · cases e
      exact ⟨by assumption, rfl⟩
    · cases e
  refine ⟨?_, fun j x e => ?_, fun j l c' e => ?_, fun j k l l' c1 c2 a e1 e2 e3 e4 => ?_, r.dom, r.sub, r.ext, r.tab, r.dom0, r.op0, r.exd, fun j ks e => ?_, r.mu⟩
  · rw [List.length_set, List.length_set]
    exact r.len
  · by_cases hj : i = j
    · subst hj
      obtain ⟨_, z⟩ := same e
      cases z
    · obtain ⟨w, h1, h2⟩ := r.da j x (other hj e)
      exact ⟨w, by rw [List.getElem?_set, if_neg hj]; exact h1, h2⟩
  · by_cases hj : i = j
    · subst hj
      obtain ⟨hi, z⟩ := same e
      cases z
      exact ⟨p, by rw [List.getElem?_set, if_pos rfl, if_pos (by rw [r.len]; exact hi)], List.mem_cons_self, hc, by rw [if_pos rfl]; exact h0⟩
    · obtain ⟨w, h1, h2⟩ := r.ow j l c' (other hj e)
      exact ⟨w, by rw [List.getElem?_set, if_neg hj]; exact h1, h2⟩
  · by_cases hj : i = j
    · by_cases hk : i = k
      · omega
      · subst hj
        obtain ⟨hi, _⟩ := same e1
        rw [List.getElem?_set, if_pos rfl, if_pos (by rw [r.len]; exact hi)] at e3
        cases e3
        rw [List.getElem?_set, if_neg hk] at e4
        exact absurd ⟨k, l', c2, other hk e2, e4⟩ no
    · by_cases hk : i = k
      · subst hk
        obtain ⟨hi, _⟩ := same e2
        rw [List.getElem?_set, if_pos rfl, if_pos (by rw [r.len]; exact hi)] at e4
        cases e4
        rw [List.getElem?_set, if_neg hj] at e3
        exact absurd ⟨j, l, c1, other hj e1, e3⟩ no
      · rw [List.getElem?_set, if_neg hj] at e3
        rw [List.getElem?_set, if_neg hk] at e4
        exact r.inj j k l l' c1 c2 a (other hj e1) (other hk e2) e3 e4
  · by_cases hj : i = j
    · subst hj
      obtain ⟨_, z⟩ := same e
      cases z
    · obtain ⟨w, h1, h2⟩ := r.tk j ks (other hj e)
      exact ⟨w, by rw [List.getElem?_set, if_neg hj]; exact h1, h2⟩
theorem hide_upd {a : Addr} {o : HO} (h : a ∈ S) : hide S (upd H a o) = hide S H := by
  funext b
  unfold hide
  split
  · rfl
  · rename_i hb
    exact upd_ne (fun z => hb (by rw [z]; exact h))
theorem Rel.put {i : Nat} {l : Bool} {c c' : Oc} {a : Addr} {o : HO} (r : Rel K Ts A S ρ σ H) (e1 : ρ[i]? = some (.ow l c)) (e2 : σ[i]? = some (some (.ref a))) (ho : MuO o) (hn : ∀ q, H a ≠ some (.tbl q)) (hc : OcAt K (hide S H) (upd H a o) a c') :
    Post K Ts A S σ ρ H (ρ.set i (.ow l c')) (upd H a o) := by
  obtain ⟨a', h1, h2, h3, h4⟩ := r.ow i l c e1
  rw [e2] at h1
  cases h1
  have hi := (List.getElem?_eq_some_iff.mp e1).1
  have hs : hide S (upd H a o) = hide S H := hide_upd h2
  have kind : ∀ {j : Nat} {l' : Bool} {c1 : Oc}, (ρ.set i (.ow l c'))[j]? = some (.ow l' c1) → ∃ c0, ρ[j]? = some (.ow l' c0) ∧ (i ≠ j → c1 = c0) ∧ (i = j → c1 = c' ∧ l' = l) := fun {j l' c1} e => by
    rw [List.getElem?_set] at e
    by_cases hj : i = j
    · subst hj
      rw [if_pos rfl, if_pos hi] at e
      cases e
      exact ⟨c, e1, fun z => absurd rfl z, fun _ => ⟨rfl, rfl⟩⟩
    · rw [if_neg hj] at e
      exact ⟨c1, e, fun _ => rfl, fun z => absurd z hj⟩
  refine ⟨⟨?_, fun j x e => ?_, fun j l' c1 e => ?_, fun j k l l' c1 c2 b q1 q2 q3 q4 => ?_, fun b hb => ?_, r.sub, fun b u hb q n => ?_, r.tab.upd (fun u e => by obtain ⟨o0, e0, m0⟩ := r.mu a h2; rw [e0] at e; cases e; exact m0.ntc), r.dom0, r.op0, fun b hb => ?_, fun j ks e => ?_, fun b hb => (r.mu b hb).upd ho⟩, same_set e1, fun b u q n no => ?_⟩
  · rw [List.length_set]
    exact r.len
  · rw [hs]
    rw [List.getElem?_set] at e
    by_cases hj : i = j
    · subst hj
      rw [if_pos rfl, if_pos hi] at e
      cases e
    · rw [if_neg hj] at e
      exact r.da j x e
  · obtain ⟨c0, q1, q2, q3⟩ := kind e
    rw [hs]
    by_cases hj : i = j
    · obtain ⟨rfl, rfl⟩ := q3 hj
      subst hj
      exact ⟨a, e2, h2, hc, h4⟩
    · obtain rfl := q2 hj
      obtain ⟨b, g1, g2, g3, g4⟩ := r.ow j l' _ q1
      have hb : b ≠ a := fun z => hj (r.inj i j l l' c _ a e1 q1 e2 (by rw [← z]; exact g1))
      exact ⟨b, g1, g2, g3.sub (.refl _) (fun o' e' _ => by rw [upd_ne hb]; exact e'), g4⟩
  · obtain ⟨c01, z1, _⟩ := kind q1
    obtain ⟨c02, z2, _⟩ := kind q2
    exact r.inj j k _ _ _ _ b z1 z2 q3 q4
  · by_cases hb2 : b = a
    · rw [hb2, upd_same]
      exact fun z => by cases z
    · rw [upd_ne hb2]
      exact r.dom b hb
  · have hb2 : b ≠ a := fun z => by
      rw [z] at hb q
      cases l with
      | true =>
        rw [if_pos rfl] at h4
        rw [h4] at q
        cases q
      | false =>
        rw [if_neg Bool.false_ne_true] at h4
        exact hb h4
    rw [upd_ne hb2]
    exact r.ext b u hb q n
  · by_cases hb2 : b = a
    · rw [hb2, upd_same]
      exact fun z => by cases z
    · rw [upd_ne hb2]
      exact r.exd b hb
  · rw [hs]
    rw [List.getElem?_set] at e
    by_cases hj : i = j
    · subst hj
      rw [if_pos rfl, if_pos hi] at e
      cases e
    · rw [if_neg hj] at e
      exact r.tk j ks e
  · have hb2 : b ≠ a := fun z => no ⟨i, l, c, e1, by rw [z]; exact e2⟩
    rw [upd_ne hb2]
    exact q
theorem Rel.freeze {i : Nat} {ds : List D} (r : Rel K Ts A S ρ σ H) (e1 : ρ[i]? = some (.ow true (.lst ds))) : ∃ S', Rel K Ts A S' (ρ.set i (.da (.list ds))) σ H ∧ Sub (hide S H) (hide S' H) := by
  obtain ⟨a, h1, h2, ⟨xs, h3, h3'⟩, h4⟩ := r.ow i true _ e1
  rw [if_pos rfl] at h4
  have hi := (List.getElem?_eq_some_iff.mp e1).1
  have sub : Sub (hide S H) (hide (S.filter (· ≠ a)) H) := hide_mono fun b hb => (List.mem_filter.mp hb).1
  have other : ∀ {j : Nat} {s : Sl}, i ≠ j → (ρ.set i (.da (.list ds)))[j]? = some s → ρ[j]? = some s := fun hj e => by
    rw [List.getElem?_set, if_neg hj] at e
    exact e
  have own : ∀ {j : Nat} {l : Bool} {c : Oc}, (ρ.set i (.da (.list ds)))[j]? = some (.ow l c) → i ≠ j ∧ ρ[j]? = some (.ow l c) := fun {j l c} e => by
    by_cases hj : i = j
    · subst hj
      rw [List.getElem?_set, if_pos rfl, if_pos hi] at e
      cases e
    · exact ⟨hj, other hj e⟩
  refine ⟨S.filter (· ≠ a), ⟨by rw [List.length_set]; exact r.len, fun j x e => ?_, fun j l c e => ?_, fun j k l l' c c' b q1 q2 q3 q4 => ?_, fun b hb => r.dom b (List.mem_filter.mp hb).1, fun b hb => ?_, r.ext, r.tab, r.dom0, r.op0, r.exd, fun j ks e => ?_, fun b hb => r.mu b (List.mem_filter.mp hb).1⟩, sub⟩
  · by_cases hj : i = j
    · subst hj
      rw [List.getElem?_set, if_pos rfl, if_pos hi] at e
      cases e
      exact ⟨.ref a, h1, .lst (.inl (.inl (hide_of (fun z => of_decide_eq_true (List.mem_filter.mp z).2 rfl) h3))) (h3'.sub sub)⟩
    · obtain ⟨v, g1, g2⟩ := r.da j x (other hj e)
      exact ⟨v, g1, g2.sub sub⟩
  · obtain ⟨hj, e⟩ := own e
    obtain ⟨b, g1, g2, g3, g4⟩ := r.ow j l c e
    refine ⟨b, g1, List.mem_filter.mpr ⟨g2, decide_eq_true fun z => ?_⟩, g3.sub sub (fun o e _ => e), g4⟩
    exact hj (r.inj i j true l _ c a e1 e h1 (by rw [← z]; exact g1))
  · exact r.inj j k l l' c c' b (own q1).2 (own q2).2 q3 q4
  · refine List.mem_filter.mpr ⟨r.sub b hb, decide_eq_true fun z => ?_⟩
    exact r.dom0 b hb (by rw [z]; exact h4)
  · by_cases hj : i = j
    · subst hj
      rw [List.getElem?_set, if_pos rfl, if_pos hi] at e
      cases e
    · obtain ⟨v, g1, g2⟩ := r.tk j ks (other hj e)
      exact ⟨v, g1, sub _ _ g2 (fun _ z => by cases z)⟩
theorem Rel.unhide {p : Addr} (r : Rel K Ts A (p :: S) ρ σ H) (no : ¬ OwnA ρ σ p) (h0 : A.H0 p = none) (hp : p ∉ S) : Rel K Ts A S ρ σ H := by
  have sub : Sub (hide (p :: S) H) (hide S H) := hide_mono fun b hb => List.mem_cons_of_mem _ hb
  refine ⟨r.len, fun j x e => ?_, fun j l c e => ?_, r.inj, fun b hb => r.dom b (List.mem_cons_of_mem _ hb), fun b hb => ?_, r.ext, r.tab, r.dom0, r.op0, r.exd, fun j ks e => ?_, fun b hb => r.mu b (List.mem_cons_of_mem _ hb)⟩
  · obtain ⟨v, g1, g2⟩ := r.da j x e
    exact ⟨v, g1, g2.sub sub⟩
  · obtain ⟨b, g1, g2, g3, g4⟩ := r.ow j l c e
    refine ⟨b, g1, ?_, g3.sub sub (fun o e _ => e), g4⟩
    rcases List.mem_cons.mp g2 with z | z
    · exact absurd ⟨j, l, c, e, by rw [← z]; exact g1⟩ no
    · exact z
  · rcases List.mem_cons.mp (r.sub b hb) with z | z
    · exact absurd (by rw [z]; exact h0) (r.dom0 b hb)
    · exact z
  · obtain ⟨v, g1, g2⟩ := r.tk j ks e
    exact ⟨v, g1, sub _ _ g2 (fun _ z => by cases z)⟩
theorem Rel.hideNew {p : Addr} {o : HO} (r : Rel K Ts A S ρ σ H) (hp : H p = none) (ho : MuO o) : Rel K Ts A (p :: S) ρ σ (upd H p o) ∧ A.H0 p = none ∧ ¬ OwnA ρ σ p ∧ p ∉ S ∧ Sub (hide S H) (hide (p :: S) (upd H p o)) := by
  have np : p ∉ S := fun z => r.dom p z hp
  have h0 : A.H0 p = none := by
    cases e : A.H0 p with
    | none => rfl
    | some u => exact absurd hp (r.exd p (by rw [e]; exact fun z => by cases z))
  have no : ¬ OwnA ρ σ p := fun z => np (r.own_in z)
  have g : Grow Ts H (upd H p o) := .new hp
  have sub : Sub (hide S H) (hide (p :: S) (upd H p o)) := fun b u e n => by
    obtain ⟨e1, e2⟩ := of_hide e
    have hb : b ≠ p := ne_of_none e2 hp
    refine hide_of (fun z => ?_) (by rw [upd_ne hb]; exact e2)
    rcases List.mem_cons.mp z with z | z
    · exact hb z
    · exact e1 z
  have r1 := r.grow g
  refine ⟨⟨r1.len, fun j x e => ?_, fun j l c e => ?_, r1.inj, fun b hb => ?_, fun b hb => List.mem_cons_of_mem _ (r1.sub b hb), r1.ext, r1.tab, r1.dom0, r1.op0, r1.exd, fun j ks e => ?_, fun b hb => ?_⟩, h0, no, np, sub⟩
  · obtain ⟨v, g1, g2⟩ := r.da j x e
    exact ⟨v, g1, g2.sub sub⟩
  · obtain ⟨b, g1, g2, g3, g4⟩ := r.ow j l c e
    exact ⟨b, g1, List.mem_cons_of_mem _ g2, g3.sub sub (fun u e _ => by rw [upd_ne (fun z => np (by rw [← z]; exact g2))]; exact e), g4⟩
  · rcases List.mem_cons.mp hb with z | z
    · rw [z, upd_same]
      exact fun z => by cases z
    · exact r1.dom b z
  · obtain ⟨v, g1, g2⟩ := r.tk j ks e
    exact ⟨v, g1, sub _ _ g2 (fun _ z => by cases z)⟩
  · rcases List.mem_cons.mp hb with z | z
    · exact ⟨o, by rw [z, upd_same], ho⟩
    · exact (r.mu b z).upd ho
end
end DL
set_option Elab.async false
set_option linter.all false
set_option maxRecDepth 100000
set_option maxHeartbeats 2000000
namespace DL
open PySem PySem.Spec PyProof.Rows L2 GL
section
variable (K : PySem.W.Frag) (Ts : Tbs) (E : EK)
def tEo (f : Mo (List D)) : TE := fun σ H Q => ∃ (A : Act) (S : List Addr) (ρ : Ev) (r : Except XV (List D)) (ρ' : Ev), Rel K Ts A S ρ σ H ∧ f ρ = some (r, ρ') ∧ Err K Ts E A S σ ρ H r ρ' ∧
  ∀ ds, r = .ok ds → ∀ p xs H', Rel K Ts A (p :: S) ρ' σ H' → Same ρ ρ' → Fr ρ σ H H' → A.H0 p = none → ¬ OwnA ρ' σ p → p ∉ S → H' p = some (.lst xs) → DRs K (hide (p :: S) H') xs ds → Sub (hide S H) (hide (p :: S) H') → Q (.ref p) H'
end
section
variable {X : Cx} {Ts : Tbs} {E : EK}
abbrev DEo (X : Cx) (Ts : Tbs) (E : EK) (e : Expr) (f : Mo (List D)) : Prop := PE X e (tEo X.K Ts E f)
abbrev DS (X : Cx) (Ts : Tbs) (E : EK) (st : Stmt) (f : Stm) : Prop := PS X st (tS X.K Ts E f)
abbrev DSs (X : Cx) (Ts : Tbs) (E : EK) (sts : List Stmt) (f : Stm) : Prop := PSs X sts (tS X.K Ts E f)
theorem ps_mono {e : Stmt} {t t' : TS} (h : PS X e t) (m : ∀ Dd σ H, t' Dd σ H → t Dd σ H) : PS X e t' := ⟨fun pins s σ H Dd I q => h.run pins s σ H Dd I (m Dd σ H q)⟩
theorem pss_mono {e : List Stmt} {t t' : TS} (h : PSs X e t) (m : ∀ Dd σ H, t' Dd σ H → t Dd σ H) : PSs X e t' := ⟨fun pins s σ H Dd I q => h.run pins s σ H Dd I (m Dd σ H q)⟩
def asL (f : Mo (List D)) : Mo D := bnd f fun ds => rt (.list ds)
theorem t_own {f : Mo (List D)} {σ : L2.St} {H : Hp} {Q : VK} (h : tE X.K Ts E (asL f) σ H Q) : tEo X.K Ts E f σ H Q := by
  obtain ⟨A, S, ρ, r, ρ', rel, hf, he, k⟩ := h
  rcases bnd_cases hf with ⟨x, e, rfl⟩ | ⟨ds, ρ1, e, h1⟩
  · exact ⟨A, S, ρ, .error x, ρ', rel, e, (fun y hy => by cases hy; exact he x rfl), (fun d hd => by cases hd)⟩
  · obtain ⟨rfl, rfl⟩ := rt_ok h1
    refine ⟨A, S, ρ, .ok ds, _, rel, e, (fun y hy => by cases hy), fun d' hd p xs H' r1 sm fr h0 no np hp dr _ => ?_⟩
    cases hd
    have sub : Sub (hide (p :: S) H') (hide S H') := hide_mono fun b hb => List.mem_cons_of_mem _ hb
    exact k _ rfl _ H' ⟨r1.unhide no h0 np, sm, fr⟩ (.lst (.inl (.inl (hide_of np hp))) (dr.sub sub))
theorem de_own {e : Expr} {f : Mo (List D)} (h : DEo X Ts E e f) : DE X Ts E e (asL f) := pe_mono h fun _ _ _ q => t_own q
def NewL (K : PySem.W.Frag) (Ts : Tbs) (S : List Addr) (H : Hp) (ds : List D) (Q : VK) : Prop := ∀ p xs H1, Grow Ts H H1 → H1 p = none → DRs K (hide S H1) xs ds → Q (.ref p) (upd H1 p (.lst xs))
theorem newL_of {A : Act} {S : List Addr} {σ : L2.St} {ρ ρ1 : Ev} {H H1 : Hp} {ds : List D} {Q : VK} (rel : Rel X.K Ts A S ρ σ H) (p1 : Post X.K Ts A S σ ρ H ρ1 H1)
    (k : ∀ p xs H', Rel X.K Ts A (p :: S) ρ1 σ H' → Same ρ ρ1 → Fr ρ σ H H' → A.H0 p = none → ¬ OwnA ρ1 σ p → p ∉ S → H' p = some (.lst xs) → DRs X.K (hide (p :: S) H') xs ds → Sub (hide S H) (hide (p :: S) H') → Q (.ref p) H') : NewL X.K Ts S H1 ds Q := by
  intro p xs H2 g np dr
  have p2 := Post.grow p1.rel g
  have p12 := p1.trans p2
  obtain ⟨r3, h0, no, npS, sub⟩ := p2.rel.hideNew (o := .lst xs) np True.intro
  refine k p xs _ r3 p1.same (fun b o e n no' => ?_) h0 no npS upd_same (dr.sub sub) ((p12.sub rel).trans sub)
  have e2 := p12.fr b o e n no'
  rw [upd_ne (ne_of_none e2 np)]
  exact e2
def SndO2 (K : PySem.W.Frag) (Ts : Tbs) (r : R2) (o : D → D → Option (List D)) : Prop := ∀ (x y : V) (d1 d2 : D) (ds : List D) (H : Hp) (S : List Addr) (Q : VK), (∀ a ∈ S, H a ≠ none) → DR K (hide S H) x d1 → DR K (hide S H) y d2 → o d1 d2 = some ds → NewL K Ts S H ds Q → r x y H Q
def SndOA (K : PySem.W.Frag) (Ts : Tbs) (r : List V → Hp → VK → Prop) (o : List D → Option (List D)) : Prop := ∀ (xs : List V) (es ds : List D) (H : Hp) (S : List Addr) (Q : VK), (∀ a ∈ S, H a ≠ none) → DRs K (hide S H) xs es → o es = some ds → NewL K Ts S H ds Q → r xs H Q
def SndOS (K : PySem.W.Frag) (Ts : Tbs) (r : V → Option Int → Option Int → Hp → VK → Prop) (o : D → Option Int → Option Int → Option (List D)) : Prop := ∀ (x : V) (lo hi : Option Int) (d1 : D) (ds : List D) (H : Hp) (S : List Addr) (Q : VK), (∀ a ∈ S, H a ≠ none) → DR K (hide S H) x d1 → o d1 lo hi = some ds → NewL K Ts S H ds Q → r x lo hi H Q
def op2o (o : D → D → Option (List D)) (f g : Mo D) : Mo (List D) := bnd f fun x => bnd g fun y => lf (o x y)
def opAo (o : List D → Option (List D)) (fs : List (Mo D)) : Mo (List D) := bnd (args fs) fun ds => lf (o ds)
def slco (o : D → Option Int → Option Int → Option (List D)) (f : Mo D) (lo hi : Mo (Option Int)) : Mo (List D) := bnd f fun d => bnd lo fun l => bnd hi fun u => lf (o d l u)
theorem deo_opA {e : Expr} {r : List V → Hp → VK → Prop} {o : List D → Option (List D)} {fs : List (Mo D)} (hs : SndOA X.K Ts r o) (h : PE X e (tCB r (tA X.K Ts E (args fs)))) : DEo X Ts E e (opAo o fs) := by
  refine pe_mono h ?_
  rintro σ H Q ⟨A, S, ρ, r, ρ', rel, hf, he, k⟩
  refine tA_step rel hf he fun ds ρ1 vs H1 p1 dr e1 h1 => ?_
  obtain ⟨d, e2, rfl, rfl⟩ := lf_ok h1
  exact hs vs ds d H1 S Q p1.rel.dom dr e2 (newL_of rel p1 (k d rfl))
theorem deo_lst {es : List Expr} {pos : Pos} {fs : List (Mo D)} (h : DA X Ts E es (args fs)) (hl : fs.length ≤ 1000 := by decide) : DEo X Ts E (.List es pos) (args fs) := by
  refine pe_mono (pe_lst h) ?_
  rintro σ H Q ⟨A, S, ρ, r, ρ', rel, hf, he, k⟩
  refine ⟨A, S, ρ, r, ρ', rel, hf, he, fun ds hd vs H1 p1 dr => ?_⟩
  subst hd
  refine ⟨few (by rw [dr.length, args_len hf]; exact hl), fun p np => ?_⟩
  exact newL_of rel p1 (k ds rfl) p vs H1 (.refl _ _) np dr
def setS (i : Nat) (f : Mo D) : Stm := ex1 f fun d ρ => some (.nx, ρ.set i (.da d))
theorem ds_set {st : Stmt} {i : Nat} {f : Mo D} (h : PS X st (tAsg (tE X.K Ts E f) (gName i))) : DS X Ts E st (setS i f) := by
  refine ps_mono h ?_
  rintro Dd σ H ⟨A, S, ρ, fl, ρ', rel, hf, dn⟩
  refine sE_step rel hf dn fun d ρ1 v H1 p1 dr h1 => ?_
  cases h1
  exact dn S _ H1 (p1.rel.setDa dr) (p1.sub rel)
def setO (i : Nat) (f : Mo (List D)) : Stm := ex1 f fun ds ρ => some (.nx, ρ.set i (.ow true (.lst ds)))
theorem ds_setO {st : Stmt} {i : Nat} {f : Mo (List D)} (h : PS X st (tAsg (tEo X.K Ts E f) (gName i))) : DS X Ts E st (setO i f) := by
  refine ps_mono h ?_
  rintro Dd σ H ⟨A, S, ρ, fl, ρ', rel, hf, dn⟩
  rcases ex1_cases hf with ⟨x, e, rfl⟩ | ⟨ds, ρ1, e, h1⟩
  · exact ⟨A, S, ρ, .error x, ρ', rel, e, (fun y hy H' p => by cases hy; exact dn S σ H' p.rel (p.sub rel)), (fun d hd => by cases hd)⟩
  · cases h1
    refine ⟨A, S, ρ, .ok ds, ρ1, rel, e, (fun y hy => by cases hy), fun d' hd p xs H' r1 sm fr h0 no np hp dr sub => ?_⟩
    cases hd
    exact dn (p :: S) _ H' (r1.setOw h0 no ⟨xs, hp, dr⟩) sub
def retS (f : Mo D) : Stm := ex1 f fun d ρ => some (.rt d, ρ)
theorem ds_ret {st : Stmt} {f : Mo D} (h : PS X st (tRet (tE X.K Ts E f))) : DS X Ts E st (retS f) := by
  refine ps_mono h ?_
  rintro Dd σ H ⟨A, S, ρ, fl, ρ', rel, hf, dn⟩
  refine sE_step rel hf dn fun d ρ1 v H1 p1 dr h1 => ?_
  cases h1
  exact dn S σ H1 p1.rel (p1.sub rel) v dr
def dropS (f : Mo D) : Stm := ex1 f fun _ ρ => some (.nx, ρ)
theorem ds_expr {st : Stmt} {f : Mo D} (h : PS X st (tDrop (tE X.K Ts E f))) : DS X Ts E st (dropS f) := by
  refine ps_mono h ?_
  rintro Dd σ H ⟨A, S, ρ, fl, ρ', rel, hf, dn⟩
  refine sE_step rel hf dn fun d ρ1 v H1 p1 dr h1 => ?_
  cases h1
  exact dn S σ H1 p1.rel (p1.sub rel)
def ifS (c : Mo Bool) (f g : Stm) : Stm := ex1 c fun b => if b = true then f else g
theorem ds_if {st : Stmt} {c : Mo Bool} {f g : Stm} (h : PS X st (tIfS (tT X.K Ts E c) (tS X.K Ts E f) (tS X.K Ts E g))) : DS X Ts E st (ifS c f g) := by
  refine ps_mono h ?_
  rintro Dd σ H ⟨A, S, ρ, fl, ρ', rel, hf, dn⟩
  refine sT_step rel hf dn fun b ρ1 H1 p1 h1 => ?_
  cases b with
  | true => exact ⟨A, S, ρ1, fl, ρ', p1.rel, h1, dn.step (p1.sub rel)⟩
  | false => exact ⟨A, S, ρ1, fl, ρ', p1.rel, h1, dn.step (p1.sub rel)⟩
def nilS : Stm := fun ρ => some (.nx, ρ)
theorem dss_nil : DSs X Ts E [] nilS := by
  refine pss_mono pss_nil ?_
  rintro Dd σ H ⟨A, S, ρ, fl, ρ', rel, hf, dn⟩
  cases hf
  exact dn S σ H rel (.refl _)
def seqS (f g : Stm) : Stm := fun ρ => match f ρ with
  | none => none
  | some (.nx, ρ1) => g ρ1
  | some (fl, ρ1) => some (fl, ρ1)
theorem dss_cons {st : Stmt} {rest : List Stmt} {f g : Stm} (h1 : DS X Ts E st f) (h2 : DSs X Ts E rest g) : DSs X Ts E (st :: rest) (seqS f g) := by
  refine pss_mono (pss_cons h1 h2) ?_
  rintro Dd σ H ⟨A, S, ρ, fl, ρ', rel, hf, dn⟩
  unfold seqS at hf
  cases e : f ρ with
  | none => rw [e] at hf; cases hf
  | some z =>
    obtain ⟨fl1, ρ1⟩ := z
    rw [e] at hf
    refine ⟨A, S, ρ, fl1, ρ1, rel, e, fun S' σ' H' r' sub => ?_⟩
    cases fl1 with
    | nx => exact ⟨A, S', ρ1, fl, ρ', r', hf, dn.step sub⟩
    | bk => cases hf; exact dn S' σ' H' r' sub
    | ct => cases hf; exact dn S' σ' H' r' sub
    | rt d => cases hf; exact dn S' σ' H' r' sub
    | ex x => cases hf; exact dn S' σ' H' r' sub
theorem dss_one {st : Stmt} {f : Stm} (h1 : DS X Ts E st f) : DSs X Ts E [st] f := pss_one h1
def frz (i : Nat) (g : Stm) : Stm := fun ρ => match ρ[i]? with
  | some (.ow true (.lst ds)) => g (ρ.set i (.da (.list ds)))
  | _ => none
theorem dss_frz {sts : List Stmt} {g : Stm} (i : Nat) (h : DSs X Ts E sts g) : DSs X Ts E sts (frz i g) := by
  refine pss_mono h ?_
  rintro Dd σ H ⟨A, S, ρ, fl, ρ', rel, hf, dn⟩
  unfold frz at hf
  split at hf
  · rename_i ds e
    obtain ⟨S', r', sub⟩ := rel.freeze e
    exact ⟨A, S', _, fl, ρ', r', hf, dn.step sub⟩
  · cases hf
def noS : Stm := fun _ => none
abbrev Tg := D → Ev → Option Ev
def Off (is : List Nat) (σ σ' : L2.St) : Prop := σ'.length = σ.length ∧ ∀ j, j ∉ is → σ'[j]? = σ[j]?
structure Tgd (is : List Nat) (ρ : Ev) (σ : L2.St) (ρ' : Ev) (σ' : L2.St) : Prop where
  off : Off is σ σ'
  len : ρ'.length = ρ.length
  offE : ∀ j, j ∉ is → ρ'[j]? = ρ[j]?
  own : ∀ b, OwnA ρ' σ' b → OwnA ρ σ b
theorem Tgd.trans {is js : List Nat} {ρ ρ1 ρ2 : Ev} {σ σ1 σ2 : L2.St} (a : Tgd is ρ σ ρ1 σ1) (b : Tgd js ρ1 σ1 ρ2 σ2) : Tgd (is ++ js) ρ σ ρ2 σ2 :=
  ⟨⟨b.off.1.trans a.off.1, fun j hj => by rw [b.off.2 j (fun z => hj (List.mem_append_right _ z)), a.off.2 j (fun z => hj (List.mem_append_left _ z))]⟩, b.len.trans a.len,
    fun j hj => by rw [b.offE j (fun z => hj (List.mem_append_right _ z)), a.offE j (fun z => hj (List.mem_append_left _ z))], fun c h => a.own c (b.own c h)⟩
def tG (K : PySem.W.Frag) (Ts : Tbs) (is : List Nat) (tg : Tg) : TG := fun v σ H Q => ∃ (A : Act) (S : List Addr) (ρ : Ev) (d : D) (ρ' : Ev), Rel K Ts A S ρ σ H ∧ DR K (hide S H) v d ∧ tg d ρ = some ρ' ∧ ∀ σ', Rel K Ts A S ρ' σ' H → Tgd is ρ σ ρ' σ' → Q σ' H
abbrev DG (X : Cx) (Ts : Tbs) (e : Expr) (is : List Nat) (tg : Tg) : Prop := PG X e (tG X.K Ts is tg)
theorem pg_mono {e : Expr} {t t' : TG} (h : PG X e t) (m : ∀ v σ H Q, t' v σ H Q → t v σ H Q) : PG X e t' := ⟨fun pins s σ H v u Q I r q => h.run pins s σ H v u Q I r (m v σ H Q q)⟩
def tgN (i : Nat) : Tg := fun d ρ => some (ρ.set i (.da d))
theorem dg_name {e : Expr} {i : Nat} (h : PG X e (gName i)) : DG X Ts e [i] (tgN i) := by
  refine pg_mono h ?_
  rintro v σ H Q ⟨A, S, ρ, d, ρ', rel, dr, e1, k⟩
  cases e1
  refine k _ (rel.setDa dr) ⟨⟨List.length_set, fun j hj => ?_⟩, List.length_set, fun j hj => ?_, ?_⟩
  · rw [List.getElem?_set, if_neg (fun z => hj (List.mem_singleton.mpr z.symm))]
  · rw [List.getElem?_set, if_neg (fun z => hj (List.mem_singleton.mpr z.symm))]
  · rintro b ⟨j, l, c, e1, e2⟩
    by_cases hj : i = j
    · subst hj
      rw [List.getElem?_set, if_pos rfl] at e1
      split at e1
      · cases e1
      · cases e1
    · rw [List.getElem?_set, if_neg hj] at e1 e2
      exact ⟨j, l, c, e1, e2⟩
def tgs : List Tg → List D → Ev → Option Ev
  | [], [], ρ => some ρ
  | t :: ts, d :: ds, ρ => (t d ρ).bind (tgs ts ds)
  | _, _, _ => none
def tGs (K : PySem.W.Frag) (Ts : Tbs) (is : List Nat) (ts : List Tg) : TGs := fun vs σ H Q => ∃ (A : Act) (S : List Addr) (ρ : Ev) (ds : List D) (ρ' : Ev), Rel K Ts A S ρ σ H ∧ DRs K (hide S H) vs ds ∧ tgs ts ds ρ = some ρ' ∧ ∀ σ', Rel K Ts A S ρ' σ' H → Tgd is ρ σ ρ' σ' → Q σ' H
abbrev DGs (X : Cx) (Ts : Tbs) (es : List Expr) (is : List Nat) (ts : List Tg) : Prop := PGs X es (tGs X.K Ts is ts)
theorem pgs_mono {e : List Expr} {t t' : TGs} (h : PGs X e t) (m : ∀ v σ H Q, t' v σ H Q → t v σ H Q) : PGs X e t' := ⟨fun pins s σ H v u Q I r q => h.run pins s σ H v u Q I r (m v σ H Q q)⟩
theorem dgs_nil : DGs X Ts [] [] [] := by
  refine pgs_mono pgs_nil ?_
  rintro v σ H Q ⟨A, S, ρ, ds, ρ', rel, dr, e1, k⟩
  cases dr with
  | nil =>
    cases e1
    exact ⟨rfl, k σ rel ⟨⟨rfl, fun _ _ => rfl⟩, rfl, fun _ _ => rfl, fun _ h => h⟩⟩
  | cons a b => cases e1
theorem dgs_cons {e : Expr} {es : List Expr} {is js : List Nat} {t : Tg} {ts : List Tg} (h1 : DG X Ts e is t) (h2 : DGs X Ts es js ts) (hs : (assignEach (e :: es) X.env).map (·.2) = assign e X.env :: (assignEach es X.env).map (·.2) := by rfl) : DGs X Ts (e :: es) (is ++ js) (t :: ts) := by
  refine pgs_mono (pgs_cons h1 h2 hs) ?_
  rintro v σ H Q ⟨A, S, ρ, ds, ρ', rel, dr, e1, k⟩
  cases dr with
  | nil => cases e1
  | @cons v vs d ds a b =>
    have e1 : (t d ρ).bind (tgs ts ds) = some ρ' := e1
    cases e2 : t d ρ with
    | none => rw [e2] at e1; cases e1
    | some ρ1 =>
      rw [e2] at e1
      refine ⟨v, vs, rfl, A, S, ρ, d, ρ1, rel, a, e2, fun σ1 r1 o1 => ⟨A, S, ρ1, ds, ρ', r1, b, e1, fun σ2 r2 o2 => k σ2 r2 (o1.trans o2)⟩⟩
def tgT (ts : List Tg) : Tg := fun d ρ => match d with
  | .tuple ds => tgs ts ds ρ
  | _ => none
theorem tgs_len : ∀ {ts : List Tg} {ds : List D} {ρ ρ' : Ev}, tgs ts ds ρ = some ρ' → ds.length = ts.length
  | [], [], _, _, _ => rfl
  | [], _ :: _, _, _, h => by cases h
  | _ :: _, [], _, _, h => by cases h
  | t :: ts, d :: ds, ρ, ρ', h => by
    have e1 : (t d ρ).bind (tgs ts ds) = some ρ' := h
    cases e2 : t d ρ with
    | none => rw [e2] at e1; cases e1
    | some ρ1 =>
      rw [e2] at e1
      rw [List.length_cons, List.length_cons, tgs_len e1]
theorem dg_tup {es : List Expr} {kk : Nat} {pos : Pos} {is : List Nat} {ts : List Tg} (hc : X.calm = true) (h : DGs X Ts es is ts) (hn : (assignEach es X.env).length = ts.length := by rfl) (hst : (assignEach es X.env).findIdx? (·.1) = none := by rfl) : DG X Ts (.Tuple es kk pos) is (tgT ts) := by
  refine pg_mono (pg_tup hc h hn hst) ?_
  rintro v σ H Q ⟨A, S, ρ, d, ρ', rel, dr, e1, k⟩
  cases dr with
  | @tup a xs ds sq dr =>
    exact ⟨a, xs, rfl, sqt_sub (hide_sub _ _) sq, by rw [dr.length]; exact tgs_len e1, A, S, ρ, ds, ρ', rel, dr, e1, k⟩
  | _ => cases e1
def asgS (f : Mo D) (tg : Tg) : Stm := ex1 f fun d ρ => (tg d ρ).map fun ρ1 => (.nx, ρ1)
theorem ds_asg {st : Stmt} {f : Mo D} {is : List Nat} {tg : Tg} (h : PS X st (tAsg (tE X.K Ts E f) (tG X.K Ts is tg))) : DS X Ts E st (asgS f tg) := by
  refine ps_mono h ?_
  rintro Dd σ H ⟨A, S, ρ, fl, ρ', rel, hf, dn⟩
  refine sE_step rel hf dn fun d ρ1 v H1 p1 dr h1 => ?_
  obtain ⟨ρ2, e, h2⟩ := Option.map_eq_some_iff.mp h1
  cases h2
  exact ⟨A, S, ρ1, d, _, p1.rel, dr, e, fun σ' r' _ => dn S σ' H1 r' (p1.sub rel)⟩
def parS (i j : Nat) (f g : Mo D) : Stm := ex1 (args [f, g]) fun ds ρ => match ds with
  | [d, d'] => some (.nx, (ρ.set i (.da d)).set j (.da d'))
  | _ => none
theorem ds_par {st : Stmt} {i j : Nat} {f g : Mo D} (h : PS X st (tPar i j (tA X.K Ts E (args [f, g])))) : DS X Ts E st (parS i j f g) := by
  refine ps_mono h ?_
  rintro Dd σ H ⟨A, S, ρ, fl, ρ', rel, hf, dn⟩
  refine sA_step rel hf dn fun ds ρ1 vs H1 p1 dr h1 => ?_
  cases dr with
  | nil => cases h1
  | cons a b =>
    cases b with
    | nil => cases h1
    | cons b c =>
      cases c with
      | cons _ _ => cases h1
      | nil =>
        cases h1
        refine ⟨_, _, rfl, dn S _ H1 ((p1.rel.setDa a).setDa ?_) (p1.sub rel)⟩
        exact b
end
end DL
set_option Elab.async false
set_option linter.all false
set_option maxRecDepth 100000
set_option maxHeartbeats 2000000
namespace DL
open PySem PySem.Spec PyProof.Rows L2 GL
section
variable {X : Cx} {Ts : Tbs} {E : EK}
def ol (ρ : Ev) (i : Nat) : Option (Bool × List D) := match ρ[i]? with
  | some (.ow l (.lst ds)) => some (l, ds)
  | _ => none
theorem ol_ok {ρ : Ev} {i : Nat} {l : Bool} {ds : List D} (h : ol ρ i = some (l, ds)) : ρ[i]? = some (.ow l (.lst ds)) := by
  unfold ol at h
  split at h
  · cases h
    assumption
  · cases h
theorem not_tbl {H : Hp} {a : Addr} {xs : List V} (h : H a = some (.lst xs)) (q : Array Value) : H a ≠ some (.tbl q) := fun z => by
  rw [h] at z
  cases z
theorem Rel.lst {K : PySem.W.Frag} {A : Act} {S : List Addr} {σ : L2.St} {ρ : Ev} {H : Hp} {i : Nat} {l : Bool} {ds : List D} (r : Rel K Ts A S ρ σ H) (e : ρ[i]? = some (.ow l (.lst ds))) : ∃ a xs, σ[i]? = some (some (.ref a)) ∧ H a = some (.lst xs) ∧ DRs K (hide S H) xs ds := by
  obtain ⟨a, h1, h2, ⟨xs, h3, h4⟩, h5⟩ := r.ow i l _ e
  exact ⟨a, xs, h1, h3, h4⟩
theorem Rel.putL {K : PySem.W.Frag} {A : Act} {S : List Addr} {σ : L2.St} {ρ : Ev} {H : Hp} {i : Nat} {l : Bool} {ds ds' : List D} {a : Addr} {xs xs' : List V} (r : Rel K Ts A S ρ σ H) (e : ρ[i]? = some (.ow l (.lst ds))) (e2 : σ[i]? = some (some (.ref a))) (e3 : H a = some (.lst xs)) (dr : DRs K (hide S H) xs' ds') :
    Post K Ts A S σ ρ H (ρ.set i (.ow l (.lst ds'))) (upd H a (.lst xs')) := r.put e e2 True.intro (not_tbl e3) ⟨xs', upd_same, dr⟩
def chg (i : Nat) (g : List D → Option (List D)) : Ev → Option Ev := fun ρ => match ol ρ i with
  | some (l, ds) => (g ds).map fun ds' => ρ.set i (.ow l (.lst ds'))
  | none => none
theorem chg_ok {i : Nat} {g : List D → Option (List D)} {ρ ρ' : Ev} (h : chg i g ρ = some ρ') : ∃ l ds ds', ρ[i]? = some (.ow l (.lst ds)) ∧ g ds = some ds' ∧ ρ' = ρ.set i (.ow l (.lst ds')) := by
  unfold chg at h
  split at h
  · rename_i l ds e
    obtain ⟨ds', e1, e2⟩ := Option.map_eq_some_iff.mp h
    exact ⟨l, ds, ds', ol_ok e, e1, e2.symm⟩
  · cases h
def isOl (i : Nat) (f : Stm) : Stm := fun ρ => match ol ρ i with
  | some _ => f ρ
  | none => none
theorem isOl_ok {i : Nat} {f : Stm} {ρ ρ' : Ev} {fl : Fl} (h : isOl i f ρ = some (fl, ρ')) : ∃ l ds, ρ[i]? = some (.ow l (.lst ds)) ∧ f ρ = some (fl, ρ') := by
  unfold isOl at h
  split at h
  · rename_i z e
    exact ⟨z.1, z.2, ol_ok e, h⟩
  · cases h
def lt1 (n : List D) (d : D) : Option (List D) := if n.length < sizeLine then some (n ++ [d]) else none
def appS (i : Nat) (f : Mo D) : Stm := isOl i (ex1 (args [f]) fun es ρ => match es with
  | [d] => (chg i (fun ds => lt1 ds d) ρ).map fun ρ1 => (.nx, ρ1)
  | _ => none)
def revS (i : Nat) : Stm := fun ρ => (chg i (fun ds => some ds.reverse) ρ).map fun ρ1 => (.nx, ρ1)
def putAt (k : D) (d : D) (ds : List D) : Option (List D) := match k with
  | .int i => (ixN ds.length i).map fun j => ds.set j d
  | _ => none
def putS (i : Nat) (k f : Mo D) : Stm := ex1 f fun d => isOl i (ex1 k fun j ρ => (chg i (putAt j d) ρ).map fun ρ1 => (.nx, ρ1))
theorem ds_put {st : Stmt} {i : Nat} {k f : Mo D} (h : PS X st (tAsg (tE X.K Ts E f) (gSub (tVar i) (tE X.K Ts E k) rSetL))) : DS X Ts E st (putS i k f) := by
  refine ps_mono h ?_
  rintro Dd σ H ⟨A, S, ρ, fl, ρ', rel, hf, dn⟩
  refine sE_step rel hf dn fun d ρ1 v H1 p1 dr h1 => ?_
  obtain ⟨l0, ds0, e0, h1⟩ := isOl_ok h1
  obtain ⟨a, xs0, s0, h0, _⟩ := p1.rel.lst e0
  refine ⟨.ref a, s0, ?_⟩
  refine sE_step p1.rel h1 (dn.step (p1.sub rel)) fun j ρ2 w H2 p2 dj h2 => ?_
  obtain ⟨ρ3, e2, h3⟩ := Option.map_eq_some_iff.mp h2
  cases h3
  obtain ⟨l, ds, ds', e1, hl, rfl⟩ := chg_ok e2
  obtain ⟨a', xs, s1, h1', dx⟩ := p2.rel.lst e1
  rw [s0] at s1
  cases s1
  cases dj with
  | int n =>
    obtain ⟨j, hj, rfl⟩ := Option.map_eq_some_iff.mp hl
    have p3 := p2.rel.putL e1 s0 h1' (dx.set (dr.sub (p2.sub p1.rel)) j)
    exact ⟨a, xs, n, j, rfl, rfl, h1', by rw [dx.length]; exact hj, dn S σ _ p3.rel (((p1.trans p2).trans p3).sub rel)⟩
  | _ => cases hl
def ixo (i : Nat) (k : Mo D) : Mo D := fun ρ => match ol ρ i with
  | some _ => bnd k (fun j ρ1 => match ol ρ1 i, j with
    | some (_, ds), .int n => lf (atI ds n) ρ1
    | _, _ => none) ρ
  | none => none
theorem atI_rel {K : PySem.W.Frag} {H : Hp} {xs : List V} {ds : List D} {n : Int} {d : D} (dr : DRs K H xs ds) (h : atI ds n = some d) : ∃ v, atI xs n = some v ∧ DR K H v d := by
  unfold atI at h ⊢
  rw [dr.length]
  cases e : ixN ds.length n with
  | none => rw [e] at h; cases h
  | some j =>
    rw [e] at h
    exact dr.got h
theorem de_ixo {e : Expr} {i : Nat} {k : Mo D} (h : PE X e (tOp (rIxL X.K) (tVar i) (tE X.K Ts E k))) : DE X Ts E e (ixo i k) := by
  refine pe_mono h ?_
  rintro σ H Q ⟨A, S, ρ, r, ρ', rel, hf, he, kk⟩
  unfold ixo at hf
  split at hf
  · rename_i z e0
    obtain ⟨a, xs0, s0, h0, _⟩ := rel.lst (ol_ok (l := z.1) (ds := z.2) e0)
    refine ⟨.ref a, s0, ?_⟩
    refine tE_step rel hf he fun j ρ1 v H1 p1 dj h1 => ?_
    split at h1
    · rename_i l ds n e1
      cases dj
      obtain ⟨d, e2, rfl, rfl⟩ := lf_ok h1
      obtain ⟨a', xs, s1, h1', dx⟩ := p1.rel.lst (ol_ok e1)
      rw [s0] at s1
      cases s1
      obtain ⟨v, ev, dv⟩ := atI_rel dx e2
      exact ⟨a, xs, n, v, rfl, rfl, .inl (.inl h1'), ev, kk d rfl v H1 p1 dv⟩
    · cases h1
  · cases hf
def leno (i : Nat) : Mo D := fun ρ => match ol ρ i with
  | some (_, ds) => some (.ok (.int ds.length), ρ)
  | none => none
theorem de_leno {e : Expr} {i : Nat} (h : PE X e (tCB (fun xs H Q => ∃ p ys, xs = [.ref p] ∧ (SqL X.K H p ys ∨ SqT X.K H p ys) ∧ Q (.int ys.length) H) (tCons (tVar i) tNil))) : DE X Ts E e (leno i) := by
  refine pe_mono h ?_
  rintro σ H Q ⟨A, S, ρ, r, ρ', rel, hf, he, k⟩
  unfold leno at hf
  split at hf
  · rename_i l ds e0
    cases hf
    obtain ⟨a, xs, s0, h0, dx⟩ := rel.lst (ol_ok e0)
    refine ⟨.ref a, s0, a, xs, rfl, .inl (.inl (.inl h0)), ?_⟩
    rw [dx.length]
    exact k _ rfl _ H (.refl rel) (.int _)
  · cases hf
def augO (i : Nat) (o : Int → Int → Int) (k f : Mo D) : Stm := isOl i (ex1 k fun j => fun ρ1 => match ol ρ1 i, j with
  | some (_, ds), .int n => if 0 ≤ n then (match atI ds n with
    | some (.int x) => ex1 f (fun d ρ2 => match d with
      | .int y => (chg i (putAt (.int n) (.int (o x y))) ρ2).map fun ρ3 => (.nx, ρ3)
      | _ => none) ρ1
    | _ => none) else none
  | _, _ => none)
def whN (c : Mo Bool) (b : Stm) : Nat → Stm
  | 0 => fun _ => none
  | n + 1 => ex1 c fun t => if t = true then (fun ρ => match b ρ with
    | none => none
    | some (.nx, ρ1) => whN c b n ρ1
    | some (.ct, ρ1) => whN c b n ρ1
    | some (.bk, ρ1) => some (.nx, ρ1)
    | some (.rt d, ρ1) => some (.rt d, ρ1)
    | some (.ex x, ρ1) => some (.ex x, ρ1)) else nilS
def IsWh (c : Mo Bool) (b : Stm) (ρ : Ev) (r : Fl × Ev) : Prop := ∃ n, whN c b n ρ = some r
open Classical in
noncomputable def whS (c : Mo Bool) (b : Stm) : Stm := fun ρ => if h : ∃ r, IsWh c b ρ r then some h.choose else none
theorem whS_ok {c : Mo Bool} {b : Stm} {ρ ρ' : Ev} {fl : Fl} (h : whS c b ρ = some (fl, ρ')) : ∃ n, whN c b n ρ = some (fl, ρ') := by
  unfold whS at h
  split at h
  · rename_i hx
    have e : hx.choose = (fl, ρ') := Option.some.inj h
    rw [← e]
    exact hx.choose_spec
  · cases h
theorem whN_mono {c : Mo Bool} {b : Stm} : ∀ {n : Nat} {ρ : Ev} {r : Fl × Ev}, whN c b n ρ = some r → whN c b (n + 1) ρ = some r
  | 0, _, _, h => by cases h
  | n + 1, ρ, r, h => by
    obtain ⟨fl, ρ'⟩ := r
    rcases ex1_cases (show ex1 c _ ρ = some (fl, ρ') from h) with ⟨x, e, rfl⟩ | ⟨t, ρ1, e, h1⟩
    · show ex1 c _ ρ = _
      unfold ex1
      rw [e]
    · show ex1 c _ ρ = _
      rw [ex1_ok e]
      cases t with
      | false => exact h1
      | true =>
        rw [if_pos rfl] at h1 ⊢
        split at h1
        · cases h1
        · exact whN_mono h1
        · exact whN_mono h1
        · exact h1
        · exact h1
        · exact h1
theorem whN_le {c : Mo Bool} {b : Stm} {n : Nat} {ρ : Ev} {r : Fl × Ev} (h : whN c b n ρ = some r) : ∀ k, whN c b (n + k) ρ = some r
  | 0 => h
  | k + 1 => whN_mono (whN_le h k)
theorem whS_of {c : Mo Bool} {b : Stm} {n : Nat} {ρ : Ev} {r : Fl × Ev} (h : whN c b n ρ = some r) : whS c b ρ = some r := by
  have ex : ∃ r, IsWh c b ρ r := ⟨r, n, h⟩
  unfold whS
  rw [dif_pos ex]
  obtain ⟨m, hm⟩ := ex.choose_spec
  have h1 := whN_le h m
  have h2 := whN_le hm n
  rw [Nat.add_comm, h1] at h2
  exact h2.symm
theorem ds_while {st : Stmt} {c : Mo Bool} {b : Stm} (h : PS X st (tWhile (tT X.K Ts E c) (tS X.K Ts E b))) : DS X Ts E st (whS c b) := by
  refine ps_mono h ?_
  rintro Dd σ H ⟨A, S, ρ, fl, ρ', rel, hf, dn⟩
  obtain ⟨n, hn⟩ := whS_ok hf
  refine ⟨fun m σ' H' => ∃ S' ρc, Rel X.K Ts A S' ρc σ' H' ∧ Sub (hide S H) (hide S' H') ∧ whN c b m ρc = some (fl, ρ'), ⟨n, S, ρ, rel, .refl _, hn⟩, ?_⟩
  rintro m σ1 H1 ⟨S1, ρ1, r1, s1, h1⟩
  cases m with
  | zero => cases h1
  | succ m =>
    refine sT_step r1 h1 (dn.step s1) fun t ρ2 H2 p2 h2 => ?_
    have s2 := s1.trans (p2.sub r1)
    cases t with
    | false =>
      cases h2
      exact dn S1 σ1 H2 p2.rel s2
    | true =>
      refine ⟨fun σ' H' => ∃ S' ρc, Rel X.K Ts A S' ρc σ' H' ∧ Sub (hide S H) (hide S' H') ∧ whN c b m ρc = some (fl, ρ'), fun σ' H' ⟨S', ρc, q1, q2, q3⟩ => ⟨m, Nat.lt_succ_self m, S', ρc, q1, q2, q3⟩, ?_⟩
      simp only [if_true] at h2
      cases e : b ρ2 with
      | none => rw [e] at h2; cases h2
      | some z =>
        obtain ⟨fl1, ρ3⟩ := z
        rw [e] at h2
        refine ⟨A, S1, ρ2, fl1, ρ3, p2.rel, e, fun S' σ' H' r' sub => ?_⟩
        cases fl1 with
        | nx => exact ⟨S', ρ3, r', s2.trans sub, h2⟩
        | ct => exact ⟨S', ρ3, r', s2.trans sub, h2⟩
        | bk => cases h2; exact dn S' σ' H' r' (s2.trans sub)
        | rt d => cases h2; exact dn S' σ' H' r' (s2.trans sub)
        | ex x => cases h2; exact dn S' σ' H' r' (s2.trans sub)
def Yields (K : PySem.W.Frag) (Ts : Tbs) (S1 : List Addr) (H1 : Hp) (J : It) (ds : List D) : Prop := ∀ (S : List Addr) (H : Hp), (∀ a ∈ S, H a ≠ none) → Sub (hide S1 H1) (hide S H) → ∀ i : Nat,
  (∀ d, ds[i]? = some d → J.go i H ∧ ∀ x H', J.yld i H x H' → Grow Ts H H' ∧ DR K (hide S H') x d) ∧ (ds.length = i → J.stop i H)
def tI (K : PySem.W.Frag) (Ts : Tbs) (E : EK) (f : Mo (List D)) : TI := fun σ H R => ∃ (A : Act) (S : List Addr) (ρ : Ev) (r : Except XV (List D)) (ρ' : Ev), Rel K Ts A S ρ σ H ∧ f ρ = some (r, ρ') ∧ Err K Ts E A S σ ρ H r ρ' ∧
  ∀ ds, r = .ok ds → ∀ J H', Post K Ts A S σ ρ H ρ' H' → Yields K Ts S H' J ds → R J H'
abbrev DI (X : Cx) (Ts : Tbs) (E : EK) (tg e : Expr) (f : Mo (List D)) : Prop := PI X tg e (tI X.K Ts E f)
theorem pi_mono {tg e : Expr} {t t' : TI} (h : PI X tg e t) (m : ∀ σ H R, t' σ H R → t σ H R) : PI X tg e t' := ⟨fun pins s σ H R I q => h.run pins s σ H R I (m σ H R q)⟩
def itL (f : Mo D) : Mo (List D) := bnd f fun d => match d with
  | .list ds => rt ds
  | _ => fun _ => none
def itT (f : Mo D) : Mo (List D) := bnd f fun d => match d with
  | .tuple ds => rt ds
  | _ => fun _ => none
theorem di_list {tg e : Expr} {f : Mo D} (h : PI X tg e (iList X.K (tE X.K Ts E f))) : DI X Ts E tg e (itL f) := by
  refine pi_mono h ?_
  rintro σ H R ⟨A, S, ρ, r, ρ', rel, hf, he, k⟩
  refine tE_step rel hf he fun d ρ1 v H1 p1 dr h1 => ?_
  cases dr with
  | @lst a xs ds sq dr =>
    obtain ⟨rfl, rfl⟩ := rt_ok h1
    refine ⟨a, rfl, ⟨xs, sql_sub (hide_sub _ _) sq⟩, k ds rfl _ H1 p1 fun S' H' dom sub i => ?_⟩
    have sq' : SqL X.K H' a xs := sql_sub ((sub.trans (hide_sub _ _))) sq
    refine ⟨fun d e => ?_, fun e => ⟨xs, sq', by rw [dr.length, e]; exact Nat.le_refl _⟩⟩
    obtain ⟨x, ex, dx⟩ := dr.got e
    refine ⟨⟨xs, x, sq', ex⟩, fun y H2 hy => ?_⟩
    obtain ⟨rfl, hy⟩ := hy
    have := hy xs sq'
    rw [ex] at this
    cases this
    exact ⟨.refl _ _, dx.sub sub⟩
  | _ => cases h1
theorem di_tup {tg e : Expr} {f : Mo D} (h : PI X tg e (iTup X.K (tE X.K Ts E f))) : DI X Ts E tg e (itT f) := by
  refine pi_mono h ?_
  rintro σ H R ⟨A, S, ρ, r, ρ', rel, hf, he, k⟩
  refine tE_step rel hf he fun d ρ1 v H1 p1 dr h1 => ?_
  cases dr with
  | @tup a xs ds sq dr =>
    obtain ⟨rfl, rfl⟩ := rt_ok h1
    refine ⟨a, rfl, ⟨xs, sqt_sub (hide_sub _ _) sq⟩, k ds rfl _ H1 p1 fun S' H' dom sub i => ?_⟩
    have sq' : SqT X.K H' a xs := sqt_sub ((sub.trans (hide_sub _ _))) sq
    refine ⟨fun d e => ?_, fun e => ⟨xs, sq', by rw [dr.length, e]; exact Nat.le_refl _⟩⟩
    obtain ⟨x, ex, dx⟩ := dr.got e
    refine ⟨⟨xs, x, sq', ex⟩, fun y H2 hy => ?_⟩
    obtain ⟨rfl, hy⟩ := hy
    have := hy xs sq'
    rw [ex] at this
    cases this
    exact ⟨.refl _ _, dx.sub sub⟩
  | _ => cases h1
def rng (lo : Int) (n : Nat) : List D := (List.range n).map fun i : Nat => .int (lo + i)
def small (j : Int) : Bool := decide (-(2 ^ 62) ≤ j) && decide (j < 2 ^ 62)
def itR (f : Mo D) : Mo (List D) := bnd (args [f]) fun ds => match ds with
  | [.int j] => if small j = true then rt (rng 0 j.toNat) else fun _ => none
  | _ => fun _ => none
theorem small_ok {j : Int} (h : small j = true) : -(2 ^ 62) ≤ j ∧ j < 2 ^ 62 := by
  unfold small at h
  rw [Bool.and_eq_true] at h
  exact ⟨of_decide_eq_true h.1, of_decide_eq_true h.2⟩
theorem yields_rng {K : PySem.W.Frag} {S1 : List Addr} {H1 : Hp} (lo : Int) (n : Nat) : Yields K Ts S1 H1 (Itr lo n) (rng lo n) := by
  intro S H _ _ i
  refine ⟨fun d e => ?_, fun e => ?_⟩
  · unfold rng at e
    rw [List.getElem?_map] at e
    obtain ⟨j, hj, rfl⟩ := Option.map_eq_some_iff.mp e
    obtain ⟨h1, h2⟩ := List.getElem?_eq_some_iff.mp hj
    rw [List.getElem_range] at h2
    subst h2
    rw [List.length_range] at h1
    refine ⟨h1, fun x H' hy => ?_⟩
    obtain ⟨rfl, rfl⟩ := hy
    exact ⟨.refl _ _, .int _⟩
  · unfold rng at e
    rw [List.length_map, List.length_range] at e
    show n ≤ i
    omega
theorem di_rng {tg e : Expr} {f : Mo D} (h : PI X tg e (iRng1 (tA X.K Ts E (args [f])))) : DI X Ts E tg e (itR f) := by
  refine pi_mono h ?_
  rintro σ H R ⟨A, S, ρ, r, ρ', rel, hf, he, k⟩
  refine tA_step rel hf he fun ds ρ1 vs H1 p1 dr eA h1 => ?_
  clear eA
  split at h1
  · rename_i j
    cases dr with
    | cons a b =>
      cases a
      cases b
      split at h1
      · rename_i hs
        obtain ⟨rfl, rfl⟩ := rt_ok h1
        exact ⟨j, rfl, (small_ok hs).1, (small_ok hs).2, k _ rfl _ H1 p1 (yields_rng 0 _)⟩
      · cases h1
  · cases h1
def loop (tg : Tg) (b : Stm) : List D → Stm
  | [] => nilS
  | d :: ds => fun ρ => match tg d ρ with
    | none => none
    | some ρ1 => match b ρ1 with
      | none => none
      | some (.nx, ρ2) => loop tg b ds ρ2
      | some (.ct, ρ2) => loop tg b ds ρ2
      | some (.bk, ρ2) => some (.nx, ρ2)
      | some (.rt d, ρ2) => some (.rt d, ρ2)
      | some (.ex x, ρ2) => some (.ex x, ρ2)
def forS (it : Mo (List D)) (tg : Tg) (b : Stm) : Stm := ex1 it (loop tg b)
theorem ds_for {st : Stmt} {it : Mo (List D)} {is : List Nat} {tg : Tg} {b : Stm} (h : PS X st (tFor (tI X.K Ts E it) (tG X.K Ts is tg) (tS X.K Ts E b))) : DS X Ts E st (forS it tg b) := by
  refine ps_mono h ?_
  rintro Dd σ H ⟨A, S, ρ, fl, ρ', rel, hf, dn⟩
  rcases ex1_cases hf with ⟨x, e, rfl⟩ | ⟨ds, ρ1, e, h1⟩
  · exact ⟨A, S, ρ, .error x, ρ', rel, e, (fun y hy H' p => by cases hy; exact dn S σ H' p.rel (p.sub rel)), (fun d hd => by cases hd)⟩
  refine ⟨A, S, ρ, .ok ds, ρ1, rel, e, (fun y hy => by cases hy), fun ds' hd J H1 p1 yl => ?_⟩
  cases hd
  have dn1 := dn.step (p1.sub rel)
  refine ⟨fun i m σ' H' => ∃ S' ρc, Rel X.K Ts A S' ρc σ' H' ∧ Sub (hide S H1) (hide S' H') ∧ i + m = ds.length ∧ loop tg b (ds.drop i) ρc = some (fl, ρ'), ⟨ds.length, S, ρ1, p1.rel, .refl _, Nat.zero_add _, h1⟩, ?_⟩
  rintro i m σ2 H2 ⟨S2, ρ2, r2, s2, hm, h2⟩
  by_cases hi : i < ds.length
  · have ed := List.getElem?_eq_getElem hi
    rw [List.drop_eq_getElem_cons hi] at h2
    generalize ds[i] = d at ed h2
    obtain ⟨go, yld⟩ := (yl S2 H2 r2.dom s2 i).1 d ed
    refine .inr ⟨go, fun σ' H' => ∃ S' ρc, Rel X.K Ts A S' ρc σ' H' ∧ Sub (hide S H1) (hide S' H') ∧ loop tg b (ds.drop (i + 1)) ρc = some (fl, ρ'), fun σ' H' ⟨S', ρc, q1, q2, q3⟩ => ⟨m - 1, by omega, S', ρc, q1, q2, by omega, q3⟩, fun x H3 hy => ?_⟩
    obtain ⟨gr, dx⟩ := yld x H3 hy
    have r3 := r2.grow gr
    have s3 := s2.trans (grow_hide r2.dom gr)
    simp only [loop] at h2
    cases et : tg d ρ2 with
    | none => rw [et] at h2; cases h2
    | some ρ3 =>
      rw [et] at h2
      refine ⟨A, S2, ρ2, d, ρ3, r3, dx, et, fun σ4 r4 _ => ?_⟩
      simp only at h2
      cases eb : b ρ3 with
      | none => rw [eb] at h2; cases h2
      | some z =>
        obtain ⟨fl1, ρ4⟩ := z
        rw [eb] at h2
        refine ⟨A, S2, ρ3, fl1, ρ4, r4, eb, fun S' σ' H' r' sub => ?_⟩
        have s5 := s3.trans sub
        cases fl1 with
        | nx => exact ⟨S', ρ4, r', s5, h2⟩
        | ct => exact ⟨S', ρ4, r', s5, h2⟩
        | bk => cases h2; exact dn1 S' σ' H' r' s5
        | rt d => cases h2; exact dn1 S' σ' H' r' s5
        | ex x => cases h2; exact dn1 S' σ' H' r' s5
  · have ei : i = ds.length := by omega
    subst ei
    rw [List.drop_length] at h2
    cases h2
    exact .inl ⟨(yl S2 H2 r2.dom s2 _).2 rfl, dn1 S2 σ2 H2 r2 s2⟩
end
end DL
set_option Elab.async false
set_option linter.all false
set_option maxRecDepth 100000
set_option maxHeartbeats 2000000
namespace DL
open PySem PySem.Spec PyProof.Rows L2 GL
section
variable {X : Cx} {Ts : Tbs} {E : EK}
def wipeE (ρ : Ev) : List Nat → Ev
  | [] => ρ
  | v :: vs => (wipeE ρ vs).set v .un
theorem wipeE_len (ρ : Ev) : ∀ vs, (wipeE ρ vs).length = ρ.length
  | [] => rfl
  | v :: vs => by
    show ((wipeE ρ vs).set v .un).length = _
    rw [List.length_set, wipeE_len ρ vs]
theorem wipeE_in (ρ : Ev) {j : Nat} : ∀ {vs : List Nat}, j ∈ vs → j < ρ.length → (wipeE ρ vs)[j]? = some .un
  | v :: vs, h, hl => by
    show ((wipeE ρ vs).set v .un)[j]? = _
    rw [List.getElem?_set]
    by_cases e : v = j
    · rw [if_pos e, if_pos (by rw [e, wipeE_len]; exact hl)]
    · rw [if_neg e]
      rcases List.mem_cons.mp h with z | z
      · exact absurd z.symm e
      · exact wipeE_in ρ z hl
theorem wipeE_out (ρ : Ev) {j : Nat} : ∀ {vs : List Nat}, j ∉ vs → (wipeE ρ vs)[j]? = ρ[j]?
  | [], _ => rfl
  | v :: vs, h => by
    show ((wipeE ρ vs).set v .un)[j]? = _
    rw [List.getElem?_set, if_neg (fun z => h (by rw [z]; exact List.mem_cons_self))]
    exact wipeE_out ρ (fun z => h (List.mem_cons_of_mem _ z))
theorem wipe_in (σ : L2.St) {j : Nat} : ∀ {vs : List Nat}, j ∈ vs → j < σ.length → (wipe σ vs)[j]? = some none
  | v :: vs, h, hl => by
    show ((wipe σ vs).set v none)[j]? = _
    rw [List.getElem?_set]
    by_cases e : v = j
    · rw [if_pos e, if_pos (by rw [e, wipe_length]; exact hl)]
    · rw [if_neg e]
      rcases List.mem_cons.mp h with z | z
      · exact absurd z.symm e
      · exact wipe_in σ z hl
theorem wipe_out (σ : L2.St) {j : Nat} : ∀ {vs : List Nat}, j ∉ vs → (wipe σ vs)[j]? = σ[j]?
  | [], _ => rfl
  | v :: vs, h => by
    show ((wipe σ vs).set v none)[j]? = _
    rw [List.getElem?_set, if_neg (fun z => h (by rw [z]; exact List.mem_cons_self))]
    exact wipe_out σ (fun z => h (List.mem_cons_of_mem _ z))
theorem wipe_eq {σ σ' : L2.St} {vs : List Nat} (h : Off vs σ σ') : wipe σ' vs = wipe σ vs := by
  refine List.ext_getElem? fun j => ?_
  by_cases hj : j ∈ vs
  · by_cases hl : j < σ.length
    · rw [wipe_in σ hj hl, wipe_in σ' hj (by rw [h.1]; exact hl)]
    · rw [List.getElem?_eq_none (by rw [wipe_length, h.1]; omega), List.getElem?_eq_none (by rw [wipe_length]; omega)]
  · rw [wipe_out _ hj, wipe_out _ hj]
    exact h.2 j hj
theorem wipe_off (σ : L2.St) (vs : List Nat) : Off vs σ (wipe σ vs) := ⟨wipe_length σ vs, fun j hj => wipe_out σ hj⟩
section
variable {K : PySem.W.Frag} {A : Act} {S : List Addr} {σ σ' : L2.St} {ρ ρ1 : Ev} {H H1 : Hp}
theorem Rel.wipe (r : Rel K Ts A S ρ σ H) (vs : List Nat) : Rel K Ts A S (wipeE ρ vs) (L2.wipe σ vs) H := by
  have at_ : ∀ {j : Nat} {s : Sl}, (wipeE ρ vs)[j]? = some s → s ≠ .un → ρ[j]? = some s ∧ (L2.wipe σ vs)[j]? = σ[j]? := fun {j s} e n => by
    by_cases hj : j ∈ vs
    · have hl : j < ρ.length := by
        have := (List.getElem?_eq_some_iff.mp e).1
        rw [wipeE_len] at this
        exact this
      rw [wipeE_in ρ hj hl] at e
      cases e
      exact absurd rfl n
    · rw [wipeE_out ρ hj] at e
      exact ⟨e, wipe_out σ hj⟩
  refine ⟨by rw [wipe_length, wipeE_len]; exact r.len, fun j d e => ?_, fun j l c e => ?_, fun i j l l' c c' a e1 e2 e3 e4 => ?_, r.dom, r.sub, r.ext, r.tab, r.dom0, r.op0, r.exd, fun j ks e => ?_, r.mu⟩
  · obtain ⟨q1, q2⟩ := at_ e (fun z => by cases z)
    rw [q2]
    exact r.da j d q1
  · obtain ⟨q1, q2⟩ := at_ e (fun z => by cases z)
    rw [q2]
    exact r.ow j l c q1
  · obtain ⟨q1, q2⟩ := at_ e1 (fun z => by cases z)
    obtain ⟨q3, q4⟩ := at_ e2 (fun z => by cases z)
    rw [q2] at e3
    rw [q4] at e4
    exact r.inj i j l l' c c' a q1 q3 e3 e4
  · obtain ⟨q1, q2⟩ := at_ e (fun z => by cases z)
    rw [q2]
    exact r.tk j ks q1
theorem Rel.putHid {p : Addr} {o : HO} (r : Rel K Ts A S ρ σ H) (hp : p ∈ S) (no : ¬ OwnA ρ σ p) (h0 : A.H0 p = none) (ho : MuO o) (hn : ∀ q, H p ≠ some (.tbl q)) : Rel K Ts A S ρ σ (upd H p o) := by
  have hs : hide S (upd H p o) = hide S H := hide_upd hp
  refine ⟨r.len, fun j d e => ?_, fun j l c e => ?_, r.inj, fun b hb => ?_, r.sub, fun b u hb e n => ?_, r.tab.upd (fun u e => by obtain ⟨o0, e0, m0⟩ := r.mu p hp; rw [e0] at e; cases e; exact m0.ntc), r.dom0, r.op0, fun b hb => ?_, fun j ks e => by rw [hs]; exact r.tk j ks e, fun b hb => (r.mu b hb).upd ho⟩
  · rw [hs]
    exact r.da j d e
  · obtain ⟨a, g1, g2, g3, g4⟩ := r.ow j l c e
    rw [hs]
    exact ⟨a, g1, g2, g3.sub (.refl _) (fun u e' _ => by rw [upd_ne (fun z => no ⟨j, l, c, e, by rw [← z]; exact g1⟩)]; exact e'), g4⟩
  · by_cases z : b = p
    · rw [z, upd_same]
      exact fun z => by cases z
    · rw [upd_ne z]
      exact r.dom b hb
  · rw [upd_ne (fun z => by rw [z, h0] at e; cases e)]
    exact r.ext b u hb e n
  · by_cases z : b = p
    · rw [z, upd_same]
      exact fun z => by cases z
    · rw [upd_ne z]
      exact r.exd b hb
end
theorem wipeE_eq {ρ ρ' : Ev} {vs : List Nat} (hl : ρ'.length = ρ.length) (h : ∀ j, j ∉ vs → ρ'[j]? = ρ[j]?) : wipeE ρ' vs = wipeE ρ vs := by
  refine List.ext_getElem? fun j => ?_
  by_cases hj : j ∈ vs
  · by_cases hl2 : j < ρ.length
    · rw [wipeE_in ρ hj hl2, wipeE_in ρ' hj (by omega)]
    · rw [List.getElem?_eq_none (by rw [wipeE_len]; omega), List.getElem?_eq_none (by rw [wipeE_len]; omega)]
  · rw [wipeE_out _ hj, wipeE_out _ hj]
    exact h j hj
theorem same_wipe {ρ ρ' : Ev} {vs : List Nat} (h : Same ρ ρ') : Same (wipeE ρ vs) (wipeE ρ' vs) := by
  have hl := h.len
  unfold Same
  refine List.ext_getElem? fun j => ?_
  rw [List.getElem?_map, List.getElem?_map]
  by_cases hj : j ∈ vs
  · by_cases hl2 : j < ρ.length
    · rw [wipeE_in ρ hj hl2, wipeE_in ρ' hj (by omega)]
    · rw [List.getElem?_eq_none (by rw [wipeE_len]; omega), List.getElem?_eq_none (by rw [wipeE_len]; omega)]
  · rw [wipeE_out _ hj, wipeE_out _ hj]
    exact h.at j
theorem wipe_twice (ρ : Ev) (vs : List Nat) : wipeE (wipeE ρ vs) vs = wipeE ρ vs := wipeE_eq (wipeE_len ρ vs) fun j hj => wipeE_out ρ hj
theorem same_wipe2 {ρ ρ' : Ev} {vs : List Nat} (h : Same (wipeE ρ vs) ρ') : Same (wipeE ρ vs) (wipeE ρ' vs) := by
  have h1 := same_wipe (vs := vs) h
  rw [wipe_twice] at h1
  exact h1
def isOw : Sl → Bool
  | .ow _ _ => true
  | _ => false
def noOw (ρ : Ev) (vs : List Nat) : Bool := vs.all fun j => match ρ[j]? with
  | some s => !isOw s
  | none => true
def back (ρ ρ1 : Ev) (vs : List Nat) : Ev := (List.range ρ.length).map fun j => if j ∈ vs then (ρ[j]?).getD .un else (ρ1[j]?).getD .un
theorem back_in {ρ ρ1 : Ev} {vs : List Nat} {j : Nat} (h : j ∈ vs) : (back ρ ρ1 vs)[j]? = ρ[j]? := by
  unfold back
  rw [List.getElem?_map]
  by_cases hl : j < ρ.length
  · rw [List.getElem?_range hl]
    show some (if j ∈ vs then (ρ[j]?).getD .un else (ρ1[j]?).getD .un) = _
    rw [if_pos h, List.getElem?_eq_getElem hl]
    rfl
  · rw [List.getElem?_eq_none (by rw [List.length_range]; omega), List.getElem?_eq_none (by omega)]
    rfl
theorem back_out {ρ ρ1 : Ev} {vs : List Nat} {j : Nat} (h : j ∉ vs) (hl : ρ.length = ρ1.length) : (back ρ ρ1 vs)[j]? = ρ1[j]? := by
  unfold back
  rw [List.getElem?_map]
  by_cases hl2 : j < ρ.length
  · rw [List.getElem?_range hl2]
    show some (if j ∈ vs then (ρ[j]?).getD .un else (ρ1[j]?).getD .un) = _
    rw [if_neg h, List.getElem?_eq_getElem (by omega)]
    rfl
  · rw [List.getElem?_eq_none (by rw [List.length_range]; omega), List.getElem?_eq_none (by omega)]
    rfl
theorem back_len {ρ ρ1 : Ev} {vs : List Nat} : (back ρ ρ1 vs).length = ρ.length := by
  unfold back
  rw [List.length_map, List.length_range]
def lcl (tg : Tg) (t : Mo Bool) (e : Mo D) (vs : List Nat) : List D → Ev → Option (List D × Ev)
  | [], ρ => some ([], ρ)
  | d :: ds, ρ => match tg d ρ with
    | none => none
    | some ρ1 => match t ρ1 with
      | some (.ok true, ρ2) => (match e ρ2 with
        | some (.ok y, ρ3) => (lcl tg t e vs ds (wipeE ρ3 vs)).map fun z => (y :: z.1, z.2)
        | _ => none)
      | some (.ok false, ρ2) => lcl tg t e vs ds (wipeE ρ2 vs)
      | _ => none
def lc (it : Mo (List D)) (tg : Tg) (t : Mo Bool) (e : Mo D) (vs : List Nat) : Mo (List D) := bnd it fun ds ρ =>
  if noOw ρ vs = true ∧ ds.length ≤ sizeLine then (lcl tg t e vs ds (wipeE ρ vs)).map fun z => (.ok z.1, back ρ z.2 vs) else none
def yesM : Mo Bool := rt true
def E0x : EK := fun _ _ _ => False
theorem t_yes {K : PySem.W.Frag} {σ : L2.St} {H : Hp} {Q : Bool → Hp → Prop} (h : tT K Ts E yesM σ H Q) : tYes σ H Q := by
  obtain ⟨A, S, ρ, r, ρ', rel, hf, he, k⟩ := h
  obtain ⟨rfl, rfl⟩ := rt_ok hf
  exact k true rfl H (.refl rel)
theorem no_ow {ρ : Ev} {vs : List Nat} (h : noOw ρ vs = true) {j : Nat} (hj : j ∈ vs) {l : Bool} {c : Oc} : ρ[j]? ≠ some (.ow l c) := fun e => by
  have := List.all_eq_true.mp h j hj
  rw [e] at this
  cases this
set_option maxHeartbeats 4000000 in
theorem t_lc {it : Mo (List D)} {is : List Nat} {tg : Tg} {t : Mo Bool} {el : Mo D} {vs : List Nat} (hvs : ∀ i ∈ is, i ∈ vs) : ∀ (σ : L2.St) (H : Hp) (Q : VK), tEo X.K Ts E (lc it tg t el vs) σ H Q → tLc (tI X.K Ts E it) (tG X.K Ts is tg) (tT X.K Ts E0x t) (tE X.K Ts E0x el) vs σ H Q := by
  rintro σ H Q ⟨A, S, ρ, r, ρ', rel, hf, he, k⟩
  rcases bnd_cases hf with ⟨x, ex, rfl⟩ | ⟨ds, ρ1, ex, h1⟩
  · exact ⟨A, S, ρ, .error x, ρ', rel, ex, (fun y hy => by cases hy; exact he x rfl), (fun d hd => by cases hd)⟩
  refine ⟨A, S, ρ, .ok ds, ρ1, rel, ex, (fun y hy => by cases hy), fun ds' hd J H1 p1 yl => ?_⟩
  cases hd
  split at h1
  · rename_i hc
    obtain ⟨hno, hz⟩ := hc
    obtain ⟨⟨ys, ρf⟩, hl, hr⟩ := Option.map_eq_some_iff.mp h1
    cases hr
    intro Dl hD
    obtain ⟨r0, z0, no0, nS, sub0⟩ := p1.rel.hideNew (o := .lst []) hD True.intro
    -- what no inner slot owns is kept
    have ownW : ∀ {ρi : Ev} {b : Addr}, Same (wipeE ρ1 vs) ρi → OwnA ρi (wipe σ vs) b → OwnA ρ1 σ b := by
      rintro ρi b sm ⟨j, l, c, e1, e2⟩
      obtain ⟨c0, e3⟩ := sm.symm.ow e1
      by_cases hj : j ∈ vs
      · have hl : j < ρ1.length := by
          have := (List.getElem?_eq_some_iff.mp e3).1
          rw [wipeE_len] at this
          exact this
        rw [wipeE_in ρ1 hj hl] at e3
        cases e3
      · rw [wipeE_out ρ1 hj] at e3
        rw [wipe_out σ hj] at e2
        exact ⟨j, l, c0, e3, e2⟩
    have noD : ∀ {ρi : Ev}, Same (wipeE ρ1 vs) ρi → ¬ OwnA ρi (wipe σ vs) Dl := fun sm z => no0 (ownW sm z)
    let Wv : Nat → List D → Hp → Prop := fun i rest H' => ∃ (ρi : Ev) (acc : List V) (accD : List D), Rel X.K Ts A (Dl :: S) ρi (wipe σ vs) H' ∧ Same (wipeE ρ1 vs) ρi ∧ H' Dl = some (.lst acc) ∧ DRs X.K (hide (Dl :: S) H') acc accD ∧ acc.length ≤ i ∧ accD ++ rest = ys ∧ lcl tg t el vs (ds.drop i) ρi = some (rest, ρf) ∧
      Sub (hide S H1) (hide (Dl :: S) H') ∧ (∀ b o, H1 b = some o → (∀ ps, o ≠ .tbl ps) → ¬ OwnA ρ1 σ b → H' b = some o)
    refine ⟨fun i m H' => i + m = ds.length ∧ ∃ rest, Wv i rest H', ⟨ds.length, Nat.zero_add _, ys, wipeE ρ1 vs, [], [], r0.wipe vs, .refl _, upd_same, .nil, Nat.le_refl _, rfl, hl, sub0, fun b o eb n _ => by rw [upd_ne (ne_of_none eb hD)]; exact eb⟩, ?_⟩
    rintro i m H2 ⟨hm, rest, ρi, acc, accD, ri, sm, hacc, dacc, lacc, hys, hlc, sub2, fr2⟩
    by_cases hi : i < ds.length
    · have ed := List.getElem?_eq_getElem hi
      rw [List.drop_eq_getElem_cons hi] at hlc
      generalize ds[i] = d at ed hlc
      obtain ⟨go, yld⟩ := (yl (Dl :: S) H2 ri.dom sub2 i).1 d ed
      refine .inr ⟨go, fun H' => ∃ rest, Wv (i + 1) rest H', fun H' q => ⟨m - 1, by omega, by omega, q⟩, fun x H3 hy => ?_⟩
      obtain ⟨gr, dx⟩ := yld x H3 hy
      have r3 := ri.grow gr
      have s3 := grow_hide ri.dom gr
      simp only [lcl] at hlc
      cases et : tg d ρi with
      | none => rw [et] at hlc; cases hlc
      | some ρ3 =>
        rw [et] at hlc
        simp only at hlc
        refine ⟨A, Dl :: S, ρi, d, ρ3, r3, dx, et, fun σ4 r4 off4 => ?_⟩
        have off4' : Off vs (wipe σ vs) σ4 := ⟨off4.off.1, fun j hj => off4.off.2 j (fun z => hj (hvs j z))⟩
        have w4 : wipe σ4 vs = wipe σ vs := by rw [wipe_eq off4', wipe_eq (wipe_off σ vs)]
        refine ⟨w4, ?_⟩
        have sm3 : wipeE ρ3 vs = wipeE ρi vs := wipeE_eq off4.len (fun j hj => off4.offE j (fun z => hj (hvs j z)))
        have hacc3 : H3 Dl = some (.lst acc) := gr.keep Dl _ hacc (fun q z => by cases z)
        have dacc3 := dacc.sub s3
        -- what is owned within is owned without
        have own3 : ∀ b, OwnA ρ3 σ4 b → OwnA ρ1 σ b := fun b z => ownW sm (off4.own b z)
        cases htst : t ρ3 with
        | none => rw [htst] at hlc; cases hlc
        | some z =>
          obtain ⟨rb, ρ4⟩ := z
          rw [htst] at hlc
          cases rb with
          | error x => cases hlc
          | ok b =>
            refine ⟨A, Dl :: S, ρ3, .ok b, ρ4, r4, htst, (fun y hy => by cases hy), fun b' hb H4 p4 => ?_⟩
            cases hb
            have hacc4 : H4 Dl = some (.lst acc) := p4.fr Dl _ hacc3 (fun q z => by cases z) (fun z => no0 (own3 Dl z))
            have dacc4 := dacc3.sub (p4.sub r4)
            have fr4 : ∀ b o, H1 b = some o → (∀ ps, o ≠ .tbl ps) → ¬ OwnA ρ1 σ b → H4 b = some o := fun b o e1 n no => p4.fr b o (gr.keep b o (fr2 b o e1 n no) n) n (fun z => no (own3 b z))
            have sub4 : Sub (hide S H1) (hide (Dl :: S) H4) := (sub2.trans s3).trans (p4.sub r4)
            have sm4 : Same (wipeE ρ1 vs) (wipeE ρ4 vs) := (same_wipe2 sm).trans (by rw [← sm3]; exact same_wipe p4.same)
            cases b with
            | false =>
              rw [if_neg Bool.false_ne_true]
              have rw4 := p4.rel.wipe vs
              rw [w4] at rw4
              exact ⟨rest, wipeE ρ4 vs, acc, accD, rw4, sm4, hacc4, dacc4, by omega, hys, hlc, sub4, fr4⟩
            | true =>
              rw [if_pos rfl]
              simp only at hlc
              cases hel : el ρ4 with
              | none => rw [hel] at hlc; cases hlc
              | some z =>
                obtain ⟨ry, ρ5⟩ := z
                rw [hel] at hlc
                cases ry with
                | error x => cases hlc
                | ok y =>
                  refine ⟨A, Dl :: S, ρ4, .ok y, ρ5, p4.rel, hel, (fun y hy => by cases hy), fun y' hy' v H5 p5 dv => ?_⟩
                  cases hy'
                  obtain ⟨⟨rest2, ρf2⟩, hl2, he2⟩ := Option.map_eq_some_iff.mp hlc
                  have e5 : y :: rest2 = rest := congrArg Prod.fst he2
                  have e6 : ρf2 = ρf := congrArg Prod.snd he2
                  subst e6
                  have own4 : ∀ b, OwnA ρ4 σ4 b → OwnA ρ1 σ b := fun b z => own3 b (p4.same.symm.own z)
                  have hacc5 : H5 Dl = some (.lst acc) := p5.fr Dl _ hacc4 (fun q z => by cases z) (fun z => no0 (own4 Dl z))
                  have dacc5 := dacc4.sub (p5.sub p4.rel)
                  have no5 : ¬ OwnA ρ5 σ4 Dl := fun z => no0 (own4 Dl (p5.same.symm.own z))
                  have r6 := (p5.rel.putHid (o := .lst (acc ++ [v])) List.mem_cons_self no5 z0 True.intro (not_tbl hacc5)).wipe vs
                  rw [w4] at r6
                  have hs6 : hide (Dl :: S) (upd H5 Dl (.lst (acc ++ [v]))) = hide (Dl :: S) H5 := hide_upd List.mem_cons_self
                  have sm5 : Same (wipeE ρ1 vs) (wipeE ρ5 vs) := sm4.trans (same_wipe p5.same)
                  refine ⟨acc, hacc5, Nat.lt_of_lt_of_le (by omega) hz, rest2, wipeE ρ5 vs, acc ++ [v], accD ++ [y], r6, sm5, upd_same, ?_, ?_, ?_, hl2, ?_, fun b o e1 n no => ?_⟩
                  · rw [hs6]
                    exact dacc5.append (.cons dv .nil)
                  · rw [List.length_append]
                    show acc.length + 1 ≤ i + 1
                    omega
                  · rw [← hys, ← e5, List.append_assoc]
                    rfl
                  · rw [hs6]
                    exact sub4.trans (p5.sub p4.rel)
                  · rw [upd_ne (ne_of_none e1 hD)]
                    exact p5.fr b o (fr4 b o e1 n no) n (fun z => no (own4 b z))
    · have ei : i = ds.length := by omega
      subst ei
      rw [List.drop_length] at hlc
      cases hlc
      rw [List.append_nil] at hys
      subst hys
      refine .inl ⟨(yl (Dl :: S) H2 ri.dom sub2 _).2 rfl, ?_⟩
      have ln : ρ1.length = ρf.length := by
        have := sm.len
        rw [wipeE_len] at this
        exact this
      -- the slots as they were
      have smB : Same ρ1 (back ρ1 ρf vs) := by
        unfold Same
        refine List.ext_getElem? fun j => ?_
        rw [List.getElem?_map, List.getElem?_map]
        by_cases hj : j ∈ vs
        · rw [back_in hj]
        · rw [back_out hj ln, ← sm.at j, wipeE_out ρ1 hj]
      have at_ : ∀ {j : Nat} {s : Sl}, (back ρ1 ρf vs)[j]? = some s → (j ∈ vs ∧ ρ1[j]? = some s) ∨ (j ∉ vs ∧ ρf[j]? = some s) := fun {j s} e => by
        by_cases hj : j ∈ vs
        · rw [back_in hj] at e
          exact .inl ⟨hj, e⟩
        · rw [back_out hj ln] at e
          exact .inr ⟨hj, e⟩
      have owI : ∀ {j : Nat} {l : Bool} {c : Oc}, (back ρ1 ρf vs)[j]? = some (.ow l c) → ρf[j]? = some (.ow l c) ∧ (wipe σ vs)[j]? = σ[j]? := fun {j l c} e => by
        rcases at_ e with ⟨hj, e⟩ | ⟨hj, e⟩
        · exact absurd e (no_ow hno hj)
        · exact ⟨e, wipe_out σ hj⟩
      have rB : Rel X.K Ts A (Dl :: S) (back ρ1 ρf vs) σ H2 := by
        refine ⟨by rw [back_len]; exact p1.rel.len, fun j d e => ?_, fun j l c e => ?_, fun i j l l' c c' a e1 e2 e3 e4 => ?_, ri.dom, ri.sub, ri.ext, ri.tab, ri.dom0, ri.op0, ri.exd, fun j ks e => ?_, ri.mu⟩
        · rcases at_ e with ⟨hj, e⟩ | ⟨hj, e⟩
          · obtain ⟨v, g1, g2⟩ := p1.rel.da j d e
            exact ⟨v, g1, g2.sub sub2⟩
          · obtain ⟨v, g1, g2⟩ := ri.da j d e
            rw [wipe_out σ hj] at g1
            exact ⟨v, g1, g2⟩
        · obtain ⟨q1, q2⟩ := owI e
          rw [← q2]
          exact ri.ow j l c q1
        · obtain ⟨q1, q2⟩ := owI e1
          obtain ⟨q3, q4⟩ := owI e2
          rw [← q2] at e3
          rw [← q4] at e4
          exact ri.inj i j l l' c c' a q1 q3 e3 e4
        · rcases at_ e with ⟨hj, e⟩ | ⟨hj, e⟩
          · obtain ⟨v, g1, g2⟩ := p1.rel.tk j ks e
            exact ⟨v, g1, sub2 _ _ g2 (fun _ z => by cases z)⟩
          · obtain ⟨v, g1, g2⟩ := ri.tk j ks e
            rw [wipe_out σ hj] at g1
            exact ⟨v, g1, g2⟩
      refine k _ rfl Dl acc H2 rB (p1.same.trans smB) (fun b o e n no => fr2 b o (p1.fr b o e n no) n (fun z => no (p1.same.symm.own z))) z0 (fun z => no0 (smB.symm.own z)) nS hacc dacc ((p1.sub rel).trans sub2)
  · cases h1
theorem deo_lc {e : Expr} {it : Mo (List D)} {is : List Nat} {tg : Tg} {t : Mo Bool} {el : Mo D} {vs : List Nat} (hvs : ∀ i ∈ is, i ∈ vs) (h : PE X e (tLc (tI X.K Ts E it) (tG X.K Ts is tg) (tT X.K Ts E0x t) (tE X.K Ts E0x el) vs)) : DEo X Ts E e (lc it tg t el vs) := pe_mono h (t_lc hvs)
theorem pts_mono {e : List Expr} {t t' : TT} (h : PTs X e t) (m : ∀ σ H Q, t' σ H Q → t σ H Q) : PTs X e t' := ⟨fun pins s σ H Q I q => h.run pins s σ H Q I (m σ H Q q)⟩
theorem dts_nil : PTs X [] (tT X.K Ts E yesM) := pts_mono pts_nil fun _ _ _ h => t_yes h
end
end DL
set_option Elab.async false
set_option linter.all false
set_option maxRecDepth 100000
set_option maxHeartbeats 2000000
namespace DL
open PySem PySem.Spec PyProof.Rows L2 GL
def spP (K : PySem.W.Frag) (Ts : Tbs) (F : List D → Option (Except XV D)) : Sp := fun vs H Q E => ∃ (S : List Addr) (ds : List D) (r : Except XV D), (∀ a ∈ S, H a ≠ none) ∧ (∀ a ∈ S, Mu H a) ∧ Tabd Ts H ∧ DRs K (hide S H) vs ds ∧ F ds = some r ∧
  ∀ H', Grow Ts H H' → (∀ d, r = .ok d → ∀ v, DR K (hide S H') v d → Q v H') ∧ (∀ x, r = .error x → ∀ cls d, XAt K x cls d H' → E cls d H')
structure GrowO (Ts : Tbs) (a : Addr) (H H' : Hp) : Prop where
  keep : ∀ b o, b ≠ a → H b = some o → (∀ ps, o ≠ .tbl ps) → H' b = some o
  tab : Tabd Ts H'
  dom : ∀ b, H b ≠ none → H' b ≠ none
def spO (K : PySem.W.Frag) (Ts : Tbs) (F : Oc → List D → Option (Except XV D × Oc)) : Sp := fun vs H Q E => ∃ (S : List Addr) (a : Addr) (us : List V) (c : Oc) (ds : List D) (r : Except XV D) (c' : Oc), vs = .ref a :: us ∧ (∀ a ∈ S, H a ≠ none) ∧ (∀ a ∈ S, Mu H a) ∧ Tabd Ts H ∧ a ∈ S ∧ OcAt K (hide S H) H a c ∧ DRs K (hide S H) us ds ∧ F c ds = some (r, c') ∧
  ∀ H', GrowO Ts a H H' → OcAt K (hide S H') H' a c' → (∀ d, r = .ok d → ∀ v, DR K (hide S H') v d → Q v H') ∧ (∀ x, r = .error x → ∀ cls d, XAt K x cls d H' → E cls d H')
section
variable {X : Cx} {Ts : Tbs} {E : EK}
def callP (F : List D → Option (Except XV D)) (fs : List (Mo D)) : Mo D := bnd (args fs) fun ds ρ => match F ds with
  | some (.ok d) => some (.ok d, ρ)
  | _ => none
theorem de_call {e : Expr} {F : List D → Option (Except XV D)} {fs : List (Mo D)} {E' : XK} (h : PE X e (tCall (spP X.K Ts F) [] E' (tA X.K Ts E (args fs)))) : DE X Ts E e (callP F fs) := by
  refine pe_mono h ?_
  rintro σ H Q ⟨A, S, ρ, r, ρ', rel, hf, he, k⟩
  refine tA_step rel hf he fun ds ρ1 vs H1 p1 dr e1 h1 => ?_
  rw [List.append_nil]
  split at h1
  · rename_i d hF
    cases h1
    exact ⟨S, ds, .ok d, p1.rel.dom, p1.rel.mu, p1.rel.tab, dr, hF, fun H' g => ⟨fun d' hd v dv => by cases hd; exact k _ rfl v H' (p1.trans (.grow p1.rel g)) dv, fun x hx => by cases hx⟩⟩
  · cases h1
theorem Rel.callO {K : PySem.W.Frag} {A : Act} {S : List Addr} {σ : L2.St} {ρ : Ev} {H H' : Hp} {i : Nat} {l : Bool} {c c' : Oc} {a : Addr} (r : Rel K Ts A S ρ σ H) (e1 : ρ[i]? = some (.ow l c)) (e2 : σ[i]? = some (some (.ref a))) (g : GrowO Ts a H H') (hc : OcAt K (hide S H') H' a c') :
    Post K Ts A S σ ρ H (ρ.set i (.ow l c')) H' := by
  obtain ⟨a', h1, h2, h3, h4⟩ := r.ow i l c e1
  rw [e2] at h1
  cases h1
  have hi := (List.getElem?_eq_some_iff.mp e1).1
  have sub : Sub (hide S H) (hide S H') := fun b o e n => by
    obtain ⟨q1, q2⟩ := of_hide e
    exact hide_of q1 (g.keep b o (fun z => q1 (by rw [z]; exact h2)) q2 n)
  have kind : ∀ {j : Nat} {l' : Bool} {c1 : Oc}, (ρ.set i (.ow l c'))[j]? = some (.ow l' c1) → ∃ c0, ρ[j]? = some (.ow l' c0) ∧ (i ≠ j → c1 = c0) ∧ (i = j → c1 = c' ∧ l' = l) := fun {j l' c1} e => by
    rw [List.getElem?_set] at e
    by_cases hj : i = j
    · subst hj
      rw [if_pos rfl, if_pos hi] at e
      cases e
      exact ⟨c, e1, fun z => absurd rfl z, fun _ => ⟨rfl, rfl⟩⟩
    · rw [if_neg hj] at e
      exact ⟨c1, e, fun _ => rfl, fun z => absurd z hj⟩
  refine ⟨⟨?_, fun j x e => ?_, fun j l' c1 e => ?_, fun j k l l' c1 c2 b q1 q2 q3 q4 => ?_, fun b hb => g.dom b (r.dom b hb), r.sub, fun b u hb q n => ?_, g.tab, r.dom0, r.op0, fun b hb => g.dom b (r.exd b hb), fun j ks e => ?_, fun b hb => ?_⟩, same_set e1, fun b u q n no => ?_⟩
  · rw [List.length_set]
    exact r.len
  · rw [List.getElem?_set] at e
    by_cases hj : i = j
    · subst hj
      rw [if_pos rfl, if_pos hi] at e
      cases e
    · rw [if_neg hj] at e
      obtain ⟨v, g1, g2⟩ := r.da j x e
      exact ⟨v, g1, g2.sub sub⟩
  · obtain ⟨c0, q1, q2, q3⟩ := kind e
    by_cases hj : i = j
    · obtain ⟨rfl, rfl⟩ := q3 hj
      subst hj
      exact ⟨a, e2, h2, hc, h4⟩
    · obtain rfl := q2 hj
      obtain ⟨b, g1, g2, g3, g4⟩ := r.ow j l' _ q1
      have hb : b ≠ a := fun z => hj (r.inj i j l l' c _ a e1 q1 e2 (by rw [← z]; exact g1))
      exact ⟨b, g1, g2, g3.sub sub (fun o' e' n => g.keep b o' hb e' n), g4⟩
  · obtain ⟨c01, z1, _⟩ := kind q1
    obtain ⟨c02, z2, _⟩ := kind q2
    exact r.inj j k _ _ _ _ b z1 z2 q3 q4
  · have hb2 : b ≠ a := fun z => by
      rw [z] at hb q
      cases l with
      | true =>
        rw [if_pos rfl] at h4
        rw [h4] at q
        cases q
      | false =>
        rw [if_neg Bool.false_ne_true] at h4
        exact hb h4
    exact g.keep b u hb2 (r.ext b u hb q n) n
  · rw [List.getElem?_set] at e
    by_cases hj : i = j
    · subst hj
      rw [if_pos rfl, if_pos hi] at e
      cases e
    · rw [if_neg hj] at e
      obtain ⟨v, g1, g2⟩ := r.tk j ks e
      exact ⟨v, g1, sub _ _ g2 (fun _ z => by cases z)⟩
  · by_cases hb2 : b = a
    · rw [hb2]
      exact hc.mu
    · exact (r.mu b hb).sub (fun o e n => g.keep b o hb2 e n)
  · have hb2 : b ≠ a := fun z => no ⟨i, l, c, e1, by rw [z]; exact e2⟩
    exact g.keep b u hb2 q n
def ow (ρ : Ev) (i : Nat) : Option (Bool × Oc) := match ρ[i]? with
  | some (.ow l c) => some (l, c)
  | _ => none
theorem ow_ok {ρ : Ev} {i : Nat} {l : Bool} {c : Oc} (h : ow ρ i = some (l, c)) : ρ[i]? = some (.ow l c) := by
  unfold ow at h
  split at h
  · cases h
    assumption
  · cases h
def callO (F : Oc → List D → Option (Except XV D × Oc)) (i : Nat) (fs : List (Mo D)) : Mo D := fun ρ => match ow ρ i with
  | none => none
  | some _ => bnd (args fs) (fun ds ρ1 => match ow ρ1 i with
    | none => none
    | some (l, c) => match F c ds with
      | some (.ok d, c') => some (.ok d, ρ1.set i (.ow l c'))
      | _ => none) ρ
theorem de_callO {e : Expr} {F : Oc → List D → Option (Except XV D × Oc)} {i : Nat} {fs : List (Mo D)} {E' : XK} (h : PE X e (tCall (spO X.K Ts F) [] E' (tCons (tVar i) (tA X.K Ts E (args fs))))) : DE X Ts E e (callO F i fs) := by
  refine pe_mono h ?_
  rintro σ H Q ⟨A, S, ρ, r, ρ', rel, hf, he, k⟩
  unfold callO at hf
  split at hf
  · cases hf
  · rename_i z e0
    obtain ⟨l0, c0⟩ := z
    obtain ⟨a, s0, _⟩ := rel.ow i l0 c0 (ow_ok e0)
    refine ⟨.ref a, s0, tA_step rel hf he fun ds ρ1 vs H1 p1 dr e1 h1 => ?_⟩
    show spO X.K Ts F (V.ref a :: vs ++ []) H1 Q E'
    rw [List.append_nil]
    split at h1
    · cases h1
    · rename_i l c e2
      split at h1
      · rename_i d c' hF
        cases h1
        obtain ⟨a', s1, q1, q2, q3⟩ := p1.rel.ow i l c (ow_ok e2)
        rw [s0] at s1
        cases s1
        refine ⟨S, a, vs, c, ds, .ok d, c', rfl, p1.rel.dom, p1.rel.mu, p1.rel.tab, q1, q2, dr, hF, fun H' g hc => ⟨fun d' hd v dv => ?_, fun x hx => by cases hx⟩⟩
        cases hd
        exact k _ rfl v H' (p1.trans (p1.rel.callO (ow_ok e2) s0 g hc)) dv
      · cases h1
end
section
variable {P : Program} {w : World} {K : PySem.W.Frag} {mg : Str → Option Value} {base : Heap} {k : Nat} {f : Addr} {fd : FuncData} {ps : List Str} {sp : Sp} {Ts : Tbs}
theorem okGC {x qual : Str} {params : Arguments} {body : List Stmt} {scope : Scope} {dvs : List V} {kws : List (Str × V)} {N : List Str} (F : FunD K x qual params body scope dvs kws f fd) (S : FnScope N ps scope)
    (len : ∀ vs H Q E, sp vs H Q E → vs.length = ps.length)
    (hbody : ∀ (cdv : Value) (A : Around) (outer : List Env) (s : Shared) (H : Hp) (vs : List V) (Q : VK) (E : XK), fd.code = cdv → A.guards = some [] →
      Room k (A.deeper (envOfC qual scope s.heap.objs.size f cdv)) → sp vs H Q E →
      ∃ t, PSs (cxOf CX0 P w K mg base N qual scope f cdv A outer s H E).nox body t ∧ t { nx := fun _ H' => Q .non H', rt := Q } (L2.start N vs) H) :
    FnG P w K mg base CX0 (k + 1) f fd ps sp := by
  obtain ⟨oc, od, dV, kV, doc, pm, an, cdv, ct, osl, rfl, lk, hcd, _, _⟩ := F.ex
  refine ⟨len, ?_⟩
  intro A outer s H args us vs Q E gd hr e0 hb r hsp
  have l0 := len _ _ _ _ hsp
  have stay : ∀ b o, base.get? b = some o → s.heap.get? b = some o := fun b o e => (e0.bs b o e).1
  have inK : K.In s.heap := e0.mod.kin.keeps stay
  have par : ∀ y ∈ ps.zip us, scope.names.lookup y.1 = some .local ∨
      (scope.names.lookup y.1 = some .cell ∧ ((cellsFrom (s.heap.objs.size + 1) scope.names []).lookup y.1).isSome = true) := by
    intro y hy
    exact (S.par y.1 (List.of_mem_zip (a := y.1) (b := y.2) hy).1).imp (fun q => q) (fun q => ⟨q, PySem.W.cellsFrom_some _ _ _ (.inl q)⟩)
  refine codeAny_call_function hr.depth (inK _ _ lk) rfl S.co S.gen rfl (PySem.W.codeRec_of inK hcd) (hb _ _ _ _ ?_)
  refine wpAny_newFunctionEnv_cells S.kind par ?_
  intro env he s1 x
  subst he
  refine ⟨(e0.mod.nolimit.keeps stay).keeps x.toInCall.keep, codeAny_func ?_⟩
  obtain ⟨t, ht, hq⟩ := hbody cdv A outer s H vs Q E rfl gd (hr.deeper _) hsp
  have I := inv_start (CX := CX0) (E := E) S hr.hd e0 l0 r x
  refine wpAny_mono (ht.nox.run [] s1 (L2.start N vs) H _ I hq) ?_ (fun _ _ z => z)
  intro fl s' hs
  match fl, hs with
  | .ret u, ⟨v, σ', H', J, rv, q⟩ => exact ⟨v, H', J.os, J.bare, J.base, J.hok, rv, q⟩
  | .next, ⟨σ', H', J, q⟩ => exact ⟨V.non, H', J.os, J.bare, J.base, J.hok, rfl, q⟩
  | .brk, ⟨_, _, _, q⟩ => exact q.elim
  | .cont, ⟨_, _, _, q⟩ => exact q.elim
def ins (ds : List D) (n : Nat) : Ev := ds.map Sl.da ++ List.replicate (n - ds.length) .un
def runP (n m : Nat) (B : Stm) (ds : List D) : Option (Except XV D) := if ds.length = m then (match B (ins ds n) with
  | some (.rt d, _) => some (.ok d)
  | some (.nx, _) => some (.ok .none)
  | _ => none) else none
theorem start_get {N : List Str} {vs : List V} {i : Nat} (h : i < vs.length) : (L2.start N vs)[i]? = some (some vs[i]) := by
  unfold L2.start
  rw [List.getElem?_append_left (by rw [List.length_map]; exact h), List.getElem?_map, List.getElem?_eq_getElem h]
  rfl
theorem ins_get {ds : List D} {n i : Nat} {s : Sl} (h : (ins ds n)[i]? = some s) : s = .un ∨ ∃ d, ds[i]? = some d ∧ s = .da d := by
  unfold ins at h
  by_cases hi : i < ds.length
  · rw [List.getElem?_append_left (by rw [List.length_map]; exact hi), List.getElem?_map, List.getElem?_eq_getElem hi] at h
    cases h
    exact .inr ⟨_, List.getElem?_eq_getElem hi, rfl⟩
  · rw [List.getElem?_append_right (by rw [List.length_map]; omega)] at h
    exact .inl (List.eq_of_mem_replicate (List.mem_of_getElem? h))
theorem ins_len {ds : List D} {n : Nat} (h : ds.length ≤ n) : (ins ds n).length = n := by
  unfold ins
  rw [List.length_append, List.length_map, List.length_replicate]
  omega
theorem start_len {N : List Str} {vs : List V} (h : vs.length ≤ N.length) : (L2.start N vs).length = N.length := by
  unfold L2.start
  rw [List.length_append, List.length_map, List.length_replicate]
  omega
theorem rel_start {N : List Str} {S : List Addr} {H : Hp} {vs : List V} {ds : List D} (dom : ∀ a ∈ S, H a ≠ none) (hmu : ∀ a ∈ S, Mu H a) (tb : Tabd Ts H) (dr : DRs K (hide S H) vs ds) (hl : vs.length ≤ N.length) : Rel K Ts ⟨[], S, H⟩ S (ins ds N.length) (L2.start N vs) H := by
  have l := dr.length
  refine ⟨by rw [start_len hl, ins_len (by omega)], fun i d e => ?_, fun i l c e => ?_, fun i j l l' c c' a e => ?_, dom, fun a h => h, fun b o _ e _ => e, tb, dom, fun a h => (nomatch h), fun b h => h, fun i ks e => ?_, hmu⟩
  · rcases ins_get e with z | ⟨d', e1, e2⟩
    · cases z
    · cases e2
      obtain ⟨v, ev, dv⟩ := dr.got e1
      obtain ⟨hi, rfl⟩ := List.getElem?_eq_some_iff.mp ev
      exact ⟨_, start_get hi, dv⟩
  · rcases ins_get e with z | ⟨d', e1, e2⟩
    · cases z
    · cases e2
  · rcases ins_get e with z | ⟨d', e1, e2⟩
    · cases z
    · cases e2
  · rcases ins_get e with z | ⟨d', e1, e2⟩
    · cases z
    · cases e2
theorem fnP {x qual : Str} {params : Arguments} {body : List Stmt} {scope : Scope} {dvs : List V} {kws : List (Str × V)} {N : List Str} {B : Stm} (F : FunD K x qual params body scope dvs kws f fd) (Sc : FnScope N ps scope) (hps : ps.length ≤ N.length)
    (hb : ∀ (cdv : Value) (A : Around) (outer : List Env) (s : Shared) (H : Hp) (E : XK), fd.code = cdv → A.guards = some [] → Room k (A.deeper (envOfC qual scope s.heap.objs.size f cdv)) → DSs (cxOf CX0 P w K mg base N qual scope f cdv A outer s H E).nox Ts E0x body B) :
    FnG P w K mg base CX0 (k + 1) f fd ps (spP K Ts (runP N.length ps.length B)) := by
  have lenOk : ∀ vs H Q E, spP K Ts (runP N.length ps.length B) vs H Q E → vs.length = ps.length := by
    rintro vs H Q E ⟨S, ds, r, dom, hmu, tb, dr, hF, q⟩
    unfold runP at hF
    split at hF
    · rename_i h
      rw [dr.length, h]
    · cases hF
  refine okGC F Sc lenOk ?_
  rintro cdv A outer s H vs Q E hcd gd hr hsp
  have hl := lenOk _ _ _ _ hsp
  obtain ⟨S, ds, r, dom, hmu, tb, dr, hF, q⟩ := hsp
  unfold runP at hF
  split at hF
  · have rel : Rel K Ts ⟨[], S, H⟩ S (ins ds N.length) (L2.start N vs) H := rel_start dom hmu tb dr (by omega)
    have gr : ∀ {S' σ' ρ' H'}, Rel K Ts ⟨[], S, H⟩ S' ρ' σ' H' → Grow Ts H H' := fun {S' σ' ρ' H'} r' => ⟨fun b o e n => r'.ext b o (fun z => (nomatch z)) e n, fun _ => r'.tab, r'.exd⟩
    refine ⟨_, hb cdv A outer s H E hcd gd hr, ?_⟩
    split at hF
    · rename_i d ρ' hB
      cases hF
      refine ⟨_, S, _, _, ρ', rel, hB, fun S' σ' H' r' sub v dv => (q H' (gr r')).1 d rfl v (dv.sub (hide_mono r'.sub))⟩
    · rename_i ρ' hB
      cases hF
      refine ⟨_, S, _, _, ρ', rel, hB, fun S' σ' H' r' sub => (q H' (gr r')).1 _ rfl _ .non⟩
    · cases hF
  · cases hF
def runO (n m : Nat) (B : Stm) (c : Oc) (ds : List D) : Option (Except XV D × Oc) := if ds.length + 1 = m then (match B (.ow false c :: ins ds (n - 1)) with
  | some (.rt d, ρ') => (match ow ρ' 0 with
    | some (false, c') => some (.ok d, c')
    | _ => none)
  | some (.nx, ρ') => (match ow ρ' 0 with
    | some (false, c') => some (.ok .none, c')
    | _ => none)
  | _ => none) else none
theorem fnO {x qual : Str} {params : Arguments} {body : List Stmt} {scope : Scope} {dvs : List V} {kws : List (Str × V)} {N : List Str} {B : Stm} (F : FunD K x qual params body scope dvs kws f fd) (Sc : FnScope N ps scope) (hps : ps.length ≤ N.length)
    (hb : ∀ (cdv : Value) (A : Around) (outer : List Env) (s : Shared) (H : Hp) (E : XK), fd.code = cdv → A.guards = some [] → Room k (A.deeper (envOfC qual scope s.heap.objs.size f cdv)) → DSs (cxOf CX0 P w K mg base N qual scope f cdv A outer s H E).nox Ts E0x body B) :
    FnG P w K mg base CX0 (k + 1) f fd ps (spO K Ts (runO N.length ps.length B)) := by
  have lenOk : ∀ vs H Q E, spO K Ts (runO N.length ps.length B) vs H Q E → vs.length = ps.length := by
    rintro vs H Q E ⟨S, a, us, c, ds, r, c', rfl, dom, hmu, tb, hS, hc, dr, hF, q⟩
    unfold runO at hF
    split at hF
    · rename_i h
      rw [List.length_cons, dr.length, h]
    · cases hF
  refine okGC F Sc lenOk ?_
  rintro cdv A outer s H vs Q E hcd gd hr hsp
  have hl := lenOk _ _ _ _ hsp
  obtain ⟨S, a, us, c, ds, r, c', rfl, dom, hmu, tb, hS, hc, dr, hF, q⟩ := hsp
  unfold runO at hF
  split at hF
  · rename_i hlen
    have l := dr.length
    have rel : Rel K Ts ⟨[a], S, H⟩ S (.ow false c :: ins ds (N.length - 1)) (L2.start N (.ref a :: us)) H := by
      have at0 : (L2.start N (.ref a :: us))[0]? = some (some (.ref a)) := start_get (by rw [List.length_cons]; omega)
      have atS : ∀ {i : Nat} {s : Sl}, (Sl.ow false c :: ins ds (N.length - 1))[i]? = some s → (i = 0 ∧ s = .ow false c) ∨ s = .un ∨ ∃ j d, i = j + 1 ∧ ds[j]? = some d ∧ s = .da d := fun {i s} e => by
        cases i with
        | zero => cases e; exact .inl ⟨rfl, rfl⟩
        | succ j =>
          rcases ins_get (show (ins ds (N.length - 1))[j]? = some s from e) with z | ⟨d', e1, e2⟩
          · exact .inr (.inl z)
          · exact .inr (.inr ⟨j, d', rfl, e1, e2⟩)
      have ow0 : ∀ {i : Nat} {l : Bool} {c1 : Oc}, (Sl.ow false c :: ins ds (N.length - 1))[i]? = some (.ow l c1) → i = 0 ∧ l = false ∧ c1 = c := fun {i l c1} e => by
        rcases atS e with ⟨h1, h2⟩ | z | ⟨j, d, _, _, z⟩
        · cases h2
          exact ⟨h1, rfl, rfl⟩
        · cases z
        · cases z
      refine ⟨?_, fun i d e => ?_, fun i l c1 e => ?_, fun i j l l' c1 c2 b e1 e2 _ _ => ?_, dom, fun a h => h, fun b o _ e _ => e, tb, dom, fun b h => ?_, fun b h => h, fun i ks e => ?_, hmu⟩
      · rw [start_len (by omega), List.length_cons, ins_len (by omega)]
        omega
      · rcases atS e with ⟨h1, h2⟩ | z | ⟨j, d', rfl, e1, e2⟩
        · cases h2
        · cases z
        · cases e2
          obtain ⟨v, ev, dv⟩ := dr.got e1
          obtain ⟨hi, rfl⟩ := List.getElem?_eq_some_iff.mp ev
          exact ⟨_, start_get (vs := .ref a :: us) (i := j + 1) (by rw [List.length_cons]; omega), dv⟩
      · obtain ⟨rfl, rfl, rfl⟩ := ow0 e
        exact ⟨a, at0, hS, hc, by rw [if_neg Bool.false_ne_true]; exact List.mem_singleton.mpr rfl⟩
      · rw [(ow0 e1).1, (ow0 e2).1]
      · rw [List.mem_singleton.mp h]
        exact hS
      · rcases atS e with ⟨h1, h2⟩ | z | ⟨j, d', rfl, e1, e2⟩
        · cases h2
        · cases z
        · cases e2
    have gr : ∀ {S' σ' ρ' H'}, Rel K Ts ⟨[a], S, H⟩ S' ρ' σ' H' → GrowO Ts a H H' := fun {S' σ' ρ' H'} r' => ⟨fun b o nb e n => r'.ext b o (fun z => nb (List.mem_singleton.mp z)) e n, r'.tab, r'.exd⟩
    have out : ∀ {S' σ' ρ' H' c1}, Rel K Ts ⟨[a], S, H⟩ S' ρ' σ' H' → ow ρ' 0 = some (false, c1) → OcAt K (hide S H') H' a c1 := fun {S' σ' ρ' H' c1} r' e => by
      obtain ⟨b, g1, g2, g3, g4⟩ := r'.ow 0 false c1 (ow_ok e)
      rw [if_neg Bool.false_ne_true] at g4
      obtain rfl := List.mem_singleton.mp g4
      exact g3.sub (hide_mono r'.sub) (fun o e _ => e)
    refine ⟨_, hb cdv A outer s H E hcd gd hr, ?_⟩
    split at hF
    · rename_i d ρ' hB
      split at hF
      · rename_i c1 e1
        cases hF
        exact ⟨_, S, _, _, ρ', rel, hB, fun S' σ' H' r' sub v dv => (q H' (gr r') (out r' e1)).1 d rfl v (dv.sub (hide_mono r'.sub))⟩
      · cases hF
    · rename_i ρ' hB
      split at hF
      · rename_i c1 e1
        cases hF
        exact ⟨_, S, _, _, ρ', rel, hB, fun S' σ' H' r' sub => (q H' (gr r') (out r' e1)).1 _ rfl _ .non⟩
      · cases hF
    · cases hF
  · cases hF
end
end DL
set_option Elab.async false
set_option linter.all false
set_option maxRecDepth 100000
set_option maxHeartbeats 4000000
namespace GL
open PySem PySem.Spec PyProof.Rows L2 GenW
abbrev genCx (X : Cx) (B : Around) (s : Shared) (H : Hp) (cenv : Env) (fp : List Addr) : Cx :=
  { X with A := B, s_0 := s, H_0 := H, env := cenv, outer := X.stack, stack := cenv :: X.stack, ex := fp, fn := fun _ => false, pn := [], xe := fun _ _ => False }
section
variable {X : Cx} {pins : List (Addr × Obj)} {σ : L2.St} {H : Hp} {s : Shared}
theorem gen_start {scope : Scope} {own : List (Str × Nat)} {fp : List Addr} {code : Value} {B : Around} {s' : Shared} {m : Str → Option Value} (I : Inv X pins σ H s) (ok : BlkOk X.N X.env.scope scope own) (hcell : ∀ y ∈ scope.names, y.2 ≠ .cell) (hN : X.N.Nodup) (hfp : ∀ b ∈ fp, FpOk X pins H b ∧ b < s.heap.objs.size)
    (hB : X.calm = true → B.handled = none) (hfr : B.frames = some (genEnv scope (cloFrom X.env.cells scope.names []) s.heap.objs.size code builtinsNs X.env :: X.stack)) (kp : ∀ b o, s.heap.get? b = some o → s'.heap.get? b = some o) (os : s'.os = s.os) (bare : AllBare s'.gens) (ns : s'.heap.Ns s.heap.objs.size m) :
    Inv (genCx X B s H (genEnv scope (cloFrom X.env.cells scope.names []) s.heap.objs.size code builtinsNs X.env) fp) [] (wipe σ (own.map (·.2))) H s' := by
  have hfree : ∀ y ∈ scope.names, y.2 = .free → ∃ c, X.env.cells.lookup y.1 = some c := fun y hy e => by
    rcases ok.free y hy e with k | k
    · exact I.ok.has _ (.inl k)
    · exact I.ok.has _ (.inr k)
  have cm : ∀ {y c}, (y, c) ∈ cloFrom X.env.cells scope.names [] → X.env.cells.lookup y = some c ∧ c < s.heap.objs.size := fun {y c} hm => by
    rcases cloFrom_mem hm with hm | ⟨h1, rfl⟩
    · cases hm
    · obtain ⟨c, hc⟩ := hfree _ h1 rfl
      rw [hc]
      obtain ⟨w, z⟩ := I.cell _ _ hc
      exact ⟨rfl, z.lt⟩
  have mem : ∀ {y c}, (cloFrom X.env.cells scope.names []).lookup y = some c → X.env.cells.lookup y = some c ∧ c < s.heap.objs.size := fun {y c} e => cm (PySem.mem_of_lookup e)
  have look : ∀ {y}, scope.names.lookup y = some .free → ∃ c, (cloFrom X.env.cells scope.names []).lookup y = some c ∧ X.env.cells.lookup y = some c := fun {y} hl => by
    have hy : (y, NameKind.free) ∈ scope.names := PySem.mem_of_lookup hl
    obtain ⟨c', e'⟩ := mem_lookup (cloFrom_has (cells := X.env.cells) (acc := []) hy)
    exact ⟨c', e', (mem e').1⟩
  have okB : (genCx X B s H (genEnv scope (cloFrom X.env.cells scope.names []) s.heap.objs.size code builtinsNs X.env) fp).Ok := by
    refine ⟨I.ok.mod, ok.kind, I.ok.glob, rfl, Nat.le_refl _, fun y z c e1 e2 => I.ok.inj y z c (mem e1).1 (mem e2).1, fun y hy => ?_, (fun y c z e => by cases z), hB, hfr, .inr ⟨rfl, rfl⟩, fun b hb => ⟨Nat.ne_of_lt (hfp b hb).2, fun y c e z => ?_⟩, I.bs, Nat.le_trans I.ok.bsz I.sz, fun b o e hb => ?_, fun b hb z => ?_, I.stack, I.stkFree⟩
    · show ∃ c, (cloFrom X.env.cells scope.names []).lookup y = some c
      rcases hy with hy | hy
      · exact absurd rfl (hcell (y, .cell) (PySem.mem_of_lookup (show scope.names.lookup y = some .cell from hy)))
      · obtain ⟨c, h1, _⟩ := look (show scope.names.lookup y = some .free from hy)
        exact ⟨c, h1⟩
    · exact (hfp b hb).1.2.2.2.2.1 y c (mem e).1 z
    · rcases (hfp b hb).1.2.2.2.1 with z | z
      · exact I.ok.noex b o e z
      · exact absurd (Nat.lt_of_lt_of_le (Heap.lt_size e) (Nat.le_trans I.ok.bsz z)) (Nat.lt_irrefl _)
    · rcases List.mem_cons.mp (I.stkSub b z) with z | z
      · exact (hfp b hb).1.2.1 z
      · exact (hfp b hb).1.2.2.1 z
  refine ⟨okB, os, bare, Un.kept kp, ⟨m, ns, fun i y av e1 e2 e3 => ?_⟩, fun y c e => ?_, I.hok.fresh (Nat.le_refl _), fun y c e => I.freeC y c (mem e).1, fun p hp => absurd (show p ∈ ([] : List (Addr × Obj)) ++ [] from hp) (by simp), I.hok.kept kp, by rw [wipe_length]; exact I.len⟩
  · obtain ⟨e2, hne⟩ := wipe_some e2
    have e3 : Vis scope y := e3
    have no : ∀ k', scope.names.lookup y = some k' → ¬ (k' = .local ∨ k' = .cell) := fun k' e hh => by
      rcases ok.own _ (PySem.mem_of_lookup e) hh with e' | e'
      · obtain ⟨p, hp, hpy⟩ := List.mem_map.mp e'
        have e3 := ok.ix p hp
        have : p.1 = y := hpy
        rw [this] at e3
        exact hne (List.mem_map.mpr ⟨p, hp, nodup_ix hN e3 e1⟩)
      · exact e' (List.mem_of_getElem? e1)
    have hfr2 : scope.names.lookup y = some .free := by
      rcases e3 with e3 | e3 | e3
      · exact absurd (.inl rfl) (no _ e3)
      · exact absurd (.inr rfl) (no _ e3)
      · exact e3
    obtain ⟨m0, hn, hl⟩ := I.loc
    have hvis : Vis X.env.scope y := (ok.free _ (PySem.mem_of_lookup hfr2) rfl).elim (fun k => .inr (.inl k)) (fun k => .inr (.inr k))
    obtain ⟨w, r, q⟩ := hl i y av e1 e2 hvis
    refine ⟨w, r, .inr ⟨.inr hfr2, ?_⟩⟩
    obtain ⟨c, h1, h2⟩ := look hfr2
    rcases q with ⟨k, _⟩ | ⟨_, c', e', z⟩
    · have k : X.env.scope.names.lookup y = some .local := k
      rcases ok.free _ (PySem.mem_of_lookup hfr2) rfl with k' | k' <;> rw [show X.env.scope.names.lookup y = _ from k'] at k <;> cases k
    · rw [h2] at e'; cases e'
      exact ⟨c, h1, z.keeps kp⟩
  · obtain ⟨w, z⟩ := I.cell y c (mem e).1
    exact ⟨w, z.keeps kp⟩
end
structure Slp (As : List Addr) (s s' : Shared) : Prop where
  os : s'.os = s.os
  bare : AllBare s'.gens
  keep : ∀ b o, b ∉ As → s.heap.get? b = some o → s'.heap.get? b = some o
  own : ∀ b ∈ As, ∃ o, s'.heap.get? b = some o ∧ ∀ v, o.data ≠ .cell v
def CpOk (X : Cx) (fp As : List Addr) : Prop := ∀ b ∈ As, X.s_0.heap.objs.size ≤ b ∧ b ≠ X.env.locals ∧ b ∉ fp ∧ (∀ x c, X.env.cells.lookup x = some c → c ≠ b)
section
variable {X : Cx} {σ : L2.St} {H : Hp} {s s' : Shared} {As : List Addr}
theorem Inv.slp {fp : List Addr} (hX : X.pn = []) (hA : CpOk X fp As) (ho : ∀ b ∈ As, ∃ o, s.heap.get? b = some o) (I : Inv X (pinsAt As s.heap) σ H s) (z : Slp As s s') : Inv X (pinsAt As s'.heap) σ H s' := by
  have pin : ∀ b ∈ As, H b = none ∧ b ≠ X.env.locals ∧ b ∉ X.fs := fun b hb => by
    obtain ⟨o, e⟩ := ho b hb
    obtain ⟨h1, h2, h3, h4, _⟩ := I.pin (b, o) (List.mem_append_right _ (mem_pinsAt hb e))
    exact ⟨h2, h3, h4⟩
  have I0 : Inv X [] σ H s := I.pins_of fun p hp => (nomatch hp)
  have nt : ∀ b u, H b = some u → b ∉ As := fun b u q hb => by rw [(pin b hb).1] at q; cases q
  obtain ⟨z1, z2, z3, z4⟩ := z
  obtain ⟨hh, g, d, t, o⟩ := s'
  have ho2 : o = s.os := z1
  subst ho2
  have J : Inv X [] σ H { s with heap := hh, gens := g, drawn := d, toks := t } := by
    refine I0.step (g' := g) (t' := t) (d' := d) (ch := As) (fun b hb => ?_)
      (fun b ob _ _ hc q _ => z3 b ob hc q) (fun b ob _ _ hc q _ => ⟨ob.slots, z3 b ob hc q⟩) (fun _ _ _ _ n => n) (fun b ob hc q => ⟨ob, z3 b ob hc q⟩)
      (fun _ _ q => q) (fun _ _ _ q => q) (fun b ps q => ⟨#[], by rw [q]; simp⟩) (fun m hm => ?_) (fun b u q => ?_) z2
    · obtain ⟨c1, c2, c3, c4⟩ := hA b hb
      refine ⟨.inr c1, c2, c4, fun p hp => ?_⟩
      rw [hX] at hp
      exact absurd hp (by simp)
    · obtain ⟨ob, es, ep, hob, r⟩ := hm
      exact ⟨ob, es, ep, z3 _ ob (fun hb => (pin _ hb).2.1 rfl) hob, r⟩
    · refine (I0.hok b u q).stay (fun c v hc y => z3 c v ?_ y) (fun _ y => y) fun _ _ y => y
      rcases hc with y | y
      · rw [y]
        exact nt b u q
      · exact nt c _ y
  refine J.pins_of fun p hp => ?_
  obtain ⟨hb, e⟩ := of_pinsAt hp
  obtain ⟨o, e2, hd⟩ := z4 p.1 hb
  have e3 : o = p.2 := Option.some.inj (e2.symm.trans e)
  obtain ⟨q1, q2, q3⟩ := pin p.1 hb
  exact ⟨e, q1, q2, q3, by rw [← e3]; exact hd⟩
theorem pins_keep {σ' : L2.St} {H' : Hp} {more : List (Addr × Obj)} (ho : ∀ b ∈ As, ∃ o, s.heap.get? b = some o) (J : Inv X (pinsAt As s.heap ++ more) σ' H' s') : (∀ b ∈ As, s'.heap.get? b = s.heap.get? b) ∧ pinsAt As s'.heap = pinsAt As s.heap := by
  have h1 : ∀ b ∈ As, s'.heap.get? b = s.heap.get? b := fun b hb => by
    obtain ⟨o, e⟩ := ho b hb
    rw [e]
    exact (J.pin (b, o) (List.mem_append_right _ (List.mem_append_left _ (mem_pinsAt hb e)))).1
  refine ⟨h1, ?_⟩
  unfold pinsAt
  clear ho J
  induction As with
  | nil => rfl
  | cons a r ih =>
    rw [List.filterMap_cons, List.filterMap_cons, h1 a List.mem_cons_self, ih fun b hb => h1 b (List.mem_cons_of_mem _ hb)]
end
section
variable {X : Cx} {σ : L2.St} {H1 : Hp} {s1 : Shared} {cenv : Env} {fp : List Addr} {B A : Around} {vs : List Nat} {it : Addr} {tn : Nat → Heap → Prop} {J : It} {elt tg iter : Expr} {ifs : List Expr} {scope : Scope} {gpos : Pos} {g : TG} {tt : TT} {te : TE} {As : List Addr}
  {Lk : List V → Heap → Prop} {Wi : Nat → Nat → List V → Hp → Prop} {Cst : List V → V → Hp → (Hp → Prop) → Prop} {Cend : List V → Hp → Prop}
def Step (J : It) (g : TG) (tt : TT) (te : TE) (vs : List Nat) (σ : L2.St) (Cst : List V → V → Hp → (Hp → Prop) → Prop) (Cend : List V → Hp → Prop) (Wi : Nat → Nat → List V → Hp → Prop) : Prop := ∀ i m ys H, Wi i m ys H →
  (J.stop i H ∧ Cend ys H) ∨ (J.go i H ∧ ∃ Nx : List V → Hp → Prop, (∀ ys' H', Nx ys' H' → ∃ m', m' < m ∧ Wi (i + 1) m' ys' H') ∧ ∀ x H', J.yld i H x H' → g x (wipe σ vs) H' fun σ2 H2 => wipe σ2 vs = wipe σ vs ∧ tt σ2 H2 fun b H3 =>
    if b = true then te σ2 H3 fun y H4 => Cst ys y H4 (Nx (ys ++ [y])) else Nx ys H3)
def GW (Xg : Cx) (σw : L2.St) (tn : Nat → Heap → Prop) (fp As : List Addr) (Lk : List V → Heap → Prop) (Wi : Nat → Nat → List V → Hp → Prop) (i m : Nat) (ys : List V) (s : Shared) : Prop :=
  ∃ H', Inv Xg (pinsAt As s.heap) σw H' s ∧ tn i s.heap ∧ (∀ b ∈ fp, H' b = none) ∧ (∀ b ∈ As, ∃ o, s.heap.get? b = some o) ∧ Lk ys s.heap ∧ Wi i m ys H'
def RG (Xg : Cx) (σw : L2.St) (As : List Addr) (Lk : List V → Heap → Prop) (Cend : List V → Hp → Prop) : GenEnd := fun _ s₀ r s₁ => r = .ok .next ∧ (∀ b ∈ As, s₁.heap.get? b = s₀.heap.get? b) ∧ ∃ H' ys, Inv Xg (pinsAt As s₁.heap) σw H' s₁ ∧ Lk ys s₁.heap ∧ Cend ys H'
def YG (Xg : Cx) (σw : L2.St) (tn : Nat → Heap → Prop) (fp As : List Addr) (Lk : List V → Heap → Prop) (Wi : Nat → Nat → List V → Hp → Prop) (Cst : List V → V → Hp → (Hp → Prop) → Prop) : Protocol := fun n s₀ v s kap => (∀ b ∈ As, s.heap.get? b = s₀.heap.get? b) ∧
  ∃ (ys : List V) (y : V) (H' : Hp) (Nx : List V → Hp → Prop), RelV y v ∧ Inv Xg (pinsAt As s.heap) σw H' s ∧ Lk ys s.heap ∧ Cst ys y H' (Nx (ys ++ [y])) ∧ ∀ s', Slp As s s' → Lk (ys ++ [y]) s'.heap → Nx (ys ++ [y]) H' → kap (.send .none) s'
theorem seg_gen (hX : ∀ (b : Addr), b ∈ (genCx X B s1 H1 cenv fp).pn.map (·.1) → False) (hc : X.calm = true) (hco : cenv.scope.isCoroutine = false) (hov : A.over (.compLoop (.GeneratorExp elt [⟨tg, iter, ifs, 0⟩] scope gpos) 0 (.ref it) .none cenv) [] = B)
    (T : Turn X.prog X.w X.K tg J fp it tn) (pg : PG (genCx X B s1 H1 cenv fp) tg g) (pt : PTs (genCx X B s1 H1 cenv fp) ifs tt) (pe : PE (genCx X B s1 H1 cenv fp) elt te) (hA : CpOk (genCx X B s1 H1 cenv fp) fp As) (hst : Step J g tt te vs σ Cst Cend Wi) (hLk : ∀ ys h h', (∀ b ∈ As, h'.get? b = h.get? b) → Lk ys h → Lk ys h') :
    ∀ (m n i : Nat) (ys : List V) (s₀ s : Shared), m < n → (∀ b ∈ As, s.heap.get? b = s₀.heap.get? b) → GW (genCx X B s1 H1 cenv fp) (wipe σ vs) tn fp As Lk Wi i m ys s →
      Seg (model X.prog X.w) A (RG (genCx X B s1 H1 cenv fp) (wipe σ vs) As Lk Cend) (YG (genCx X B s1 H1 cenv fp) (wipe σ vs) tn fp As Lk Wi Cst) n s₀
        (.compLoop (.GeneratorExp elt [⟨tg, iter, ifs, 0⟩] scope gpos) 0 (.ref it) .none cenv) ((model X.prog X.w).den (.compLoop (.GeneratorExp elt [⟨tg, iter, ifs, 0⟩] scope gpos) 0 (.ref it) .none cenv)) [] s := by
  intro m
  induction m using Nat.strongRecOn with
  | ind m ih =>
  intro n i ys s₀ s hmn hs0 ⟨H', I, hti, hfn, hAo, hlk, hw⟩
  have stat : ∀ {pl : List (Addr × Obj)} {σ' : L2.St} {H'' : Hp} {s' : Shared}, Inv (genCx X B s1 H1 cenv fp) pl σ' H'' s' → (∀ p ∈ pl, p.1 ∈ As) → (∀ b ∈ fp, H'' b = none) → ∀ b ∈ fp, FpOk (genCx X B s1 H1 cenv fp) pl H'' b := fun {pl σ' H'' s'} I' hpl hn b hb =>
    ⟨hn b hb, (I'.ok.exf b hb).1, I'.ok.exfs b hb, .inl hb, fun x c e => (I'.ok.exf b hb).2 x c e, fun p hp z => by
      have hp : p ∈ ([] : List (Addr × Obj)) ++ pl := hp
      rw [List.nil_append] at hp
      exact (hA p.1 (hpl p hp)).2.2.1 (by rw [z]; exact hb)⟩
  have inAs : ∀ {h : Heap}, ∀ p ∈ pinsAt As h, p.1 ∈ As := fun {h} p hp => (of_pinsAt hp).1
  show Seg _ A _ _ _ s₀ _ ((compTurn (.GeneratorExp elt [⟨tg, iter, ifs, 0⟩] scope gpos) 0 (.ref it) .none cenv).onRaise (leaving cenv)) [] s
  rw [compTurn_gen, Sem.onRaise_eq_wrap]
  refine seg_bind_wrap (wpAny_standAt ?_)
  rcases hst i m ys H' hw with ⟨stop, hend⟩ | ⟨go, Nx, hNx, step⟩
  · refine seg_bind_wrap ?_
    rw [hov]
    refine thnF (T.done (genCx X B s1 H1 cenv fp) rfl rfl rfl hc i _ s _ H' (fun _ _ => False) I (stat I inAs hfn) hti stop) fun r s6 ⟨hr, I6⟩ => ?_
    subst hr
    obtain ⟨k1, k2⟩ := pins_keep (more := []) hAo (by rw [List.append_nil]; exact I6)
    exact seg_end (.ok .next) ⟨rfl, fun b hb => (k1 b hb).trans (hs0 b hb), H', ys, by rw [k2]; exact I6, hLk _ _ _ k1 hlk, hend⟩
  · refine seg_bind_wrap ?_
    rw [hov]
    refine thnF (T.item (genCx X B s1 H1 cenv fp) rfl rfl rfl hc i _ s _ H' (fun _ _ => False) I (stat I inAs hfn) hti go) fun r s6 ⟨u, hr, h6⟩ => ?_
    subst hr
    refine seg_bind_wrap ?_
    rw [hov]
    refine thnF h6 fun _ s7 ⟨x, H7, I7, r7, y7, st7, n7⟩ => ?_
    have I7' := I7.pinned (stat I7 inAs n7) (T.obj _ _ st7)
    refine seg_bind_wrap ?_
    rw [hov]
    refine thnF (pg.run _ s7 _ H7 x u _ I7' r7 (step x H7 y7)) fun _ s8 ⟨σ8, H8, I8, hw8, q8⟩ => ?_
    refine seg_bind_wrap ?_
    rw [hov]
    refine thnF (pt.run _ s8 σ8 H8 _ I8 q8) fun b s9 ⟨H9, I9, q9⟩ => ?_
    -- what holds at a turn's end
    have fin : ∀ {s' : Shared} {H'' : Hp}, Inv (genCx X B s1 H1 cenv fp) (pinsAt As s.heap ++ pinsAt fp s7.heap) σ8 H'' s' → (∀ b ∈ As, s'.heap.get? b = s.heap.get? b) ∧ Inv (genCx X B s1 H1 cenv fp) (pinsAt As s'.heap) (wipe σ vs) H'' s' ∧ tn (i + 1) s'.heap ∧ (∀ b ∈ fp, H'' b = none) ∧ ∀ b ∈ As, ∃ o, s'.heap.get? b = some o := fun {s' H''} I' => by
      obtain ⟨k1, k2⟩ := pins_keep hAo I'
      have pin' : ∀ b ∈ fp, ∀ o, s7.heap.get? b = some o → s'.heap.get? b = some o ∧ H'' b = none := fun b hb o e =>
        let z := I'.pin (b, o) (List.mem_append_right _ (List.mem_append_right _ (mem_pinsAt hb e)))
        ⟨z.1, z.2.1⟩
      have hl : (wipe σ vs).length = σ8.length := by rw [← hw8, wipe_length]
      refine ⟨k1, ?_, T.keep _ _ _ st7 fun b hb o e => (pin' b hb o e).1, fun b hb => ?_, fun b hb => ?_⟩
      · rw [k2]
        refine I'.unpinned.weak hl fun j v e => ?_
        rw [← hw8] at e
        exact (wipe_some e).1
      · obtain ⟨o, e, _⟩ := T.obj _ _ st7 b hb
        exact (pin' b hb o e).2
      · rw [k1 b hb]
        exact hAo b hb
    cases b with
    | false =>
      rw [if_neg Bool.false_ne_true] at q9
      simp only [Bool.false_eq_true, if_false]
      obtain ⟨k1, J9, t9, n9, a9⟩ := fin I9
      obtain ⟨m', hm', w'⟩ := hNx _ _ q9
      exact seg_again rfl (ih m' hm' n (i + 1) ys s₀ s9 (by omega) (fun b hb => (k1 b hb).trans (hs0 b hb)) ⟨H9, J9, t9, n9, a9, hLk _ _ _ k1 hlk, w'⟩)
    | true =>
      rw [if_pos rfl] at q9
      simp only [if_true]
      have hy : ∀ v, yieldOut cenv v = yieldValue v := fun v => by simp only [yieldOut, hco, Bool.false_eq_true, if_false]
      simp only [hy]
      rw [Sem.bind_eq_wrap', Sem.bind_eq_wrap', Sem.wrap_wrap, Sem.wrap_wrap]
      refine seg_wrap ?_
      rw [hov]
      refine thnF (pe.run _ s9 σ8 H9 _ I9 q9) fun u5 s10 ⟨y, H10, I10, ry, q10⟩ => ?_
      obtain ⟨k1, J10, t10, n10, a10⟩ := fin I10
      cases n with
      | zero => exact absurd hmn (Nat.not_lt_zero _)
      | succ n =>
        refine seg_at (seg_yield rfl rfl rfl ⟨fun b hb => (k1 b hb).trans (hs0 b hb), ys, y, H10, Nx, ry, J10, hLk _ _ _ k1 hlk, q10, fun s'' hal hl2 hnx => ?_⟩)
        obtain ⟨m', hm', w'⟩ := hNx _ _ hnx
        refine seg_again rfl (ih m' hm' n (i + 1) (ys ++ [y]) s'' s'' (by omega) (fun _ _ => rfl) ⟨H10, Inv.slp rfl hA a10 J10 hal, T.keep _ _ _ t10 fun b hb o e => hal.keep b o (fun z => (hA b z).2.2.1 hb) e, n10, fun b hb => let ⟨o, e, _⟩ := hal.own b hb; ⟨o, e⟩, hl2, w'⟩)
end
end GL
set_option Elab.async false
set_option linter.all false
set_option maxRecDepth 100000
set_option maxHeartbeats 4000000
namespace GL
open PySem PySem.Spec PyProof.Rows L2 GenW
section
variable {X : Cx} {σ : L2.St} {H1 : Hp} {s1 : Shared} {cenv : Env} {fp : List Addr} {B A : Around} {vs : List Nat} {it : Addr} {tn : Nat → Heap → Prop} {J : It} {elt tg iter : Expr} {ifs : List Expr} {scope : Scope} {gpos : Pos} {g : TG} {tt : TT} {te : TE} {As : List Addr}
  {Lk : List V → Heap → Prop} {Wi : Nat → Nat → List V → Hp → Prop} {Cst : List V → V → Hp → (Hp → Prop) → Prop} {Cend : List V → Hp → Prop}
theorem seg_start (hc : X.calm = true) (hco : cenv.scope.isCoroutine = false) (hov : A.over (.compLoop (.GeneratorExp elt [⟨tg, iter, ifs, 0⟩] scope gpos) 0 (.ref it) .none cenv) [] = B)
    (T : Turn X.prog X.w X.K tg J fp it tn) (pg : PG (genCx X B s1 H1 cenv fp) tg g) (pt : PTs (genCx X B s1 H1 cenv fp) ifs tt) (pe : PE (genCx X B s1 H1 cenv fp) elt te) (hA : CpOk (genCx X B s1 H1 cenv fp) fp As) (hst : Step J g tt te vs σ Cst Cend Wi) (hLk : ∀ ys h h', (∀ b ∈ As, h'.get? b = h.get? b) → Lk ys h → Lk ys h')
    {m : Nat} {ys : List V} {s : Shared} (hw : GW (genCx X B s1 H1 cenv fp) (wipe σ vs) tn fp As Lk Wi 0 m ys s) :
      Seg (model X.prog X.w) A (RG (genCx X B s1 H1 cenv fp) (wipe σ vs) As Lk Cend) (YG (genCx X B s1 H1 cenv fp) (wipe σ vs) tn fp As Lk Wi Cst) (m + 1) s
        (.compStart (.GeneratorExp elt [⟨tg, iter, ifs, 0⟩] scope gpos) 0 (.ref it) .none cenv) ((model X.prog X.w).den (.compStart (.GeneratorExp elt [⟨tg, iter, ifs, 0⟩] scope gpos) 0 (.ref it) .none cenv)) [] s := by
  have loop := seg_gen (iter := iter) (scope := scope) (gpos := gpos) (fun b hb => by simp at hb) hc hco hov T pg pt pe hA hst hLk m (m + 1) 0 ys s s (Nat.lt_succ_self m) (fun _ _ => rfl) hw
  obtain ⟨H', I, hti, _⟩ := hw
  show Seg _ A _ _ _ s _ ((compStart (.GeneratorExp elt [⟨tg, iter, ifs, 0⟩] scope gpos) 0 (.ref it) .none cenv).onRaise (leaving cenv)) [] s
  unfold compStart
  rw [Sem.onRaise_eq_wrap]
  show Seg _ A _ _ _ s _ ((ask >>= _).wrap _ _ _ _) [] s
  refine seg_bind_wrap (wpAny_askSetting ?_)
  split
  · exact seg_again rfl loop
  · first
      | exact seg_bind_wrap (wpAny_rule (seg_bind_wrap (wpAny_standAt (seg_bind_wrap (T.self _ 0 s _ _ hti (seg_again rfl loop))))))
      | (refine seg_bind_wrap (wpAny_rule ?_); show Seg _ A _ _ _ s _ ((standAt iter.pos >>= _).wrap _ _ _ _) [] s; exact seg_bind_wrap (wpAny_standAt (seg_bind_wrap (T.self _ 0 s _ _ hti (seg_again rfl loop)))))
end
theorem over_frames {A : Around} {st : List Env} {elt tg iter : Expr} {ifs : List Expr} {scope : Scope} {gpos : Pos} {it : Value} {cenv : Env} (h : A.frames = some st) : (A.over (.compLoop (.GeneratorExp elt [⟨tg, iter, ifs, 0⟩] scope gpos) 0 it .none cenv) []).frames = some (cenv :: st) := by
  simp [Around.over, pushEnvs_eq, envsOf, Code.envs, Code.env?, Code.isFrame, Code.frames, Code.weight, Code.isCreation, Code.isCaller, h]
theorem over_guards {A : Around} {elt tg iter : Expr} {ifs : List Expr} {scope : Scope} {gpos : Pos} {it : Value} {cenv : Env} (h : A.guards = some []) : (A.over (.compLoop (.GeneratorExp elt [⟨tg, iter, ifs, 0⟩] scope gpos) 0 it .none cenv) []).guards = some [] := by
  simp [Around.over, pushGuards_eq, guardsOf, Code.guards, Code.isGuard, Code.frames, h]
theorem over_room {k : Nat} {A : Around} {elt tg iter : Expr} {ifs : List Expr} {scope : Scope} {gpos : Pos} {it : Value} {cenv : Env} (h : Room (k + 1) A) : Room k (A.over (.compLoop (.GeneratorExp elt [⟨tg, iter, ifs, 0⟩] scope gpos) 0 it .none cenv) []) :=
  ⟨h.hd, by have := h.dp; show A.depth + 0 + 1 + 3 * k + 5 < _; omega, by have := h.un; show A.units + 0 + 3 + 16 * k + 200 < _; omega⟩
structure Ready (X : Cx) (k : Nat) (pins : List (Addr × Obj)) (σ : L2.St) (Cst : List V → V → Hp → (Hp → Prop) → Prop) (Cend : List V → Hp → Prop) (a : Addr) (s5 : Shared) : Prop where
  ex : ∃ (gn : Nat) (c : Code) (n : Nat) (tn : Nat → Heap → Prop) (fp : List Addr) (σw : L2.St) (Wi : Nat → Nat → List V → Hp → Prop) (G : Around → Cx), s5.heap.IsGen a gn ∧ s5.gens[gn]? = some (.fresh c) ∧ s5.heap.NoLimit ∧ AllBare s5.gens ∧ (∀ A, (G A).prog = X.prog ∧ (G A).w = X.w) ∧
    (∀ (A : Around) (As : List Addr) (Lk : List V → Heap → Prop) (s2 : Shared), (∀ ys h h', (∀ b ∈ As, h'.get? b = h.get? b) → Lk ys h → Lk ys h') → Lk [] s2.heap → Room (k + 1) A → A.frames = some X.stack → A.guards = some [] → (∀ b ∈ As, a ≤ b) → (∀ b o, s5.heap.get? b = some o → s2.heap.get? b = some o) → (∀ b ∈ As, ∃ o, s2.heap.get? b = some o ∧ ∀ v, o.data ≠ .cell v) → s2.os = s5.os → AllBare s2.gens →
      Seg (model X.prog X.w) A (RG (G A) σw As Lk Cend) (YG (G A) σw tn fp As Lk Wi Cst) n s2 c ((model X.prog X.w).den c) [] s2) ∧
    (∀ (A : Around) (As : List Addr) (H' : Hp) (s' : Shared), Inv (G A) (pinsAt As s'.heap) σw H' s' → Inv X pins σ H' s' ∧ s'.heap.NoLimit)
def tGx (P : Addr) (wi : TI) (g : TG) (tt : TT) (te : TE) (vs : List Nat) (Cst : List V → V → Hp → (Hp → Prop) → Prop) (Cend : List V → Hp → Prop) : L2.St → Hp → Prop := fun σ H => wi σ H fun J H1 => GxR.TabG H1 P ∧ ∀ H2, GxR.Tabbed P H1 H2 →
  ∃ (Wi : Nat → Nat → List V → Hp → Prop) (m0 : Nat), Wi 0 m0 [] H2 ∧ Step J g tt te vs σ Cst Cend Wi
section
variable {X : Cx} {pins : List (Addr × Obj)} {σ : L2.St} {H : Hp} {s : Shared} {k : Nat}
theorem gen_made {c P : Addr} {elt tg iter : Expr} {ifs : List Expr} {gpos : Pos} {scope : Scope} {own : List (Str × Nat)} {wi : TI} {g : TG} {tt : TT} {te : TE} {Q' : Value → Shared → Prop} {Cst : List V → V → Hp → (Hp → Prop) → Prop} {Cend : List V → Hp → Prop}
    (hr : Room k X.A) (hc : X.calm = true) (hN : X.N.Nodup) (TB : GxR.TabB X.base X.mg c P) (hcode : X.env.code = .ref c) (hco : scope.isCoroutine = false) (hcell : ∀ y ∈ scope.names, y.2 ≠ .cell) (h0 : scope.names.lookup (".0" : Str) = some NameKind.local) (ok : BlkOk X.N X.env.scope scope own) (hi : PI X tg iter wi)
    (hg : ∀ (B : Around) (s : Shared) (H : Hp) (C : Addr) (code : Value) (fp : List Addr), Room k B → B.guards = some [] → PG (genCx X B s H (genEnv scope (cloFrom X.env.cells scope.names []) C code builtinsNs X.env) fp) tg g)
    (ht : ∀ (B : Around) (s : Shared) (H : Hp) (C : Addr) (code : Value) (fp : List Addr), Room k B → B.guards = some [] → PTs (genCx X B s H (genEnv scope (cloFrom X.env.cells scope.names []) C code builtinsNs X.env) fp) ifs tt)
    (he : ∀ (B : Around) (s : Shared) (H : Hp) (C : Addr) (code : Value) (fp : List Addr), Room k B → B.guards = some [] → PE (genCx X B s H (genEnv scope (cloFrom X.env.cells scope.names []) C code builtinsNs X.env) fp) elt te)
    (hs : ∀ v, genFold iter X.env v = pure v) (I : Inv X pins σ H s) (h : tGx P wi g tt te (own.map (·.2)) Cst Cend σ H)
    (hQ : ∀ a s5, Ready X k pins σ Cst Cend a s5 → Q' (.ref a) s5) :
    wpAny (model X.prog X.w) X.A (eval (.GeneratorExp elt [⟨tg, iter, ifs, 0⟩] scope gpos) X.env) Q' X.xe s := by
  have hfree : ∀ y ∈ scope.names, y.2 = .free → ∃ c, X.env.cells.lookup y.1 = some c := fun y hy e => by
    rcases ok.free y hy e with k | k
    · exact I.ok.has _ (.inl k)
    · exact I.ok.has _ (.inr k)
  refine wpAny_GeneratorExp_make hco (closure_ok hfree) hcell h0 ok.kind (by have := hr.dp; omega) ?_ hs
  refine thn (hi.run pins s σ H _ I h) ?_
  intro xv s1 h1
  refine thn h1 ?_
  rintro itv s2 ⟨it, fp, tn, J, H2, rfl, I2, T, st2, f2, hT, q⟩
  refine ⟨I2.nolimit, ?_⟩
  obtain ⟨ps, hP, htr⟩ := _root_.id hT
  have gP : s2.heap.get? P = some { cls := .none, data := .fields ps } := I2.hok P _ hP
  have cd : PySem.W.CodeHd s2.heap c P := TB.code.keeps fun b u e => I2.bk b u e
  have go : ∀ (code : Value) (h3 : Heap) (tk : Nat) (ps' : Array Value), Heap.ExtBut P s2.heap h3 → s2.heap.objs.size ≤ h3.objs.size → h3.get? P = some { cls := .none, data := .fields ps' } → (∃ more, ps' = ps ++ more) → TriplesOk ps'.toList →
      wpAny (model X.prog X.w) X.A (builtinsFor X.env.globals X.env.builtins) (fun bi s4 => ∀ h', h'.Ns s4.heap.objs.size (fun y => if y = ".0" then some (Value.ref it) else none) → Heap.SameBut s4.heap.objs.size (s4.heap.push { cls := .type "frame", data := .dict #[] }) h' →
          Q' (.ref h'.objs.size) { s4 with
            gens := s4.gens.push (.fresh (.compStart (.GeneratorExp elt [⟨tg, iter, ifs, 0⟩] scope gpos) 0 (.ref it) .none (genEnv scope (cloFrom X.env.cells scope.names []) s4.heap.objs.size code bi X.env))),
            toks := s4.toks + 1 + 1 + 1,
            heap := h'.push { cls := .type "generator", data := .fields #[.int s4.gens.size 0, .str "<genexpr>" (s4.toks + 1), .str (X.env.qual ++ "<genexpr>") (s4.toks + 1 + 1)] } }) X.xe { s2 with heap := h3, toks := tk } := by
    intro code h3 tk ps' ext sz P3 more tr
    obtain ⟨bm, ob', b1, b2, b3, b4, b5, b6, b7, b8⟩ := TB.bm
    have keep3 : ∀ b u, b ≠ P → s2.heap.get? b = some u → h3.get? b = some u := fun b u hb e => ext b u hb e
    obtain ⟨mr, rfl⟩ := more
    have J3 := GxR.inv_tab (more := mr) (h' := h3) (g' := s2.gens) (d' := s2.drawn) (t' := tk) I2 hP keep3 P3 I2.bare
    refine wpAny_builtinsFor (m := X.mg) (by rw [I2.ok.glob]; exact (I2.mod.glob.keeps I2.bk).extBut ext TB.gP) b1 b2 (keep3 _ _ b4 (I2.bk _ _ b5)) b6 b7 b8 ?_
    intro h' hn' hs'
    obtain ⟨Wi, m0, w0, hst⟩ := q (upd H2 P (.tbl (ps ++ mr))) ⟨⟨_, upd_same, tr⟩, fun b hb => upd_ne hb⟩
    -- the state ahead of the frame
    generalize hs4 : ({ s2 with heap := h3, toks := tk } : Shared) = s4 at J3 hn' hs' ⊢
    have e4 : s4.heap = h3 := by rw [← hs4]
    have e4g : s4.gens = s2.gens := by rw [← hs4]
    have hsz : h'.objs.size = s4.heap.objs.size + 1 := by rw [hs'.1, Heap.size_push]
    have keep' : ∀ b o, s4.heap.get? b = some o → h'.get? b = some o := fun b o e => by
      exact hs'.extBut b o (Nat.ne_of_lt (Heap.lt_size e)) (Heap.get?_push_of_some _ e)
    have fpP : ∀ b ∈ fp, b ≠ P := fun b hb z => by
      obtain ⟨o, eo, _⟩ := T.obj _ _ st2 b hb
      have := (f2 b hb).1
      rw [z, hP] at this
      cases this
    have f4 : ∀ b ∈ fp, FpOk X pins (upd H2 P (.tbl (ps ++ mr))) b ∧ b < s4.heap.objs.size := fun b hb => by
      obtain ⟨o, eo, _⟩ := T.obj _ _ st2 b hb
      refine ⟨⟨by rw [upd_ne (fpP b hb)]; exact (f2 b hb).1, (f2 b hb).2⟩, ?_⟩
      rw [e4]
      exact Nat.lt_of_lt_of_le (Heap.lt_size eo) sz
    have st4 : tn 0 s4.heap := T.keep _ _ _ st2 fun b hb o e => by rw [e4]; exact keep3 b o (fpP b hb) e
    generalize hgo : ({ cls := .type "generator", data := .fields #[.int s4.gens.size 0, .str "<genexpr>" (s4.toks + 1), .str (X.env.qual ++ "<genexpr>") (s4.toks + 1 + 1)] } : Obj) = go
    have keep5 : ∀ b o, s4.heap.get? b = some o → (h'.push go).get? b = some o := fun b o e => Heap.get?_push_of_some _ (keep' b o e)
    refine hQ _ _ ⟨s4.gens.size, .compStart (.GeneratorExp elt [⟨tg, iter, ifs, 0⟩] scope gpos) 0 (.ref it) .none (genEnv scope (cloFrom X.env.cells scope.names []) s4.heap.objs.size code builtinsNs X.env), m0 + 1, tn, fp, wipe σ (own.map (·.2)), Wi, fun A => genCx X (A.over (.compLoop (.GeneratorExp elt [⟨tg, iter, ifs, 0⟩] scope gpos) 0 (.ref it) .none (genEnv scope (cloFrom X.env.cells scope.names []) s4.heap.objs.size code builtinsNs X.env)) []) s4 (upd H2 P (.tbl (ps ++ mr))) (genEnv scope (cloFrom X.env.cells scope.names []) s4.heap.objs.size code builtinsNs X.env) fp, ?_, ?_, ?_, ?_, fun _ => ⟨rfl, rfl⟩, ?_, ?_⟩
    · refine ⟨go, _, _, Heap.get?_push_size _ (by rw [← hgo]; rfl), by rw [← hgo], by rw [← hgo], by rw [← hgo]⟩
    · exact Array.getElem?_push_size ..
    · exact J3.nolimit.keeps keep5
    · exact AllBare.push J3.bare rfl
    · intro A As Lk s6 hLk hl0 hrA hfrA hgdA hAs hk6 hAo hos6 hb6
      have hB : Room k (A.over (.compLoop (.GeneratorExp elt [⟨tg, iter, ifs, 0⟩] scope gpos) 0 (.ref it) .none (genEnv scope (cloFrom X.env.cells scope.names []) s4.heap.objs.size code builtinsNs X.env)) []) := over_room hrA
      have hBg := over_guards (elt := elt) (tg := tg) (iter := iter) (ifs := ifs) (scope := scope) (gpos := gpos) (it := .ref it) (cenv := genEnv scope (cloFrom X.env.cells scope.names []) s4.heap.objs.size code builtinsNs X.env) hgdA
      have hBf := over_frames (elt := elt) (tg := tg) (iter := iter) (ifs := ifs) (scope := scope) (gpos := gpos) (it := .ref it) (cenv := genEnv scope (cloFrom X.env.cells scope.names []) s4.heap.objs.size code builtinsNs X.env) hfrA
      have kp6 : ∀ b o, s4.heap.get? b = some o → s6.heap.get? b = some o := fun b o e => hk6 b o (keep5 b o e)
      have ns6 : s6.heap.Ns s4.heap.objs.size (fun y => if y = ".0" then some (Value.ref it) else none) := by
        exact (hn'.push go).keeps fun b o e => hk6 b o e
      have I6 := gen_start (code := code) J3 ok hcell hN f4 (fun _ => hB.hd) hBf kp6 hos6 hb6 ns6
      have hCp : CpOk (genCx X (A.over (.compLoop (.GeneratorExp elt [⟨tg, iter, ifs, 0⟩] scope gpos) 0 (.ref it) .none (genEnv scope (cloFrom X.env.cells scope.names []) s4.heap.objs.size code builtinsNs X.env)) []) s4 (upd H2 P (.tbl (ps ++ mr))) (genEnv scope (cloFrom X.env.cells scope.names []) s4.heap.objs.size code builtinsNs X.env) fp) fp As := by
        intro b hb
        have hlt : s4.heap.objs.size + 1 ≤ b := by rw [← hsz]; exact hAs b hb
        refine ⟨Nat.le_of_succ_le hlt, Nat.ne_of_gt hlt, fun z => ?_, fun x c' e z => ?_⟩
        · exact absurd (Nat.lt_of_lt_of_le (f4 b z).2 (Nat.le_of_succ_le hlt)) (Nat.lt_irrefl _)
        · obtain ⟨v, zc⟩ := I6.cell x c' e
          rcases cloFrom_mem (PySem.mem_of_lookup (show (cloFrom X.env.cells scope.names []).lookup x = some c' from e)) with hm | ⟨h1, h2⟩
          · cases hm
          · obtain ⟨c2, hc2⟩ := hfree _ h1 rfl
            obtain ⟨v2, z2⟩ := J3.cell _ _ hc2
            have : c' = c2 := by rw [h2, hc2]; rfl
            have l2 := z2.lt
            rw [← this, z] at l2
            exact absurd (Nat.lt_of_lt_of_le l2 (Nat.le_of_succ_le hlt)) (Nat.lt_irrefl _)
      have I7 : Inv (genCx X (A.over (.compLoop (.GeneratorExp elt [⟨tg, iter, ifs, 0⟩] scope gpos) 0 (.ref it) .none (genEnv scope (cloFrom X.env.cells scope.names []) s4.heap.objs.size code builtinsNs X.env)) []) s4 (upd H2 P (.tbl (ps ++ mr))) (genEnv scope (cloFrom X.env.cells scope.names []) s4.heap.objs.size code builtinsNs X.env) fp) (pinsAt As s6.heap) (wipe σ (own.map (·.2))) (upd H2 P (.tbl (ps ++ mr))) s6 := by
        refine I6.pins_of fun p hp => ?_
        obtain ⟨hb, e⟩ := of_pinsAt hp
        obtain ⟨o, e2, hd⟩ := hAo p.1 hb
        have e3 : o = p.2 := Option.some.inj (e2.symm.trans e)
        have hlt : s4.heap.objs.size + 1 ≤ p.1 := by rw [← hsz]; exact hAs p.1 hb
        exact ⟨e, J3.hok.fresh (Nat.le_of_succ_le hlt), (hCp p.1 hb).2.1, fun z => by
          obtain ⟨_, o, ho, _⟩ := (I6.ok.funs).mem z
          have h9 : p.1 < s4.heap.objs.size := Heap.lt_size ho
          exact absurd (Nat.lt_of_lt_of_le h9 (Nat.le_of_succ_le hlt)) (Nat.lt_irrefl _), by rw [← e3]; exact hd⟩
      exact seg_start (iter := iter) hc hco rfl T (hg _ _ _ _ _ _ hB hBg) (ht _ _ _ _ _ _ hB hBg) (he _ _ _ _ _ _ hB hBg) hCp hst hLk ⟨_, I7, T.keep _ _ _ st4 fun b hb o e => kp6 b o e, fun b hb => (f4 b hb).1.1, fun b hb => let ⟨o, e, _⟩ := hAo b hb; ⟨o, e⟩, hl0, w0⟩
    · intro A As H' s' I'
      have I7 : Inv X pins σ H' s' := J3.call' (ch := fp) I'.os I'.base I'.hok I'.bare fun b hb => ⟨(f4 b hb).1.2.2.2.1, (f4 b hb).1.2.1, (f4 b hb).1.2.2.2.2.1, (f4 b hb).1.2.2.2.2.2⟩
      exact ⟨I7, I7.nolimit⟩
  cases hf : codeAmong gpos ps.toList with
  | some cv => exact wpAny_genexprCode_hit hcode (cd.code gP htr) hf (go cv _ s2.toks ps (Heap.ExtBut.refl _ _) (Nat.le_refl _) gP ⟨#[], by simp⟩ htr)
  | none =>
    refine wpAny_genexprCodeX hcode (cd.code gP htr) (cd.tab gP) hf ?_
    intro c' h' tk ext ge lt co _ tab _
    obtain ⟨o1, vs, f1, tf, fl, tg', inF, tx, tt', op, _, _, _, _, _, _, _, _, _, tr, _⟩ := co
    exact go _ h' tk _ ext (Nat.le_trans ge (Nat.le_of_lt lt)) tab.2 ⟨_, rfl⟩ tr
end
end GL
set_option Elab.async false
set_option linter.all false
set_option maxRecDepth 100000
set_option maxHeartbeats 4000000
namespace GL
open PySem PySem.Spec PyProof.Rows L2 GenW
structure Chg (Cs : List Addr) (s s' : Shared) : Prop where
  os : s'.os = s.os
  gens : s'.gens = s.gens
  keep : ∀ b o, b ∉ Cs → s.heap.get? b = some o → s'.heap.get? b = some o
  own : ∀ b ∈ Cs, ∃ o, s'.heap.get? b = some o ∧ ∀ v, o.data ≠ .cell v
theorem Chg.refl {s : Shared} : Chg [] s s := ⟨rfl, rfl, fun _ _ _ e => e, fun b hb => (nomatch hb)⟩
section
variable {X : Cx} {k : Nat} {pins : List (Addr × Obj)} {σ : L2.St} {Cst : List V → V → Hp → (Hp → Prop) → Prop} {Cend : List V → Hp → Prop} {a : Addr} {s5 : Shared}
theorem inv_gens {H : Hp} {s : Shared} {G : Array GenState} (I : Inv X pins σ H s) (h : AllBare G) : Inv X pins σ H { s with gens := G } :=
  I.step (g' := G) (d' := s.drawn) (t' := s.toks) (h' := s.heap) (H' := H) (ch := []) (fun _ z => nomatch z) (fun b o _ _ _ e _ => e) (fun b o _ _ _ e _ => ⟨o.slots, e⟩) (fun _ _ _ _ n => n) (fun b o _ e => ⟨o, e⟩) (fun _ _ q => q) (fun _ _ _ q => q) (fun b ps q => ⟨#[], by rw [q]; simp⟩) (fun _ hm => hm) I.hok h
structure Nxt (X : Cx) (k : Nat) (pins : List (Addr × Obj)) (σ : L2.St) (Cst : List V → V → Hp → (Hp → Prop) → Prop) (Cend : List V → Hp → Prop) (a : Addr) (Cs : List Addr) (Lk : List V → Heap → Prop) (A : Around) (n : Nat) (s : Shared) : Prop where
  ex : ∃ (gn : Nat) (tn : Nat → Heap → Prop) (fp : List Addr) (σw : L2.St) (Wi : Nat → Nat → List V → Hp → Prop) (Xg : Cx) (gs : GenState), s.heap.IsGen a gn ∧ s.heap.NoLimit ∧ AllBare s.gens ∧ s.gens[gn]? = some gs ∧ a ∉ Cs ∧ cStatics ∉ Cs ∧ (∀ b ∈ Cs, ∃ o, s.heap.get? b = some o) ∧
    gs.Goes (model X.prog X.w) A.in1 (RG Xg σw (a :: Cs) Lk Cend) (YG Xg σw tn fp (a :: Cs) Lk Wi Cst) n (.send .none) (s.setGen gn .running) ∧
    (∀ (H' : Hp) (s' : Shared), Inv Xg (pinsAt (a :: Cs) s'.heap) σw H' s' → Inv X pins σ H' s' ∧ s'.heap.NoLimit)
theorem Ready.nxt (R : Ready X k pins σ Cst Cend a s5) {A : Around} {Cs : List Addr} {Lk : List V → Heap → Prop} {s2 : Shared} (hLk : ∀ ys h h', (∀ b ∈ Cs, h'.get? b = h.get? b) → Lk ys h → Lk ys h') (hl0 : Lk [] s2.heap) (hr : Room (k + 2) A) (hf : A.frames = some X.stack) (hg : A.guards = some []) (hCs : ∀ b ∈ Cs, s5.heap.objs.size ≤ b) (hk : ∀ b o, s5.heap.get? b = some o → s2.heap.get? b = some o) (ho : ∀ b ∈ Cs, ∃ o, s2.heap.get? b = some o ∧ ∀ v, o.data ≠ .cell v) (hos : s2.os = s5.os) (hgn : s2.gens = s5.gens) :
    ∃ n, Nxt X k pins σ Cst Cend a Cs Lk A n s2 := by
  obtain ⟨gn, c, n, tn, fp, σw, Wi, G, h1, h2, h3, h4, h5, h6, h7⟩ := R.ex
  have hg2 : s2.heap.IsGen a gn := h1.keeps hk
  have cs : cStatics ∉ Cs := fun z => by
    obtain ⟨mc, hn, _⟩ := _root_.id h3
    exact absurd (Nat.lt_of_lt_of_le hn.lt (hCs _ z)) (Nat.lt_irrefl _)
  have la : a < s5.heap.objs.size := let ⟨o, nm, qn, ho', _⟩ := h1; Heap.lt_size ho'
  refine ⟨n, gn, tn, fp, σw, Wi, G A.in1, .fresh c, hg2, h3.keeps hk, by rw [hgn]; exact h4, by rw [hgn]; exact h2, fun z => absurd (Nat.lt_of_lt_of_le la (hCs a z)) (Nat.lt_irrefl _), cs, fun b hb => let ⟨o, e, _⟩ := ho b hb; ⟨o, e⟩, ⟨rfl, ?_⟩, fun H' s' I' => h7 A.in1 (a :: Cs) H' s' I'⟩
  refine h6 A.in1 (a :: Cs) Lk (s2.setGen gn .running) (fun ys h h' e => hLk ys h h' (fun b hb => e b (List.mem_cons_of_mem _ hb))) hl0 ⟨hr.hd, by have := hr.dp; show A.depth + 3 * (k + 1) + 5 < _; omega, by have := hr.un; show A.units + 1 + 16 * (k + 1) + 200 < _; omega⟩ hf hg (fun b hb => ?_) hk (fun b hb => ?_) hos (allBare_setGen (by rw [hgn]; exact h4) rfl)
  · rcases List.mem_cons.mp hb with z | z
    · rw [z]
      exact Nat.le_refl _
    · exact Nat.le_of_lt (Nat.lt_of_lt_of_le la (hCs b z))
  · rcases List.mem_cons.mp hb with z | z
    · rw [z]
      obtain ⟨o, nm, qn, ho', hcl, hd, _⟩ := hg2
      exact ⟨o, ho', fun v q => by rw [hd] at q; cases q⟩
    · exact ho b z
theorem next_x {A : Around} {Cs : List Addr} {Lk : List V → Heap → Prop} {n : Nat} {s : Shared} {Q : Option Value → Shared → Prop} {E : Value → Shared → Prop} (hh : A.handled = none) (hd : A.depth < recursionLimit) (N : Nxt X k pins σ Cst Cend a Cs Lk A n s)
    (hP : ∀ s' H' ys, Inv X pins σ H' s' → Cend ys H' → (∀ b ∈ Cs, s'.heap.get? b = s.heap.get? b) → (∃ h0, Lk ys h0 ∧ ∀ b ∈ Cs, h0.get? b = s.heap.get? b) → Q none s')
    (hY : ∀ v y ys H' s' (nx : Hp → Prop), RelV y v → Inv X pins σ H' s' → (∀ b ∈ Cs, s'.heap.get? b = s.heap.get? b) → Lk ys s'.heap → Cst ys y H' nx → (∀ s'', Chg Cs s' s'' → Lk (ys ++ [y]) s''.heap → nx H' → ∃ n', n = n' + 1 ∧ Nxt X k pins σ Cst Cend a Cs Lk A n' s'') → Q (some v) s') :
    wpAny (model X.prog X.w) A (pyNext (.ref a)) Q E s := by
  obtain ⟨gn, tn, fp, σw, Wi, Xg, gs, h1, h2, h3, h4, h5, h5c, h5o, h6, h7⟩ := N.ex
  have hgl : gn < s.gens.size := (Array.getElem?_eq_some_iff.mp h4).1
  refine wpAny_gsz (n := gn + 1) hgl (wpAny_pyNext_genexpQ (P := fun _ s₀ s₁ => (∀ b ∈ a :: Cs, s₁.heap.get? b = s₀.heap.get? b) ∧ ∃ H' ys, Inv Xg (pinsAt (a :: Cs) s₁.heap) σw H' s₁ ∧ Lk ys s₁.heap ∧ Cend ys H') hh h2 hd h1 h4 h6 (fun v s₁ gs' hb hv => ?_) (fun s₁ hp h' hk => ?_))
  · intro hsz
    obtain ⟨hAs, ys, y, H', Nx, ry, I, hl, hC, kap⟩ := hv
    obtain ⟨I1, l1⟩ := h7 H' s₁ I
    have hsz1 : gn < s₁.gens.size := by
      have q : (s₁.setGen gn gs').gens.size = s₁.gens.size := setGen_size _ _ _
      have hsz' : gn + 1 ≤ (s₁.setGen gn gs').gens.size := hsz
      omega
    have b1 := allBare_setGen (g := gn) I.bare hb
    refine hY v y ys H' (s₁.setGen gn gs') (Nx (ys ++ [y])) ry (inv_gens I1 b1) (fun b hb => hAs b (List.mem_cons_of_mem _ hb)) hl hC fun s'' ch hl2 hnx => ?_
    have ga : s''.heap.IsGen a gn := by
      obtain ⟨o, nm, qn, ho, r⟩ := h1
      have e1 : s₁.heap.get? a = some o := (hAs a List.mem_cons_self).trans ho
      exact ⟨o, nm, qn, ch.keep a o h5 e1, r⟩
    have sl : Slp (a :: Cs) s₁ (s''.setGen gn .running) := by
      refine ⟨ch.os, allBare_setGen (by rw [ch.gens]; exact b1) rfl, fun b o nb e => ch.keep b o (fun z => nb (List.mem_cons_of_mem _ z)) e, fun b hb => ?_⟩
      rcases List.mem_cons.mp hb with z | z
      · rw [z]
        obtain ⟨o, nm, qn, ho', hcl, hd', _⟩ := ga
        exact ⟨o, ho', fun v q => by rw [hd'] at q; cases q⟩
      · exact ch.own b z
    have go := kap (s''.setGen gn .running) sl hl2 hnx
    cases n with
    | zero => exact go.elim
    | succ n' =>
      refine ⟨n', rfl, gn, tn, fp, σw, Wi, Xg, gs', ga, ?_, by rw [ch.gens]; exact b1, by rw [ch.gens]; exact setGen_at hsz1, h5, h5c, fun b hb => let ⟨o, e, _⟩ := ch.own b hb; ⟨o, e⟩, go, h7⟩
      obtain ⟨mc, hns, hnn⟩ := l1
      exact ⟨mc, hns.at' fun o e => ch.keep _ o h5c e, hnn⟩
  · intro _
    obtain ⟨hAs, H', ys, I, hl, hE⟩ := hp
    obtain ⟨I1, _⟩ := h7 H' s₁ I
    refine hP _ H' ys ?_ hE (fun b hb => ?_) ⟨s₁.heap, hl, fun b hb => hAs b (List.mem_cons_of_mem _ hb)⟩
    · have I2 := inv_gens I1 (allBare_setGen (g := gn) (x := .finished) I.bare rfl)
      exact I2.kept (t' := s₁.toks) hk
    · obtain ⟨o, e⟩ := h5o b hb
      show h'.get? b = _
      rw [e]
      refine hk b o ?_
      rw [hAs b (List.mem_cons_of_mem _ hb)]
      exact e
theorem any_loop {A : Around} {R : Result → Shared → Prop} (hh : A.handled = none) (hd : A.depth < recursionLimit) {Qa : VK} (hR : ∀ b H' s', Inv X pins σ H' s' → Qa (.bl b) H' → R (.ok (.ret (.bool b))) s') : ∀ (n : Nat) (s : Shared),
    Nxt X k pins σ (fun _ y H nx => ∃ b, y = .bl b ∧ if b = true then Qa (.bl true) H else nx H) (fun _ H => Qa (.bl false) H) a [] (fun _ _ => True) A.in1 n s → codeAny (model X.prog X.w) A (.builtin "any.loop" ⟨[.ref a], []⟩) R s := by
  intro n
  induction n with
  | zero =>
    intro s N
    refine codeAny_builtin F.entry_any_loop ?_
    rw [Around.under_plainId F.plain_any_loop _]
    show wpAny _ A.in1 (pyNext (.ref a) >>= _) _ _ s
    refine wpAny_bind (next_x (A := A.in1) hh hd N (fun s' H' ys I q _ _ => wpAny_bind (wpAny_rule (wpAny_pure (hR false H' s' I q)))) fun v y ys H' s' nx ry I _ _ hC nxt => ?_)
    obtain ⟨b, rfl, hb⟩ := hC
    obtain rfl : v = Value.bool b := ry
    refine wpAny_bind (wpAny_holding (wpAny_truthy_bool ?_))
    refine wpAny_bind (wpAny_letGo ?_)
    cases b with
    | false =>
      rw [if_neg Bool.false_ne_true] at hb
      obtain ⟨n', z, _⟩ := nxt s' .refl trivial hb
      cases z
    | true => exact wpAny_bind (wpAny_rule (wpAny_pure (hR true H' s' I hb)))
  | succ n ih =>
    intro s N
    refine codeAny_builtin F.entry_any_loop ?_
    rw [Around.under_plainId F.plain_any_loop _]
    show wpAny _ A.in1 (pyNext (.ref a) >>= _) _ _ s
    refine wpAny_bind (next_x (A := A.in1) hh hd N (fun s' H' ys I q _ _ => wpAny_bind (wpAny_rule (wpAny_pure (hR false H' s' I q)))) fun v y ys H' s' nx ry I _ _ hC nxt => ?_)
    obtain ⟨b, rfl, hb⟩ := hC
    obtain rfl : v = Value.bool b := ry
    refine wpAny_bind (wpAny_holding (wpAny_truthy_bool ?_))
    refine wpAny_bind (wpAny_letGo ?_)
    cases b with
    | false =>
      rw [if_neg Bool.false_ne_true] at hb
      obtain ⟨n', z, N'⟩ := nxt s' .refl trivial hb
      cases z
      simp only [Bool.false_eq_true, if_false]
      exact wpAny_pure ⟨plainId_quiet F.plain_any_loop _, ih s' N'⟩
    | true => exact wpAny_bind (wpAny_rule (wpAny_pure (hR true H' s' I hb)))
theorem all_loop {A : Around} {R : Result → Shared → Prop} (hh : A.handled = none) (hd : A.depth < recursionLimit) {Qa : VK} (hR : ∀ b H' s', Inv X pins σ H' s' → Qa (.bl b) H' → R (.ok (.ret (.bool b))) s') : ∀ (n : Nat) (s : Shared),
    Nxt X k pins σ (fun _ y H nx => ∃ b, y = .bl b ∧ if b = true then nx H else Qa (.bl false) H) (fun _ H => Qa (.bl true) H) a [] (fun _ _ => True) A.in1 n s → codeAny (model X.prog X.w) A (.builtin "all.loop" ⟨[.ref a], []⟩) R s := by
  intro n
  induction n with
  | zero =>
    intro s N
    refine codeAny_builtin F.entry_all_loop ?_
    rw [Around.under_plainId F.plain_all_loop _]
    show wpAny _ A.in1 (pyNext (.ref a) >>= _) _ _ s
    refine wpAny_bind (next_x (A := A.in1) hh hd N (fun s' H' ys I q _ _ => wpAny_bind (wpAny_rule (wpAny_pure (hR true H' s' I q)))) fun v y ys H' s' nx ry I _ _ hC nxt => ?_)
    obtain ⟨b, rfl, hb⟩ := hC
    obtain rfl : v = Value.bool b := ry
    refine wpAny_bind (wpAny_holding (wpAny_truthy_bool ?_))
    refine wpAny_bind (wpAny_letGo ?_)
    cases b with
    | true =>
      rw [if_pos rfl] at hb
      obtain ⟨n', z, _⟩ := nxt s' .refl trivial hb
      cases z
    | false => exact wpAny_bind (wpAny_rule (wpAny_pure (hR false H' s' I hb)))
  | succ n ih =>
    intro s N
    refine codeAny_builtin F.entry_all_loop ?_
    rw [Around.under_plainId F.plain_all_loop _]
    show wpAny _ A.in1 (pyNext (.ref a) >>= _) _ _ s
    refine wpAny_bind (next_x (A := A.in1) hh hd N (fun s' H' ys I q _ _ => wpAny_bind (wpAny_rule (wpAny_pure (hR true H' s' I q)))) fun v y ys H' s' nx ry I _ _ hC nxt => ?_)
    obtain ⟨b, rfl, hb⟩ := hC
    obtain rfl : v = Value.bool b := ry
    refine wpAny_bind (wpAny_holding (wpAny_truthy_bool ?_))
    refine wpAny_bind (wpAny_letGo ?_)
    cases b with
    | true =>
      rw [if_pos rfl] at hb
      obtain ⟨n', z, N'⟩ := nxt s' .refl trivial hb
      cases z
      simp only [if_true]
      exact wpAny_pure ⟨plainId_quiet F.plain_all_loop _, ih s' N'⟩
    | false => exact wpAny_bind (wpAny_rule (wpAny_pure (hR false H' s' I hb)))
theorem call_anyX {Q : Value → Shared → Prop} {E : Value → Shared → Prop} {Qa : VK} (hr : Room (k + 3) X.A) (hf : X.A.frames = some X.stack) (hg : X.A.guards = some []) (R : Ready X k pins σ (fun _ y H nx => ∃ b, y = .bl b ∧ if b = true then Qa (.bl true) H else nx H) (fun _ H => Qa (.bl false) H) a s5)
    (hQ : ∀ b H' s', Inv X pins σ H' s' → Qa (.bl b) H' → Q (.bool b) s') : wpAny (model X.prog X.w) X.A (call (.builtin "any") [.ref a]) Q E s5 := by
  obtain ⟨n, N⟩ := R.nxt (A := X.A.in1) (Cs := []) (Lk := fun _ _ => True) (s2 := s5) (fun _ _ _ _ _ => trivial) trivial ⟨hr.hd, by have := hr.dp; show X.A.depth + 3 * (k + 2) + 5 < _; omega, by have := hr.un; show X.A.units + 1 + 16 * (k + 2) + 200 < _; omega⟩ hf hg (fun b hb => (nomatch hb)) (fun _ _ e => e) (fun b hb => (nomatch hb)) rfl rfl
  refine call_function_tree F.kind_any F.plain_any F.entry_any (F.args_any1 _) ?_
  unfold Builtin.«any»
  refine wpAny_bind (m := oneArg "any" _) (wpAny_pure ?_)
  obtain ⟨gn, tn, fp, σw, Wi, Xg, gs, h1, h2⟩ := N.ex
  refine wpAny_bind (wpAny_pyIter_gen h1 ?_)
  exact wpAny_pure ⟨plainId_quiet F.plain_any_loop _, any_loop hr.hd (by have := hr.dp; omega) (fun b H' s' I q => hQ b H' s' I q) n s5 N⟩
theorem call_allX {Q : Value → Shared → Prop} {E : Value → Shared → Prop} {Qa : VK} (hr : Room (k + 3) X.A) (hf : X.A.frames = some X.stack) (hg : X.A.guards = some []) (R : Ready X k pins σ (fun _ y H nx => ∃ b, y = .bl b ∧ if b = true then nx H else Qa (.bl false) H) (fun _ H => Qa (.bl true) H) a s5)
    (hQ : ∀ b H' s', Inv X pins σ H' s' → Qa (.bl b) H' → Q (.bool b) s') : wpAny (model X.prog X.w) X.A (call (.builtin "all") [.ref a]) Q E s5 := by
  obtain ⟨n, N⟩ := R.nxt (A := X.A.in1) (Cs := []) (Lk := fun _ _ => True) (s2 := s5) (fun _ _ _ _ _ => trivial) trivial ⟨hr.hd, by have := hr.dp; show X.A.depth + 3 * (k + 2) + 5 < _; omega, by have := hr.un; show X.A.units + 1 + 16 * (k + 2) + 200 < _; omega⟩ hf hg (fun b hb => (nomatch hb)) (fun _ _ e => e) (fun b hb => (nomatch hb)) rfl rfl
  refine call_function_tree F.kind_all F.plain_all F.entry_all (F.args_all1 _) ?_
  unfold Builtin.«all»
  refine wpAny_bind (m := oneArg "all" _) (wpAny_pure ?_)
  obtain ⟨gn, tn, fp, σw, Wi, Xg, gs, h1, h2⟩ := N.ex
  refine wpAny_bind (wpAny_pyIter_gen h1 ?_)
  exact wpAny_pure ⟨plainId_quiet F.plain_all_loop _, all_loop hr.hd (by have := hr.dp; omega) (fun b H' s' I q => hQ b H' s' I q) n s5 N⟩
end
end GL
set_option Elab.async false
set_option linter.all false
set_option maxRecDepth 100000
set_option maxHeartbeats 4000000
namespace GL
open PySem PySem.Spec PyProof.Rows L2 GenW
section
variable {X : Cx} {k : Nat} {pins : List (Addr × Obj)} {σ : L2.St} {a : Addr} {s5 : Shared}
end
end GL
set_option Elab.async false
set_option linter.all false
set_option maxRecDepth 100000
set_option maxHeartbeats 4000000
namespace GL
open PySem PySem.Spec PyProof.Rows L2 GenW
structure GenP (X : Cx) (k : Nat) (c P : Addr) (elt tg iter : Expr) (ifs : List Expr) (scope : Scope) (own : List (Str × Nat)) (wi : TI) (g : TG) (tt : TT) (te : TE) : Prop where
  hr : Room (k + 4) X.A
  gd : X.A.guards = some []
  hc : X.calm = true
  hN : X.N.Nodup
  TB : GxR.TabB X.base X.mg c P
  hcode : X.env.code = .ref c
  hco : scope.isCoroutine = false
  hcell : ∀ y ∈ scope.names, y.2 ≠ .cell
  h0 : scope.names.lookup (".0" : Str) = some NameKind.local
  ok : BlkOk X.N X.env.scope scope own
  hi : PI X tg iter wi
  hg : ∀ (B : Around) (s : Shared) (H : Hp) (C : Addr) (code : Value) (fp : List Addr), Room k B → B.guards = some [] → PG (genCx X B s H (genEnv scope (cloFrom X.env.cells scope.names []) C code builtinsNs X.env) fp) tg g
  ht : ∀ (B : Around) (s : Shared) (H : Hp) (C : Addr) (code : Value) (fp : List Addr), Room k B → B.guards = some [] → PTs (genCx X B s H (genEnv scope (cloFrom X.env.cells scope.names []) C code builtinsNs X.env) fp) ifs tt
  he : ∀ (B : Around) (s : Shared) (H : Hp) (C : Addr) (code : Value) (fp : List Addr), Room k B → B.guards = some [] → PE (genCx X B s H (genEnv scope (cloFrom X.env.cells scope.names []) C code builtinsNs X.env) fp) elt te
  hs : ∀ v, genFold iter X.env v = pure v
section
variable {X : Cx} {k : Nat} {c P : Addr} {elt tg iter : Expr} {ifs : List Expr} {scope : Scope} {own : List (Str × Nat)} {wi : TI} {g : TG} {tt : TT} {te : TE} {p pos gpos : Pos}
def tAnyX (P : Addr) (wi : TI) (g : TG) (tt : TT) (te : TE) (vs : List Nat) : TE := fun σ H Q => tGx P wi g tt te vs (fun _ y H nx => ∃ b, y = .bl b ∧ if b = true then Q (.bl true) H else nx H) (fun _ H => Q (.bl false) H) σ H
def tAllX (P : Addr) (wi : TI) (g : TG) (tt : TT) (te : TE) (vs : List Nat) : TE := fun σ H Q => tGx P wi g tt te vs (fun _ y H nx => ∃ b, y = .bl b ∧ if b = true then nx H else Q (.bl false) H) (fun _ H => Q (.bl true) H) σ H
theorem pe_anyX (h : GenP X k c P elt tg iter ifs scope own wi g tt te) (hg : Gl X "any") (hm : X.mg "any" = none)
    (he : starEach [.GeneratorExp elt [⟨tg, iter, ifs, 0⟩] scope gpos] X.env = (false, eval (.GeneratorExp elt [⟨tg, iter, ifs, 0⟩] scope gpos) X.env) :: starEach [] X.env := by rfl) :
    PE X (.Call (.Name "any" p) [.GeneratorExp elt [⟨tg, iter, ifs, 0⟩] scope gpos] [] pos) (tAnyX P wi g tt te (own.map (·.2))) := by
  constructor
  intro pins s σ H Q I hq
  refine wpAny_Call_Name_kw (ld_blt I hg hm boot_any (PyProof.Rows.callWith_builtin1 ?_ he (by rfl)))
  rw [he]
  show wpAny _ _ (spliced ((false, eval (.GeneratorExp elt [⟨tg, iter, ifs, 0⟩] scope gpos) X.env) :: backTo pos (starEach [] X.env))) _ _ s
  refine Calls.spliced_cons (gen_made (h.hr.mono (by omega)) h.hc h.hN h.TB h.hcode h.hco h.hcell h.h0 h.ok h.hi h.hg h.ht h.he h.hs I hq fun a s5 R => ?_)
  refine Calls.spliced_nil ?_
  exact call_anyX (h.hr.mono (by omega)) I.ok.frames h.gd R fun b H' s' I' q => ⟨.bl b, H', I', rfl, q⟩
theorem pe_allX (h : GenP X k c P elt tg iter ifs scope own wi g tt te) (hg : Gl X "all") (hm : X.mg "all" = none) (hb : bootBuiltins "all" = some (.builtin "all") := by decide +kernel)
    (he : starEach [.GeneratorExp elt [⟨tg, iter, ifs, 0⟩] scope gpos] X.env = (false, eval (.GeneratorExp elt [⟨tg, iter, ifs, 0⟩] scope gpos) X.env) :: starEach [] X.env := by rfl) :
    PE X (.Call (.Name "all" p) [.GeneratorExp elt [⟨tg, iter, ifs, 0⟩] scope gpos] [] pos) (tAllX P wi g tt te (own.map (·.2))) := by
  constructor
  intro pins s σ H Q I hq
  refine wpAny_Call_Name_kw (ld_blt I hg hm hb (PyProof.Rows.callWith_builtin1 ?_ he (by rfl)))
  rw [he]
  show wpAny _ _ (spliced ((false, eval (.GeneratorExp elt [⟨tg, iter, ifs, 0⟩] scope gpos) X.env) :: backTo pos (starEach [] X.env))) _ _ s
  refine Calls.spliced_cons (gen_made (h.hr.mono (by omega)) h.hc h.hN h.TB h.hcode h.hco h.hcell h.h0 h.ok h.hi h.hg h.ht h.he h.hs I hq fun a s5 R => ?_)
  refine Calls.spliced_nil ?_
  exact call_allX (h.hr.mono (by omega)) I.ok.frames h.gd R fun b H' s' I' q => ⟨.bl b, H', I', rfl, q⟩
end
end GL
set_option Elab.async false
set_option linter.all false
set_option maxRecDepth 100000
set_option maxHeartbeats 4000000
namespace DL
open PySem PySem.Spec PyProof.Rows L2 GL
def gl (cs : List D → D → Option (Option D)) (ce : List D → Option D) (tg : Tg) (t : Mo Bool) (e : Mo D) (vs : List Nat) : List D → List D → Ev → Option (D × Ev)
  | [], ys, ρ => (ce ys).map fun r => (r, ρ)
  | d :: ds, ys, ρ => match tg d ρ with
    | none => none
    | some ρ1 => match t ρ1 with
      | some (.ok true, ρ2) => (match e ρ2 with
        | some (.ok y, ρ3) => (match cs ys y with
          | some none => gl cs ce tg t e vs ds (ys ++ [y]) (wipeE ρ3 vs)
          | some (some r) => some (r, wipeE ρ3 vs)
          | none => none)
        | _ => none)
      | some (.ok false, ρ2) => gl cs ce tg t e vs ds ys (wipeE ρ2 vs)
      | _ => none
def gx (cs : List D → D → Option (Option D)) (ce : List D → Option D) (it : Mo (List D)) (tg : Tg) (t : Mo Bool) (e : Mo D) (vs : List Nat) : Mo D := bnd it fun ds ρ =>
  if noOw ρ vs = true then (gl cs ce tg t e vs ds [] (wipeE ρ vs)).map fun z => (.ok z.1, back ρ z.2 vs) else none
structure CsOk (K : PySem.W.Frag) (Ts : Tbs) (cs : List D → D → Option (Option D)) (ce : List D → Option D) (Q : VK) (Cst : List V → V → Hp → (Hp → Prop) → Prop) (Cend : List V → Hp → Prop) : Prop where
  go : ∀ (ys : List V) (y : V) (ysD : List D) (yD : D) (S : List Addr) (H : Hp) (nx : Hp → Prop), DRs K (hide S H) ys ysD → DR K (hide S H) y yD → cs ysD yD = some none → nx H → Cst ys y H nx
  st : ∀ (ys : List V) (y : V) (ysD : List D) (yD r : D) (S : List Addr) (H : Hp) (nx : Hp → Prop), DRs K (hide S H) ys ysD → DR K (hide S H) y yD → cs ysD yD = some (some r) → (∀ v, DR K (hide S H) v r → Q v H) → Cst ys y H nx
  en : ∀ (ys : List V) (ysD : List D) (r : D) (S : List Addr) (H : Hp), (∀ a ∈ S, H a ≠ none) → DRs K (hide S H) ys ysD → ce ysD = some r → (∀ v H', Grow Ts H H' → DR K (hide S H') v r → Q v H') → Cend ys H
section
variable {X : Cx} {Ts : Tbs} {E : EK}
theorem gx_ok {P : Addr} (hPT : P ∈ Ts) {cs : List D → D → Option (Option D)} {ce : List D → Option D} {it : Mo (List D)} {is : List Nat} {tg : Tg} {t : Mo Bool} {el : Mo D} {vs : List Nat} (hvs : ∀ i ∈ is, i ∈ vs) {σ : L2.St} {H : Hp} {Q : VK}
    {Cst : List V → V → Hp → (Hp → Prop) → Prop} {Cend : List V → Hp → Prop} (hC : CsOk X.K Ts cs ce Q Cst Cend) (h : tE X.K Ts E (gx cs ce it tg t el vs) σ H Q) :
    tGx P (tI X.K Ts E it) (tG X.K Ts is tg) (tT X.K Ts E0x t) (tE X.K Ts E0x el) vs Cst Cend σ H := by
  obtain ⟨A, S, ρ, r, ρ', rel, hf, he, k⟩ := h
  rcases bnd_cases hf with ⟨x, ex, rfl⟩ | ⟨ds, ρ1, ex, h1⟩
  · exact ⟨A, S, ρ, .error x, ρ', rel, ex, (fun y hy => by cases hy; exact he x rfl), (fun d hd => by cases hd)⟩
  refine ⟨A, S, ρ, .ok ds, ρ1, rel, ex, (fun y hy => by cases hy), fun ds' hd J H1 p1 yl => ?_⟩
  cases hd
  split at h1
  · rename_i hno
    obtain ⟨⟨r0, ρf⟩, hl, hr⟩ := Option.map_eq_some_iff.mp h1
    cases hr
    refine ⟨p1.rel.tab.gt P hPT, fun H2 hTb => ?_⟩
    -- the table has grown
    have g12 : Grow Ts H1 H2 := by
      refine ⟨fun b o e n => ?_, fun tb => tb.grown hPT hTb, fun b hb => ?_⟩
      · have hb : b ≠ P := fun z => by
          obtain ⟨ps, e1, _⟩ := p1.rel.tab.gt P hPT
          rw [z, e1] at e
          cases e
          exact n _ rfl
        rw [hTb.2 b hb]
        exact e
      · by_cases e : b = P
        · obtain ⟨ps, e1, _⟩ := hTb.1
          rw [e, e1]
          exact fun z => by cases z
        · rw [hTb.2 b e]
          exact hb
    have p2 : Post X.K Ts A S σ ρ H ρ1 H2 := p1.trans (.grow p1.rel g12)
    have yl2 : Yields X.K Ts S H2 J ds := fun S' H' dom sub i => yl S' H' dom ((grow_hide p1.rel.dom g12).trans sub) i
    clear p1 yl g12 hTb
    have ownW : ∀ {ρi : Ev} {b : Addr}, Same (wipeE ρ1 vs) ρi → OwnA ρi (wipe σ vs) b → OwnA ρ1 σ b := by
      rintro ρi b sm ⟨j, l, c, e1, e2⟩
      obtain ⟨c0, e3⟩ := sm.symm.ow e1
      by_cases hj : j ∈ vs
      · have hl : j < ρ1.length := by
          have := (List.getElem?_eq_some_iff.mp e3).1
          rw [wipeE_len] at this
          exact this
        rw [wipeE_in ρ1 hj hl] at e3
        cases e3
      · rw [wipeE_out ρ1 hj] at e3
        rw [wipe_out σ hj] at e2
        exact ⟨j, l, c0, e3, e2⟩
    -- the slots as they were, behind the whole
    have backR : ∀ {ρi : Ev} {H' : Hp}, Rel X.K Ts A S ρi (wipe σ vs) H' → Same (wipeE ρ1 vs) ρi → Sub (hide S H2) (hide S H') → (∀ b o, H2 b = some o → (∀ ps, o ≠ .tbl ps) → ¬ OwnA ρ1 σ b → H' b = some o) → Post X.K Ts A S σ ρ H (back ρ1 ρi vs) H' := by
      intro ρi H' ri sm sub fr
      have ln : ρ1.length = ρi.length := by
        have := sm.len
        rw [wipeE_len] at this
        exact this
      have smB : Same ρ1 (back ρ1 ρi vs) := by
        unfold Same
        refine List.ext_getElem? fun j => ?_
        rw [List.getElem?_map, List.getElem?_map]
        by_cases hj : j ∈ vs
        · rw [back_in hj]
        · rw [back_out hj ln, ← sm.at j, wipeE_out ρ1 hj]
      have at_ : ∀ {j : Nat} {s : Sl}, (back ρ1 ρi vs)[j]? = some s → (j ∈ vs ∧ ρ1[j]? = some s) ∨ (j ∉ vs ∧ ρi[j]? = some s) := fun {j s} e => by
        by_cases hj : j ∈ vs
        · rw [back_in hj] at e
          exact .inl ⟨hj, e⟩
        · rw [back_out hj ln] at e
          exact .inr ⟨hj, e⟩
      have owI : ∀ {j : Nat} {l : Bool} {c : Oc}, (back ρ1 ρi vs)[j]? = some (.ow l c) → ρi[j]? = some (.ow l c) ∧ (wipe σ vs)[j]? = σ[j]? := fun {j l c} e => by
        rcases at_ e with ⟨hj, e⟩ | ⟨hj, e⟩
        · exact absurd e (no_ow hno hj)
        · exact ⟨e, wipe_out σ hj⟩
      refine ⟨⟨by rw [back_len]; exact p2.rel.len, fun j d e => ?_, fun j l c e => ?_, fun i j l l' c c' a e1 e2 e3 e4 => ?_, ri.dom, ri.sub, ri.ext, ri.tab, ri.dom0, ri.op0, ri.exd, fun j ks e => ?_, ri.mu⟩, p2.same.trans smB, fun b o e n no => fr b o (p2.fr b o e n no) n (fun z => no (p2.same.symm.own z))⟩
      · rcases at_ e with ⟨hj, e⟩ | ⟨hj, e⟩
        · obtain ⟨v, g1, g2⟩ := p2.rel.da j d e
          exact ⟨v, g1, g2.sub sub⟩
        · obtain ⟨v, g1, g2⟩ := ri.da j d e
          rw [wipe_out σ hj] at g1
          exact ⟨v, g1, g2⟩
      · obtain ⟨q1, q2⟩ := owI e
        rw [← q2]
        exact ri.ow j l c q1
      · obtain ⟨q1, q2⟩ := owI e1
        obtain ⟨q3, q4⟩ := owI e2
        rw [← q2] at e3
        rw [← q4] at e4
        exact ri.inj i j l l' c c' a q1 q3 e3 e4
      · rcases at_ e with ⟨hj, e⟩ | ⟨hj, e⟩
        · obtain ⟨v, g1, g2⟩ := p2.rel.tk j ks e
          exact ⟨v, g1, sub _ _ g2 (fun _ z => by cases z)⟩
        · obtain ⟨v, g1, g2⟩ := ri.tk j ks e
          rw [wipe_out σ hj] at g1
          exact ⟨v, g1, g2⟩
    let Wv : Nat → List V → Hp → Prop := fun i ys H' => ∃ (ρi : Ev) (ysD : List D), Rel X.K Ts A S ρi (wipe σ vs) H' ∧ Same (wipeE ρ1 vs) ρi ∧ DRs X.K (hide S H') ys ysD ∧ gl cs ce tg t el vs (ds.drop i) ysD ρi = some (r0, ρf) ∧
      Sub (hide S H2) (hide S H') ∧ (∀ b o, H2 b = some o → (∀ ps, o ≠ .tbl ps) → ¬ OwnA ρ1 σ b → H' b = some o)
    refine ⟨fun i m ys H' => i + m = ds.length ∧ Wv i ys H', ds.length, ⟨Nat.zero_add _, wipeE ρ1 vs, [], p2.rel.wipe vs, .refl _, .nil, hl, .refl _, fun b o e _ _ => e⟩, ?_⟩
    rintro i m ys H3 ⟨hm, ρi, ysD, ri, sm, dys, hgl, sub3, fr3⟩
    by_cases hi : i < ds.length
    · have ed := List.getElem?_eq_getElem hi
      rw [List.drop_eq_getElem_cons hi] at hgl
      generalize ds[i] = d at ed hgl
      obtain ⟨go, yld⟩ := (yl2 S H3 ri.dom sub3 i).1 d ed
      refine .inr ⟨go, fun ys' H' => Wv (i + 1) ys' H', fun ys' H' q => ⟨m - 1, by omega, by omega, q⟩, fun x H4 hy => ?_⟩
      obtain ⟨gr, dx⟩ := yld x H4 hy
      have r4 := ri.grow gr
      have s4 := grow_hide ri.dom gr
      simp only [gl] at hgl
      cases et : tg d ρi with
      | none => rw [et] at hgl; cases hgl
      | some ρ3 =>
        rw [et] at hgl
        simp only at hgl
        refine ⟨A, S, ρi, d, ρ3, r4, dx, et, fun σ4 r5 off4 => ?_⟩
        have off4' : Off vs (wipe σ vs) σ4 := ⟨off4.off.1, fun j hj => off4.off.2 j (fun z => hj (hvs j z))⟩
        have w4 : wipe σ4 vs = wipe σ vs := by rw [wipe_eq off4', wipe_eq (wipe_off σ vs)]
        refine ⟨w4, ?_⟩
        have sm3 : wipeE ρ3 vs = wipeE ρi vs := wipeE_eq off4.len (fun j hj => off4.offE j (fun z => hj (hvs j z)))
        have own3 : ∀ b, OwnA ρ3 σ4 b → OwnA ρ1 σ b := fun b z => ownW sm (off4.own b z)
        cases htst : t ρ3 with
        | none => rw [htst] at hgl; cases hgl
        | some z =>
          obtain ⟨rb, ρ4⟩ := z
          rw [htst] at hgl
          cases rb with
          | error x => cases hgl
          | ok b =>
            refine ⟨A, S, ρ3, .ok b, ρ4, r5, htst, (fun y hy => by cases hy), fun b' hb H5 p4 => ?_⟩
            cases hb
            have fr4 : ∀ b o, H2 b = some o → (∀ ps, o ≠ .tbl ps) → ¬ OwnA ρ1 σ b → H5 b = some o := fun b o e1 n no => p4.fr b o (gr.keep b o (fr3 b o e1 n no) n) n (fun z => no (own3 b z))
            have sub4 : Sub (hide S H2) (hide S H5) := (sub3.trans s4).trans (p4.sub r5)
            have sm4 : Same (wipeE ρ1 vs) (wipeE ρ4 vs) := (same_wipe2 sm).trans (by rw [← sm3]; exact same_wipe p4.same)
            have dys4 := (dys.sub s4).sub (p4.sub r5)
            cases b with
            | false =>
              rw [if_neg Bool.false_ne_true]
              have rw4 := p4.rel.wipe vs
              rw [w4] at rw4
              exact ⟨wipeE ρ4 vs, ysD, rw4, sm4, dys4, hgl, sub4, fr4⟩
            | true =>
              rw [if_pos rfl]
              simp only at hgl
              cases hel : el ρ4 with
              | none => rw [hel] at hgl; cases hgl
              | some z =>
                obtain ⟨ry, ρ5⟩ := z
                rw [hel] at hgl
                cases ry with
                | error x => cases hgl
                | ok y =>
                  refine ⟨A, S, ρ4, .ok y, ρ5, p4.rel, hel, (fun y hy => by cases hy), fun y' hy' v H6 p5 dv => ?_⟩
                  cases hy'
                  simp only at hgl
                  have own4 : ∀ b, OwnA ρ4 σ4 b → OwnA ρ1 σ b := fun b z => own3 b (p4.same.symm.own z)
                  have dys5 := dys4.sub (p5.sub p4.rel)
                  have r6 := p5.rel.wipe vs
                  rw [w4] at r6
                  have sm5 : Same (wipeE ρ1 vs) (wipeE ρ5 vs) := sm4.trans (same_wipe p5.same)
                  have sub5 := sub4.trans (p5.sub p4.rel)
                  have fr5 : ∀ b o, H2 b = some o → (∀ ps, o ≠ .tbl ps) → ¬ OwnA ρ1 σ b → H6 b = some o := fun b o e1 n no => p5.fr b o (fr4 b o e1 n no) n (fun z => no (own4 b z))
                  split at hgl
                  · rename_i hcs
                    exact hC.go ys v ysD y S H6 _ dys5 dv hcs ⟨wipeE ρ5 vs, ysD ++ [y], r6, sm5, dys5.append (.cons dv .nil), hgl, sub5, fr5⟩
                  · rename_i r1 hcs
                    cases hgl
                    exact hC.st ys v ysD y r0 S H6 _ dys5 dv hcs fun u du => k r0 rfl u H6 (backR r6 sm5 sub5 fr5) du
                  · cases hgl
    · have ei : i = ds.length := by omega
      subst ei
      rw [List.drop_length] at hgl
      obtain ⟨r1, hce, hr1⟩ := Option.map_eq_some_iff.mp hgl
      have e5 : r1 = r0 := congrArg Prod.fst hr1
      have e6 : ρi = ρf := congrArg Prod.snd hr1
      subst e5 e6
      refine .inl ⟨(yl2 S H3 ri.dom sub3 _).2 rfl, hC.en ys ysD r1 S H3 ri.dom dys hce fun v H' g dv => ?_⟩
      have pB := backR ri sm sub3 fr3
      exact k r1 rfl v H' (pB.trans (.grow pB.rel g)) dv
  · cases h1
def csAny : List D → D → Option (Option D) := fun _ y => match y with
  | .bool true => some (some (.bool true))
  | .bool false => some none
  | _ => none
def csAll : List D → D → Option (Option D) := fun _ y => match y with
  | .bool true => some none
  | .bool false => some (some (.bool false))
  | _ => none
def csTup : List D → D → Option (Option D) := fun ys _ => if ys.length < sizeLine then some none else none
def csSum : List D → D → Option (Option D) := fun _ y => match y with
  | .int _ => some none
  | _ => none
def dsum (ys : List D) : Int := (ys.map fun y => match y with | .int i => i | _ => 0).sum
theorem de_anyX {e : Expr} {P : Addr} (hPT : P ∈ Ts) {it : Mo (List D)} {is : List Nat} {tg : Tg} {t : Mo Bool} {el : Mo D} {vs : List Nat} (hvs : ∀ i ∈ is, i ∈ vs) (h : PE X e (tAnyX P (tI X.K Ts E it) (tG X.K Ts is tg) (tT X.K Ts E0x t) (tE X.K Ts E0x el) vs)) : DE X Ts E e (gx csAny (fun _ => some (.bool false)) it tg t el vs) := by
  refine pe_mono h fun σ H Q q => gx_ok hPT hvs ⟨?_, ?_, ?_⟩ q
  · intro ys y ysD yD S H nx _ dy hc hn
    cases dy with
    | bl b =>
      cases b with
      | true => cases hc
      | false => exact ⟨false, rfl, hn⟩
    | _ => cases hc
  · intro ys y ysD yD r S H nx _ dy hc hq
    cases dy with
    | bl b =>
      cases b with
      | true => cases hc; exact ⟨true, rfl, hq _ (.bl _)⟩
      | false => cases hc
    | _ => cases hc
  · intro ys ysD r S H dom _ hc hq
    cases hc
    exact hq _ H (.refl _ _) (.bl _)
theorem de_allX {e : Expr} {P : Addr} (hPT : P ∈ Ts) {it : Mo (List D)} {is : List Nat} {tg : Tg} {t : Mo Bool} {el : Mo D} {vs : List Nat} (hvs : ∀ i ∈ is, i ∈ vs) (h : PE X e (tAllX P (tI X.K Ts E it) (tG X.K Ts is tg) (tT X.K Ts E0x t) (tE X.K Ts E0x el) vs)) : DE X Ts E e (gx csAll (fun _ => some (.bool true)) it tg t el vs) := by
  refine pe_mono h fun σ H Q q => gx_ok hPT hvs ⟨?_, ?_, ?_⟩ q
  · intro ys y ysD yD S H nx _ dy hc hn
    cases dy with
    | bl b =>
      cases b with
      | true => exact ⟨true, rfl, hn⟩
      | false => cases hc
    | _ => cases hc
  · intro ys y ysD yD r S H nx _ dy hc hq
    cases dy with
    | bl b =>
      cases b with
      | true => cases hc
      | false => cases hc; exact ⟨false, rfl, hq _ (.bl _)⟩
    | _ => cases hc
  · intro ys ysD r S H dom _ hc hq
    cases hc
    exact hq _ H (.refl _ _) (.bl _)
def ceTup : List D → Option D := fun ys => if ys.length ≤ sizeLine then some (.tuple ys) else none
def ceSum : List D → Option D := fun ys => some (.int (dsum ys))
end
end DL
set_option Elab.async false
set_option linter.all false
set_option maxRecDepth 100000
set_option maxHeartbeats 2000000
namespace DL
open PySem PySem.Spec PyProof.Rows L2 GL
section
variable {K : PySem.W.Frag} {Ts : Tbs}
def oI (g : Int → Int → D) : D → D → Option D
  | .int i, .int j => some (g i j)
  | _, _ => none
open Classical in
noncomputable def oC (C : Int → Int → Prop) (g : Int → Int → D) : D → D → Option D
  | .int i, .int j => if C i j then some (g i j) else none
  | _, _ => none
theorem snd_I0 {gV : Int → Int → V} {gD : Int → Int → D} (h : ∀ i j H, DR K H (gV i j) (gD i j)) : Snd2 K Ts (rI0 gV) (oI gD) := by
  intro x y d1 d2 d H S Q dom dx dy e q
  cases dx with
  | int i =>
    cases dy with
    | int j => cases e; exact ⟨i, j, rfl, rfl, q _ H (.refl _ _) (h i j _)⟩
    | _ => cases e
  | _ => cases e
theorem snd_I {C : Int → Int → Prop} {gV : Int → Int → V} {gD : Int → Int → D} (h : ∀ i j H, DR K H (gV i j) (gD i j)) : Snd2 K Ts (rI C gV) (oC C gD) := by
  intro x y d1 d2 d H S Q dom dx dy e q
  cases dx with
  | int i =>
    cases dy with
    | int j =>
      simp only [oC] at e
      split at e
      · rename_i hc
        cases e
        exact ⟨i, j, rfl, rfl, hc, q _ H (.refl _ _) (h i j _)⟩
      · cases e
    | _ => cases e
  | _ => cases e
abbrev oAdd : D → D → Option D := oI fun i j => .int (i + j)
abbrev oSub : D → D → Option D := oI fun i j => .int (i - j)
noncomputable abbrev oMul : D → D → Option D := oC CMulW fun i j => .int (i * j)
def CDivX (_ j : Int) : Prop := j ≠ 0 ∧ j.natAbs.log2 < 9000
theorem op_fdivX {X : Cx} : OpR X (binaryOp .FloorDiv) (rI CDivX fun i j => .int (i.fdiv j)) :=
  opI fun _ _ _ _ _ _ _ hc q => floordiv_int hc.1 q (.inl (PyProof.noPylong_of_log2 hc.2))
open Classical in
noncomputable def oDiv : D → D → Option D
  | .int i, .int j => if CDivW i j then some (.int (i / j)) else if CDivX i j then some (.int (i.fdiv j)) else none
  | _, _ => none
noncomputable def oMod : D → D → Option D
  | .int i, .int j => if 0 < j then some (.int (i % j)) else if j ≠ 0 then some (.int (i.fmod j)) else none
  | _, _ => none
noncomputable abbrev oPow : D → D → Option D := oC CPow fun i j => .int (i ^ j.toNat)
abbrev oLt : D → D → Option D := oI fun i j => .bool (decide (i < j))
abbrev oGt : D → D → Option D := oI fun i j => .bool (decide (j < i))
abbrev oGe : D → D → Option D := oI fun i j => .bool (decide (j ≤ i))
theorem s_add : Snd2 K Ts (rI0 fun i j => .int (i + j)) oAdd := snd_I0 fun _ _ _ => .int _
theorem s_sub : Snd2 K Ts (rI0 fun i j => .int (i - j)) oSub := snd_I0 fun _ _ _ => .int _
theorem s_mul : Snd2 K Ts (rI CMulW fun i j => .int (i * j)) oMul := snd_I fun _ _ _ => .int _
theorem s_div : Snd2 K Ts (rI CDivX fun i j => .int (i.fdiv j)) oDiv := by
  intro x y dx dy d H S Q dom dx' dy' e q
  have go : ∀ i j : Int, oDiv (.int i) (.int j) = some d → CDivX i j ∧ d = .int (i.fdiv j) := fun i j e => by
    unfold oDiv at e
    simp only at e
    split at e
    · rename_i hc
      exact ⟨⟨fun z => by have := hc.1; omega, hc.2⟩, by rw [Int.fdiv_eq_ediv_of_nonneg i (by have := hc.1; omega)]; exact (Option.some.inj e).symm⟩
    · split at e
      · rename_i hc
        exact ⟨hc, (Option.some.inj e).symm⟩
      · cases e
  cases dx' with
  | int i =>
    cases dy' with
    | int j =>
      obtain ⟨hc, rfl⟩ := go i j e
      exact ⟨i, j, rfl, rfl, hc, q _ H (.refl _ _) (.int _)⟩
    | _ => cases e
  | _ => cases e
theorem s_mod : Snd2 K Ts (rI (fun _ j => j ≠ 0) fun i j => .int (i.fmod j)) oMod := by
  intro x y dx dy d H S Q dom dx' dy' e q
  have go : ∀ i j : Int, oMod (.int i) (.int j) = some d → j ≠ 0 ∧ d = .int (i.fmod j) := fun i j e => by
    unfold oMod at e
    simp only at e
    split at e
    · rename_i hc
      exact ⟨by omega, by rw [Int.fmod_eq_emod_of_nonneg i (by omega)]; exact (Option.some.inj e).symm⟩
    · split at e
      · rename_i hc
        exact ⟨hc, (Option.some.inj e).symm⟩
      · cases e
  cases dx' with
  | int i =>
    cases dy' with
    | int j =>
      obtain ⟨hc, rfl⟩ := go i j e
      exact ⟨i, j, rfl, rfl, hc, q _ H (.refl _ _) (.int _)⟩
    | _ => cases e
  | _ => cases e
theorem s_pow : Snd2 K Ts (rI CPow fun i j => .int (i ^ j.toNat)) oPow := snd_I fun _ _ _ => .int _
theorem s_lt : Snd2 K Ts (rI0 fun i j => .bl (decide (i < j))) oLt := snd_I0 fun _ _ _ => .bl _
theorem s_gt : Snd2 K Ts (rI0 fun i j => .bl (decide (j < i))) oGt := snd_I0 fun _ _ _ => .bl _
theorem s_ge : Snd2 K Ts (rI0 fun i j => .bl (decide (j ≤ i))) oGe := snd_I0 fun _ _ _ => .bl _
def oEqS : D → D → Option D
  | .str i, .str j => some (.bool (decide (i = j)))
  | .bool i, .bool j => some (.bool (decide (i = j)))
  | _, _ => none
def oNeS : D → D → Option D
  | .str i, .str j => some (.bool (!decide (i = j)))
  | .bool i, .bool j => some (.bool (!decide (i = j)))
  | _, _ => none
theorem s_eqS : Snd2 K Ts rEq oEqS := by
  intro x y d1 d2 d H S Q dom dx dy e q
  cases dx with
  | str i =>
    cases dy with
    | str j =>
      cases e
      refine ⟨rfl, ?_⟩
      have h : decide (V.str i = V.str j) = decide (i = j) := by
        rw [decide_eq_decide]
        exact ⟨V.str.inj, congrArg V.str⟩
      rw [h]
      exact q _ H (.refl _ _) (.bl _)
    | _ => cases e
  | bl i =>
    cases dy with
    | bl j =>
      cases e
      refine ⟨rfl, ?_⟩
      have h : decide (V.bl i = V.bl j) = decide (i = j) := by
        rw [decide_eq_decide]
        exact ⟨V.bl.inj, congrArg V.bl⟩
      rw [h]
      exact q _ H (.refl _ _) (.bl _)
    | _ => cases e
  | _ => cases e
theorem s_neS : Snd2 K Ts rNe oNeS := by
  intro x y d1 d2 d H S Q dom dx dy e q
  cases dx with
  | str i =>
    cases dy with
    | str j =>
      cases e
      refine ⟨rfl, ?_⟩
      have h : decide (V.str i = V.str j) = decide (i = j) := by
        rw [decide_eq_decide]
        exact ⟨V.str.inj, congrArg V.str⟩
      rw [h]
      exact q _ H (.refl _ _) (.bl _)
    | _ => cases e
  | bl i =>
    cases dy with
    | bl j =>
      cases e
      refine ⟨rfl, ?_⟩
      have h : decide (V.bl i = V.bl j) = decide (i = j) := by
        rw [decide_eq_decide]
        exact ⟨V.bl.inj, congrArg V.bl⟩
      rw [h]
      exact q _ H (.refl _ _) (.bl _)
    | _ => cases e
  | _ => cases e
def okE (d : D) : Bool := SeqAt.shaped d && !d.hasDict
def oEqD (d e : D) : Option D := if (okE d && okE e) = true then some (.bool (PyData.eqv d e)) else none
def oNeD (d e : D) : Option D := if (okE d && okE e) = true then some (.bool (!PyData.eqv d e)) else none
theorem okE_ok {d e : D} (h : (okE d && okE e) = true) : (SeqAt.shaped d = true ∧ d.hasDict = false) ∧ SeqAt.shaped e = true ∧ e.hasDict = false := by
  unfold okE at h
  simp only [Bool.and_eq_true, Bool.not_eq_true'] at h
  exact h
theorem s_eqD : Snd2 K Ts (rEqD K) oEqD := by
  intro x y d1 d2 d H S Q dom dx dy e q
  unfold oEqD at e
  split at e
  · rename_i h
    obtain ⟨⟨h1, h2⟩, h3, h4⟩ := okE_ok h
    cases e
    exact ⟨d1, d2, (dx.sub (hide_sub _ _)).dp h2, (dy.sub (hide_sub _ _)).dp h4, h1, h3, q _ H (.refl _ _) (.bl _)⟩
  · cases e
theorem s_neD : Snd2 K Ts (rNeD K) oNeD := by
  intro x y d1 d2 d H S Q dom dx dy e q
  unfold oNeD at e
  split at e
  · rename_i h
    obtain ⟨⟨h1, h2⟩, h3, h4⟩ := okE_ok h
    cases e
    exact ⟨d1, d2, (dx.sub (hide_sub _ _)).dp h2, (dy.sub (hide_sub _ _)).dp h4, h1, h3, q _ H (.refl _ _) (.bl _)⟩
  · cases e
def oIs : D → D → Option D
  | .bool a, .bool b => some (.bool (a == b))
  | _, _ => none
def oNot : D → D → Option D
  | .bool a, .bool b => some (.bool (!(a == b)))
  | _, _ => none
theorem s_is : Snd2 K Ts (fun x y H Q => ∃ a b, x = .bl a ∧ y = .bl b ∧ Q (.bl (a == b)) H) oIs := by
  intro x y d1 d2 d H S Q dom dx dy e q
  cases dx with
  | bl i =>
    cases dy with
    | bl j => cases e; exact ⟨i, j, rfl, rfl, q _ H (.refl _ _) (.bl _)⟩
    | _ => cases e
  | _ => cases e
theorem s_isnot : Snd2 K Ts (fun x y H Q => ∃ a b, x = .bl a ∧ y = .bl b ∧ Q (.bl (!(a == b))) H) oNot := by
  intro x y d1 d2 d H S Q dom dx dy e q
  cases dx with
  | bl i =>
    cases dy with
    | bl j => cases e; exact ⟨i, j, rfl, rfl, q _ H (.refl _ _) (.bl _)⟩
    | _ => cases e
  | _ => cases e
def oIxT : D → D → Option D
  | .tuple ds, .int i => atI ds i
  | _, _ => none
def oIxL : D → D → Option D
  | .list ds, .int i => atI ds i
  | _, _ => none
theorem s_ixT : Snd2 K Ts (rIxT K) oIxT := by
  intro x y d1 d2 d H S Q dom dx dy e q
  cases dx with
  | @tup a xs ds sq dr =>
    cases dy with
    | int i =>
      obtain ⟨v, ev, dv⟩ := atI_rel dr e
      exact ⟨a, xs, i, v, rfl, rfl, sqt_sub (hide_sub _ _) sq, ev, q v H (.refl _ _) dv⟩
    | _ => cases e
  | _ => cases e
theorem s_ixL : Snd2 K Ts (rIxL K) oIxL := by
  intro x y d1 d2 d H S Q dom dx dy e q
  cases dx with
  | @lst a xs ds sq dr =>
    cases dy with
    | int i =>
      obtain ⟨v, ev, dv⟩ := atI_rel dr e
      exact ⟨a, xs, i, v, rfl, rfl, sql_sub (hide_sub _ _) sq, ev, q v H (.refl _ _) dv⟩
    | _ => cases e
  | _ => cases e
def oIxS : D → D → Option D
  | .str z, .int i => if z.length ≤ sizeLine then (atI z.cps.toList i).map fun c => .str ⟨#[c]⟩ else none
  | _, _ => none
theorem s_ixS : Snd2 K Ts rIxS oIxS := by
  intro x y d1 d2 d H S Q dom dx dy e q
  cases dx with
  | str z =>
    cases dy with
    | int i =>
      simp only [oIxS] at e
      split at e
      · obtain ⟨c, e1, rfl⟩ := Option.map_eq_some_iff.mp e
        exact ⟨z, i, c, rfl, rfl, by assumption, e1, q _ H (.refl _ _) (.str _)⟩
      · cases e
    | _ => cases e
  | _ => cases e
def cutD (ds : List D) (lo hi : Option Int) : List D := (ds.drop (HT.sIx ds.length 0 lo)).take (HT.sIx ds.length ds.length hi - HT.sIx ds.length 0 lo)
theorem cut_rel {H : Hp} {xs : List V} {ds : List D} {lo hi : Option Int} (dr : DRs K H xs ds) : DRs K H (cutV xs lo hi) (cutD ds lo hi) := by
  unfold cutV cutD
  rw [dr.length]
  exact (dr.drop _).take _
def oSlL : D → Option Int → Option Int → Option (List D)
  | .list ds, lo, hi => some (cutD ds lo hi)
  | _, _, _ => none
theorem s_slL : SndOS K Ts (rSlL K) oSlL := by
  intro x lo hi d1 ds H S Q dom dx e q
  cases dx with
  | @lst a xs ds sq dr =>
    cases e
    exact ⟨a, xs, rfl, sql_sub (hide_sub _ _) sq, fun p np => q p _ H (.refl _ _) np (cut_rel dr)⟩
  | _ => cases e
def oSlT : D → Option Int → Option Int → Option D
  | .tuple ds, lo, hi => some (.tuple (cutD ds lo hi))
  | _, _, _ => none
theorem new_tup {H : Hp} {S : List Addr} {p : Addr} {xs : List V} {ds : List D} (dom : ∀ a ∈ S, H a ≠ none) (np : H p = none) (dr : DRs K (hide S H) xs ds) : DR K (hide S (upd H p (.tup xs))) (.ref p) (.tuple ds) :=
  .tup (hide_of (new_hid dom np) upd_same) (dr.sub (grow_hide dom (Grow.new (Ts := ⟨[], [], fun _ h => nomatch h⟩) np)))
theorem s_slT : SndS K Ts (rSlA K) oSlT := by
  intro x lo hi d1 d H S Q dom dx e q
  cases dx with
  | @tup a xs ds sq dr =>
    cases e
    refine ⟨a, xs, rfl, sqt_sub (hide_sub _ _) sq, fun hw => ?_, fun _ p np => q _ _ (.new np) (new_tup dom np (cut_rel dr))⟩
    refine q _ H (.refl _ _) ?_
    have : cutD ds lo hi = ds := by
      unfold cutD
      rw [← dr.length, hw.1, hw.2, List.drop_zero, Nat.sub_zero, dr.length, List.take_length]
    rw [this]
    exact .tup sq dr
  | _ => cases e
def oCatT : D → D → Option D
  | .tuple xs, .tuple ys => if xs.length + ys.length ≤ sizeLine then some (.tuple (xs ++ ys)) else none
  | _, _ => none
theorem s_catT : Snd2 K Ts (rCatA K) oCatT := by
  intro x y d1 d2 d H S Q dom dx dy e q
  cases dx with
  | @tup a xs ds sq dr =>
    cases dy with
    | @tup b ys es sq2 dr2 =>
      simp only [oCatT] at e
      split at e
      · cases e
        refine ⟨a, b, xs, ys, rfl, rfl, sqt_sub (hide_sub _ _) sq, sqt_sub (hide_sub _ _) sq2, by rw [dr.length, dr2.length]; assumption, fun e1 => ?_, fun _ e1 => ?_, fun _ _ p np => q _ _ (.new np) (new_tup dom np (dr.append dr2))⟩
        · rw [e1] at dr
          cases dr
          exact q _ H (.refl _ _) (.tup sq2 dr2)
        · rw [e1] at dr2
          cases dr2
          rw [List.append_nil] at q
          exact q _ H (.refl _ _) (.tup sq dr)
      · cases e
    | _ => cases e
  | _ => cases e
def oRepT : D → D → Option D
  | .tuple xs, .int k => if xs ≠ [] ∧ 1 ≤ k ∧ k ≤ 1000 ∧ xs.length ≤ 1000 then some (.tuple (List.replicate k.toNat xs).flatten) else none
  | _, _ => none
theorem s_repT : Snd2 K Ts (rRepA K) oRepT := by
  intro x y d1 d2 d H S Q dom dx dy e q
  cases dx with
  | @tup a xs ds sq dr =>
    cases dy with
    | int k =>
      simp only [oRepT] at e
      split at e
      · rename_i h
        cases e
        obtain ⟨h1, h2, h3, h4⟩ := h
        refine ⟨a, k, xs, rfl, rfl, sqt_sub (hide_sub _ _) sq, fun z => ?_, h2, h3, by rw [dr.length]; exact h4, fun e1 => ?_, fun _ p np => q _ _ (.new np) (new_tup dom np (dr.rep _))⟩
        · rw [z] at dr
          cases dr
          exact h1 rfl
        · subst e1
          refine q _ H (.refl _ _) ?_
          have : (List.replicate (1 : Int).toNat ds).flatten = ds := by simp
          rw [this]
          exact .tup sq dr
      · cases e
    | _ => cases e
  | _ => cases e
end
end DL
set_option Elab.async false
set_option linter.all false
set_option maxRecDepth 100000
set_option maxHeartbeats 4000000
namespace DL
open PySem PySem.Spec PyProof.Rows L2 GL
open AutoSeq1 (wpAny_loadPart')
theorem list_add_any (l : Addr) (items : Array Value) (n : Nat) (sl : Array (Option Value)) (b : Addr) (items2 : Array Value) (n2 : Nat) (sl2 : Array (Option Value)) (hc0 : items.size + items2.size ≤ sizeLine) :
    Meets (Builtin.«list.__add__» ⟨[.ref l, .ref b], []⟩) (fun _ R s => s.heap.get? l = some { cls := .type "list", dict := none, data := .seq items n, slots := sl } ∧ s.heap.get? b = some { cls := .type "list", dict := none, data := .seq items2 n2, slots := sl2 } ∧ R (.ok (.ret (Value.ref s.heap.objs.size))) { s with heap := s.heap.push { cls := Value.type "list", data := .seq (items ++ items2) } }) :=
  .of_wp fun prog w A R s h => by
    obtain ⟨hp, g, d, tk, os⟩ := s
    obtain ⟨hl, hb, h⟩ := h
    have f1 := AutoSeq1.idx_int
    have f2 := AutoSeq1.sub_tuple_tuple
    have f3 := AutoSeq1.sub_list_list
    have f4 := AutoSeq1.sub_tuple_list
    have f5 := AutoSeq1.sub_list_tuple
    wp_walk using wpAny_loadPart' hl, wpAny_loadPart' hb
    exact ⟨_, rfl, h⟩
section
variable {X : Cx}
def rCatS (K : PySem.W.Frag) : R2 := fun x y H Q => ∃ l b xs zs, x = .ref l ∧ y = .ref b ∧ SqL K H l xs ∧ SqL K H b zs ∧ xs.length + zs.length ≤ sizeLine ∧ ∀ p, H p = none → Q (.ref p) (upd H p (.lst (xs ++ zs)))
theorem op_catS : OpR X (binaryOp .Add) (rCatS X.K) := by
  intro pins s σ H x y v u Q I rx ry h
  obtain ⟨l, b, xs, zs, rfl, rfl, hH, hB, hz, q⟩ := h
  cases rx
  cases ry
  obtain ⟨its, r, ⟨⟨cls, dd, data, sl⟩, n, e, hc, hd, hda⟩, _⟩ := I.list hH
  obtain ⟨its2, r2, ⟨⟨cls2, dd2, data2, sl2⟩, n2, e2, hc2, hd2, hda2⟩, _⟩ := I.list hB
  simp only at hc hd hda hc2 hd2 hda2
  subst hc hd hda hc2 hd2 hda2
  have l1 := r.length
  have l2 := r2.length
  refine PySem.concat_meets (T := "list") ⟨_, e, rfl⟩ ⟨_, e2, rfl⟩ noFill_list_add seq_list_add F.slot_list_add F.entry_list_add (F.args_list_add_2 _ _) (list_add_any l its.toArray n sl b its2.toArray n2 sl2 (by rw [List.size_toArray, List.size_toArray]; omega)) ⟨e, e2, ?_⟩
  have ea : its.toArray ++ its2.toArray = (its ++ its2).toArray := by simp
  rw [ea]
  exact ⟨.ref _, _, I.lnew (t' := s.toks) (r.append r2) (by rw [List.length_append]; omega), rfl, q _ I.fresh⟩
end
section
variable {K : PySem.W.Frag} {Ts : Tbs}
def oCatL : D → D → Option (List D)
  | .list xs, .list ys => if xs.length + ys.length ≤ sizeLine then some (xs ++ ys) else none
  | _, _ => none
theorem s_catL : SndO2 K Ts (rCatS K) oCatL := by
  intro x y d1 d2 ds H S Q dom dx dy e q
  cases dx with
  | @lst a xs es sq dr =>
    cases dy with
    | @lst b ys fs sq2 dr2 =>
      simp only [oCatL] at e
      split at e
      · cases e
        exact ⟨a, b, xs, ys, rfl, rfl, sql_sub (hide_sub _ _) sq, sql_sub (hide_sub _ _) sq2, by rw [dr.length, dr2.length]; assumption, fun p np => q p _ H (.refl _ _) np (dr.append dr2)⟩
      · cases e
    | _ => cases e
  | _ => cases e
def oLen : List D → Option D
  | [.list ds] => some (.int ds.length)
  | [.tuple ds] => some (.int ds.length)
  | _ => none
theorem s_len : SndA K Ts (fun xs H Q => ∃ p ys, xs = [.ref p] ∧ (SqL K H p ys ∨ SqT K H p ys) ∧ Q (.int ys.length) H) oLen := by
  intro xs es d H S Q dom dx e q
  cases dx with
  | nil => cases e
  | cons a b =>
    cases b with
    | cons _ _ => cases a <;> cases e
    | nil =>
      cases a with
      | @lst a xs ds sq dr =>
        cases e
        refine ⟨a, xs, rfl, .inl (sql_sub (hide_sub _ _) sq), ?_⟩
        rw [dr.length]
        exact q _ H (.refl _ _) (.int _)
      | @tup a xs ds sq dr =>
        cases e
        refine ⟨a, xs, rfl, .inr (sqt_sub (hide_sub _ _) sq), ?_⟩
        rw [dr.length]
        exact q _ H (.refl _ _) (.int _)
      | _ => cases e
def oLenS : List D → Option D
  | [.str z] => if z.length ≤ sizeLine then some (.int z.length) else none
  | _ => none
theorem s_lenS : SndA K Ts (fun xs H Q => ∃ z, xs = [.str z] ∧ z.length ≤ sizeLine ∧ Q (.int z.length) H) oLenS := by
  intro xs es d H S Q dom dx e q
  cases dx with
  | nil => cases e
  | cons a b =>
    cases b with
    | cons _ _ => cases a <;> cases e
    | nil =>
      cases a with
      | str z =>
        simp only [oLenS] at e
        split at e
        · cases e
          exact ⟨z, rfl, by assumption, q _ H (.refl _ _) (.int _)⟩
        · cases e
      | _ => cases e
def ints? : List D → Option (List Int)
  | [] => some []
  | .int i :: r => (ints? r).map (i :: ·)
  | _ :: _ => none
theorem ints_ok : ∀ {ds : List D} {ns : List Int}, ints? ds = some ns → ds = ns.map PyData.int
  | [], _, h => by cases h; rfl
  | d :: r, ns, h => by
    cases d with
    | int i =>
      obtain ⟨ms, e1, rfl⟩ := Option.map_eq_some_iff.mp (show (ints? r).map (i :: ·) = some ns from h)
      rw [ints_ok e1]
      rfl
    | _ => cases h
theorem ints_of : ∀ ns : List Int, ints? (ns.map PyData.int) = some ns
  | [] => rfl
  | n :: r => by
    show (ints? (r.map PyData.int)).map (n :: ·) = _
    rw [ints_of r]
    rfl
def oSum : List D → Option D
  | [.list ds] => (ints? ds).map fun ns => .int ns.sum
  | [.tuple ds] => (ints? ds).map fun ns => .int ns.sum
  | _ => none
theorem s_sum : SndA K Ts (rSumB K) oSum := by
  intro xs es d H S Q dom dx e q
  cases dx with
  | nil => cases e
  | cons a b =>
    cases b with
    | cons _ _ => cases a <;> cases e
    | nil =>
      cases a with
      | @lst a xs ds sq dr =>
        obtain ⟨ns, e1, rfl⟩ := Option.map_eq_some_iff.mp (show (ints? ds).map (fun ns => PyData.int ns.sum) = some d from e)
        rw [ints_ok e1] at dr
        rw [dr.ints] at sq
        exact ⟨true, a, ns, rfl, sql_sub (hide_sub _ _) sq, q _ H (.refl _ _) (.int _)⟩
      | @tup a xs ds sq dr =>
        obtain ⟨ns, e1, rfl⟩ := Option.map_eq_some_iff.mp (show (ints? ds).map (fun ns => PyData.int ns.sum) = some d from e)
        rw [ints_ok e1] at dr
        rw [dr.ints] at sq
        exact ⟨false, a, ns, rfl, sqt_sub (hide_sub _ _) sq, q _ H (.refl _ _) (.int _)⟩
      | _ => cases e
def oAbs : List D → Option D
  | [.int i] => some (.int (i.natAbs : Int))
  | _ => none
theorem s_abs : SndA K Ts (fun xs H Q => ∃ i, xs = [.int i] ∧ Q (.int (if i < 0 then -i else i)) H) oAbs := by
  intro xs es d H S Q dom dx e q
  cases dx with
  | nil => cases e
  | cons a b =>
    cases b with
    | cons _ _ => cases a <;> cases e
    | nil =>
      cases a with
      | int i =>
        cases e
        refine ⟨i, rfl, ?_⟩
        have h : (if i < 0 then -i else i) = (i.natAbs : Int) := by split <;> omega
        rw [h]
        exact q _ H (.refl _ _) (.int _)
      | _ => cases e
def oInt : List D → Option D
  | [.int i] => some (.int i)
  | [.bool b] => some (.int (if b then 1 else 0))
  | _ => none
theorem s_int : SndA K Ts (fun xs H Q => (∃ i, xs = [.int i] ∧ Q (.int i) H) ∨ ∃ k, xs = [.bl k] ∧ Q (.int (if k then 1 else 0)) H) oInt := by
  intro xs es d H S Q dom dx e q
  cases dx with
  | nil => cases e
  | cons a b =>
    cases b with
    | cons _ _ => cases a <;> cases e
    | nil =>
      cases a with
      | int i => cases e; exact .inl ⟨i, rfl, q _ H (.refl _ _) (.int _)⟩
      | bl i => cases e; exact .inr ⟨i, rfl, q _ H (.refl _ _) (.int _)⟩
      | _ => cases e
def oMax2 : List D → Option D
  | [.int i, .int j] => some (.int (max i j))
  | _ => none
def oMin2 : List D → Option D
  | [.int i, .int j] => some (.int (min i j))
  | _ => none
theorem s_max2 : SndA K Ts (fun xs H Q => ∃ i j, xs = [.int i, .int j] ∧ Q (.int (if j > i then j else i)) H) oMax2 := by
  intro xs es d H S Q dom dx e q
  cases dx with
  | nil => cases e
  | cons a b =>
    cases b with
    | nil => cases a <;> cases e
    | cons b c =>
      cases a with
      | int i =>
        cases b with
        | int j =>
          cases c with
          | cons _ _ => cases e
          | nil =>
            cases e
            refine ⟨i, j, rfl, ?_⟩
            have h : (if j > i then j else i) = max i j := by split <;> omega
            rw [h]
            exact q _ H (.refl _ _) (.int _)
        | _ => cases e
      | _ => cases e
theorem s_min2 : SndA K Ts (fun xs H Q => ∃ i j, xs = [.int i, .int j] ∧ Q (.int (if j < i then j else i)) H) oMin2 := by
  intro xs es d H S Q dom dx e q
  cases dx with
  | nil => cases e
  | cons a b =>
    cases b with
    | nil => cases a <;> cases e
    | cons b c =>
      cases a with
      | int i =>
        cases b with
        | int j =>
          cases c with
          | cons _ _ => cases e
          | nil =>
            cases e
            refine ⟨i, j, rfl, ?_⟩
            have h : (if j < i then j else i) = min i j := by split <;> omega
            rw [h]
            exact q _ H (.refl _ _) (.int _)
        | _ => cases e
      | _ => cases e
def maxOf : List Int → Option Int
  | [] => none
  | n :: r => some (r.foldl max n)
theorem foldl_max : ∀ (r : List Int) (n : Int), (r.foldl max n ∈ n :: r) ∧ ∀ y ∈ n :: r, y ≤ r.foldl max n
  | [], n => ⟨List.mem_cons_self, fun y hy => by rw [List.mem_singleton.mp hy]; exact Int.le_refl _⟩
  | a :: r, n => by
    obtain ⟨h1, h2⟩ := foldl_max r (max n a)
    refine ⟨?_, fun y hy => ?_⟩
    · show r.foldl max (max n a) ∈ _
      rcases List.mem_cons.mp h1 with z | z
      · rw [z]
        rcases Int.le_total n a with l | l
        · rw [Int.max_eq_right l]
          exact List.mem_cons_of_mem _ List.mem_cons_self
        · rw [Int.max_eq_left l]
          exact List.mem_cons_self
      · exact List.mem_cons_of_mem _ (List.mem_cons_of_mem _ z)
    · show y ≤ r.foldl max (max n a)
      have h3 := h2 (max n a) List.mem_cons_self
      rcases List.mem_cons.mp hy with z | hy
      · rw [z]
        omega
      · rcases List.mem_cons.mp hy with z | z
        · rw [z]
          omega
        · exact h2 y (List.mem_cons_of_mem _ z)
def oMaxL : List D → Option D
  | [.list ds] => (ints? ds).bind fun ns => (maxOf ns).map PyData.int
  | _ => none
def oTup : List D → Option D
  | [.list ds] => some (.tuple ds)
  | [.tuple ds] => some (.tuple ds)
  | _ => none
theorem s_tup : SndA K Ts (fun xs H Q => ∃ p ys, xs = [.ref p] ∧ ((SqL K H p ys ∧ ∀ l, H l = none → Q (.ref l) (upd H l (.tup ys))) ∨ (SqT K H p ys ∧ Q (.ref p) H))) oTup := by
  intro xs es d H S Q dom dx e q
  cases dx with
  | nil => cases e
  | cons a b =>
    cases b with
    | cons _ _ => cases a <;> cases e
    | nil =>
      cases a with
      | @lst a xs ds sq dr => cases e; exact ⟨a, xs, rfl, .inl ⟨sql_sub (hide_sub _ _) sq, fun p np => q _ _ (.new np) (new_tup dom np dr)⟩⟩
      | @tup a xs ds sq dr => cases e; exact ⟨a, xs, rfl, .inr ⟨sqt_sub (hide_sub _ _) sq, q _ H (.refl _ _) (.tup sq dr)⟩⟩
      | _ => cases e
def oList : List D → Option (List D)
  | [.list ds] => some ds
  | [.tuple ds] => some ds
  | _ => none
theorem s_list : SndOA K Ts (fun xs H Q => ∃ p ys, xs = [.ref p] ∧ (SqL K H p ys ∨ SqT K H p ys) ∧ ∀ l, H l = none → Q (.ref l) (upd H l (.lst ys))) oList := by
  intro xs es d H S Q dom dx e q
  cases dx with
  | nil => cases e
  | cons a b =>
    cases b with
    | cons _ _ => cases a <;> cases e
    | nil =>
      cases a with
      | @lst a xs ds sq dr => cases e; exact ⟨a, xs, rfl, .inl (sql_sub (hide_sub _ _) sq), fun p np => q p _ H (.refl _ _) np dr⟩
      | @tup a xs ds sq dr => cases e; exact ⟨a, xs, rfl, .inr (sqt_sub (hide_sub _ _) sq), fun p np => q p _ H (.refl _ _) np dr⟩
      | _ => cases e
def oNeg : D → Option D
  | .int i => some (.int (-i))
  | _ => none
theorem s_neg : Snd1 K Ts (rU fun i => .int (-i)) oNeg := by
  intro x d1 d H S Q dom dx e q
  cases dx with
  | int i => cases e; exact ⟨i, rfl, q _ H (.refl _ _) (.int _)⟩
  | _ => cases e
def okR (d : D) : Bool := d.showable && !d.hasDict && decide (d.depth ≤ 60) && decide (d.shown.length ≤ sizeLine)
def oRepr : List D → Option D
  | [.list ds] => if okR (.list ds) = true then some (.str (PyData.shown (.list ds))) else none
  | [.tuple ds] => if okR (.tuple ds) = true then some (.str (PyData.shown (.tuple ds))) else none
  | _ => none
theorem okR_ok {d : D} (h : okR d = true) : d.showable = true ∧ d.hasDict = false ∧ d.depth ≤ 60 ∧ d.shown.length ≤ sizeLine := by
  unfold okR at h
  simp only [Bool.and_eq_true, Bool.not_eq_true', decide_eq_true_eq] at h
  exact ⟨h.1.1.1, h.1.1.2, h.1.2, h.2⟩
theorem okR_of {d : D} (h : Show d) : okR d = true := by
  unfold okR
  simp only [Bool.and_eq_true, Bool.not_eq_true', decide_eq_true_eq]
  exact ⟨⟨⟨h.s, h.n⟩, h.dp⟩, h.z⟩
end
def tyN : D → String
  | .none => "NoneType"
  | .bool _ => "bool"
  | .int _ => "int"
  | .str _ => "str"
  | .list _ => "list"
  | .tuple _ => "tuple"
  | .dict _ => "dict"
def isExn : D → Bool
  | .dict ((.none, _) :: _) => true
  | _ => false
theorem tyX_of {K : PySem.W.Frag} {H : Hp} {v : V} {d : D} (h : DR K H v d) (n : isExn d = false) : TyX K H v (.type (tyN d)) := by
  cases h with
  | exn q l => cases n
  | non => exact .base .non
  | bl b => exact .base (.bl b)
  | int i => exact .base (.int i)
  | str x => exact .base (.str x)
  | lst sq dr =>
    rcases sq with (e | ⟨o, e⟩) | ⟨o, its, n, hk, hc, _⟩
    · exact .base (.lst e)
    · exact .base (.frz e)
    · exact .kList hk hc
  | tup sq dr => exact .base (.tup sq)
  | dct rd dr =>
    rcases rd with e | ⟨o, e⟩
    · exact .base (.dK e)
    · exact .fDict e
  | dctT e dr => exact .base (.dT e)
section
variable {X : Cx} {Ts : Tbs} {E : EK}
theorem ex_t (ds : List D) : isExn (.tuple ds) = false := rfl
theorem ex_l (ds : List D) : isExn (.list ds) = false := rfl
theorem ex_i (i : Int) : isExn (.int i) = false := rfl
theorem ex_b (i : Bool) : isExn (.bool i) = false := rfl
theorem ex_s (i : Str) : isExn (.str i) = false := rfl
theorem ex_n : isExn .none = false := rfl
def isi (T : String) (f : Mo D) : Mo D := bnd f fun d => if isExn d = false then rt (.bool (tyN d == T || (T == "int" && tyN d == "bool"))) else fun _ => none
theorem de_isi {e : Expr} {T : String} {f : Mo D} (hT : ∀ d : D, PySem.W.kitOne X.K (.type (tyN d)) (.type T) = some (tyN d == T || (T == "int" && tyN d == "bool"))) (h : PE X e (tCB (rIsi X.K) (tCons (tE X.K Ts E f) (tCons (tC (.ty T)) tNil)))) : DE X Ts E e (isi T f) := by
  refine pe_mono h ?_
  rintro σ H Q ⟨A, S, ρ, r, ρ', rel, hf, he, k⟩
  refine tE_step rel hf he fun d ρ1 v H1 p1 dr h1 => ?_
  split at h1
  · rename_i nx
    obtain ⟨rfl, rfl⟩ := rt_ok h1
    exact ⟨v, .ty T, .type (tyN d), .type T, _, rfl, .ty _, tyX_of (dr.sub (hide_sub _ _)) nx, hT d, k _ rfl _ H1 p1 (.bl _)⟩
  · cases h1
def enumD (ds : List D) : List D := ds.zipIdx.map fun z => .tuple [.int (z.2 : Int), z.1]
def seqOf : D → Option (List D)
  | .list ds => some ds
  | .tuple ds => some ds
  | _ => none
def itE (f : Mo D) : Mo (List D) := bnd (args [f]) fun ds => match ds with
  | [d] => (match seqOf d with
    | some es => rt (enumD es)
    | none => fun _ => none)
  | _ => fun _ => none
def zipD (xs ys : List D) : List D := List.zipWith (fun x y => PyData.tuple [x, y]) xs ys
def itZ (f g : Mo D) : Mo (List D) := bnd (args [f, g]) fun ds => match ds with
  | [d, d'] => (match seqOf d, seqOf d' with
    | some es, some fs => rt (zipD es fs)
    | _, _ => fun _ => none)
  | _ => fun _ => none
end
end DL
set_option Elab.async false
set_option linter.all false
set_option maxRecDepth 100000
set_option maxHeartbeats 2000000
namespace DL
open PySem PySem.Spec PyProof.Rows L2 GL
section
variable {X : Cx} {Ts : Tbs} {E : EK}
def frzS : Sl → Sl
  | .ow _ (.lst ds) => .da (.list ds)
  | .ow _ _ => .un
  | .tk ks => .da (.tuple (ks.map kD))
  | s => s
def flat : D → Bool
  | .none => true
  | .bool _ => true
  | .int _ => true
  | .str _ => true
  | _ => false
theorem flat_dr {K : PySem.W.Frag} {H H' : Hp} {v : V} {d : D} (f : flat d = true) (h : DR K H v d) : DR K H' v d := by
  cases h with
  | non => exact .non
  | bl b => exact .bl b
  | int b => exact .int b
  | str b => exact .str b
  | _ => cases f
theorem flat_drs {K : PySem.W.Frag} {H H' : Hp} : ∀ {v : List V} {d : List D}, d.all flat = true → DRs K H v d → DRs K H' v d
  | _, _, _, .nil => .nil
  | _, _, f, .cons a b => by
    rw [List.all_cons, Bool.and_eq_true] at f
    exact .cons (flat_dr f.1 a) (flat_drs f.2 b)
theorem keys_dr {K : PySem.W.Frag} {H : Hp} : ∀ ks : List Key, DRs K H (ks.map kV) (ks.map kD)
  | [] => .nil
  | .inl i :: r => .cons (.int i) (keys_dr r)
  | .inr i :: r => .cons (.str i) (keys_dr r)
theorem hide_nil (H : Hp) : hide [] H = H := by
  funext b
  unfold hide
  rw [if_neg (fun z => nomatch z)]
theorem frz_get {ρ : Ev} {i : Nat} {d : D} (h : (ρ.map frzS)[i]? = some (.da d)) : ρ[i]? = some (.da d) ∨ (∃ l ds, ρ[i]? = some (.ow l (.lst ds)) ∧ d = .list ds) ∨ ∃ ks, ρ[i]? = some (.tk ks) ∧ d = .tuple (ks.map kD) := by
  rw [List.getElem?_map] at h
  obtain ⟨s, h1, h2⟩ := Option.map_eq_some_iff.mp h
  cases s with
  | un => cases h2
  | da d => cases h2; exact .inl h1
  | tk ks => cases h2; exact .inr (.inr ⟨ks, h1, rfl⟩)
  | ow l c =>
    cases c with
    | lst ds => cases h2; exact .inr (.inl ⟨l, ds, h1, rfl⟩)
    | dK _ => cases h2
    | dT _ => cases h2
theorem frz_no {ρ : Ev} {i : Nat} {s : Sl} (h : (ρ.map frzS)[i]? = some s) : (∀ l c, s ≠ .ow l c) ∧ ∀ ks, s ≠ .tk ks := by
  rw [List.getElem?_map] at h
  obtain ⟨s', h1, h2⟩ := Option.map_eq_some_iff.mp h
  subst h2
  cases s' with
  | un => exact ⟨(fun _ _ z => by cases z), (fun _ z => by cases z)⟩
  | da d => exact ⟨(fun _ _ z => by cases z), (fun _ z => by cases z)⟩
  | tk ks => exact ⟨(fun _ _ z => by cases z), (fun _ z => by cases z)⟩
  | ow l c => cases c <;> exact ⟨(fun _ _ z => by cases z), (fun _ z => by cases z)⟩
theorem Rel.frzAll {K : PySem.W.Frag} {A : Act} {S : List Addr} {σ : L2.St} {ρ : Ev} {H : Hp} (r : Rel K Ts A S ρ σ H) : Rel K Ts ⟨[], [], H⟩ [] (ρ.map frzS) σ H := by
  refine ⟨by rw [List.length_map]; exact r.len, fun i d e => ?_, fun i l c e => absurd rfl ((frz_no e).1 l c), fun i j l l' c c' a e => absurd rfl ((frz_no e).1 l c), fun a h => (nomatch h), fun a h => (nomatch h), fun b o _ e _ => e, r.tab, fun a h => (nomatch h), fun a h => (nomatch h), fun b h => h, fun i ks e => absurd rfl ((frz_no e).2 ks), fun a h => (nomatch h)⟩
  rw [hide_nil]
  rcases frz_get e with z | ⟨l, ds, z, rfl⟩ | ⟨ks, z, rfl⟩
  · obtain ⟨v, h1, h2⟩ := r.da i d z
    exact ⟨v, h1, h2.sub (hide_sub _ _)⟩
  · obtain ⟨a, h1, _, ⟨xs, h2, h3⟩, _⟩ := r.ow i l _ z
    exact ⟨_, h1, .lst (.inl (.inl h2)) (h3.sub (hide_sub _ _))⟩
  · obtain ⟨a, h1, h2⟩ := r.tk i ks z
    exact ⟨_, h1, .tup (of_hide h2).2 (keys_dr ks)⟩
theorem frz_own {ρ : Ev} {σ : L2.St} {b : Addr} : ¬ OwnA (ρ.map frzS) σ b := fun ⟨i, l, c, e, _⟩ => (frz_no e).1 l c rfl
theorem frz_grow {K : PySem.W.Frag} {σ : L2.St} {ρ ρ' : Ev} {H H' : Hp} (p : Post K Ts ⟨[], [], H⟩ [] σ (ρ.map frzS) H ρ' H') : Grow Ts H H' :=
  ⟨fun b o e n => p.fr b o e n frz_own, fun _ => p.rel.tab, p.rel.exd⟩
def qt (f : Mo D) : Mo D := fun ρ => match f (ρ.map frzS) with
  | some (.ok d, _) => if flat d = true then some (.ok d, ρ) else none
  | _ => none
theorem de_qt {e : Expr} {f : Mo D} (h : DE X Ts E e f) : DE X Ts E e (qt f) := by
  refine pe_mono h ?_
  rintro σ H Q ⟨A, S, ρ, r, ρ', rel, hf, he, k⟩
  unfold qt at hf
  split at hf
  · rename_i d ρ1 e1
    split at hf
    · rename_i fl
      cases hf
      refine ⟨_, [], _, .ok d, ρ1, rel.frzAll, e1, (fun x hx => by cases hx), fun d' hd v H' p dr => ?_⟩
      cases hd
      exact k _ rfl v H' (.grow rel (frz_grow p)) (flat_dr fl dr)
    · cases hf
  · cases hf
def qT (f : Mo Bool) : Mo Bool := fun ρ => match f (ρ.map frzS) with
  | some (.ok d, _) => some (.ok d, ρ)
  | _ => none
theorem Rel.hideGrow {K : PySem.W.Frag} {A : Act} {S : List Addr} {σ : L2.St} {ρ : Ev} {H H' : Hp} {p : Addr} (r : Rel K Ts A S ρ σ H) (g : Grow Ts H H') (hp : H p = none) (hm : Mu H' p) : Rel K Ts A (p :: S) ρ σ H' ∧ A.H0 p = none ∧ ¬ OwnA ρ σ p ∧ p ∉ S ∧ Sub (hide S H) (hide (p :: S) H') := by
  have np : p ∉ S := fun z => r.dom p z hp
  have h0 : A.H0 p = none := by
    cases e : A.H0 p with
    | none => rfl
    | some u => exact absurd hp (r.exd p (by rw [e]; exact fun z => by cases z))
  have no : ¬ OwnA ρ σ p := fun z => np (r.own_in z)
  have sub : Sub (hide S H) (hide (p :: S) H') := fun b u e n => by
    obtain ⟨e1, e2⟩ := of_hide e
    refine hide_of (fun z => ?_) (g.keep b u e2 n)
    rcases List.mem_cons.mp z with z | z
    · rw [z, hp] at e2
      cases e2
    · exact e1 z
  have r1 := r.grow g
  refine ⟨⟨r1.len, fun j x e => ?_, fun j l c e => ?_, r1.inj, fun b hb => ?_, fun b hb => List.mem_cons_of_mem _ (r1.sub b hb), r1.ext, r1.tab, r1.dom0, r1.op0, r1.exd, fun j ks e => ?_, fun b hb => ?_⟩, h0, no, np, sub⟩
  · obtain ⟨v, g1, g2⟩ := r.da j x e
    exact ⟨v, g1, g2.sub sub⟩
  · obtain ⟨b, g1, g2, g3, g4⟩ := r.ow j l c e
    exact ⟨b, g1, List.mem_cons_of_mem _ g2, g3.sub sub (fun u e n => g.keep b u e n), g4⟩
  · rcases List.mem_cons.mp hb with z | z
    · rw [z]
      obtain ⟨o, e, _⟩ := hm
      rw [e]
      exact fun z => by cases z
    · exact r1.dom b z
  · obtain ⟨v, g1, g2⟩ := r.tk j ks e
    exact ⟨v, g1, sub _ _ g2 (fun _ z => by cases z)⟩
  · rcases List.mem_cons.mp hb with z | z
    · rw [z]
      exact hm
    · exact r1.mu b z
def qo (f : Mo (List D)) : Mo (List D) := fun ρ => match f (ρ.map frzS) with
  | some (.ok ds, _) => if ds.all flat = true then some (.ok ds, ρ) else none
  | _ => none
theorem t_qo {f : Mo (List D)} {σ : L2.St} {H : Hp} {Q : VK} (h : tEo X.K Ts E (qo f) σ H Q) : tEo X.K Ts E f σ H Q := by
  obtain ⟨A, S, ρ, r, ρ', rel, hf, he, k⟩ := h
  unfold qo at hf
  split at hf
  · rename_i ds ρ1 e1
    split at hf
    · rename_i fl
      cases hf
      refine ⟨_, [], _, .ok ds, ρ1, rel.frzAll, e1, (fun x hx => by cases hx), fun d' hd p xs H' r1 sm fr h0 no np hp dr sub => ?_⟩
      cases hd
      have g : Grow Ts H H' := ⟨fun b o e n => fr b o e n frz_own, fun _ => r1.tab, r1.exd⟩
      obtain ⟨r2, h02, no2, np2, sub2⟩ := rel.hideGrow g h0 ⟨_, hp, True.intro⟩
      exact k _ rfl p xs H' r2 (.refl _) (fun b o e n _ => g.keep b o e n) h02 no2 np2 hp (flat_drs fl dr) sub2
    · cases hf
  · cases hf
theorem ds_setLcQ {st : Stmt} {i : Nat} {it : Mo (List D)} {is : List Nat} {tg : Tg} {t : Mo Bool} {el : Mo D} {vs : List Nat} (hvs : ∀ i ∈ is, i ∈ vs) (h : PS X st (tAsg (tLc (tI X.K Ts E it) (tG X.K Ts is tg) (tT X.K Ts E0x t) (tE X.K Ts E0x el) vs) (gName i))) : DS X Ts E st (setO i (qo (lc it tg t el vs))) :=
  ds_setO (ps_mono h fun _ σ H q => t_lc hvs σ H _ (t_qo q))
def orO {α β γ : Type} (o o' : α → β → Option γ) : α → β → Option γ := fun a b => match o a b with
  | some d => some d
  | none => o' a b
theorem OpR.or {f : Value → Value → Sem Value} {r r' : R2} (h : OpR X f r) (h' : OpR X f r') : OpR X f (fun x y H Q => r x y H Q ∨ r' x y H Q) := by
  intro pins s σ H x y v u Q I rx ry q
  rcases q with q | q
  · exact h pins s σ H x y v u Q I rx ry q
  · exact h' pins s σ H x y v u Q I rx ry q
theorem Snd2.or {K : PySem.W.Frag} {r r' : R2} {o o' : D → D → Option D} (h : Snd2 K Ts r o) (h' : Snd2 K Ts r' o') : Snd2 K Ts (fun x y H Q => r x y H Q ∨ r' x y H Q) (orO o o') := by
  intro x y d1 d2 d H S Q dom h1 h2 e q
  unfold orO at e
  split at e
  · rename_i d' e'
    cases e
    exact .inl (h x y d1 d2 _ H S Q dom h1 h2 e' q)
  · exact .inr (h' x y d1 d2 d H S Q dom h1 h2 e q)
def orA {α γ : Type} (o o' : α → Option γ) : α → Option γ := fun a => match o a with
  | some d => some d
  | none => o' a
theorem CallR.or {f : Value} {r r' : List V → Hp → VK → Prop} (h : CallR X f r) (h' : CallR X f r') : CallR X f (fun x H Q => r x H Q ∨ r' x H Q) := by
  intro pins s σ H x v Q I rx q
  rcases q with q | q
  · exact h pins s σ H x v Q I rx q
  · exact h' pins s σ H x v Q I rx q
theorem SndA.or {K : PySem.W.Frag} {r r' : List V → Hp → VK → Prop} {o o' : List D → Option D} (h : SndA K Ts r o) (h' : SndA K Ts r' o') : SndA K Ts (fun x H Q => r x H Q ∨ r' x H Q) (orA o o') := by
  intro xs ds d H S Q dom h1 e q
  unfold orA at e
  split at e
  · rename_i d' e'
    cases e
    exact .inl (h xs ds _ H S Q dom h1 e' q)
  · exact .inr (h' xs ds d H S Q dom h1 e q)
def orS {γ : Type} (o o' : D → Option Int → Option Int → Option γ) : D → Option Int → Option Int → Option γ := fun a b c => match o a b c with
  | some d => some d
  | none => o' a b c
theorem SndS.or {K : PySem.W.Frag} {r r' : V → Option Int → Option Int → Hp → VK → Prop} {o o' : D → Option Int → Option Int → Option D} (h : SndS K Ts r o) (h' : SndS K Ts r' o') : SndS K Ts (fun x l u H Q => r x l u H Q ∨ r' x l u H Q) (orS o o') := by
  intro x l u d1 d H S Q dom h1 e q
  unfold orS at e
  split at e
  · rename_i d' e'
    cases e
    exact .inl (h x l u d1 _ H S Q dom h1 e' q)
  · exact .inr (h' x l u d1 d H S Q dom h1 e q)
theorem newL_dr {K : PySem.W.Frag} {S : List Addr} {H : Hp} {ds : List D} {Q : VK} (dom : ∀ a ∈ S, H a ≠ none) (q : ∀ v H', Grow Ts H H' → DR K (hide S H') v (.list ds) → Q v H') : NewL K Ts S H ds Q := by
  intro p xs H1 g np dr
  have dom1 : ∀ a ∈ S, H1 a ≠ none := fun a ha => g.dom a (dom a ha)
  have g2 : Grow Ts H1 (upd H1 p (.lst xs)) := .new np
  exact q _ _ (g.trans g2) (.lst (.inl (.inl (hide_of (new_hid dom1 np) upd_same))) (dr.sub (grow_hide dom1 g2)))
theorem Snd2.ofO {K : PySem.W.Frag} {r : R2} {o : D → D → Option (List D)} (h : SndO2 K Ts r o) : Snd2 K Ts r (fun a b => (o a b).map PyData.list) := by
  intro x y d1 d2 d H S Q dom h1 h2 e q
  obtain ⟨ds, e1, rfl⟩ := Option.map_eq_some_iff.mp e
  exact h x y d1 d2 ds H S Q dom h1 h2 e1 (newL_dr dom q)
theorem SndA.ofO {K : PySem.W.Frag} {r : List V → Hp → VK → Prop} {o : List D → Option (List D)} (h : SndOA K Ts r o) : SndA K Ts r (fun a => (o a).map PyData.list) := by
  intro xs ds d H S Q dom h1 e q
  obtain ⟨es, e1, rfl⟩ := Option.map_eq_some_iff.mp e
  exact h xs ds es H S Q dom h1 e1 (newL_dr dom q)
theorem SndS.ofO {K : PySem.W.Frag} {r : V → Option Int → Option Int → Hp → VK → Prop} {o : D → Option Int → Option Int → Option (List D)} (h : SndOS K Ts r o) : SndS K Ts r (fun a l u => (o a l u).map PyData.list) := by
  intro x l u d1 d H S Q dom h1 e q
  obtain ⟨es, e1, rfl⟩ := Option.map_eq_some_iff.mp e
  exact h x l u d1 es H S Q dom h1 e1 (newL_dr dom q)
def oCatS : D → D → Option D
  | .str x, .str y => if x.length + y.length ≤ sizeLine then some (.str (x ++ y)) else none
  | _, _ => none
theorem s_catS {K : PySem.W.Frag} : Snd2 K Ts (fun x y H Q => ∃ i j, x = .str i ∧ y = .str j ∧ i.length + j.length ≤ sizeLine ∧ Q (.str (i ++ j)) H) oCatS := by
  intro x y d1 d2 d H S Q dom h1 h2 e q
  unfold oCatS at e
  split at e
  · split at e
    · rename_i hl
      cases e
      cases h1
      cases h2
      exact ⟨_, _, rfl, rfl, hl, q _ H (.refl _ _) (.str _)⟩
    · cases e
  · cases e
def uAdd : D → D → Option D := orO oAdd (orO oCatT (orO oCatS fun a b => (oCatL a b).map PyData.list))
def rAddU (K : PySem.W.Frag) : R2 := fun x y H Q => rI0 (fun i j => .int (i + j)) x y H Q ∨ rCatA K x y H Q ∨ (∃ i j, x = .str i ∧ y = .str j ∧ i.length + j.length ≤ sizeLine ∧ Q (.str (i ++ j)) H) ∨ rCatS K x y H Q
theorem s_addU {K : PySem.W.Frag} : Snd2 K Ts (rAddU K) uAdd := s_add.or (s_catT.or (s_catS.or (.ofO s_catL)))
theorem op_addU : OpR X (binaryOp .Add) (rAddU X.K) := OpR.or op_add (OpR.or op_catA (OpR.or op_add_str op_catS))
noncomputable def uMul : D → D → Option D := orO oMul oRepT
def rMulU (K : PySem.W.Frag) : R2 := fun x y H Q => rI CMulW (fun i j => .int (i * j)) x y H Q ∨ rRepA K x y H Q
theorem s_mulU {K : PySem.W.Frag} : Snd2 K Ts (rMulU K) uMul := s_mul.or s_repT
theorem op_mulU : OpR X (binaryOp .Mult) (rMulU X.K) := OpR.or op_mulW op_repA
def uIx : D → D → Option D := orO oIxT (orO oIxL oIxS)
def rIxU (K : PySem.W.Frag) : R2 := fun x y H Q => rIxT K x y H Q ∨ rIxL K x y H Q ∨ rIxS x y H Q
theorem s_ixU {K : PySem.W.Frag} : Snd2 K Ts (rIxU K) uIx := s_ixT.or (s_ixL.or s_ixS)
theorem ix_U : IxR X (rIxU X.K) := ix_tup.or (ix_list.or ix_str)
def uSl : D → Option Int → Option Int → Option D := orS oSlT fun a l u => (oSlL a l u).map PyData.list
def rSlU (K : PySem.W.Frag) : V → Option Int → Option Int → Hp → VK → Prop := fun x l u H Q => rSlA K x l u H Q ∨ rSlL K x l u H Q
theorem s_slU {K : PySem.W.Frag} : SndS K Ts (rSlU K) uSl := s_slT.or (.ofO s_slL)
theorem sl_U : SlR X (rSlU X.K) := sl_tupA.or sl_list
def uLen : List D → Option D := orA oLen oLenS
def uEq : D → D → Option D := orO oEqS oEqD
def uNe : D → D → Option D := orO oNeS oNeD
def rEqU (K : PySem.W.Frag) : R2 := fun x y H Q => rEq x y H Q ∨ rEqD K x y H Q
def rNeU (K : PySem.W.Frag) : R2 := fun x y H Q => rNe x y H Q ∨ rNeD K x y H Q
theorem s_eqU {K : PySem.W.Frag} : Snd2 K Ts (rEqU K) uEq := s_eqS.or s_eqD
theorem s_neU {K : PySem.W.Frag} : Snd2 K Ts (rNeU K) uNe := s_neS.or s_neD
theorem op_eqU (hu : X.A.units + 64 < cLine) : OpR X (compareOp .Eq) (rEqU X.K) := OpR.or op_eq (op_eqD hu)
theorem op_neU (hu : X.A.units + 64 < cLine) : OpR X (compareOp .NotEq) (rNeU X.K) := OpR.or op_ne (op_neD hu)
theorem PI.or {tg e : Expr} {t t' : TI} (h : PI X tg e t) (h' : PI X tg e t') : PI X tg e (fun σ H R => t σ H R ∨ t' σ H R) := ⟨fun pins s σ H R I q => by
  rcases q with q | q
  · exact h.run pins s σ H R I q
  · exact h'.run pins s σ H R I q⟩
def itU (f : Mo D) : Mo (List D) := bnd f fun d => lf (seqOf d)
theorem di_U {tg e : Expr} {f : Mo D} (h1 : DI X Ts E tg e (itL f)) (h2 : DI X Ts E tg e (itT f)) : DI X Ts E tg e (itU f) := by
  refine pi_mono (PI.or h1 h2) ?_
  rintro σ H R ⟨A, S, ρ, r, ρ', rel, hf, he, k⟩
  rcases bnd_cases hf with ⟨x, e, rfl⟩ | ⟨d, ρ1, e, h1⟩
  · exact .inl ⟨A, S, ρ, .error x, ρ', rel, by unfold itL bnd; rw [e], he, k⟩
  · obtain ⟨ds, e1, rfl, rfl⟩ := lf_ok h1
    cases d with
    | list es =>
      cases e1
      exact .inl ⟨A, S, ρ, .ok ds, _, rel, by unfold itL bnd; rw [e]; rfl, he, k⟩
    | tuple es =>
      cases e1
      exact .inr ⟨A, S, ρ, .ok ds, _, rel, by unfold itT bnd; rw [e]; rfl, he, k⟩
    | _ => cases e1
theorem pw_mono {e : Expr} {t t' : TT} (h : PW X e t) (m : ∀ σ H Q, t' σ H Q → t σ H Q) : PW X e t' := ⟨fun w pins s σ H Q I q => h.run w pins s σ H Q I (m σ H Q q)⟩
abbrev DW (X : Cx) (Ts : Tbs) (E : EK) (e : Expr) (f : Mo Bool) : Prop := PW X e (tT X.K Ts E f)
theorem dw_and {a b : Expr} {rest : List Expr} {pos : Pos} {f g : Mo Bool} (h1 : DT X Ts E a f) (h2 : DW X Ts E (.BoolOp .And (b :: rest) pos) g) : DW X Ts E (.BoolOp .And (a :: b :: rest) pos) (band f g) := pw_mono (pw_and h1 h2) fun _ _ _ h => t_and h
theorem dw_or {a b : Expr} {rest : List Expr} {pos : Pos} {f g : Mo Bool} (h1 : DT X Ts E a f) (h2 : DW X Ts E (.BoolOp .Or (b :: rest) pos) g) : DW X Ts E (.BoolOp .Or (a :: b :: rest) pos) (bor f g) := pw_mono (pw_or h1 h2) fun _ _ _ h => t_or h
theorem dw_and1 {a : Expr} {pos : Pos} {f : Mo Bool} (h1 : DT X Ts E a f) : DW X Ts E (.BoolOp .And [a] pos) f := pw_and1 h1
theorem dw_or1 {a : Expr} {pos : Pos} {f : Mo Bool} (h1 : DT X Ts E a f) : DW X Ts E (.BoolOp .Or [a] pos) f := pw_or1 h1
def chn (o o' : D → D → Option D) (f g h : Mo D) : Mo D := bnd f fun x => bnd g fun y => bnd (lf (o x y)) fun b => match b with
  | .bool true => bnd h fun z => lf (o' y z)
  | .bool false => rt (.bool false)
  | _ => fun _ => none
def rep (f : Mo (List D)) (g : Mo D) : Mo (List D) := bnd f fun ds => bnd g fun d => match d with
  | .int k => lf (if -(2 ^ 63) ≤ k ∧ k < 2 ^ 63 ∧ ds.length * k.toNat ≤ sizeLine then some (List.replicate k.toNat ds).flatten else none)
  | _ => fun _ => none
theorem deo_rep {e : Expr} {f : Mo (List D)} {g : Mo D} (h : PE X e (tOp rRep (tEo X.K Ts E f) (tE X.K Ts E g))) : DEo X Ts E e (rep f g) := by
  refine pe_mono h ?_
  rintro σ H Q ⟨A, S, ρ, r, ρ', rel, hf, he, k⟩
  rcases bnd_cases hf with ⟨x, e, rfl⟩ | ⟨ds, ρ1, e, h1⟩
  · exact ⟨A, S, ρ, .error x, ρ', rel, e, (fun y hy => by cases hy; exact he x rfl), (fun d hd => by cases hd)⟩
  · refine ⟨A, S, ρ, .ok ds, ρ1, rel, e, (fun y hy => by cases hy), fun d' hd p xs H1 r1 sm fr h0 no np hp dr sub => ?_⟩
    cases hd
    have rS : Rel X.K Ts A S ρ1 σ H1 := r1.unhide no h0 np
    have hps : Sub (hide (p :: S) H1) (hide S H1) := hide_mono fun b hb => List.mem_cons_of_mem _ hb
    have p1 : Post X.K Ts A S σ ρ H ρ1 H1 := ⟨rS, sm, fr⟩
    refine tE_step rS h1 (he.step p1) fun d ρ2 v2 H2 p2 dr2 h2 => ?_
    cases dr2 with
    | int kk =>
      obtain ⟨ds', e2, rfl, rfl⟩ := lf_ok h2
      split at e2
      · rename_i hk
        cases e2
        have hp2 : H2 p = some (.lst xs) := p2.fr p _ hp (fun _ z => by cases z) no
        have l := dr.length
        refine ⟨p, kk, xs, rfl, rfl, hp2, hk.1, hk.2.1, by rw [l]; exact hk.2.2, fun p' np' => ?_⟩
        exact newL_of rel (p1.trans p2) (k _ rfl) p' _ H2 (.refl _ _) np' (((dr.sub hps).sub (p2.sub rS)).rep _)
      · cases e2
    | _ => cases h2
end
end DL
set_option Elab.async false
set_option linter.all false
set_option maxRecDepth 100000
set_option maxHeartbeats 2000000
namespace DL
open PySem PySem.Spec PyProof.Rows L2 GL
section
variable {X : Cx} {Ts : Tbs} {E : EK}
def dK1 : D → Option Key
  | .int i => some (.inl i)
  | .str i => some (.inr i)
  | _ => none
def dKs : List D → Option (List Key)
  | [] => some []
  | d :: r => match dK1 d, dKs r with
    | some k, some ks => some (k :: ks)
    | _, _ => none
theorem dK1_ok {d : D} {k : Key} (h : dK1 d = some k) : d = kD k := by
  cases d <;> simp [dK1] at h
  · subst h; rfl
  · subst h; rfl
theorem dKs_ok : ∀ {ds : List D} {ks : List Key}, dKs ds = some ks → ds = ks.map kD
  | [], ks, h => by cases h; rfl
  | d :: r, ks, h => by
    simp only [dKs] at h
    split at h
    · rename_i k kr e1 e2
      cases h
      rw [dK1_ok e1, dKs_ok e2]
      rfl
    · cases h
theorem kD_v {K : PySem.W.Frag} {H : Hp} {v : V} {k : Key} (h : DR K H v (kD k)) : v = kV k := by
  cases k with
  | inl i => cases h; rfl
  | inr i => cases h; rfl
theorem keys_v {K : PySem.W.Frag} {H : Hp} : ∀ {vs : List V} {ks : List Key}, DRs K H vs (ks.map kD) → vs = ks.map kV
  | _, [], h => by cases h; rfl
  | _, k :: ks, h => by
    cases h with
    | cons a b => rw [kD_v a, keys_v b]; rfl
def tK (K : PySem.W.Frag) (Ts : Tbs) (E : EK) (f : Mo (List Key)) : TE := fun σ H Q => ∃ (A : Act) (S : List Addr) (ρ : Ev) (r : Except XV (List Key)) (ρ' : Ev), Rel K Ts A S ρ σ H ∧ f ρ = some (r, ρ') ∧ Err K Ts E A S σ ρ H r ρ' ∧
  ∀ ks, r = .ok ks → ∀ a H', Post K Ts A S σ ρ H ρ' H' → hide S H' a = some (.tup (ks.map kV)) → Q (.ref a) H'
abbrev DK (X : Cx) (Ts : Tbs) (E : EK) (e : Expr) (f : Mo (List Key)) : Prop := PE X e (tK X.K Ts E f)
def kyT (fs : List (Mo D)) : Mo (List Key) := bnd (args fs) fun ds => lf (dKs ds)
def kyV (i : Nat) : Mo (List Key) := fun ρ => match ρ[i]? with
  | some (.tk ks) => some (.ok ks, ρ)
  | _ => none
def setK (i : Nat) (f : Mo (List Key)) : Stm := ex1 f fun ks ρ => some (.nx, ρ.set i (.tk ks))
def newT (i : Nat) : Stm := fun ρ => some (.nx, ρ.set i (.ow true (.dT [])))
def newK (i : Nat) : Stm := fun ρ => some (.nx, ρ.set i (.ow true (.dK [])))
def oT (ρ : Ev) (i : Nat) : Option (Bool × List (List Key × D)) := match ρ[i]? with
  | some (.ow l (.dT kvs)) => some (l, kvs)
  | _ => none
theorem oT_ok {ρ : Ev} {i : Nat} {l : Bool} {ds : List (List Key × D)} (h : oT ρ i = some (l, ds)) : ρ[i]? = some (.ow l (.dT ds)) := by
  unfold oT at h
  split at h
  · cases h; assumption
  · cases h
def oK (ρ : Ev) (i : Nat) : Option (Bool × List (Key × D)) := match ρ[i]? with
  | some (.ow l (.dK kvs)) => some (l, kvs)
  | _ => none
theorem oK_ok {ρ : Ev} {i : Nat} {l : Bool} {ds : List (Key × D)} (h : oK ρ i = some (l, ds)) : ρ[i]? = some (.ow l (.dK ds)) := by
  unfold oK at h
  split at h
  · cases h; assumption
  · cases h
def valD {κ : Type} [DecidableEq κ] (kvs : List (κ × D)) (k : κ) : Option D := (kvs.find? fun kv => decide (kv.1 = k)).map (·.2)
def putD {κ : Type} [DecidableEq κ] (kvs : List (κ × D)) (k : κ) (v : D) : List (κ × D) :=
  if (kvs.any fun kv => decide (kv.1 = k)) = true then kvs.map (fun kv => if kv.1 = k then (kv.1, v) else kv) else kvs ++ [(k, v)]
section
variable {κ : Type} [DecidableEq κ] {K : PySem.W.Frag} {Hs : Hp}
theorem val_rel {k : κ} {d : D} : ∀ {ys : List (κ × V)} {kvs : List (κ × D)}, Paired (fun (p : κ × V) (q : κ × D) => p.1 = q.1 ∧ DR K Hs p.2 q.2) ys kvs → valD kvs k = some d → ∃ v, valV ys k = some v ∧ DR K Hs v d
  | _, _, .nil, e => by cases e
  | _, _, .cons (a := p) (b := q) h t, e => by
    obtain ⟨h1, h2⟩ := h
    by_cases hk : q.1 = k
    · have e1 : q.2 = d := by simpa [valD, List.find?_cons, hk] using e
      exact ⟨p.2, valV_pos (h1.trans hk), e1 ▸ h2⟩
    · obtain ⟨v, g1, g2⟩ := val_rel (k := k) (d := d) t (by simpa [valD, List.find?_cons, hk] using e)
      exact ⟨v, by rw [valV_neg (fun z => hk (h1.symm.trans z))]; exact g1, g2⟩
theorem any_rel {k : κ} : ∀ {ys : List (κ × V)} {kvs : List (κ × D)}, Paired (fun (p : κ × V) (q : κ × D) => p.1 = q.1 ∧ DR K Hs p.2 q.2) ys kvs → (ys.any fun kv => decide (kv.1 = k)) = (kvs.any fun kv => decide (kv.1 = k))
  | _, _, .nil => rfl
  | _, _, .cons h t => by
    rw [List.any_cons, List.any_cons, any_rel t, h.1]
theorem map_rel {k : κ} {v : V} {d : D} (dr : DR K Hs v d) : ∀ {ys : List (κ × V)} {kvs : List (κ × D)}, Paired (fun (p : κ × V) (q : κ × D) => p.1 = q.1 ∧ DR K Hs p.2 q.2) ys kvs →
    Paired (fun (p : κ × V) (q : κ × D) => p.1 = q.1 ∧ DR K Hs p.2 q.2) (ys.map fun kv => if kv.1 = k then (kv.1, v) else kv) (kvs.map fun kv => if kv.1 = k then (kv.1, d) else kv)
  | _, _, .nil => .nil
  | _, _, .cons (a := p) (b := q) h t => by
    refine .cons ?_ (map_rel dr t)
    show (if p.1 = k then (p.1, v) else p).1 = (if q.1 = k then (q.1, d) else q).1 ∧ DR K Hs (if p.1 = k then (p.1, v) else p).2 (if q.1 = k then (q.1, d) else q).2
    by_cases hk : q.1 = k
    · rw [if_pos hk, if_pos (h.1.trans hk)]
      exact ⟨h.1, dr⟩
    · rw [if_neg hk, if_neg (fun z => hk (h.1.symm.trans z))]
      exact h
theorem app_rel {p : κ × V} {q : κ × D} (h0 : p.1 = q.1 ∧ DR K Hs p.2 q.2) : ∀ {ys : List (κ × V)} {kvs : List (κ × D)}, Paired (fun (p : κ × V) (q : κ × D) => p.1 = q.1 ∧ DR K Hs p.2 q.2) ys kvs →
    Paired (fun (p : κ × V) (q : κ × D) => p.1 = q.1 ∧ DR K Hs p.2 q.2) (ys ++ [p]) (kvs ++ [q])
  | _, _, .nil => .cons h0 .nil
  | _, _, .cons h t => .cons h (app_rel h0 t)
theorem put_rel {k : κ} {v : V} {d : D} (dr : DR K Hs v d) {ys : List (κ × V)} {kvs : List (κ × D)} (h : Paired (fun (p : κ × V) (q : κ × D) => p.1 = q.1 ∧ DR K Hs p.2 q.2) ys kvs) :
    Paired (fun (p : κ × V) (q : κ × D) => p.1 = q.1 ∧ DR K Hs p.2 q.2) (putK ys k v) (putD kvs k d) := by
  unfold putK putD
  rw [any_rel h]
  split
  · exact map_rel dr h
  · exact app_rel ⟨rfl, dr⟩ h
end
def getT (i : Nat) (f : Mo (List Key)) : Mo D := fun ρ => match oT ρ i with
  | none => none
  | some _ => bnd f (fun ks ρ1 => match oT ρ1 i with
    | none => none
    | some (_, kvs) => lf (valD kvs ks) ρ1) ρ
def putT (i : Nat) (kf : Mo (List Key)) (f : Mo D) : Stm := ex1 f fun d => fun ρ => match oT ρ i with
  | none => none
  | some _ => ex1 kf (fun ks ρ1 => match oT ρ1 i with
    | none => none
    | some (l, kvs) => if kvs.length < sizeLine then some (.nx, ρ1.set i (.ow l (.dT (putD kvs ks d)))) else none) ρ
def lenT (i : Nat) : Mo D := fun ρ => match oT ρ i with
  | some (_, kvs) => some (.ok (.int (kvs.length : Nat)), ρ)
  | none => none
def pairs? : List (List Key × D) → Option (List (Int × Int))
  | [] => some []
  | ([.inl i, .inl j], _) :: r => (pairs? r).map fun ps => (i, j) :: ps
  | _ => none
def leB (x y : Int × Int) : Bool := !SrtO.lexB y x
def insP (n : Int × Int) : List (Int × Int) → List (Int × Int)
  | [] => [n]
  | m :: r => if leB n m = true then n :: m :: r else m :: insP n r
def psort : List (Int × Int) → List (Int × Int)
  | [] => []
  | n :: r => insP n (psort r)
def pairD (p : Int × Int) : D := .tuple [.int p.1, .int p.2]
def sortT (i : Nat) : Mo (List D) := fun ρ => match oT ρ i with
  | some (_, kvs) => (match pairs? kvs with
    | some ps => some (.ok ((psort ps).map pairD), ρ)
    | none => none)
  | none => none
def getK (i : Nat) (f : Mo D) : Mo D := fun ρ => match oK ρ i with
  | none => none
  | some _ => bnd f (fun d ρ1 => match oK ρ1 i, dK1 d with
    | some (_, kvs), some k => lf (valD kvs k) ρ1
    | _, _ => none) ρ
theorem de_getK {e : Expr} {i : Nat} {f : Mo D} (h : PE X e (tDGet (tVar i) (tE X.K Ts E f))) : DE X Ts E e (getK i f) := by
  refine pe_mono h ?_
  rintro σ H Q ⟨A, S, ρ, r, ρ', rel, hf, he, k⟩
  unfold getK at hf
  split at hf
  · cases hf
  · rename_i z e0
    obtain ⟨l0, c0⟩ := z
    obtain ⟨a, s0, _⟩ := rel.ow i l0 _ (oK_ok e0)
    refine ⟨.ref a, s0, tE_step rel hf he fun d ρ1 v H1 p1 dr h1 => ?_⟩
    split at h1
    · rename_i l kvs kk e2 e4
      obtain ⟨dd, e3, rfl, rfl⟩ := lf_ok h1
      obtain ⟨a', s1, q1, ⟨ys, q2, q3⟩, _⟩ := p1.rel.ow i l _ (oK_ok e2)
      rw [s0] at s1
      cases s1
      obtain ⟨w, g1, g2⟩ := val_rel q3 e3
      rw [dK1_ok e4] at dr
      rw [kD_v dr]
      exact ⟨a, w, rfl, g1 ▸ DGet.k q2, k _ rfl w H1 p1 g2⟩
    · cases h1
def putKS (i : Nat) (kf f : Mo D) : Stm := ex1 f fun d => fun ρ => match oK ρ i with
  | none => none
  | some _ => ex1 kf (fun dk ρ1 => match oK ρ1 i, dK1 dk with
    | some (l, kvs), some k => if kvs.length < sizeLine then some (.nx, ρ1.set i (.ow l (.dK (putD kvs k d)))) else none
    | _, _ => none) ρ
theorem ds_putK {st : Stmt} {i : Nat} {kf f : Mo D} (h : PS X st (sDPut (tVar i) (tE X.K Ts E kf) (tE X.K Ts E f))) : DS X Ts E st (putKS i kf f) := by
  refine ps_mono h ?_
  rintro Dd σ H ⟨A, S, ρ, fl, ρ', rel, hf, dn⟩
  refine sE_step rel hf dn fun d ρ1 v H1 p1 dr h1 => ?_
  split at h1
  · cases h1
  · rename_i z e0
    obtain ⟨l0, c0⟩ := z
    obtain ⟨a, s0, _⟩ := p1.rel.ow i l0 _ (oK_ok e0)
    refine ⟨.ref a, s0, sE_step p1.rel h1 (dn.step (p1.sub rel)) fun dk ρ2 vk H2 p2 dk2 h2 => ?_⟩
    split at h2
    · rename_i l kvs kk e2 e4
      split at h2
      · rename_i hl
        cases h2
        obtain ⟨a', s1, q1, ⟨ys, q2, q3⟩, _⟩ := p2.rel.ow i l _ (oK_ok e2)
        rw [s0] at s1
        cases s1
        rw [dK1_ok e4] at dk2
        rw [kD_v dk2]
        have pp := p2.rel.put (c' := .dK (putD kvs kk d)) (o := .dK (putK ys kk v)) (oK_ok e2) s0 True.intro (fun q z => by rw [q2] at z; cases z) ⟨_, upd_same, put_rel (dr.sub (p2.sub p1.rel)) q3⟩
        exact ⟨a, _, rfl, DPut.k q2 (by rw [Paired.length q3]; exact hl), dn S σ _ pp.rel (((p1.trans p2).trans pp).sub rel)⟩
      · cases h2
    · cases h2
def strs? : List D → Option (List Str)
  | [] => some []
  | .str x :: r => (strs? r).map (x :: ·)
  | _ => none
def oJoin : D → D → Option D
  | .str a, d => match seqOf d with
    | some ds => match strs? ds with
      | some ys => if (ys.map (·.length)).sum + ys.length * a.length ≤ 16777216 then some (.str (Txt.join a ys)) else none
      | none => none
    | none => none
  | _, _ => none
def joinM (f g : Mo D) : Mo D := bnd f fun x => match x with
  | .str a => bnd g fun y => lf (oJoin (.str a) y)
  | _ => fun _ => none
end
end DL
set_option Elab.async false
set_option linter.all false
set_option maxRecDepth 100000
set_option maxHeartbeats 2000000
namespace DL
open PySem PySem.Spec PyProof.Rows L2 GL
section
variable {X : Cx} {Ts : Tbs} {E : EK}
def callN (F : List D → Option (List D)) (fs : List (Mo D)) : Mo (List D) := bnd (args fs) fun ds => lf (F ds)
theorem rel_grow {K : PySem.W.Frag} {A : Act} {S : List Addr} {ρ : Ev} {σ : L2.St} {H : Hp} (h : A.OP = []) (r : Rel K Ts A S ρ σ H) : Grow Ts A.H0 H :=
  ⟨fun b o e n => r.ext b o (by rw [h]; exact fun z => nomatch z) e n, fun _ => r.tab, r.exd⟩
def retN (f : Mo (List D)) : Ev → Option (List D) := fun ρ => match f ρ with
  | some (.ok ds, _) => some ds
  | _ => none
end
section
variable {P : Program} {w : World} {K : PySem.W.Frag} {mg : Str → Option Value} {base : Heap} {k : Nat} {f : Addr} {fd : FuncData} {ps : List Str} {sp : Sp} {Ts : Tbs}
def runN (n m : Nat) (B : Ev → Option (List D)) (ds : List D) : Option (List D) := if ds.length = m then B (ins ds n) else none
end
end DL
set_option Elab.async false
set_option linter.all false
set_option maxRecDepth 100000
set_option maxHeartbeats 2000000
namespace DL
open PySem PySem.Spec PyProof.Rows L2 GL
def W {α : Type} (f : Mo α) (ρ : Ev) (Q : α → Ev → Prop) : Prop := ∃ a ρ', f ρ = some (.ok a, ρ') ∧ Q a ρ'
def WS (f : Stm) (ρ : Ev) (Q : Fl → Ev → Prop) : Prop := ∃ fl ρ', f ρ = some (fl, ρ') ∧ (∀ x, fl ≠ .ex x) ∧ Q fl ρ'
section
variable {α β : Type} {ρ : Ev}
theorem W_bnd {f : Mo α} {g : α → Mo β} {Q : β → Ev → Prop} : W (bnd f g) ρ Q ↔ W f ρ fun a ρ1 => W (g a) ρ1 Q := by
  constructor
  · rintro ⟨b, ρ', h, q⟩
    rcases bnd_cases h with ⟨x, _, e⟩ | ⟨a, ρ1, e, h1⟩
    · cases e
    · exact ⟨a, ρ1, e, b, ρ', h1, q⟩
  · rintro ⟨a, ρ1, e, b, ρ', h, q⟩
    exact ⟨b, ρ', by rw [bnd_ok e]; exact h, q⟩
theorem W_rt {a : α} {Q : α → Ev → Prop} : W (rt a) ρ Q ↔ Q a ρ := by
  constructor
  · rintro ⟨b, ρ', h, q⟩
    cases h
    exact q
  · exact fun q => ⟨a, ρ, rfl, q⟩
theorem W_lf {o : Option α} {Q : α → Ev → Prop} : W (lf o) ρ Q ↔ ∃ a, o = some a ∧ Q a ρ := by
  constructor
  · rintro ⟨b, ρ', h, q⟩
    obtain ⟨a, e, e1, rfl⟩ := lf_ok h
    cases e1
    exact ⟨_, e, q⟩
  · rintro ⟨a, rfl, q⟩
    exact ⟨a, ρ, rfl, q⟩
theorem W_no {Q : α → Ev → Prop} : W (fun _ => none) ρ Q ↔ False := ⟨(fun ⟨_, _, h, _⟩ => (nomatch h)), (fun h => False.elim h)⟩
theorem W_rd {i : Nat} {Q : D → Ev → Prop} : W (rd i) ρ Q ↔ ∃ d, ρ[i]? = some (.da d) ∧ Q d ρ := by
  constructor
  · rintro ⟨b, ρ', h, q⟩
    obtain ⟨d, e, e1, rfl⟩ := rd_ok h
    cases e1
    exact ⟨_, e, q⟩
  · rintro ⟨d, e, q⟩
    exact ⟨d, ρ, by unfold rd; rw [e], q⟩
theorem W_op2 {o : D → D → Option D} {f g : Mo D} {Q : D → Ev → Prop} : W (op2 o f g) ρ Q ↔ W f ρ fun x ρ1 => W g ρ1 fun y ρ2 => ∃ d, o x y = some d ∧ Q d ρ2 := by
  unfold op2
  simp only [W_bnd, W_lf]
theorem W_op2o {o : D → D → Option (List D)} {f g : Mo D} {Q : List D → Ev → Prop} : W (op2o o f g) ρ Q ↔ W f ρ fun x ρ1 => W g ρ1 fun y ρ2 => ∃ d, o x y = some d ∧ Q d ρ2 := by
  unfold op2o
  simp only [W_bnd, W_lf]
theorem W_op1 {o : D → Option D} {f : Mo D} {Q : D → Ev → Prop} : W (op1 o f) ρ Q ↔ W f ρ fun x ρ1 => ∃ d, o x = some d ∧ Q d ρ1 := by
  unfold op1
  simp only [W_bnd, W_lf]
theorem W_args0 {Q : List D → Ev → Prop} : W (args []) ρ Q ↔ Q [] ρ := by
  unfold args
  exact W_rt
theorem W_args1 {f : Mo D} {fs : List (Mo D)} {Q : List D → Ev → Prop} : W (args (f :: fs)) ρ Q ↔ W f ρ fun d ρ1 => W (args fs) ρ1 fun ds ρ2 => Q (d :: ds) ρ2 := by
  rw [args]
  simp only [W_bnd, W_rt]
theorem W_tup {fs : List (Mo D)} {Q : D → Ev → Prop} : W (tup fs) ρ Q ↔ W (args fs) ρ fun ds ρ1 => Q (.tuple ds) ρ1 := by
  unfold tup
  simp only [W_bnd, W_rt]
theorem W_lst {fs : List (Mo D)} {Q : D → Ev → Prop} : W (lst fs) ρ Q ↔ W (args fs) ρ fun ds ρ1 => Q (.list ds) ρ1 := by
  unfold lst
  simp only [W_bnd, W_rt]
theorem W_opA {o : List D → Option D} {fs : List (Mo D)} {Q : D → Ev → Prop} : W (opA o fs) ρ Q ↔ W (args fs) ρ fun ds ρ1 => ∃ d, o ds = some d ∧ Q d ρ1 := by
  unfold opA
  simp only [W_bnd, W_lf]
theorem W_opAo {o : List D → Option (List D)} {fs : List (Mo D)} {Q : List D → Ev → Prop} : W (opAo o fs) ρ Q ↔ W (args fs) ρ fun ds ρ1 => ∃ d, o ds = some d ∧ Q d ρ1 := by
  unfold opAo
  simp only [W_bnd, W_lf]
theorem W_asL {f : Mo (List D)} {Q : D → Ev → Prop} : W (asL f) ρ Q ↔ W f ρ fun ds ρ1 => Q (.list ds) ρ1 := by
  unfold asL
  simp only [W_bnd, W_rt]
theorem W_bN {Q : Option Int → Ev → Prop} : W bN ρ Q ↔ Q none ρ := W_rt
theorem W_bS {f : Mo D} {Q : Option Int → Ev → Prop} : W (bS f) ρ Q ↔ W f ρ fun d ρ1 => ∃ i, asI d = some i ∧ Q (some i) ρ1 := by
  unfold bS
  simp only [W_bnd, W_rt, W_lf]
theorem W_slc {o : D → Option Int → Option Int → Option D} {f : Mo D} {lo hi : Mo (Option Int)} {Q : D → Ev → Prop} : W (slc o f lo hi) ρ Q ↔ W f ρ fun d ρ1 => W lo ρ1 fun l ρ2 => W hi ρ2 fun u ρ3 => ∃ r, o d l u = some r ∧ Q r ρ3 := by
  unfold slc
  simp only [W_bnd, W_lf]
theorem W_slco {o : D → Option Int → Option Int → Option (List D)} {f : Mo D} {lo hi : Mo (Option Int)} {Q : List D → Ev → Prop} : W (slco o f lo hi) ρ Q ↔ W f ρ fun d ρ1 => W lo ρ1 fun l ρ2 => W hi ρ2 fun u ρ3 => ∃ r, o d l u = some r ∧ Q r ρ3 := by
  unfold slco
  simp only [W_bnd, W_lf]
theorem W_tst {f : Mo D} {Q : Bool → Ev → Prop} : W (tst f) ρ Q ↔ W f ρ fun d ρ1 => ∃ b, asB d = some b ∧ Q b ρ1 := by
  unfold tst
  simp only [W_bnd, W_lf]
theorem W_bnot {f : Mo Bool} {Q : Bool → Ev → Prop} : W (bnot f) ρ Q ↔ W f ρ fun b ρ1 => Q (!b) ρ1 := by
  unfold bnot
  simp only [W_bnd, W_rt]
theorem W_if {c : Prop} [Decidable c] {f g : Mo α} {Q : α → Ev → Prop} : W (if c then f else g) ρ Q ↔ if c then W f ρ Q else W g ρ Q := by
  split <;> rfl
theorem W_band {f g : Mo Bool} {Q : Bool → Ev → Prop} : W (band f g) ρ Q ↔ W f ρ fun b ρ1 => if b = true then W g ρ1 Q else Q false ρ1 := by
  unfold band
  simp only [W_bnd, W_rt, W_if]
theorem W_bor {f g : Mo Bool} {Q : Bool → Ev → Prop} : W (bor f g) ρ Q ↔ W f ρ fun b ρ1 => if b = true then Q true ρ1 else W g ρ1 Q := by
  unfold bor
  simp only [W_bnd, W_rt, W_if]
theorem W_ife {c : Mo Bool} {f g : Mo D} {Q : D → Ev → Prop} : W (ife c f g) ρ Q ↔ W c ρ fun b ρ1 => if b = true then W f ρ1 Q else W g ρ1 Q := by
  unfold ife
  simp only [W_bnd, W_if]
theorem W_vand {f g : Mo D} {Q : D → Ev → Prop} : W (vand f g) ρ Q ↔ W f ρ fun d ρ1 => ∃ b, asB d = some b ∧ if b = true then W g ρ1 Q else Q (.bool false) ρ1 := by
  unfold vand
  rw [W_bnd]
  refine exists_congr fun d => exists_congr fun ρ1 => and_congr_right fun _ => ?_
  cases d with
  | bool b => cases b <;> simp [asB, W_rt]
  | _ => simp [asB, W_no]
theorem W_vor {f g : Mo D} {Q : D → Ev → Prop} : W (vor f g) ρ Q ↔ W f ρ fun d ρ1 => ∃ b, asB d = some b ∧ if b = true then Q (.bool true) ρ1 else W g ρ1 Q := by
  unfold vor
  rw [W_bnd]
  refine exists_congr fun d => exists_congr fun ρ1 => and_congr_right fun _ => ?_
  cases d with
  | bool b => cases b <;> simp [asB, W_rt]
  | _ => simp [asB, W_no]
theorem W_vnot {f : Mo D} {Q : D → Ev → Prop} : W (vnot f) ρ Q ↔ W f ρ fun d ρ1 => ∃ b, asB d = some b ∧ Q (.bool (!b)) ρ1 := by
  unfold vnot
  rw [W_bnd]
  refine exists_congr fun d => exists_congr fun ρ1 => and_congr_right fun _ => ?_
  cases d with
  | bool b => cases b <;> simp [asB, W_rt]
  | _ => simp [asB, W_no]
theorem W_chn {o o' : D → D → Option D} {f g h : Mo D} {Q : D → Ev → Prop} : W (chn o o' f g h) ρ Q ↔ W f ρ fun x ρ1 => W g ρ1 fun y ρ2 => ∃ d, o x y = some d ∧ ∃ b, asB d = some b ∧ if b = true then W h ρ2 fun z ρ3 => ∃ r, o' y z = some r ∧ Q r ρ3 else Q (.bool false) ρ2 := by
  unfold chn
  simp only [W_bnd, W_lf]
  refine exists_congr fun d => exists_congr fun ρ1 => and_congr_right fun _ => exists_congr fun d => exists_congr fun ρ1 => and_congr_right fun _ => exists_congr fun d => and_congr_right fun _ => ?_
  cases d with
  | bool b => cases b <;> simp [asB, W_rt, W_bnd, W_lf]
  | _ => simp [asB, W_no]
theorem W_isi {T : String} {f : Mo D} {Q : D → Ev → Prop} : W (isi T f) ρ Q ↔ W f ρ fun d ρ1 => isExn d = false ∧ Q (.bool (tyN d == T || (T == "int" && tyN d == "bool"))) ρ1 := by
  unfold isi
  rw [W_bnd]
  refine exists_congr fun d => exists_congr fun ρ1 => and_congr_right fun _ => ?_
  dsimp only
  split
  · rename_i h
    rw [W_rt]
    exact ⟨fun q => ⟨h, q⟩, fun q => q.2⟩
  · rename_i h
    rw [W_no]
    exact ⟨fun q => q.elim, fun q => h q.1⟩
theorem W_itU {f : Mo D} {Q : List D → Ev → Prop} : W (itU f) ρ Q ↔ W f ρ fun d ρ1 => ∃ ds, seqOf d = some ds ∧ Q ds ρ1 := by
  unfold itU
  simp only [W_bnd, W_lf]
def rngO : D → Option (List D)
  | .int n => if small n = true then some (rng 0 n.toNat) else none
  | _ => none
theorem W_itR {f : Mo D} {Q : List D → Ev → Prop} : W (itR f) ρ Q ↔ W f ρ fun d ρ1 => ∃ ds, rngO d = some ds ∧ Q ds ρ1 := by
  unfold itR
  simp only [W_bnd, W_args1, W_args0]
  refine exists_congr fun d => exists_congr fun ρ1 => and_congr_right fun _ => ?_
  cases d with
  | int n =>
    by_cases h : small n = true
    · simp [rngO, h, W_rt]
    · simp [rngO, h, W_no]
  | _ => simp [rngO, W_no]
theorem W_itE {f : Mo D} {Q : List D → Ev → Prop} : W (itE f) ρ Q ↔ W f ρ fun d ρ1 => ∃ ds, seqOf d = some ds ∧ Q (enumD ds) ρ1 := by
  unfold itE
  simp only [W_bnd, W_args1, W_args0]
  refine exists_congr fun d => exists_congr fun ρ1 => and_congr_right fun _ => ?_
  cases d <;> simp [seqOf, W_rt, W_no, W_lf, W_bnd]
theorem W_itZ {f g : Mo D} {Q : List D → Ev → Prop} : W (itZ f g) ρ Q ↔ W f ρ fun x ρ1 => W g ρ1 fun y ρ2 => ∃ xs ys, seqOf x = some xs ∧ seqOf y = some ys ∧ Q (zipD xs ys) ρ2 := by
  unfold itZ
  simp only [W_bnd, W_args1, W_args0]
  refine exists_congr fun x => exists_congr fun ρ1 => and_congr_right fun _ => exists_congr fun y => exists_congr fun ρ1 => and_congr_right fun _ => ?_
  cases x <;> cases y <;> simp [seqOf, W_rt, W_no, W_lf, W_bnd]
theorem W_callP {F : List D → Option (Except XV D)} {fs : List (Mo D)} {Q : D → Ev → Prop} : W (callP F fs) ρ Q ↔ W (args fs) ρ fun ds ρ1 => ∃ d, F ds = some (.ok d) ∧ Q d ρ1 := by
  unfold callP
  rw [W_bnd]
  refine exists_congr fun ds => exists_congr fun ρ1 => and_congr_right fun _ => ?_
  constructor
  · rintro ⟨b, ρ', h, q⟩
    split at h
    · rename_i d e
      cases h
      exact ⟨_, e, q⟩
    · cases h
  · rintro ⟨d, e, q⟩
    exact ⟨d, ρ1, by rw [e], q⟩
theorem W_callN {F : List D → Option (List D)} {fs : List (Mo D)} {Q : List D → Ev → Prop} : W (callN F fs) ρ Q ↔ W (args fs) ρ fun ds ρ1 => ∃ d, F ds = some d ∧ Q d ρ1 := by
  unfold callN
  simp only [W_bnd, W_lf]
theorem W_callO {F : Oc → List D → Option (Except XV D × Oc)} {i : Nat} {fs : List (Mo D)} {Q : D → Ev → Prop} : W (callO F i fs) ρ Q ↔ (ow ρ i).isSome = true ∧ W (args fs) ρ fun ds ρ1 => ∃ l c, ρ1[i]? = some (.ow l c) ∧ ∃ d c', F c ds = some (.ok d, c') ∧ Q d (ρ1.set i (.ow l c')) := by
  constructor
  · rintro ⟨b, ρ', h, q⟩
    unfold callO at h
    split at h
    · cases h
    · rename_i z e0
      refine ⟨by rw [e0]; rfl, ?_⟩
      rcases bnd_cases h with ⟨x, _, e⟩ | ⟨ds, ρ1, e, h1⟩
      · cases e
      · refine ⟨ds, ρ1, e, ?_⟩
        split at h1
        · cases h1
        · rename_i l c e2
          split at h1
          · rename_i d c' hF
            cases h1
            exact ⟨l, c, ow_ok e2, _, _, hF, q⟩
          · cases h1
  · rintro ⟨h0, ds, ρ1, e, l, c, e1, d, c', e2, q⟩
    refine ⟨d, _, ?_, q⟩
    unfold callO
    obtain ⟨z, ez⟩ := Option.isSome_iff_exists.mp h0
    rw [ez]
    simp only
    rw [bnd_ok e]
    unfold ow
    rw [e1]
    simp only
    rw [e2]
theorem W_ixo {i : Nat} {k : Mo D} {Q : D → Ev → Prop} : W (ixo i k) ρ Q ↔ (ol ρ i).isSome = true ∧ W k ρ fun j ρ1 => ∃ ds, (ol ρ1 i).map (·.2) = some ds ∧ ∃ n, asI j = some n ∧ ∃ d, atI ds n = some d ∧ Q d ρ1 := by
  constructor
  · rintro ⟨b, ρ', h, q⟩
    unfold ixo at h
    split at h
    · rename_i z e0
      refine ⟨by rw [e0]; rfl, ?_⟩
      rcases bnd_cases h with ⟨x, _, e⟩ | ⟨j, ρ1, e, h1⟩
      · cases e
      · refine ⟨j, ρ1, e, ?_⟩
        split at h1
        · rename_i l ds n e2
          obtain ⟨d, e3, e4, rfl⟩ := lf_ok h1
          cases e4
          exact ⟨ds, by rw [e2]; rfl, n, rfl, _, e3, q⟩
        · cases h1
    · cases h
  · rintro ⟨h0, j, ρ1, e, ds, e1, n, e2, d, e3, q⟩
    refine ⟨d, ρ1, ?_, q⟩
    unfold ixo
    obtain ⟨z, ez⟩ := Option.isSome_iff_exists.mp h0
    rw [ez]
    simp only
    rw [bnd_ok e]
    obtain ⟨y, ey, ey2⟩ := Option.map_eq_some_iff.mp e1
    obtain rfl := asI_ok e2
    rw [ey]
    obtain ⟨l, es⟩ := y
    cases ey2
    simp only
    rw [e3]
    rfl
theorem W_leno {i : Nat} {Q : D → Ev → Prop} : W (leno i) ρ Q ↔ ∃ ds, (ol ρ i).map (·.2) = some ds ∧ Q (.int ds.length) ρ := by
  constructor
  · rintro ⟨b, ρ', h, q⟩
    unfold leno at h
    split at h
    · rename_i l ds e
      cases h
      exact ⟨ds, by rw [e]; rfl, q⟩
    · cases h
  · rintro ⟨ds, e, q⟩
    obtain ⟨⟨l, es⟩, ey, ey2⟩ := Option.map_eq_some_iff.mp e
    cases ey2
    exact ⟨_, ρ, by unfold leno; rw [ey], q⟩
theorem W_lenT {i : Nat} {Q : D → Ev → Prop} : W (lenT i) ρ Q ↔ ∃ ds, (oT ρ i).map (·.2) = some ds ∧ Q (.int (ds.length : Nat)) ρ := by
  constructor
  · rintro ⟨b, ρ', h, q⟩
    unfold lenT at h
    split at h
    · rename_i l ds e
      cases h
      exact ⟨ds, by rw [e]; rfl, q⟩
    · cases h
  · rintro ⟨ds, e, q⟩
    obtain ⟨⟨l, es⟩, ey, ey2⟩ := Option.map_eq_some_iff.mp e
    cases ey2
    exact ⟨_, ρ, by unfold lenT; rw [ey], q⟩
theorem W_sortT {i : Nat} {Q : List D → Ev → Prop} : W (sortT i) ρ Q ↔ ∃ ds, (oT ρ i).map (·.2) = some ds ∧ ∃ ps, pairs? ds = some ps ∧ Q ((psort ps).map pairD) ρ := by
  constructor
  · rintro ⟨b, ρ', h, q⟩
    unfold sortT at h
    split at h
    · rename_i l ds e
      split at h
      · rename_i ps e2
        cases h
        exact ⟨ds, by rw [e]; rfl, ps, e2, q⟩
      · cases h
    · cases h
  · rintro ⟨ds, e, ps, e2, q⟩
    obtain ⟨⟨l, es⟩, ey, ey2⟩ := Option.map_eq_some_iff.mp e
    cases ey2
    exact ⟨_, ρ, by unfold sortT; rw [ey]; simp only; rw [e2], q⟩
theorem W_kyT {fs : List (Mo D)} {Q : List Key → Ev → Prop} : W (kyT fs) ρ Q ↔ W (args fs) ρ fun ds ρ1 => ∃ ks, dKs ds = some ks ∧ Q ks ρ1 := by
  unfold kyT
  simp only [W_bnd, W_lf]
theorem W_kyV {i : Nat} {Q : List Key → Ev → Prop} : W (kyV i) ρ Q ↔ ∃ ks, ρ[i]? = some (.tk ks) ∧ Q ks ρ := by
  constructor
  · rintro ⟨b, ρ', h, q⟩
    unfold kyV at h
    split at h
    · rename_i e
      cases h
      exact ⟨_, e, q⟩
    · cases h
  · rintro ⟨ds, e, q⟩
    exact ⟨_, ρ, by unfold kyV; rw [e], q⟩
theorem W_getT {i : Nat} {f : Mo (List Key)} {Q : D → Ev → Prop} : W (getT i f) ρ Q ↔ (oT ρ i).isSome = true ∧ W f ρ fun ks ρ1 => ∃ kvs, (oT ρ1 i).map (·.2) = some kvs ∧ ∃ d, valD kvs ks = some d ∧ Q d ρ1 := by
  constructor
  · rintro ⟨b, ρ', h, q⟩
    unfold getT at h
    split at h
    · cases h
    · rename_i z e0
      refine ⟨by rw [e0]; rfl, ?_⟩
      rcases bnd_cases h with ⟨x, _, e⟩ | ⟨j, ρ1, e, h1⟩
      · cases e
      · refine ⟨j, ρ1, e, ?_⟩
        split at h1
        · cases h1
        · rename_i l ds e2
          obtain ⟨d, e3, e4, rfl⟩ := lf_ok h1
          cases e4
          exact ⟨ds, by rw [e2]; rfl, _, e3, q⟩
  · rintro ⟨h0, j, ρ1, e, ds, e1, d, e3, q⟩
    refine ⟨d, ρ1, ?_, q⟩
    unfold getT
    obtain ⟨z, ez⟩ := Option.isSome_iff_exists.mp h0
    rw [ez]
    simp only
    rw [bnd_ok e]
    obtain ⟨⟨l, es⟩, ey, ey2⟩ := Option.map_eq_some_iff.mp e1
    cases ey2
    rw [ey]
    simp only
    rw [e3]
    rfl
theorem W_rep {f : Mo (List D)} {g : Mo D} {Q : List D → Ev → Prop} : W (rep f g) ρ Q ↔ W f ρ fun ds ρ1 => W g ρ1 fun d ρ2 => ∃ k, asI d = some k ∧ (-(2 ^ 63) ≤ k ∧ k < 2 ^ 63 ∧ ds.length * k.toNat ≤ sizeLine) ∧ Q (List.replicate k.toNat ds).flatten ρ2 := by
  unfold rep
  simp only [W_bnd]
  refine exists_congr fun ds => exists_congr fun ρ1 => and_congr_right fun _ => exists_congr fun d => exists_congr fun ρ1 => and_congr_right fun _ => ?_
  cases d with
  | int k =>
    by_cases h : -(2 ^ 63) ≤ k ∧ k < 2 ^ 63 ∧ ds.length * k.toNat ≤ sizeLine
    · simp only [asI, W_lf, if_pos h]
      constructor
      · rintro ⟨a, e, q⟩
        cases e
        exact ⟨k, rfl, h, q⟩
      · rintro ⟨k', e, _, q⟩
        cases e
        exact ⟨_, rfl, q⟩
    · simp only [asI, W_lf, if_neg h]
      constructor
      · rintro ⟨a, e, _⟩
        cases e
      · rintro ⟨k', e, h', _⟩
        cases e
        exact absurd h' h
  | _ => simp [asI, W_no]
theorem W_joinM {f g : Mo D} {Q : D → Ev → Prop} : W (joinM f g) ρ Q ↔ W f ρ fun x ρ1 => (∃ a, x = .str a) ∧ W g ρ1 fun y ρ2 => ∃ d, oJoin x y = some d ∧ Q d ρ2 := by
  unfold joinM
  rw [W_bnd]
  refine exists_congr fun x => exists_congr fun ρ1 => and_congr_right fun _ => ?_
  cases x <;> simp [W_bnd, W_lf, W_no]
theorem W_qt {f : Mo D} {Q : D → Ev → Prop} : W (qt f) ρ Q ↔ W f (ρ.map frzS) fun d _ => flat d = true ∧ Q d ρ := by
  constructor
  · rintro ⟨b, ρ', h, q⟩
    unfold qt at h
    split at h
    · rename_i d ρ1 e
      split at h
      · cases h
        exact ⟨_, _, e, by assumption, q⟩
      · cases h
    · cases h
  · rintro ⟨d, ρ1, e, f1, q⟩
    exact ⟨d, ρ, by unfold qt; rw [e]; simp only; rw [if_pos f1], q⟩
theorem W_qT {f : Mo Bool} {Q : Bool → Ev → Prop} : W (qT f) ρ Q ↔ W f (ρ.map frzS) fun d _ => Q d ρ := by
  constructor
  · rintro ⟨b, ρ', h, q⟩
    unfold qT at h
    split at h
    · rename_i d ρ1 e
      cases h
      exact ⟨_, _, e, q⟩
    · cases h
  · rintro ⟨d, ρ1, e, q⟩
    exact ⟨d, ρ, by unfold qT; rw [e], q⟩
theorem W_qo {f : Mo (List D)} {Q : List D → Ev → Prop} : W (qo f) ρ Q ↔ W f (ρ.map frzS) fun ds _ => ds.all flat = true ∧ Q ds ρ := by
  constructor
  · rintro ⟨b, ρ', h, q⟩
    unfold qo at h
    split at h
    · rename_i d ρ1 e
      split at h
      · cases h
        exact ⟨_, _, e, by assumption, q⟩
      · cases h
    · cases h
  · rintro ⟨d, ρ1, e, f1, q⟩
    exact ⟨d, ρ, by unfold qo; rw [e]; simp only; rw [if_pos f1], q⟩
def WL (tg : Tg) (t : Mo Bool) (el : Mo D) (vs : List Nat) (ds : List D) (ρ : Ev) (Q : List D → Ev → Prop) : Prop := ∃ ys ρ', lcl tg t el vs ds ρ = some (ys, ρ') ∧ Q ys ρ'
theorem W_lc {it : Mo (List D)} {tg : Tg} {t : Mo Bool} {el : Mo D} {vs : List Nat} {Q : List D → Ev → Prop} : W (lc it tg t el vs) ρ Q ↔ W it ρ fun ds ρ1 => (noOw ρ1 vs = true ∧ ds.length ≤ sizeLine) ∧ WL tg t el vs ds (wipeE ρ1 vs) fun ys ρ2 => Q ys (back ρ1 ρ2 vs) := by
  unfold lc
  rw [W_bnd]
  refine exists_congr fun ds => exists_congr fun ρ1 => and_congr_right fun _ => ?_
  constructor
  · rintro ⟨b, ρ', h, q⟩
    dsimp only at h
    split at h
    · rename_i hc
      obtain ⟨⟨ys, ρ2⟩, e, e2⟩ := Option.map_eq_some_iff.mp h
      cases e2
      exact ⟨hc, ys, ρ2, e, q⟩
    · cases h
  · rintro ⟨hc, ys, ρ2, e, q⟩
    exact ⟨ys, _, by simp only [if_pos hc, e, Option.map], q⟩
def WG (cs : List D → D → Option (Option D)) (ce : List D → Option D) (tg : Tg) (t : Mo Bool) (el : Mo D) (vs : List Nat) (ds ys : List D) (ρ : Ev) (Q : D → Ev → Prop) : Prop := ∃ y ρ', gl cs ce tg t el vs ds ys ρ = some (y, ρ') ∧ Q y ρ'
theorem W_gx {cs : List D → D → Option (Option D)} {ce : List D → Option D} {it : Mo (List D)} {tg : Tg} {t : Mo Bool} {el : Mo D} {vs : List Nat} {Q : D → Ev → Prop} : W (gx cs ce it tg t el vs) ρ Q ↔ W it ρ fun ds ρ1 => noOw ρ1 vs = true ∧ WG cs ce tg t el vs ds [] (wipeE ρ1 vs) fun ys ρ2 => Q ys (back ρ1 ρ2 vs) := by
  unfold gx
  rw [W_bnd]
  refine exists_congr fun ds => exists_congr fun ρ1 => and_congr_right fun _ => ?_
  constructor
  · rintro ⟨b, ρ', h, q⟩
    dsimp only at h
    split at h
    · rename_i hc
      obtain ⟨⟨ys, ρ2⟩, e, e2⟩ := Option.map_eq_some_iff.mp h
      cases e2
      exact ⟨hc, ys, ρ2, e, q⟩
    · cases h
  · rintro ⟨hc, ys, ρ2, e, q⟩
    exact ⟨ys, _, by simp only [if_pos hc, e, Option.map], q⟩
theorem WS_ex1 {f : Mo α} {g : α → Stm} {Q : Fl → Ev → Prop} : WS (ex1 f g) ρ Q ↔ W f ρ fun a ρ1 => WS (g a) ρ1 Q := by
  constructor
  · rintro ⟨fl, ρ', h, n, q⟩
    rcases ex1_cases h with ⟨x, _, e⟩ | ⟨a, ρ1, e, h1⟩
    · exact absurd e (n x)
    · exact ⟨a, ρ1, e, fl, ρ', h1, n, q⟩
  · rintro ⟨a, ρ1, e, fl, ρ', h, n, q⟩
    exact ⟨fl, ρ', by rw [ex1_ok e]; exact h, n, q⟩
theorem WS_nx {g : Ev → Ev} {Q : Fl → Ev → Prop} : WS (fun ρ => some (.nx, g ρ)) ρ Q ↔ Q .nx (g ρ) := by
  constructor
  · rintro ⟨fl, ρ', h, n, q⟩
    cases h
    exact q
  · exact fun q => ⟨_, _, rfl, (by intro x z; cases z), q⟩
theorem WS_set {i : Nat} {f : Mo D} {Q : Fl → Ev → Prop} : WS (setS i f) ρ Q ↔ W f ρ fun d ρ1 => Q .nx (ρ1.set i (.da d)) := by
  unfold setS
  rw [WS_ex1]
  simp only [WS_nx (g := fun ρ => ρ.set i _)]
theorem WS_setO {i : Nat} {f : Mo (List D)} {Q : Fl → Ev → Prop} : WS (setO i f) ρ Q ↔ W f ρ fun d ρ1 => Q .nx (ρ1.set i (.ow true (.lst d))) := by
  unfold setO
  rw [WS_ex1]
  simp only [WS_nx (g := fun ρ => ρ.set i _)]
theorem WS_setK {i : Nat} {f : Mo (List Key)} {Q : Fl → Ev → Prop} : WS (setK i f) ρ Q ↔ W f ρ fun d ρ1 => Q .nx (ρ1.set i (.tk d)) := by
  unfold setK
  rw [WS_ex1]
  simp only [WS_nx (g := fun ρ => ρ.set i _)]
theorem WS_newT {i : Nat} {Q : Fl → Ev → Prop} : WS (newT i) ρ Q ↔ Q .nx (ρ.set i (.ow true (.dT []))) := WS_nx (g := fun ρ => ρ.set i _)
theorem WS_newK {i : Nat} {Q : Fl → Ev → Prop} : WS (newK i) ρ Q ↔ Q .nx (ρ.set i (.ow true (.dK []))) := WS_nx (g := fun ρ => ρ.set i _)
theorem WS_nil {Q : Fl → Ev → Prop} : WS nilS ρ Q ↔ Q .nx ρ := WS_nx (g := fun ρ => ρ)
theorem WS_ret {f : Mo D} {Q : Fl → Ev → Prop} : WS (retS f) ρ Q ↔ W f ρ fun d ρ1 => Q (.rt d) ρ1 := by
  unfold retS
  rw [WS_ex1]
  refine exists_congr fun d => exists_congr fun ρ1 => and_congr_right fun _ => ?_
  constructor
  · rintro ⟨fl, ρ', h, n, q⟩
    cases h
    exact q
  · exact fun q => ⟨_, _, rfl, (by intro x z; cases z), q⟩
theorem WS_if {c : Mo Bool} {f g : Stm} {Q : Fl → Ev → Prop} : WS (ifS c f g) ρ Q ↔ W c ρ fun b ρ1 => if b = true then WS f ρ1 Q else WS g ρ1 Q := by
  unfold ifS
  rw [WS_ex1]
  refine exists_congr fun d => exists_congr fun ρ1 => and_congr_right fun _ => ?_
  dsimp only
  split <;> rfl
def thenS (g : Stm) (Q : Fl → Ev → Prop) : Fl → Ev → Prop
  | .nx, ρ => WS g ρ Q
  | fl, ρ => Q fl ρ
theorem WS_seq {f g : Stm} {Q : Fl → Ev → Prop} : WS (seqS f g) ρ Q ↔ WS f ρ (thenS g Q) := by
  constructor
  · rintro ⟨fl, ρ', h, n, q⟩
    unfold seqS at h
    split at h
    · cases h
    · rename_i ρ1 e
      exact ⟨.nx, ρ1, e, (by intro x z; cases z), fl, ρ', h, n, q⟩
    · rename_i fl1 ρ1 hn e
      cases h
      refine ⟨fl, ρ', e, n, ?_⟩
      cases fl with
      | nx => exact absurd rfl hn
      | _ => exact q
  · rintro ⟨fl, ρ1, e, n, q⟩
    cases fl with
    | nx =>
      obtain ⟨fl, ρ', h, n, q⟩ := q
      exact ⟨fl, ρ', by unfold seqS; rw [e]; exact h, n, q⟩
    | bk => exact ⟨_, ρ1, by unfold seqS; rw [e], n, q⟩
    | ct => exact ⟨_, ρ1, by unfold seqS; rw [e], n, q⟩
    | rt d => exact ⟨_, ρ1, by unfold seqS; rw [e], n, q⟩
    | ex x => exact absurd rfl (n x)
theorem then_nx {g : Stm} {Q : Fl → Ev → Prop} : thenS g Q .nx ρ ↔ WS g ρ Q := Iff.rfl
theorem then_rt {g : Stm} {Q : Fl → Ev → Prop} {d : D} : thenS g Q (.rt d) ρ ↔ Q (.rt d) ρ := Iff.rfl
theorem then_bk {g : Stm} {Q : Fl → Ev → Prop} : thenS g Q .bk ρ ↔ Q .bk ρ := Iff.rfl
theorem then_ct {g : Stm} {Q : Fl → Ev → Prop} : thenS g Q .ct ρ ↔ Q .ct ρ := Iff.rfl
theorem WS_frz {i : Nat} {g : Stm} {Q : Fl → Ev → Prop} : WS (frz i g) ρ Q ↔ ∃ ds, ρ[i]? = some (.ow true (.lst ds)) ∧ WS g (ρ.set i (.da (.list ds))) Q := by
  constructor
  · rintro ⟨fl, ρ', h, n, q⟩
    unfold frz at h
    split at h
    · rename_i ds e
      exact ⟨ds, e, fl, ρ', h, n, q⟩
    · cases h
  · rintro ⟨ds, e, fl, ρ', h, n, q⟩
    exact ⟨fl, ρ', by unfold frz; rw [e]; exact h, n, q⟩
theorem WS_asg {f : Mo D} {tg : Tg} {Q : Fl → Ev → Prop} : WS (asgS f tg) ρ Q ↔ W f ρ fun d ρ1 => ∃ ρ2, tg d ρ1 = some ρ2 ∧ Q .nx ρ2 := by
  unfold asgS
  rw [WS_ex1]
  refine exists_congr fun d => exists_congr fun ρ1 => and_congr_right fun _ => ?_
  constructor
  · rintro ⟨fl, ρ', h, n, q⟩
    obtain ⟨ρ2, e, h2⟩ := Option.map_eq_some_iff.mp h
    cases h2
    exact ⟨_, e, q⟩
  · rintro ⟨ρ2, e, q⟩
    exact ⟨_, ρ2, by simp only [e, Option.map], (by intro x z; cases z), q⟩
theorem WS_isOl {i : Nat} {f : Stm} {Q : Fl → Ev → Prop} : WS (isOl i f) ρ Q ↔ (ol ρ i).isSome = true ∧ WS f ρ Q := by
  constructor
  · rintro ⟨fl, ρ', h, n, q⟩
    unfold isOl at h
    split at h
    · rename_i z e
      exact ⟨by rw [e]; rfl, fl, ρ', h, n, q⟩
    · cases h
  · rintro ⟨h0, fl, ρ', h, n, q⟩
    obtain ⟨z, ez⟩ := Option.isSome_iff_exists.mp h0
    exact ⟨fl, ρ', by unfold isOl; rw [ez]; exact h, n, q⟩
theorem WS_chg {i : Nat} {g : List D → Option (List D)} {Q : Fl → Ev → Prop} : WS (fun ρ => (chg i g ρ).map fun ρ1 => (.nx, ρ1)) ρ Q ↔ ∃ l ds, ρ[i]? = some (.ow l (.lst ds)) ∧ ∃ ds', g ds = some ds' ∧ Q .nx (ρ.set i (.ow l (.lst ds'))) := by
  constructor
  · rintro ⟨fl, ρ', h, n, q⟩
    obtain ⟨ρ2, e, h2⟩ := Option.map_eq_some_iff.mp h
    cases h2
    obtain ⟨l, ds, ds', e1, e2, rfl⟩ := chg_ok e
    exact ⟨l, ds, e1, ds', e2, q⟩
  · rintro ⟨l, ds, e1, ds', e2, q⟩
    exact ⟨_, _, by simp only [chg, ol, e1, e2, Option.map], (by intro x z; cases z), q⟩
theorem WS_put {i : Nat} {k f : Mo D} {Q : Fl → Ev → Prop} : WS (putS i k f) ρ Q ↔ W f ρ fun d ρ1 => (ol ρ1 i).isSome = true ∧ W k ρ1 fun j ρ2 => ∃ l ds, ρ2[i]? = some (.ow l (.lst ds)) ∧ ∃ ds', putAt j d ds = some ds' ∧ Q .nx (ρ2.set i (.ow l (.lst ds'))) := by
  unfold putS
  simp only [WS_ex1, WS_isOl, WS_chg]
theorem WS_app {i : Nat} {f : Mo D} {Q : Fl → Ev → Prop} : WS (appS i f) ρ Q ↔ (ol ρ i).isSome = true ∧ W f ρ fun d ρ1 => ∃ l ds, ρ1[i]? = some (.ow l (.lst ds)) ∧ ∃ ds', lt1 ds d = some ds' ∧ Q .nx (ρ1.set i (.ow l (.lst ds'))) := by
  unfold appS
  simp only [WS_ex1, WS_isOl, W_args1, W_args0, WS_chg]
theorem WS_rev {i : Nat} {Q : Fl → Ev → Prop} : WS (revS i) ρ Q ↔ ∃ l ds, ρ[i]? = some (.ow l (.lst ds)) ∧ Q .nx (ρ.set i (.ow l (.lst ds.reverse))) := by
  unfold revS
  rw [WS_chg]
  refine exists_congr fun l => exists_congr fun ds => and_congr_right fun _ => ?_
  constructor
  · rintro ⟨ds', e, q⟩
    cases e
    exact q
  · exact fun q => ⟨_, rfl, q⟩
theorem WS_augO {i : Nat} {o : Int → Int → Int} {k f : Mo D} {Q : Fl → Ev → Prop} : WS (augO i o k f) ρ Q ↔ (ol ρ i).isSome = true ∧ W k ρ fun j ρ1 => ∃ ds, (ol ρ1 i).map (·.2) = some ds ∧ ∃ n, asI j = some n ∧ 0 ≤ n ∧ ∃ dx, atI ds n = some dx ∧ ∃ x, asI dx = some x ∧ W f ρ1 fun dy ρ2 => ∃ y, asI dy = some y ∧ ∃ l es, ρ2[i]? = some (.ow l (.lst es)) ∧ ∃ es', putAt (.int n) (.int (o x y)) es = some es' ∧ Q .nx (ρ2.set i (.ow l (.lst es'))) := by
  unfold augO
  simp only [WS_isOl, WS_ex1]
  refine and_congr_right fun _ => exists_congr fun j => exists_congr fun ρ1 => and_congr_right fun _ => ?_
  constructor
  · rintro ⟨fl, ρ', h, n, q⟩
    dsimp only at h
    split at h
    · rename_i l0 ds m e ej0
      split at h
      · rename_i hm
        split at h
        · rename_i x ex
          have hw : WS (ex1 f fun d ρ2 => match d with
            | .int y => (chg i (putAt (.int m) (.int (o x y))) ρ2).map fun ρ3 => (Fl.nx, ρ3)
            | _ => none) ρ1 Q := ⟨fl, ρ', h, n, q⟩
          rw [WS_ex1] at hw
          obtain ⟨dy, ρ2, e2, hw⟩ := hw
          refine ⟨ds, by rw [e]; rfl, m, rfl, hm, _, ex, x, rfl, dy, ρ2, e2, ?_⟩
          cases dy with
          | int y => exact ⟨y, rfl, WS_chg.mp hw⟩
          | _ =>
            obtain ⟨_, _, z, _⟩ := hw
            cases z
        · cases h
      · cases h
    · cases h
  · rintro ⟨ds, e, m, ej, hm, dx, ex, x, exx, dy, ρ2, e2, y, ey, q⟩
    obtain ⟨⟨l, es⟩, e3, e4⟩ := Option.map_eq_some_iff.mp e
    cases e4
    obtain rfl := asI_ok ej
    obtain rfl := asI_ok exx
    obtain rfl := asI_ok ey
    rw [← WS_chg] at q
    obtain ⟨fl, ρ', h, n, q⟩ := q
    refine ⟨fl, ρ', ?_, n, q⟩
    dsimp only
    rw [e3]
    dsimp only
    rw [if_pos hm, ex]
    simp only
    rw [ex1_ok e2]
    exact h
theorem WS_putT {i : Nat} {kf : Mo (List Key)} {f : Mo D} {Q : Fl → Ev → Prop} : WS (putT i kf f) ρ Q ↔ W f ρ fun d ρ1 => (oT ρ1 i).isSome = true ∧ W kf ρ1 fun ks ρ2 => ∃ l kvs, ρ2[i]? = some (.ow l (.dT kvs)) ∧ kvs.length < sizeLine ∧ Q .nx (ρ2.set i (.ow l (.dT (putD kvs ks d)))) := by
  unfold putT
  rw [WS_ex1]
  refine exists_congr fun d => exists_congr fun ρ1 => and_congr_right fun _ => ?_
  constructor
  · rintro ⟨fl, ρ', h, n, q⟩
    dsimp only at h
    split at h
    · cases h
    · rename_i z e0
      refine ⟨by rw [e0]; rfl, ?_⟩
      obtain ⟨ks, ρ2, e, hw⟩ := WS_ex1.mp ⟨fl, ρ', h, n, q⟩
      refine ⟨ks, ρ2, e, ?_⟩
      obtain ⟨fl, ρ', h, n, q⟩ := hw
      dsimp only at h
      split at h
      · cases h
      · rename_i l kvs e2
        split at h
        · cases h
          exact ⟨l, kvs, oT_ok e2, by assumption, q⟩
        · cases h
  · rintro ⟨h0, ks, ρ2, e, l, kvs, e2, hl, q⟩
    obtain ⟨z, ez⟩ := Option.isSome_iff_exists.mp h0
    refine ⟨_, _, ?_, (by intro x z; cases z), q⟩
    dsimp only
    rw [ez]
    dsimp only
    rw [ex1_ok e]
    have : oT ρ2 i = some (l, kvs) := by unfold oT; rw [e2]
    rw [this]
    simp only
    rw [if_pos hl]
theorem WS_for {it : Mo (List D)} {tg : Tg} {b : Stm} {Q : Fl → Ev → Prop} : WS (forS it tg b) ρ Q ↔ W it ρ fun ds ρ1 => WS (loop tg b ds) ρ1 Q := by
  unfold forS
  exact WS_ex1
end
theorem tgN_eq {i : Nat} {d : D} {ρ : Ev} : tgN i d ρ = some (ρ.set i (.da d)) := rfl
theorem tgT_eq {ts : List Tg} {ds : List D} {ρ : Ev} : tgT ts (.tuple ds) ρ = tgs ts ds ρ := rfl
theorem tgs_nil {ρ : Ev} : tgs [] [] ρ = some ρ := rfl
theorem tgs_cons {t : Tg} {ts : List Tg} {d : D} {ds : List D} {ρ : Ev} : tgs (t :: ts) (d :: ds) ρ = (t d ρ).bind (tgs ts ds) := rfl
theorem WS_loop {tg : Tg} {b : Stm} {Q : Fl → Ev → Prop} (I : Nat → Ev → Prop) : ∀ (ds : List D) (k : Nat) (ρ : Ev), I k ρ →
    (∀ (i : Nat) (d : D) (ρ : Ev), ds[i]? = some d → I (k + i) ρ → ∃ ρ1, tg d ρ = some ρ1 ∧ WS b ρ1 fun fl ρ2 => match fl with
      | .nx => I (k + i + 1) ρ2
      | .ct => I (k + i + 1) ρ2
      | .bk => Q .nx ρ2
      | .rt d => Q (.rt d) ρ2
      | .ex _ => False) → (∀ ρ, I (k + ds.length) ρ → Q .nx ρ) → WS (loop tg b ds) ρ Q
  | [], k, ρ, h, _, q => ⟨_, ρ, rfl, (by intro x z; cases z), q ρ h⟩
  | d :: ds, k, ρ, h, st, q => by
    obtain ⟨ρ1, e1, fl, ρ2, e2, n, h2⟩ := st 0 d ρ rfl h
    have rc := fun h' => WS_loop I ds (k + 1) ρ2 h' (fun i d' ρ' e' h' => by
      have := st (i + 1) d' ρ' (by simpa using e') (by rw [show k + (i + 1) = k + 1 + i by omega]; exact h')
      rw [show k + (i + 1) + 1 = k + 1 + i + 1 by omega] at this
      exact this) (fun ρ' h' => q ρ' (by rw [List.length_cons, show k + (ds.length + 1) = k + 1 + ds.length by omega]; exact h'))
    cases fl with
    | nx =>
      obtain ⟨fl, ρ', h, n, q⟩ := rc h2
      exact ⟨fl, ρ', by simp only [loop, e1, e2]; exact h, n, q⟩
    | ct =>
      obtain ⟨fl, ρ', h, n, q⟩ := rc h2
      exact ⟨fl, ρ', by simp only [loop, e1, e2]; exact h, n, q⟩
    | bk => exact ⟨_, ρ2, by simp only [loop, e1, e2], (by intro x z; cases z), h2⟩
    | rt d => exact ⟨_, ρ2, by simp only [loop, e1, e2], (by intro x z; cases z), h2⟩
    | ex x => exact h2.elim
theorem WL_inv {tg : Tg} {t : Mo Bool} {el : Mo D} {vs : List Nat} {Q : List D → Ev → Prop} (I : Nat → List D → Ev → Prop) : ∀ (ds : List D) (k : Nat) (acc : List D) (ρ : Ev), I k acc ρ →
    (∀ (i : Nat) (d : D) (acc : List D) (ρ : Ev), ds[i]? = some d → I (k + i) acc ρ → ∃ ρ1, tg d ρ = some ρ1 ∧ W t ρ1 fun c ρ2 => if c = true then W el ρ2 fun y ρ3 => I (k + i + 1) (acc ++ [y]) (wipeE ρ3 vs) else I (k + i + 1) acc (wipeE ρ2 vs)) →
    (∀ ys ρ, I (k + ds.length) (acc ++ ys) ρ → Q ys ρ) → WL tg t el vs ds ρ Q
  | [], k, acc, ρ, h, _, q => ⟨[], ρ, rfl, q [] ρ (by rw [List.append_nil]; exact h)⟩
  | d :: ds, k, acc, ρ, h, st, q => by
    obtain ⟨ρ1, e1, c, ρ2, e2, h2⟩ := st 0 d acc ρ rfl h
    have rc := fun acc' ρ' Q' h' q' => WL_inv (Q := Q') I ds (k + 1) acc' ρ' h' (fun i d' acc'' ρ' e' h' => by
      have := st (i + 1) d' acc'' ρ' (by simpa using e') (by rw [show k + (i + 1) = k + 1 + i by omega]; exact h')
      rw [show k + (i + 1) + 1 = k + 1 + i + 1 by omega] at this
      exact this) q'
    cases c with
    | true =>
      rw [if_pos rfl] at h2
      obtain ⟨y, ρ3, e3, h3⟩ := h2
      obtain ⟨ys, ρ', h, q'⟩ := rc (acc ++ [y]) _ (fun ys ρ' => Q (y :: ys) ρ') h3 (fun ys ρ' h' => q (y :: ys) ρ' (by rw [List.length_cons, show k + (ds.length + 1) = k + 1 + ds.length by omega]; rw [List.append_assoc] at h'; exact h'))
      exact ⟨y :: ys, ρ', by simp only [lcl, e1, e2, e3, h, Option.map], q'⟩
    | false =>
      rw [if_neg Bool.false_ne_true] at h2
      obtain ⟨ys, ρ', h, q'⟩ := rc acc _ Q h2 (fun ys ρ' h' => q ys ρ' (by rw [List.length_cons, show k + (ds.length + 1) = k + 1 + ds.length by omega]; exact h'))
      exact ⟨ys, ρ', by simp only [lcl, e1, e2, h], q'⟩
theorem WS_loop0 {tg : Tg} {b : Stm} {Q : Fl → Ev → Prop} {ds : List D} {ρ : Ev} (I : Nat → Ev → Prop) (h0 : I 0 ρ)
    (st : ∀ (i : Nat) (d : D) (ρ : Ev), ds[i]? = some d → I i ρ → ∃ ρ1, tg d ρ = some ρ1 ∧ WS b ρ1 fun fl ρ2 => match fl with
      | .nx => I (i + 1) ρ2
      | .ct => I (i + 1) ρ2
      | .bk => Q .nx ρ2
      | .rt d => Q (.rt d) ρ2
      | .ex _ => False) (q : ∀ ρ, I ds.length ρ → Q .nx ρ) : WS (loop tg b ds) ρ Q :=
  WS_loop I ds 0 ρ h0 (fun i d ρ e h => by rw [Nat.zero_add] at h ⊢; exact st i d ρ e h) (fun ρ h => q ρ (by rw [Nat.zero_add] at h; exact h))
theorem WL_inv0 {tg : Tg} {t : Mo Bool} {el : Mo D} {vs : List Nat} {Q : List D → Ev → Prop} {ds : List D} {ρ : Ev} (I : Nat → List D → Ev → Prop) (h0 : I 0 [] ρ)
    (st : ∀ (i : Nat) (d : D) (acc : List D) (ρ : Ev), ds[i]? = some d → I i acc ρ → ∃ ρ1, tg d ρ = some ρ1 ∧ W t ρ1 fun c ρ2 => if c = true then W el ρ2 fun y ρ3 => I (i + 1) (acc ++ [y]) (wipeE ρ3 vs) else I (i + 1) acc (wipeE ρ2 vs))
    (q : ∀ ys ρ, I ds.length ys ρ → Q ys ρ) : WL tg t el vs ds ρ Q :=
  WL_inv I ds 0 [] ρ h0 (fun i d acc ρ e h => by rw [Nat.zero_add] at h ⊢; exact st i d acc ρ e h) (fun ys ρ h => q ys ρ (by rw [Nat.zero_add, List.nil_append] at h; exact h))
theorem WL_map {tg : Tg} {el : Mo D} {vs : List Nat} {Q : List D → Ev → Prop} {ds : List D} {ρ : Ev} (g : D → D) (h : ∀ d ∈ ds, ∃ ρ1, tg d ρ = some ρ1 ∧ W el ρ1 fun y ρ2 => y = g d ∧ wipeE ρ2 vs = ρ) (q : Q (ds.map g) ρ) : WL tg yesM el vs ds ρ Q := by
  have e : lcl tg yesM el vs ds ρ = some (ds.map g, ρ) := by
    clear q
    induction ds with
    | nil => rfl
    | cons d r ih =>
      obtain ⟨ρ1, e1, y, ρ2, e2, rfl, e3⟩ := h d List.mem_cons_self
      have ih := ih fun x hx => h x (List.mem_cons_of_mem _ hx)
      have ey : yesM ρ1 = some (.ok true, ρ1) := rfl
      simp only [lcl, e1, ey, e2, e3, ih, Option.map, List.map_cons]
  exact ⟨_, ρ, e, q⟩
theorem WG_any {tg : Tg} {el : Mo D} {vs : List Nat} {Q : D → Ev → Prop} {ρ : Ev} (p : D → Bool) : ∀ {ds ys : List D}, (∀ d ∈ ds, ∃ ρ1, tg d ρ = some ρ1 ∧ W el ρ1 fun y ρ2 => y = .bool (p d) ∧ wipeE ρ2 vs = ρ) → Q (.bool (ds.any p)) ρ → WG csAny (fun _ => some (.bool false)) tg yesM el vs ds ys ρ Q
  | [], ys, _, q => ⟨_, ρ, rfl, q⟩
  | d :: ds, ys, h, q => by
    obtain ⟨ρ1, e1, y, ρ2, e2, rfl, e3⟩ := h d List.mem_cons_self
    rw [List.any_cons] at q
    cases hp : p d with
    | true =>
      rw [hp] at q e2
      exact ⟨_, ρ, by simp only [gl, e1, yesM, rt, e2, csAny, e3]; rfl, q⟩
    | false =>
      rw [hp] at q e2
      obtain ⟨y, ρ', h', q'⟩ := WG_any p (ds := ds) (ys := ys ++ [.bool false]) (fun x hx => h x (List.mem_cons_of_mem _ hx)) q
      exact ⟨y, ρ', by simp only [gl, e1, yesM, rt, e2, csAny, e3]; exact h', q'⟩
theorem WG_all {tg : Tg} {el : Mo D} {vs : List Nat} {Q : D → Ev → Prop} {ρ : Ev} (p : D → Bool) : ∀ {ds ys : List D}, (∀ d ∈ ds, ∃ ρ1, tg d ρ = some ρ1 ∧ W el ρ1 fun y ρ2 => y = .bool (p d) ∧ wipeE ρ2 vs = ρ) → Q (.bool (ds.all p)) ρ → WG csAll (fun _ => some (.bool true)) tg yesM el vs ds ys ρ Q
  | [], ys, _, q => ⟨_, ρ, rfl, q⟩
  | d :: ds, ys, h, q => by
    obtain ⟨ρ1, e1, y, ρ2, e2, rfl, e3⟩ := h d List.mem_cons_self
    rw [List.all_cons] at q
    cases hp : p d with
    | false =>
      rw [hp] at q e2
      exact ⟨_, ρ, by simp only [gl, e1, yesM, rt, e2, csAll, e3]; rfl, q⟩
    | true =>
      rw [hp] at q e2
      obtain ⟨y, ρ', h', q'⟩ := WG_all p (ds := ds) (ys := ys ++ [.bool true]) (fun x hx => h x (List.mem_cons_of_mem _ hx)) q
      exact ⟨y, ρ', by simp only [gl, e1, yesM, rt, e2, csAll, e3]; exact h', q'⟩
theorem runP_of {n m : Nat} {B : Stm} {ds : List D} {d : D} (hl : ds.length = m) (h : WS B (ins ds n) fun fl _ => fl = .rt d) : runP n m B ds = some (.ok d) := by
  obtain ⟨fl, ρ', e, _, rfl⟩ := h
  unfold runP
  rw [if_pos hl, e]
theorem runN_of {n m : Nat} {B : Ev → Option (List D)} {ds rs : List D} (hl : ds.length = m) (h : B (ins ds n) = some rs) : runN n m B ds = some rs := by
  unfold runN
  rw [if_pos hl, h]
theorem retN_of {f : Mo (List D)} {ρ : Ev} {rs : List D} (h : W f ρ fun ds _ => ds = rs) : retN f ρ = some rs := by
  obtain ⟨ds, ρ', e, rfl⟩ := h
  unfold retN
  rw [e]
theorem runO_of {n m : Nat} {B : Stm} {c : Oc} {ds : List D} {Q : D → Oc → Prop} (hl : ds.length + 1 = m) (h : WS B (.ow false c :: ins ds (n - 1)) fun fl ρ' => ∃ d, fl = .rt d ∧ ∃ c', ρ'[0]? = some (.ow false c') ∧ Q d c') : ∃ d c', runO n m B c ds = some (.ok d, c') ∧ Q d c' := by
  obtain ⟨fl, ρ', e, _, d, rfl, c', e2, q⟩ := h
  refine ⟨d, c', ?_, q⟩
  unfold runO
  rw [if_pos hl, e]
  simp only [ow, e2]
end DL
set_option Elab.async false
set_option linter.all false
set_option maxRecDepth 100000
set_option maxHeartbeats 2000000
namespace LB
open PySem PySem.Spec PyProof.Rows L2 GL DL
noncomputable def B_row_of : Stm := (seqS (asgS (rd 0) (tgT [(tgN 2), (tgN 3), (tgN 4), (tgN 5), (tgN 6)]))
    (seqS (setO 7 (rep (args [(rt (.int 0))]) (opA uLen [(rd 2)])))
    (seqS (forS (itU (rd 3)) (tgT [(tgN 8), (tgN 9), (tgN 10)])
      (ifS (tst (op2 uEq (rd 8) (rd 1)))
      (putS 7 (rd 9) (rd 10))
      nilS))
    (seqS (ifS (tst (qt (gx csAny (fun _ => some (.bool false)) (itU (rd 7)) (tgN 11) yesM (op2 oGt (rd 11) (rt (.int 0))) [11])))
      (frz 7 (retS (opA oTup [(rd 7)])))
      nilS)
    (seqS (ifS (tst (op2 uNe (rd 6) (tup [])))
      (retS (opA oTup [(rd 6)]))
      nilS)
    (seqS (putS 7 (rd 1) (rt (.int 1)))
    (frz 7 (retS (opA oTup [(rd 7)])))))))))
noncomputable def F_row_of : List D → Option (Except XV D) := runP 12 2 B_row_of
noncomputable def B_is_whole : Stm := (retS (vand (isi "int" (rd 0)) (vnot (isi "bool" (rd 0)))))
noncomputable def F_is_whole : List D → Option (Except XV D) := runP 1 1 B_is_whole
noncomputable def B_are_wholes : Stm := (retS (vand (isi "tuple" (rd 1)) (vand (op2 uEq (opA uLen [(rd 1)]) (rd 0)) (gx csAll (fun _ => some (.bool true)) (itU (rd 1)) (tgN 2) yesM (callP F_is_whole [(rd 2)]) [2]))))
noncomputable def F_are_wholes : List D → Option (Except XV D) := runP 3 2 B_are_wholes
noncomputable def B__law_pen : Ev → Option (List D) := (retN (args [(slc uSl (rd 0) bN (bS (rt (.int 63)))), (rt (.int 0)), (rt (.int 0))]))
noncomputable def F__law_pen : List D → Option (List D) := runN 1 1 B__law_pen
noncomputable def B__law_draw : Stm := (seqS (ifS (tst (op2 oGt (ixo 0 (rt (.int 2))) (rt (.int 0))))
      (seqS (setS 2 (op2 oMod (ixo 0 (rt (.int 2))) (rd 1)))
    (seqS (putS 0 (rt (.int 2)) (op2 oDiv (ixo 0 (rt (.int 2))) (rd 1)))
    (retS (rd 2))))
      nilS)
    (seqS (setS 3 (ixo 0 (rt (.int 1))))
    (seqS (putS 0 (rt (.int 1)) (op2 uAdd (rd 3) (rt (.int 1))))
    (seqS (setS 4 (op2 uAdd (op2 uMul (rt (.int 40503)) (rd 3)) (rt (.int 15485863))))
    (seqS (ifS (tst (op2 uNe (ixo 0 (rt (.int 0))) (lst [])))
      (setS 4 (op2 uIx (ixo 0 (rt (.int 0))) (op2 oMod (rd 3) (opA uLen [(ixo 0 (rt (.int 0)))]))))
      nilS)
    (seqS (ifS (band (tst (op2 oLt (rd 3) (opA uLen [(ixo 0 (rt (.int 0)))]))) (tst (op2 oGe (opA oAbs [(rd 4)]) (op2 oPow (rt (.int 10)) (rt (.int 18))))))
      (seqS (putS 0 (rt (.int 2)) (op2 oDiv (opA oAbs [(rd 4)]) (rd 1)))
    (retS (op2 oMod (opA oAbs [(rd 4)]) (rd 1))))
      nilS)
    (seqS (setS 5 (lst [(rt (.int 2147483647)), (rt (.int 2147483629)), (rt (.int 2147483587)), (rt (.int 2147483579)), (rt (.int 2147483563)), (rt (.int 2147483549)), (rt (.int 2147483543))]))
    (seqS (setS 6 (op2 oMod (op2 oPow (op2 uAdd (op2 oMod (rd 4) (op2 uIx (rd 5) (op2 oMod (rd 3) (rt (.int 7))))) (op2 uMul (op2 uMul (op2 uAdd (rd 3) (rt (.int 3))) (op2 uAdd (rd 3) (rt (.int 5)))) (rt (.int 50021)))) (rt (.int 5))) (op2 uIx (rd 5) (op2 oMod (rd 3) (rt (.int 7))))))
    (seqS (setS 6 (op2 oMod (op2 oPow (op2 uAdd (op2 uMul (rd 6) (op2 uAdd (op2 uMul (rt (.int 2)) (rd 3)) (rt (.int 69621)))) (rd 3)) (rt (.int 3))) (op2 uIx (rd 5) (op2 oMod (op2 uAdd (rd 3) (rt (.int 3))) (rt (.int 7))))))
    (retS (op2 oMod (op2 oDiv (rd 6) (rt (.int 64))) (rd 1))))))))))))
noncomputable def F__law_draw : Oc → List D → Option (Except XV D × Oc) := runO 7 2 B__law_draw
noncomputable def B__law_row : Stm := (seqS (setO 2 (lc (itU (op2 uIx (rd 0) (rt (.int 0)))) (tgN 6) yesM (rt (.int 0)) [6]))
    (seqS (forS (itU (op2 uIx (rd 0) (rt (.int 1)))) (tgT [(tgN 3), (tgN 4), (tgN 5)])
      (ifS (tst (op2 uEq (rd 3) (rd 1)))
      (putS 2 (rd 4) (rd 5))
      nilS))
    (seqS (ifS (tst (op2 oGt (qt (opA oMaxL [(rd 2)])) (rt (.int 0))))
      (frz 2 (retS (rd 2)))
      nilS)
    (seqS (ifS (tst (op2 uNe (op2 uIx (rd 0) (rt (.int 4))) (tup [])))
      (retS (asL (opAo oList [(op2 uIx (rd 0) (rt (.int 4)))])))
      nilS)
    (seqS (putS 2 (rd 1) (rt (.int 1)))
    (frz 2 (retS (rd 2))))))))
noncomputable def F__law_row : List D → Option (Except XV D) := runP 7 2 B__law_row
end LB
set_option Elab.async false
set_option linter.all false
set_option maxRecDepth 100000
set_option maxHeartbeats 2000000
namespace LB
open PySem PySem.Spec PyProof.Rows L2 GL DL
structure Web where
  names : List Str
  ties : List (Int × Int × Int)
  leaps : List Int
  p : Int
  q : Int
  falls : List Int

def fillRow (a : Int) (ties : List (Int × Int × Int)) (r : List Int) : List Int := ties.foldl (fun row t => if t.1 = a then row.set t.2.1.toNat t.2.2 else row) r

def rowOf (w : Web) (a : Int) : List Int :=
  let r := fillRow a w.ties (List.replicate w.names.length 0)
  if r.any (fun n => decide (0 < n)) = true then r else if w.falls = [] then r.set a.toNat 1 else w.falls

theorem fill_len (a : Int) : ∀ (ties : List (Int × Int × Int)) (r : List Int), (fillRow a ties r).length = r.length
  | [], _ => rfl
  | t :: ts, r => by
    show (fillRow a ts (if t.1 = a then r.set t.2.1.toNat t.2.2 else r)).length = _
    rw [fill_len a ts]
    split
    · rw [List.length_set]
    · rfl

theorem fill_take (a : Int) (ties : List (Int × Int × Int)) (r : List Int) {i : Nat} {t : Int × Int × Int} (h : ties[i]? = some t) :
    fillRow a (ties.take (i + 1)) r = (if t.1 = a then (fillRow a (ties.take i) r).set t.2.1.toNat t.2.2 else fillRow a (ties.take i) r) := by
  unfold fillRow
  rw [List.take_add_one, h]
  simp

structure Fits (w : Web) : Prop where
  many : 1 ≤ w.names.length ∧ w.names.length ≤ 1000
  ties : ∀ t ∈ w.ties, 0 ≤ t.2.1 ∧ t.2.1 < w.names.length
  falls : w.falls = [] ∨ w.falls.length = w.names.length

theorem row_len {w : Web} (h : Fits w) (a : Int) : (rowOf w a).length = w.names.length := by
  unfold rowOf
  have e := fill_len a w.ties (List.replicate w.names.length 0)
  rw [List.length_replicate] at e
  simp only
  split
  · exact e
  · split
    · rw [List.length_set]
      exact e
    · rename_i _ hf
      rcases h.falls with z | z
      · exact absurd z hf
      · exact z

theorem ixN_nat {n j : Nat} (h : j < n) : ixN n (j : Int) = some j := by
  unfold ixN
  rw [if_pos (by omega), if_pos (by omega)]
  simp

theorem ixN_int {n : Nat} {j : Int} (h0 : 0 ≤ j) (h : j < n) : ixN n j = some j.toNat := by
  obtain ⟨k, rfl⟩ := Int.eq_ofNat_of_zero_le h0
  exact ixN_nat (by omega)

theorem canLay_ints : ∀ ns : List Int, PyData.canLayAll0 (ns.map PyData.int) = true
  | [] => rfl
  | _ :: r => by
    show (PyData.canLay0 (.int _) && PyData.canLayAll0 (r.map PyData.int)) = true
    rw [canLay_ints r]
    rfl

theorem shaped_tup (ns : List Int) : SeqAt.shaped (.tuple (ns.map PyData.int)) = true := by
  unfold SeqAt.shaped
  rw [Bool.and_eq_true]
  refine ⟨canLay_ints ns, ?_⟩
  have := GL.depth_ints ns
  simp only [PyData.depth, this]
  decide

theorem eqv_tnil (ns : List Int) : PyData.eqv (.tuple (ns.map PyData.int)) (.tuple []) = ns.isEmpty := by
  cases ns <;> rfl

structure TiesOk (m : Int) (ties : List (Int × Int × Int)) : Prop where
  inn : ∀ t ∈ ties, (0 ≤ t.1 ∧ t.1 < m) ∧ (0 ≤ t.2.1 ∧ t.2.1 < m) ∧ 1 ≤ t.2.2 ∧ t.2.2 ≤ 30
  few : ties.length ≤ 40
  rise : ties.Pairwise fun x y => x.1 < y.1 ∨ (x.1 = y.1 ∧ x.2.1 < y.2.1)

structure NumsOk (m : Int) (xs : List Int) : Prop where
  len : (xs.length : Int) = m
  rng : ∀ x ∈ xs, 0 ≤ x ∧ x ≤ 30
  pos : ∃ x ∈ xs, 0 < x

structure WebOk (W : Web) : Prop where
  many : 1 ≤ W.names.length ∧ W.names.length ≤ 10
  names : ∀ x ∈ W.names, Lo 15 x
  ties : TiesOk W.names.length W.ties
  leaps : NumsOk W.names.length W.leaps
  chance : 1 ≤ W.p ∧ W.p ≤ W.q ∧ W.q ≤ 12
  falls : W.falls = [] ∨ NumsOk W.names.length W.falls

theorem WebOk.fits {W : Web} (h : WebOk W) : Fits W := by
  refine ⟨⟨h.many.1, by have := h.many.2; omega⟩, fun t ht => (h.ties.inn t ht).2.1, ?_⟩
  rcases h.falls with z | z
  · exact .inl z
  · exact .inr (by have := z.len; omega)

abbrev Tie := Int × Int × Int

def tieD (t : Tie) : PyData := .tuple [.int t.1, .int t.2.1, .int t.2.2]

theorem fill_rng (a : Int) (B : Int) : ∀ (ts : List Tie) (r : List Int), (∀ t ∈ ts, 1 ≤ t.2.2 ∧ t.2.2 ≤ B) → (∀ x ∈ r, 0 ≤ x ∧ x ≤ B) → ∀ x ∈ fillRow a ts r, 0 ≤ x ∧ x ≤ B
  | [], _, _, h => h
  | t :: ts, r, ht, h => by
    have h1 := ht t List.mem_cons_self
    refine fill_rng a B ts _ (fun u hu => ht u (List.mem_cons_of_mem _ hu)) ?_
    intro x hx
    have hx : x ∈ (if t.1 = a then r.set t.2.1.toNat t.2.2 else r) := hx
    split at hx
    · rcases List.mem_or_eq_of_mem_set hx with z | z
      · exact h x z
      · rw [z]
        omega
    · exact h x hx

theorem row_rng {W : Web} (h : WebOk W) (a : Int) : ∀ x ∈ rowOf W a, 0 ≤ x ∧ x ≤ 30 := by
  have hf := fill_rng a 30 W.ties (List.replicate W.names.length 0) (fun t ht => (h.ties.inn t ht).2.2) (fun x hx => by
    rw [(List.mem_replicate.mp hx).2]
    decide)
  intro x hx
  unfold rowOf at hx
  simp only at hx
  split at hx
  · exact hf x hx
  · split at hx
    · rcases List.mem_or_eq_of_mem_set hx with z | z
      · exact hf x z
      · rw [z]
        decide
    · rename_i _ hne
      rcases h.falls with z | z
      · exact absurd z hne
      · exact z.rng x hx

theorem sum_rng : ∀ {xs : List Int}, (∀ x ∈ xs, 0 ≤ x ∧ x ≤ 30) → 0 ≤ xs.sum ∧ xs.sum ≤ 30 * xs.length
  | [], _ => by decide
  | x :: r, h => by
    have ih := sum_rng (fun y hy => h y (List.mem_cons_of_mem _ hy))
    have h1 := h x List.mem_cons_self
    rw [List.sum_cons, List.length_cons]
    omega

def webD (W : Web) : PyData := .tuple [.tuple (W.names.map PyData.str), .tuple (W.ties.map tieD), .tuple (W.leaps.map PyData.int), .tuple [.int W.p, .int W.q], .tuple (W.falls.map PyData.int)]

theorem le_sum : ∀ {xs : List Int} {x : Int}, (∀ y ∈ xs, 0 ≤ y) → x ∈ xs → x ≤ xs.sum
  | y :: r, x, h, hx => by
    have h0 := h y List.mem_cons_self
    have hr : ∀ z ∈ r, 0 ≤ z := fun z hz => h z (List.mem_cons_of_mem _ hz)
    have hs : 0 ≤ r.sum := by
      clear hx
      induction r with
      | nil => exact Int.le_refl _
      | cons z r ih =>
        rw [List.sum_cons]
        have h1 := hr z List.mem_cons_self
        have h2 := ih (fun y' hy => h y' (by
          rcases List.mem_cons.mp hy with e | e
          · rw [e]
            exact List.mem_cons_self
          · exact List.mem_cons_of_mem _ (List.mem_cons_of_mem _ e))) (fun z' hz => hr z' (List.mem_cons_of_mem _ hz))
        omega
    rw [List.sum_cons]
    rcases List.mem_cons.mp hx with e | e
    · omega
    · have := le_sum hr e
      omega

theorem row_has {W : Web} (h : WebOk W) {a : Int} (a0 : 0 ≤ a) (a1 : a < W.names.length) : ∃ x ∈ rowOf W a, 0 < x := by
  unfold rowOf
  simp only
  split
  · rename_i h1
    obtain ⟨x, hx, px⟩ := List.any_eq_true.mp h1
    exact ⟨x, hx, of_decide_eq_true px⟩
  · split
    · exact ⟨1, List.mem_set (by rw [fill_len, List.length_replicate]; omega) _, by decide⟩
    · rename_i _ hne
      rcases h.falls with z | z
      · exact absurd z hne
      · exact z.pos

theorem row_sum {W : Web} (h : WebOk W) {a : Int} (a0 : 0 ≤ a) (a1 : a < W.names.length) : 1 ≤ (rowOf W a).sum := by
  obtain ⟨x, hx, px⟩ := row_has h a0 a1
  have := le_sum (fun y hy => (row_rng h a y hy).1) hx
  omega

def colN (W : Web) (a b v : Int) : Int := if b = a then 0 - (W.q - W.p) * v + W.q * (rowOf W a).sum else 0 - (W.q - W.p) * v

def colOf (W : Web) (a : Int) : List Int := (rowOf W a).zipIdx.map fun z => colN W a (z.2 : Int) z.1

theorem col_at (W : Web) (a : Int) (b : Nat) : (colOf W a)[b]? = ((rowOf W a)[b]?).map fun v => colN W a (b : Int) v := by
  unfold colOf
  rw [List.getElem?_map, List.getElem?_zipIdx]
  cases (rowOf W a)[b]? with
  | none => rfl
  | some v =>
    show some (colN W a ((0 + b : Nat) : Int) v) = _
    rw [Nat.zero_add]
    rfl

theorem col_len (W : Web) (a : Int) : (colOf W a).length = (rowOf W a).length := by
  unfold colOf
  rw [List.length_map, List.length_zipIdx]

theorem sum_col (p q s : Int) (a : Int) : ∀ (r : List Int) (k : Nat), ((r.zipIdx k).map fun z => if ((z.2 : Nat) : Int) = a then 0 - (q - p) * z.1 + q * s else 0 - (q - p) * z.1).sum = (0 - (q - p) * r.sum) + (if (k : Int) ≤ a ∧ a < (k : Int) + r.length then q * s else 0)
  | [], k => by
    rw [if_neg (fun z => by
      have h1 := z.1
      have h2 := z.2
      rw [List.length_nil] at h2
      omega)]
    simp
  | x :: r, k => by
    have ih := sum_col p q s a r (k + 1)
    rw [List.zipIdx_cons, List.map_cons, List.sum_cons, ih, List.sum_cons, Int.mul_add, List.length_cons]
    generalize (q - p) * r.sum = A
    generalize (q - p) * x = B
    generalize q * s = C
    simp only
    by_cases e : (k : Int) = a
    · rw [if_pos e, if_neg (by omega), if_pos (by omega)]
      omega
    · rw [if_neg e]
      by_cases e2 : ((k + 1 : Nat) : Int) ≤ a ∧ a < ((k + 1 : Nat) : Int) + r.length
      · rw [if_pos e2, if_pos (by omega)]
        omega
      · rw [if_neg e2, if_neg (by omega)]
        omega

theorem col_sum {W : Web} (h : WebOk W) {a : Int} (a0 : 0 ≤ a) (a1 : a < W.names.length) : (colOf W a).sum = W.p * (rowOf W a).sum := by
  have e := sum_col W.p W.q (rowOf W a).sum a (rowOf W a) 0
  have hl := row_len h.fits a
  rw [if_pos (by omega)] at e
  have e2 : (colOf W a).sum = _ := e
  rw [e2, Int.sub_mul]
  omega

theorem col_own {W : Web} (h : WebOk W) {a : Int} (a0 : 0 ≤ a) (a1 : a < W.names.length) : ∃ v : Int, (colOf W a)[a.toNat]? = some v ∧ 1 ≤ v := by
  have hl := row_len h.fits a
  have hj : a.toNat < (rowOf W a).length := by omega
  have hv := List.getElem?_eq_getElem hj
  have hm := List.getElem_mem hj
  generalize (rowOf W a)[a.toNat] = v at hv hm
  have hr := row_rng h a
  have g1 := le_sum (fun y hy => (hr y hy).1) hm
  have g2 := row_sum h a0 a1
  have g3 := (hr v hm).1
  have hc := h.chance
  refine ⟨_, by rw [col_at, hv]; rfl, ?_⟩
  show 1 ≤ colN W a _ v
  unfold colN
  rw [if_pos (by omega)]
  have h1 : (W.q - W.p) * v ≤ (W.q - W.p) * (rowOf W a).sum := Int.mul_le_mul_of_nonneg_left g1 (by omega)
  have h2 : 1 * (rowOf W a).sum ≤ W.p * (rowOf W a).sum := Int.mul_le_mul_of_nonneg_right hc.1 (by omega)
  rw [Int.sub_mul] at h1
  rw [Int.sub_mul] at h1 ⊢
  omega

theorem col_other {W : Web} (h : WebOk W) {a : Int} {b : Nat} (hb : (b : Int) ≠ a) {v : Int} (hv : (colOf W a)[b]? = some v) : v ≤ 0 := by
  rw [col_at] at hv
  obtain ⟨u, hu, rfl⟩ := Option.map_eq_some_iff.mp hv
  have hr := row_rng h a u (List.mem_of_getElem? hu)
  have hc := h.chance
  show colN W a (b : Int) u ≤ 0
  unfold colN
  rw [if_neg hb]
  have := Int.mul_nonneg (show 0 ≤ W.q - W.p by omega) hr.1
  omega

theorem col_rng {W : Web} (h : WebOk W) (a : Int) : ∀ x ∈ colOf W a, -1000 ≤ x ∧ x ≤ 100000 := by
  intro x hx
  obtain ⟨b, hb, e⟩ := List.getElem_of_mem hx
  have hv := List.getElem?_eq_getElem hb
  rw [e, col_at] at hv
  obtain ⟨u, hu, rfl⟩ := Option.map_eq_some_iff.mp hv
  have hr := row_rng h a u (List.mem_of_getElem? hu)
  have hc := h.chance
  have hs := sum_rng (row_rng h a)
  have hl := row_len h.fits a
  have hM := h.many
  have g1 := Int.mul_nonneg (show 0 ≤ W.q - W.p by omega) hr.1
  have g2 : (W.q - W.p) * u ≤ 12 * 30 := Int.mul_le_mul (by omega) hr.2 hr.1 (by decide)
  have g3 := Int.mul_nonneg (show 0 ≤ W.q by omega) hs.1
  have g4 : W.q * (rowOf W a).sum ≤ 12 * 300 := Int.mul_le_mul hc.2.2 (by omega) hs.1 (by decide)
  show -1000 ≤ colN W a (b : Int) u ∧ colN W a (b : Int) u ≤ 100000
  unfold colN
  split <;> omega

structure Lot where
  g : Int
  goings : List Int
  rest : List Int

def stepR (col : List Int) (going : Int) (rest : List Int) : List Int := List.zipWith (fun n c => n - going * c) rest col

def restN (W : Web) (g : Int) (goings : List Int) : Nat → List Int
  | 0 => W.leaps.map fun x => g * x
  | i + 1 => stepR (colOf W i) (goings.getD i 0) (restN W g goings i)

def lotRest (W : Web) (g : Int) (goings : List Int) : List Int := restN W g goings goings.length

theorem restN_len {W : Web} (h : WebOk W) (g : Int) (goings : List Int) : ∀ i, (restN W g goings i).length = W.names.length
  | 0 => by
    show (W.leaps.map _).length = _
    rw [List.length_map]
    have := h.leaps.len
    omega
  | i + 1 => by
    show (stepR _ _ _).length = _
    unfold stepR
    rw [List.length_zipWith, restN_len h g goings i, col_len, row_len h.fits]
    omega

theorem lotRest_len {W : Web} (h : WebOk W) (g : Int) (goings : List Int) : (lotRest W g goings).length = W.names.length := restN_len h g goings _

theorem abs_mul_le {a c G B : Int} (ha : -G ≤ a ∧ a ≤ G) (hc : -B ≤ c ∧ c ≤ B) : -(G * B) ≤ a * c ∧ a * c ≤ G * B := by
  have h1 : (a * c).natAbs ≤ G.natAbs * B.natAbs := by
    rw [Int.natAbs_mul]
    exact Nat.mul_le_mul (by omega) (by omega)
  have h2 : ((G.natAbs * B.natAbs : Nat) : Int) = G * B := by
    rw [Int.natCast_mul]
    congr 1 <;> omega
  omega

theorem zw_mem {f : Int → Int → Int} : ∀ {xs ys : List Int} {z : Int}, z ∈ List.zipWith f xs ys → ∃ x ∈ xs, ∃ y ∈ ys, z = f x y
  | x :: xs, y :: ys, z, h => by
    rcases List.mem_cons.mp h with e | e
    · exact ⟨x, List.mem_cons_self, y, List.mem_cons_self, e⟩
    · obtain ⟨a, ha, b, hb, e2⟩ := zw_mem e
      exact ⟨a, List.mem_cons_of_mem _ ha, b, List.mem_cons_of_mem _ hb, e2⟩

def big : Int := 1000000000000000000000000000000

structure Bd (B : Int) (L : Lot) : Prop where
  g : -B ≤ L.g ∧ L.g ≤ B
  goings : ∀ x ∈ L.goings, -B ≤ x ∧ x ≤ B
  rest : ∀ x ∈ L.rest, -B ≤ x ∧ x ≤ B
  l1 : L.goings.length ≤ 10
  l2 : L.rest.length ≤ 10

def bigL : Int := 1000000000000000000000000000000 * 100000 * 11

def lotD (L : Lot) : PyData := .tuple [.int L.g, .tuple (L.goings.map PyData.int), .tuple (L.rest.map PyData.int)]

def huge : Int := 10000000000000000000000000000000000000000000000000000000000000000000000000000000000000000000000000000

theorem small_div {i j : Int} (h0 : 0 < j) (h : j.natAbs < 2 ^ 1900) : CDivW i j := wide_div h0 (b := 1900) h (by decide) (by decide)

theorem shaped_ints (ns : List Int) : SeqAt.shaped (.list (ns.map PyData.int)) = true := by
  unfold SeqAt.shaped
  rw [Bool.and_eq_true]
  refine ⟨canLay_ints ns, ?_⟩
  have := GL.depth_ints ns
  simp only [PyData.depth, this]
  decide

theorem eqv_nil (ns : List Int) : PyData.eqv (.list (ns.map PyData.int)) (.list []) = ns.isEmpty := by
  cases ns <;> rfl

def sizeOf (W : Web) (a : Int) : Int := ((colOf W a)[a.toNat]?).getD 1

def atR (xs : List Int) (a : Int) : Int := (xs[a.toNat]?).getD 0

def mostOf (W : Web) (L : Lot) (a : Int) : Int := ((atR L.rest a).natAbs : Int) / sizeOf W a

theorem size_at {W : Web} (h : WebOk W) {a : Int} (a0 : 0 ≤ a) (a1 : a < W.names.length) : (colOf W a)[a.toNat]? = some (sizeOf W a) ∧ 1 ≤ sizeOf W a ∧ sizeOf W a ≤ 100000 := by
  obtain ⟨v, hv, h1⟩ := col_own h a0 a1
  have e : sizeOf W a = v := by
    unfold sizeOf
    rw [hv]
    rfl
  rw [e]
  exact ⟨hv, h1, (col_rng h a v (List.mem_of_getElem? hv)).2⟩

theorem rest_at {xs : List Int} {a : Int} (a0 : 0 ≤ a) (a1 : a < xs.length) : xs[a.toNat]? = some (atR xs a) ∧ atR xs a ∈ xs := by
  have hj : a.toNat < xs.length := by omega
  have e := List.getElem?_eq_getElem hj
  have e2 : atR xs a = xs[a.toNat] := by
    unfold atR
    rw [e]
    rfl
  rw [e2]
  exact ⟨e, List.getElem_mem hj⟩

def pushL (W : Web) (L : Lot) (a m : Int) : Lot := ⟨L.g, L.goings.set a.toNat (atR L.goings a + m), stepR (colOf W a) m L.rest⟩

structure May (W : Web) (L : Lot) (a m : Int) : Prop where
  lo : 1 ≤ (m.natAbs : Int)
  hi : (m.natAbs : Int) ≤ mostOf W L a
  sg : m < 0 ↔ atR L.rest a < 0

theorem fineB {B x : Int} (hB : B ≤ huge) (h : -B ≤ x ∧ x ≤ B) : Fine x := by
  have e : x.natAbs ≤ 10000000000000000000000000000000000000000000000000000000000000000000000000000000000000000000000000000 := by
    unfold huge at hB
    omega
  exact Nat.lt_of_le_of_lt e (by decide)
theorem sm_lot {B : Int} {L : Lot} (hB : B ≤ huge) (h : Bd B L) : Sm 2 50 (lotD L) := by
  have a1 : Sm 1 0 (.int L.g) := (Sm.int (fineB hB h.g)).mono (by decide) (by decide)
  have a2 : Sm 1 10 (.tuple (L.goings.map PyData.int)) := (Sm.tup (SmAll.map (k := 0) (n := 0) fun x hx => Sm.int (fineB hB (h.goings x hx)))).mono (by decide) (by have := h.l1; omega)
  have a3 : Sm 1 10 (.tuple (L.rest.map PyData.int)) := (Sm.tup (SmAll.map (k := 0) (n := 0) fun x hx => Sm.int (fineB hB (h.rest x hx)))).mono (by decide) (by have := h.l2; omega)
  exact (Sm.tup (SmAll.cons a1 (.cons a2 (.cons a3 (SmAll.nil.mono (Nat.zero_le _) (Nat.le_refl _)))))).mono (by decide) (by decide)
end LB
set_option Elab.async false
set_option linter.all false
set_option maxRecDepth 100000
set_option maxHeartbeats 2000000
namespace LB
open PySem PySem.Spec PyProof.Rows L2 GL DL
theorem asI_i (i : Int) : asI (.int i) = some i := rfl
theorem asB_b (i : Bool) : asB (.bool i) = some i := rfl
theorem frz_da (d : D) : frzS (.da d) = .da d := rfl
theorem frz_un : frzS .un = .un := rfl
theorem frz_ol (l : Bool) (ds : List D) : frzS (.ow l (.lst ds)) = .da (.list ds) := rfl
theorem frz_tk (ks : List Key) : frzS (.tk ks) = .da (.tuple (ks.map kD)) := rfl
theorem flat_i (i : Int) : flat (.int i) = true := rfl
theorem flat_b (i : Bool) : flat (.bool i) = true := rfl
theorem flat_s (i : Str) : flat (.str i) = true := rfl
theorem wipe0 (ρ : Ev) : wipeE ρ [] = ρ := rfl
theorem wipe1 (ρ : Ev) (i : Nat) (vs : List Nat) : wipeE ρ (i :: vs) = (wipeE ρ vs).set i .un := rfl
theorem ex_lot (L : Lot) : isExn (lotD L) = false := rfl
theorem ex_web (W : Web) : isExn (webD W) = false := rfl
theorem seq_t (ds : List D) : seqOf (.tuple ds) = some ds := rfl
theorem seq_l (ds : List D) : seqOf (.list ds) = some ds := rfl
theorem isi_tt (ds : List D) : (tyN (.tuple ds) == "tuple" || ("tuple" == "int" && tyN (.tuple ds) == "bool")) = true := by simp only [tyN]; decide
theorem isi_lt (ds : List D) : (tyN (.list ds) == "tuple" || ("tuple" == "int" && tyN (.list ds) == "bool")) = false := by simp only [tyN]; decide
theorem isi_ll (ds : List D) : (tyN (.list ds) == "list" || ("list" == "int" && tyN (.list ds) == "bool")) = true := by simp only [tyN]; decide
theorem isi_tl (ds : List D) : (tyN (.tuple ds) == "list" || ("list" == "int" && tyN (.tuple ds) == "bool")) = false := by simp only [tyN]; decide
theorem isi_ii (i : Int) : (tyN (.int i) == "int" || ("int" == "int" && tyN (.int i) == "bool")) = true := by simp only [tyN]; decide
theorem isi_ib (i : Int) : (tyN (.int i) == "bool" || ("bool" == "int" && tyN (.int i) == "bool")) = false := by simp only [tyN]; decide
theorem isi_bi (i : Bool) : (tyN (.bool i) == "int" || ("int" == "int" && tyN (.bool i) == "bool")) = true := by simp only [tyN]; decide
theorem isi_bb (i : Bool) : (tyN (.bool i) == "bool" || ("bool" == "int" && tyN (.bool i) == "bool")) = true := by simp only [tyN]; decide
def bkF : Nat → Ev → Ev → List Nat → Ev
  | k, a :: ρ, b :: ρ1, vs => (if k ∈ vs then a else b) :: bkF (k + 1) ρ ρ1 vs
  | _, _, _, _ => []
theorem bkF_at (vs : List Nat) : ∀ (ρ ρ1 : Ev) (k j : Nat), ρ.length = ρ1.length → (bkF k ρ ρ1 vs)[j]? = if k + j ∈ vs then ρ[j]? else ρ1[j]?
  | [], [], k, j, _ => by simp [bkF]
  | [], _ :: _, _, _, h => by cases h
  | _ :: _, [], _, _, h => by cases h
  | a :: ρ, b :: ρ1, k, 0, h => by
    unfold bkF
    by_cases hk : k ∈ vs <;> simp [hk]
  | a :: ρ, b :: ρ1, k, j + 1, h => by
    unfold bkF
    have := bkF_at vs ρ ρ1 (k + 1) j (by simpa using h)
    rw [List.getElem?_cons_succ, this, show k + 1 + j = k + (j + 1) by omega, List.getElem?_cons_succ, List.getElem?_cons_succ]
theorem back_bkF {ρ ρ1 : Ev} {vs : List Nat} (h : ρ.length = ρ1.length) : back ρ ρ1 vs = bkF 0 ρ ρ1 vs := by
  refine List.ext_getElem? fun j => ?_
  rw [bkF_at vs ρ ρ1 0 j h, Nat.zero_add]
  by_cases hj : j ∈ vs
  · rw [back_in hj, if_pos hj]
  · rw [back_out hj h, if_neg hj]
theorem gxif_t {α : Sort _} {a b : α} : (if true = true then a else b) = a := if_pos rfl
theorem gxif_f {α : Sort _} {a b : α} : (if false = true then a else b) = b := if_neg Bool.false_ne_true
theorem len_tup (ds : List D) : uLen [.tuple ds] = some (.int ds.length) := rfl
theorem len_lst (ds : List D) : uLen [.list ds] = some (.int ds.length) := rfl
theorem oTup_l (ds : List D) : oTup [.list ds] = some (.tuple ds) := rfl
theorem oTup_t (ds : List D) : oTup [.tuple ds] = some (.tuple ds) := rfl
theorem eq_int (i j : Int) : uEq (.int i) (.int j) = some (.bool (decide (i = j))) := by
  show (orO oEqS oEqD) _ _ = _
  simp only [orO, oEqS]
  unfold oEqD
  rw [if_pos (by rfl)]
  rfl
theorem ne_int (i j : Int) : uNe (.int i) (.int j) = some (.bool (!decide (i = j))) := by
  show (orO oNeS oNeD) _ _ = _
  simp only [orO, oNeS]
  unfold oNeD
  rw [if_pos (by rfl)]
  rfl
theorem hasDict_ints : ∀ ns : List Int, PyData.hasDictAll (ns.map PyData.int) = false
  | [] => rfl
  | _ :: r => by
    show (PyData.hasDict (.int _) || PyData.hasDictAll (r.map PyData.int)) = false
    rw [hasDict_ints r]
    rfl
theorem okE_tints (ns : List Int) : okE (.tuple (ns.map PyData.int)) = true := by
  unfold okE
  rw [shaped_tup ns]
  show (true && !PyData.hasDictAll (ns.map PyData.int)) = true
  rw [hasDict_ints]
  rfl
theorem ne_tnil (ns : List Int) : uNe (.tuple (ns.map PyData.int)) (.tuple []) = some (.bool (!ns.isEmpty)) := by
  show (orO oNeS oNeD) _ _ = _
  simp only [orO, oNeS]
  unfold oNeD
  rw [if_pos (by rw [okE_tints]; rfl), eqv_tnil]
theorem putAt_int {n : Int} {d : D} {ds : List D} (h0 : 0 ≤ n) (h1 : n < ds.length) : DL.putAt (.int n) d ds = some (ds.set n.toNat d) := by
  unfold DL.putAt
  dsimp only
  rw [ixN_int h0 h1]
  rfl
theorem atI_int {n : Int} {ds : List D} (h0 : 0 ≤ n) (h1 : n < ds.length) : atI ds n = ds[n.toNat]? := by
  unfold atI
  rw [ixN_int h0 h1]
  rfl
theorem rep_int (k : Nat) (i : Int) : (List.replicate k [PyData.int i]).flatten = (List.replicate k i).map PyData.int := by
  induction k with
  | zero => rfl
  | succ i ih =>
    rw [List.replicate_succ, List.flatten_cons, ih, List.replicate_succ]
    rfl
theorem few10 {n : Nat} (h : n ≤ 1000) : n ≤ sizeLine := Nat.le_trans h (by decide)
def dlS := And.intro @WS_seq (And.intro @WS_asg (And.intro @WS_set (And.intro @WS_setO (And.intro @WS_setK (And.intro @WS_newT (And.intro @WS_newK (And.intro @WS_nil (And.intro @WS_ret (And.intro @WS_if (And.intro @WS_frz (And.intro @WS_put (And.intro @WS_app (And.intro @WS_rev (And.intro @WS_augO (And.intro @WS_putT (And.intro @WS_for (And.intro @then_nx (And.intro @then_rt (And.intro @then_bk (And.intro @then_ct (And.intro @W_bnd (And.intro @W_rt (And.intro @W_lf (And.intro @W_rd (And.intro @W_op2 (And.intro @W_op2o (And.intro @W_op1 (And.intro @W_args0 (And.intro @W_args1 (And.intro @W_tup (And.intro @W_lst (And.intro @W_opA (And.intro @W_opAo (And.intro @W_asL (And.intro @W_bN (And.intro @W_bS (And.intro @W_slc (And.intro @W_slco (And.intro @W_tst (And.intro @W_bnot (And.intro @W_band (And.intro @W_bor (And.intro @W_ife (And.intro @W_vand (And.intro @W_vor (And.intro @W_vnot (And.intro @W_chn (And.intro @W_isi (And.intro @W_itU (And.intro @W_itR (And.intro @W_itE (And.intro @W_itZ (And.intro @W_callP (And.intro @W_callN (And.intro @W_callO (And.intro @W_ixo (And.intro @W_leno (And.intro @W_lenT (And.intro @W_sortT (And.intro @W_kyT (And.intro @W_kyV (And.intro @W_getT (And.intro @W_rep (And.intro @W_joinM (And.intro @W_qt (And.intro @W_qT (And.intro @W_qo (And.intro @W_lc (And.intro @W_gx (And.intro @List.getElem?_cons_zero.{0} (And.intro @List.getElem?_cons_succ.{0} (And.intro @List.set_cons_zero.{0} (And.intro @List.set_cons_succ.{0} (And.intro @Option.some.injEq.{0} (And.intro @Sl.da.injEq (And.intro @Sl.ow.injEq (And.intro @Sl.tk.injEq (And.intro @Oc.lst.injEq (And.intro @Oc.dT.injEq (And.intro @exists_eq_left'.{1} (And.intro @exists_eq_left.{1} (And.intro @tgN_eq (And.intro @tgT_eq (And.intro @tgs_nil (And.intro @tgs_cons (And.intro @Option.bind_some.{0, 0} (And.intro @asI_i (And.intro @asB_b (And.intro @Option.isSome_some.{0} (And.intro @Option.map_some.{0, 0} (And.intro @true_and (And.intro @and_true (And.intro @seq_t (And.intro @seq_l (And.intro @isi_tt (And.intro @isi_lt (And.intro @isi_ll (And.intro @isi_tl (And.intro @isi_ii (And.intro @isi_ib (And.intro @isi_bi (And.intro @isi_bb (And.intro @ex_lot (And.intro @ex_web (And.intro @ex_t (And.intro @ex_l (And.intro @ex_i (And.intro @ex_b (And.intro @ex_s (And.intro @ex_n (And.intro @Bool.not_true (And.intro @Bool.not_false (And.intro @decide_true (And.intro @flat_i (And.intro @flat_b (And.intro @flat_s (And.intro @List.map_cons.{0, 0} (And.intro @List.map_nil.{0, 0} (And.intro @frz_da (And.intro @frz_un (And.intro @frz_ol (And.intro @frz_tk (And.intro @len_tup (And.intro @len_lst (And.intro @oTup_l (And.intro @oTup_t (And.intro @eq_int (And.intro @ne_int (And.intro @exists_and_left.{1} (And.intro @List.length_map.{0, 0} (And.intro @gxif_t.{1} (And.intro @gxif_f.{1} (And.intro @and_assoc (And.intro @PyData.int.injEq (And.intro @PyData.bool.injEq (And.intro @if_true.{1} (And.intro @if_false.{1} (And.intro @Bool.false_eq_true (And.intro @wipe0 (And.intro @wipe1 (And.intro @back_bkF (And.intro @List.length_cons.{0} (And.intro @List.length_nil.{0} (And.intro @List.mem_cons.{0} (And.intro @List.not_mem_nil.{0} (And.intro @or_false (And.intro @Nat.zero_add (And.intro @Option.getD_some.{0} (@Except.ok.injEq.{0, 0})))))))))))))))))))))))))))))))))))))))))))))))))))))))))))))))))))))))))))))))))))))))))))))))))))))))))))))))))))))))))))))))))))))))))))))))))))))
def posD : D → Bool
  | .int n => decide (0 < n)
  | _ => false
theorem any_pos (r : List Int) : (r.map PyData.int).any posD = r.any (fun n => decide (0 < n)) := by
  rw [List.any_map]
  rfl
theorem row_eq {W : Web} (hF : Fits W) {a : Int} (a0 : 0 ≤ a) (a1 : a < W.names.length) : F_row_of [webD W, .int a] = some (.ok (.tuple ((rowOf W a).map PyData.int))) := by
  have hm := hF.many
  refine runP_of rfl ?_
  show WS B_row_of [.da (webD W), .da (.int a), .un, .un, .un, .un, .un, .un, .un, .un, .un, .un] _
  unfold B_row_of webD
  simp only [LB.dlS, DL.ol, DL.ow, DL.oT, DL.oI, LB.bkF, Nat.reduceAdd, Nat.reduceEqDiff, reduceIte, ol, ow, oT, oI, bkF]
  refine ⟨by omega, by omega, few10 (by simp; omega), ?_⟩
  refine WS_loop0 (fun i ρ => ∃ s8 s9 s10, ρ = [.da (webD W), .da (.int a), .da (.tuple (W.names.map PyData.str)), .da (.tuple (W.ties.map tieD)), .da (.tuple (W.leaps.map PyData.int)), .da (.tuple [.int W.p, .int W.q]), .da (.tuple (W.falls.map PyData.int)), .ow true (.lst ((fillRow a (W.ties.take i) (List.replicate W.names.length 0)).map PyData.int)), s8, s9, s10, .un]) ?_ ?_ ?_
  · refine ⟨.un, .un, .un, ?_⟩
    rw [rep_int]
    rfl
  · rintro i d ρ hd ⟨s8, s9, s10, rfl⟩
    rw [List.getElem?_map] at hd
    obtain ⟨t, ht, rfl⟩ := Option.map_eq_some_iff.mp hd
    have hg := hF.ties t (List.mem_of_getElem? ht)
    have ef := fill_take a W.ties (List.replicate W.names.length 0) ht
    have el : ((fillRow a (W.ties.take i) (List.replicate W.names.length 0)).map PyData.int).length = W.names.length := by rw [List.length_map, fill_len, List.length_replicate]
    show ∃ ρ1, tgT [tgN 8, tgN 9, tgN 10] (.tuple [.int t.1, .int t.2.1, .int t.2.2]) _ = some ρ1 ∧ _
    simp only [LB.dlS, DL.ol, DL.ow, DL.oT, DL.oI, LB.bkF, Nat.reduceAdd, Nat.reduceEqDiff, reduceIte, ol, ow, oT, oI, bkF]
    split
    · rename_i c
      rw [putAt_int hg.1 (by rw [el]; exact hg.2)]
      rw [ef, if_pos (of_decide_eq_true c), List.map_set]
      exact ⟨_, rfl, _, _, _, rfl⟩
    · rename_i c
      rw [ef, if_neg (fun z => c (decide_eq_true z))]
      exact ⟨_, _, _, rfl⟩
  · rintro ρ ⟨s8, s9, s10, rfl⟩
    have el : ((fillRow a (W.ties.take W.ties.length) (List.replicate W.names.length 0)).map PyData.int).length = W.names.length := by rw [List.length_map, fill_len, List.length_replicate]
    have et : W.ties.take W.ties.length = W.ties := List.take_length
    simp only [LB.dlS, DL.ol, DL.ow, DL.oT, DL.oI, LB.bkF, Nat.reduceAdd, Nat.reduceEqDiff, reduceIte, ol, ow, oT, oI, bkF]
    refine ⟨rfl, WG_any posD (fun d hd => ?_) ?_⟩
    · obtain ⟨n, _, rfl⟩ := List.mem_map.mp hd
      simp only [LB.dlS, DL.ol, DL.ow, DL.oT, DL.oI, LB.bkF, Nat.reduceAdd, Nat.reduceEqDiff, reduceIte, ol, ow, oT, oI, bkF]
      first | done | rfl
    · rw [any_pos]
      simp only [LB.dlS, DL.ol, DL.ow, DL.oT, DL.oI, LB.bkF, Nat.reduceAdd, Nat.reduceEqDiff, reduceIte, ol, ow, oT, oI, bkF]
      rw [ne_tnil, putAt_int a0 (by rw [el]; exact a1)]
      simp only [LB.dlS, DL.ol, DL.ow, DL.oT, DL.oI, LB.bkF, Nat.reduceAdd, Nat.reduceEqDiff, reduceIte, ol, ow, oT, oI, bkF]
      rw [et, ← List.map_set]
      unfold rowOf
      dsimp only
      split
      · rfl
      · split
        · rename_i h2
          rw [if_neg (fun z => by rw [z] at h2; cases h2)]
        · rename_i h2
          have h3 : W.falls = [] := by
            cases e : W.falls with
            | nil => rfl
            | cons _ _ => rw [e] at h2; exact absurd rfl h2
          rw [if_pos h3]
theorem mul_int {i j : Int} (h : CMulW i j) : uMul (.int i) (.int j) = some (.int (i * j)) := by
  unfold uMul orO oMul oC
  dsimp only
  rw [if_pos h]
theorem ix_t {ds : List D} {n : Int} {d : D} (h : atI ds n = some d) : uIx (.tuple ds) (.int n) = some d := by
  unfold uIx orO oIxT
  dsimp only
  rw [h]
theorem ix_l {ds : List D} {n : Int} {d : D} (h : atI ds n = some d) : uIx (.list ds) (.int n) = some d := by
  show orO oIxT (orO oIxL oIxS) (.list ds) (.int n) = _
  have e1 : oIxT (.list ds) (.int n) = none := rfl
  have e2 : oIxL (.list ds) (.int n) = some d := h
  simp only [orO, e1, e2]
theorem sum_t (ns : List Int) : oSum [.tuple (ns.map PyData.int)] = some (.int ns.sum) := by
  unfold oSum
  dsimp only
  rw [DL.ints_of]
  rfl
theorem sum_l (ns : List Int) : oSum [.list (ns.map PyData.int)] = some (.int ns.sum) := by
  unfold oSum
  dsimp only
  rw [DL.ints_of]
  rfl
theorem web3 (W : Web) : uIx (webD W) (.int 3) = some (.tuple [.int W.p, .int W.q]) := rfl
theorem web2 (W : Web) : uIx (webD W) (.int 2) = some (.tuple (W.leaps.map PyData.int)) := rfl
theorem web1 (W : Web) : uIx (webD W) (.int 1) = some (.tuple (W.ties.map tieD)) := rfl
theorem web0 (W : Web) : uIx (webD W) (.int 0) = some (.tuple (W.names.map PyData.str)) := rfl
theorem web4 (W : Web) : uIx (webD W) (.int 4) = some (.tuple (W.falls.map PyData.int)) := rfl
theorem small_mul {i j : Int} (hi : -1000000 ≤ i ∧ i ≤ 1000000) (hj : -1000000 ≤ j ∧ j ≤ 1000000) : CMulW i j := by
  unfold CMulW
  have h1 : i.natAbs < 2 ^ 20 := by omega
  have h2 : j.natAbs < 2 ^ 20 := by omega
  have a1 : i.natAbs.log2 ≤ 20 := by
    by_cases e : i.natAbs = 0
    · rw [e]; decide
    · exact Nat.le_of_lt ((Nat.log2_lt e).mpr h1)
  have a2 : j.natAbs.log2 ≤ 20 := by
    by_cases e : j.natAbs = 0
    · rw [e]; decide
    · exact Nat.le_of_lt ((Nat.log2_lt e).mpr h2)
  omega
theorem whole_eq (n : Int) : F_is_whole [.int n] = some (.ok (.bool true)) := by
  refine runP_of rfl ?_
  show WS B_is_whole [.da (.int n)] _
  unfold B_is_whole
  simp only [LB.dlS, DL.ol, DL.ow, DL.oT, DL.oI, LB.bkF, Nat.reduceAdd, Nat.reduceEqDiff, reduceIte, ol, ow, oT, oI, bkF]
theorem wholes_eq (ns : List Int) : F_are_wholes [.int ns.length, .tuple (ns.map PyData.int)] = some (.ok (.bool true)) := by
  refine runP_of rfl ?_
  show WS B_are_wholes [.da (.int ns.length), .da (.tuple (ns.map PyData.int)), .un] _
  unfold B_are_wholes
  simp only [LB.dlS, DL.ol, DL.ow, DL.oT, DL.oI, LB.bkF, Nat.reduceAdd, Nat.reduceEqDiff, reduceIte, ol, ow, oT, oI, bkF]
  refine ⟨rfl, WG_all (fun _ => true) (fun d hd => ?_) ?_⟩
  · obtain ⟨n, hn, rfl⟩ := List.mem_map.mp hd
    simp only [LB.dlS, DL.ol, DL.ow, DL.oT, DL.oI, LB.bkF, Nat.reduceAdd, Nat.reduceEqDiff, reduceIte, ol, ow, oT, oI, bkF, whole_eq]
  · rw [List.all_eq_true.mpr fun _ _ => rfl]
end LB
set_option Elab.async false
set_option linter.all false
set_option maxRecDepth 100000
set_option maxHeartbeats 2000000
namespace LB
open PySem PySem.Spec PyProof.Rows L2 GL DL
theorem c3 : ((3 : Nat) : Int) = 3 := rfl
theorem wide_mul {i j : Int} (hi : i.natAbs < 2 ^ 1900) (hj : j.natAbs < 2 ^ 1900) : CMulW i j := by
  unfold CMulW
  have a1 : i.natAbs.log2 ≤ 1900 := by
    by_cases e : i.natAbs = 0
    · rw [e]; decide
    · exact Nat.le_of_lt ((Nat.log2_lt e).mpr hi)
  have a2 : j.natAbs.log2 ≤ 1900 := by
    by_cases e : j.natAbs = 0
    · rw [e]; decide
    · exact Nat.le_of_lt ((Nat.log2_lt e).mpr hj)
  omega
theorem small_1900 {x : Int} (h : -1000000 ≤ x ∧ x ≤ 1000000) : x.natAbs < 2 ^ 1900 := by
  have : x.natAbs < 2 ^ 20 := by omega
  exact Nat.lt_of_lt_of_le this (Nat.pow_le_pow_right (by decide) (by decide))
structure Nar (L : Lot) : Prop where
  g : L.g.natAbs < 2 ^ 1900
  goings : ∀ x ∈ L.goings, x.natAbs < 2 ^ 1900
theorem lot2 (L : Lot) : uIx (lotD L) (.int 2) = some (.tuple (L.rest.map PyData.int)) := rfl
theorem abs_i (i : Int) : oAbs [.int i] = some (.int (i.natAbs : Int)) := by
  rfl
theorem div_int {i j : Int} (h : CDivW i j) : oDiv (.int i) (.int j) = some (.int (i / j)) := by
  unfold oDiv
  dsimp only
  rw [if_pos h]
theorem at_ints {ns : List Int} {a : Int} (a0 : 0 ≤ a) (a1 : a < ns.length) : atI (ns.map PyData.int) a = some (.int (atR ns a)) := by
  rw [atI_int a0 (by rw [List.length_map]; exact a1), List.getElem?_map, (rest_at a0 a1).1]
  rfl
theorem rng_eq {n : Nat} (h : n ≤ 1000) : rngO (.int n) = some ((List.range n).map fun i : Nat => .int (i : Int)) := by
  unfold rngO
  dsimp only
  rw [if_pos (by unfold small; rw [Bool.and_eq_true]; exact ⟨decide_eq_true (by omega), decide_eq_true (by omega)⟩)]
  unfold rng
  simp
end LB
set_option Elab.async false
set_option linter.all false
set_option maxRecDepth 100000
set_option maxHeartbeats 2000000
namespace LB
open PySem PySem.Spec PyProof.Rows L2 GL DL
theorem max_pos (n : Int) (r : List Int) : ∃ v, oMaxL [.list ((n :: r).map PyData.int)] = some (.int v) ∧ decide (0 < v) = (n :: r).any (fun x => decide (0 < x)) := by
  refine ⟨r.foldl max n, ?_, ?_⟩
  · unfold oMaxL
    dsimp only
    rw [DL.ints_of]
    rfl
  · obtain ⟨h1, h2⟩ := foldl_max r n
    by_cases c : 0 < r.foldl max n
    · rw [decide_eq_true c]
      exact (List.any_eq_true.mpr ⟨_, h1, decide_eq_true c⟩).symm
    · rw [decide_eq_false c]
      refine (List.any_eq_false.mpr fun x hx z => ?_).symm
      have := h2 x hx
      have := of_decide_eq_true z
      omega
def zeroD : D → D := fun _ => .int 0
theorem map_zero (ds : List D) : ds.map zeroD = (List.replicate ds.length (0 : Int)).map PyData.int := by
  induction ds with
  | nil => rfl
  | cons d r ih =>
    rw [List.map_cons, ih, List.length_cons, List.replicate_succ, List.map_cons]
    rfl
theorem lrow_eq {W : Web} (hF : Fits W) {a : Int} (a0 : 0 ≤ a) (a1 : a < W.names.length) : F__law_row [webD W, .int a] = some (.ok (.list ((rowOf W a).map PyData.int))) := by
  have hm := hF.many
  refine runP_of rfl ?_
  show WS B__law_row [.da (webD W), .da (.int a), .un, .un, .un, .un, .un] _
  unfold B__law_row
  simp only [LB.dlS, DL.ol, DL.ow, DL.oT, DL.oI, LB.bkF, Nat.reduceAdd, Nat.reduceEqDiff, reduceIte, ol, ow, oT, oI, bkF, web0]
  refine ⟨rfl, few10 (by omega), WL_map zeroD (fun d hd => ?_) ?_⟩
  · simp only [LB.dlS, DL.ol, DL.ow, DL.oT, DL.oI, LB.bkF, Nat.reduceAdd, Nat.reduceEqDiff, reduceIte, ol, ow, oT, oI, bkF, zeroD]
  rw [map_zero, List.length_map]
  simp only [LB.dlS, DL.ol, DL.ow, DL.oT, DL.oI, LB.bkF, Nat.reduceAdd, Nat.reduceEqDiff, reduceIte, ol, ow, oT, oI, bkF, web1]
  refine WS_loop0 (fun i ρ => ∃ s3 s4 s5, ρ = [.da (webD W), .da (.int a), .ow true (.lst ((fillRow a (W.ties.take i) (List.replicate W.names.length 0)).map PyData.int)), s3, s4, s5, .un]) ⟨_, _, _, rfl⟩ ?_ ?_
  · rintro i d ρ hd ⟨s3, s4, s5, rfl⟩
    rw [List.getElem?_map] at hd
    obtain ⟨t, ht, rfl⟩ := Option.map_eq_some_iff.mp hd
    have hg := hF.ties t (List.mem_of_getElem? ht)
    have ef := fill_take a W.ties (List.replicate W.names.length 0) ht
    have el : ((fillRow a (W.ties.take i) (List.replicate W.names.length 0)).map PyData.int).length = W.names.length := by rw [List.length_map, fill_len, List.length_replicate]
    show ∃ ρ1, tgT [tgN 3, tgN 4, tgN 5] (.tuple [.int t.1, .int t.2.1, .int t.2.2]) _ = some ρ1 ∧ _
    simp only [LB.dlS, DL.ol, DL.ow, DL.oT, DL.oI, LB.bkF, Nat.reduceAdd, Nat.reduceEqDiff, reduceIte, ol, ow, oT, oI, bkF]
    split
    · rename_i c
      rw [putAt_int hg.1 (by rw [el]; exact hg.2), ef, if_pos (of_decide_eq_true c), List.map_set]
      exact ⟨_, rfl, _, _, _, rfl⟩
    · rename_i c
      rw [ef, if_neg (fun z => c (decide_eq_true z))]
      exact ⟨_, _, _, rfl⟩
  · rintro ρ ⟨s3, s4, s5, rfl⟩
    have el : ((fillRow a (W.ties.take W.ties.length) (List.replicate W.names.length 0)).map PyData.int).length = W.names.length := by rw [List.length_map, fill_len, List.length_replicate]
    have et : W.ties.take W.ties.length = W.ties := List.take_length
    have hx : ∃ n r, fillRow a (W.ties.take W.ties.length) (List.replicate W.names.length 0) = n :: r := by
      cases e : fillRow a (W.ties.take W.ties.length) (List.replicate W.names.length 0) with
      | nil => rw [e] at el; simp at el; omega
      | cons n r => exact ⟨n, r, rfl⟩
    obtain ⟨v, ev, hv⟩ : ∃ v, oMaxL [.list ((fillRow a (W.ties.take W.ties.length) (List.replicate W.names.length 0)).map PyData.int)] = some (.int v) ∧ decide (0 < v) = (fillRow a (W.ties.take W.ties.length) (List.replicate W.names.length 0)).any (fun x => decide (0 < x)) := by
      obtain ⟨n, r, e⟩ := hx
      rw [e]
      exact max_pos n r
    have e4 : oList [.tuple (W.falls.map PyData.int)] = some (W.falls.map PyData.int) := rfl
    simp only [LB.dlS, DL.ol, DL.ow, DL.oT, DL.oI, LB.bkF, Nat.reduceAdd, Nat.reduceEqDiff, reduceIte, ol, ow, oT, oI, bkF, ev, hv, web4, ne_tnil, e4]
    rw [putAt_int a0 (by rw [el]; exact a1)]
    simp only [LB.dlS, DL.ol, DL.ow, DL.oT, DL.oI, LB.bkF, Nat.reduceAdd, Nat.reduceEqDiff, reduceIte, ol, ow, oT, oI, bkF]
    rw [et, ← List.map_set]
    unfold rowOf
    dsimp only
    split
    · rfl
    · split
      · rename_i h2
        rw [if_neg (fun z => by rw [z] at h2; cases h2)]
      · rename_i h2
        have h3 : W.falls = [] := by
          cases e : W.falls with
          | nil => rfl
          | cons _ _ => rw [e] at h2; exact absurd rfl h2
        rw [if_pos h3]
end LB
set_option Elab.async false
set_option linter.all false
set_option maxRecDepth 100000
set_option maxHeartbeats 2000000
namespace LB
open PySem PySem.Spec PyProof.Rows L2 GL DL
theorem lot1 (L : Lot) : uIx (lotD L) (.int 1) = some (.tuple (L.goings.map PyData.int)) := rfl
theorem lot0 (L : Lot) : uIx (lotD L) (.int 0) = some (.int L.g) := rfl
theorem add_int (x y : Int) : uAdd (.int x) (.int y) = some (.int (x + y)) := rfl
end LB
set_option Elab.async false
set_option linter.all false
set_option maxRecDepth 100000
set_option maxHeartbeats 2000000
namespace LB
open PySem PySem.Spec PyProof.Rows L2 GL DL
theorem repr_t {ds : List D} (h : Show (.tuple ds)) : oRepr [.tuple ds] = some (.str (PyData.shown (.tuple ds))) := by
  unfold oRepr
  dsimp only
  rw [if_pos (okR_of h)]
theorem eq_str (x : Str) : uEq (.str x) (.str x) = some (.bool true) := by
  show (orO oEqS oEqD) _ _ = _
  simp only [orO, oEqS, decide_true, beq_self_eq_true]
end LB
set_option Elab.async false
set_option linter.all false
set_option maxRecDepth 100000
set_option maxHeartbeats 2000000
namespace LB
open PySem PySem.Spec PyProof.Rows L2 GL DL
def absS (xs : List Int) : Int := (xs.map fun x => (x.natAbs : Int)).sum
theorem abs_other {r c m : Int} (h : c ≤ 0) : ((r - m * c).natAbs : Int) ≤ (r.natAbs : Int) - (m.natAbs : Int) * c := by
  have e1 : (m * c).natAbs = m.natAbs * c.natAbs := Int.natAbs_mul m c
  have e2 : ((m.natAbs * c.natAbs : Nat) : Int) = -((m.natAbs : Int) * c) := by
    rw [Int.natCast_mul, Int.ofNat_natAbs_of_nonpos h, Int.mul_neg]
  omega
theorem abs_same {r c m : Int} (hc : 0 < c) (hm : (m.natAbs : Int) * c ≤ (r.natAbs : Int)) (sg : m < 0 ↔ r < 0) : ((r - m * c).natAbs : Int) ≤ (r.natAbs : Int) - (m.natAbs : Int) * c := by
  by_cases h : m < 0
  · have hr := sg.mp h
    have e : (m.natAbs : Int) = -m := by omega
    rw [e, Int.neg_mul] at hm ⊢
    omega
  · have hr : ¬ r < 0 := fun z => h (sg.mpr z)
    have e : (m.natAbs : Int) = m := by omega
    rw [e] at hm ⊢
    omega
theorem abs_step (m : Int) : ∀ {rs cs : List Int}, rs.length = cs.length → (∀ (b : Nat) (r c : Int), rs[b]? = some r → cs[b]? = some c → ((r - m * c).natAbs : Int) ≤ (r.natAbs : Int) - (m.natAbs : Int) * c) → absS (stepR cs m rs) ≤ absS rs - (m.natAbs : Int) * cs.sum
  | [], [], _, _ => by simp [absS, stepR]
  | [], _ :: _, h, _ => by cases h
  | _ :: _, [], h, _ => by cases h
  | r :: rs, c :: cs, hl, h => by
    have ih := abs_step m (rs := rs) (cs := cs) (by simpa using hl) (fun b r c e1 e2 => h (b + 1) r c (by simpa using e1) (by simpa using e2))
    have h0 := h 0 r c rfl rfl
    unfold absS stepR at ih ⊢
    simp only [List.zipWith_cons_cons, List.map_cons, List.sum_cons, Int.mul_add] at ih ⊢
    omega
theorem most_mul {W : Web} (h : WebOk W) {L : Lot} {a m : Int} (a0 : 0 ≤ a) (a1 : a < W.names.length) (my : May W L a m) : (m.natAbs : Int) * sizeOf W a ≤ ((atR L.rest a).natAbs : Int) := by
  have hs := size_at h a0 a1
  have := my.hi
  unfold mostOf at this
  exact (Int.le_ediv_iff_mul_le (by omega)).mp this
theorem push_less {W : Web} (h : WebOk W) {L : Lot} (h2 : L.rest.length = W.names.length) {a m : Int} (a0 : 0 ≤ a) (a1 : a < W.names.length) (my : May W L a m) :
    absS (pushL W L a m).rest ≤ absS L.rest - (m.natAbs : Int) * (W.p * (rowOf W a).sum) := by
  have hcl : (colOf W a).length = W.names.length := by rw [col_len, row_len h.fits]
  rw [← col_sum h a0 a1]
  refine abs_step m (by omega) fun b r c e1 e2 => ?_
  by_cases hb : (b : Int) = a
  · have ha : a.toNat = b := by omega
    have hs := size_at h a0 a1
    rw [ha, e2] at hs
    have ec : c = sizeOf W a := by have := hs.1; cases this; rfl
    have er : atR L.rest a = r := by unfold atR; rw [ha, e1]; rfl
    have h3 := most_mul h a0 a1 my
    rw [er, ← ec] at h3
    have h4 := my.sg
    rw [er] at h4
    exact abs_same (by omega) h3 h4
  · exact abs_other (col_other h hb e2)
end LB
set_option Elab.async false
set_option linter.all false
set_option maxRecDepth 100000
set_option maxHeartbeats 2000000
namespace LB
open PySem PySem.Spec PyProof.Rows L2 GL DL
theorem step_comm (x y : Int) : ∀ (c1 c2 r : List Int), stepR c1 x (stepR c2 y r) = stepR c2 y (stepR c1 x r)
  | _, _, [] => by simp [stepR]
  | [], [], _ :: _ => by simp [stepR]
  | [], _ :: _, _ :: _ => by simp [stepR]
  | _ :: _, [], _ :: _ => by simp [stepR]
  | a :: c1, b :: c2, n :: r => by
    have ih := step_comm x y c1 c2 r
    unfold stepR at ih ⊢
    simp only [List.zipWith_cons_cons, ih]
    congr 1
    omega
theorem step_add (x m : Int) : ∀ (c r : List Int), stepR c (x + m) r = stepR c m (stepR c x r)
  | _, [] => by simp [stepR]
  | [], _ :: _ => by simp [stepR]
  | a :: c, n :: r => by
    have ih := step_add x m c r
    unfold stepR at ih ⊢
    simp only [List.zipWith_cons_cons, ih]
    congr 1
    rw [Int.add_mul]
    omega
theorem rest_push (W : Web) (g : Int) (goings : List Int) {a m : Int} (a0 : 0 ≤ a) (a1 : a < goings.length) : ∀ i : Nat, restN W g (goings.set a.toNat (atR goings a + m)) i = if i ≤ a.toNat then restN W g goings i else stepR (colOf W a) m (restN W g goings i)
  | 0 => by rw [if_pos (Nat.zero_le _)]; rfl
  | i + 1 => by
    have ih := rest_push W g goings (m := m) a0 a1 i
    show stepR (colOf W i) ((goings.set a.toNat (atR goings a + m)).getD i 0) _ = _
    rw [ih]
    have eg : (goings.set a.toNat (atR goings a + m)).getD i 0 = if a.toNat = i then atR goings a + m else goings.getD i 0 := by
      rw [List.getD_eq_getElem?_getD, List.getD_eq_getElem?_getD, List.getElem?_set]
      split
      · rw [if_pos (by omega)]
        rfl
      · rfl
    rw [eg]
    by_cases h1 : i = a.toNat
    · rw [if_pos h1.symm, if_pos (by omega : i ≤ a.toNat), if_neg (by omega)]
      have ea : a = (i : Int) := by omega
      have ex : atR goings a = goings.getD i 0 := by unfold atR; rw [← h1, List.getD_eq_getElem?_getD]
      rw [ex, step_add, ea]
      rfl
    · rw [if_neg (fun z => h1 z.symm)]
      by_cases h2 : i ≤ a.toNat
      · rw [if_pos h2, if_pos (by omega)]
        rfl
      · rw [if_neg h2, if_neg (by omega), step_comm]
        rfl
theorem push_lot {W : Web} {L : Lot} {a m : Int} (a0 : 0 ≤ a) (a1 : a < L.goings.length) (hr : L.rest = lotRest W L.g L.goings) : (pushL W L a m).rest = lotRest W (pushL W L a m).g (pushL W L a m).goings := by
  show stepR (colOf W a) m L.rest = restN W L.g (L.goings.set a.toNat (atR L.goings a + m)) (L.goings.set a.toNat (atR L.goings a + m)).length
  rw [List.length_set, rest_push W L.g L.goings a0 a1, if_neg (by omega), hr]
  rfl
theorem lt1900 {B x : Int} (hB : B ≤ huge) (h : -B ≤ x ∧ x ≤ B) : x.natAbs < 2 ^ 1900 := by
  have e : x.natAbs ≤ 10000000000000000000000000000000000000000000000000000000000000000000000000000000000000000000000000000 := by
    unfold huge at hB
    omega
  have : x.natAbs < 2 ^ 400 := Nat.lt_of_le_of_lt e (by decide)
  exact Nat.lt_of_lt_of_le this (Nat.pow_le_pow_right (by decide) (by decide))
theorem chance0 (p q : Int) : uIx (.tuple [.int p, .int q]) (.int 0) = some (.int p) := rfl
theorem repr_lot {B : Int} {L : Lot} (hB : B ≤ huge) (b : Bd B L) : oRepr [lotD L] = some (.str (PyData.shown (lotD L))) := repr_t ((sm_lot hB b).show (by decide) (by decide))
end LB
set_option Elab.async false
set_option linter.all false
set_option maxRecDepth 100000
set_option maxHeartbeats 2000000
namespace LB
open PySem PySem.Spec PyProof.Rows L2 GL DL
def penC (cs : List Int) (i l : Int) : Oc := .lst [.list (cs.map PyData.int), .int i, .int l]
def PenOk (cs : List Int) (n : Nat) (c : Oc) : Prop := ∃ i l : Int, c = penC cs i l ∧ 0 ≤ i ∧ i ≤ n ∧ 0 ≤ l
theorem PenOk.mono {cs : List Int} {n m : Nat} {c : Oc} (h : PenOk cs n c) (k : n ≤ m) : PenOk cs m c := by
  obtain ⟨i, l, e, h1, h2, h3⟩ := h
  exact ⟨i, l, e, h1, by omega, h3⟩
theorem mod_int {i j : Int} (h : 0 < j) : oMod (.int i) (.int j) = some (.int (i % j)) := by
  unfold oMod
  dsimp only
  rw [if_pos h]
theorem pow_int {i j : Int} (h : CPow i j) : oPow (.int i) (.int j) = some (.int (i ^ j.toNat)) := by
  unfold oPow oC
  dsimp only
  rw [if_pos h]
theorem at2 (x y z : D) : atI [x, y, z] 2 = some z := rfl
theorem at1 (x y z : D) : atI [x, y, z] 1 = some y := rfl
theorem at0 (x y z : D) : atI [x, y, z] 0 = some x := rfl
theorem put2 (x y z d : D) : DL.putAt (.int 2) d [x, y, z] = some [x, y, d] := rfl
theorem put1 (x y z d : D) : DL.putAt (.int 1) d [x, y, z] = some [x, d, z] := rfl
theorem prime_at {k : Int} (h0 : 0 ≤ k) (h : k < 7) : ∃ q : Int, uIx (.list [.int 2147483647, .int 2147483629, .int 2147483587, .int 2147483579, .int 2147483563, .int 2147483549, .int 2147483543]) (.int k) = some (.int q) ∧ 0 < q ∧ q < 2147483648 := by
  have : k = 0 ∨ k = 1 ∨ k = 2 ∨ k = 3 ∨ k = 4 ∨ k = 5 ∨ k = 6 := by omega
  rcases this with rfl | rfl | rfl | rfl | rfl | rfl | rfl
  · exact ⟨2147483647, rfl, by decide, by decide⟩
  · exact ⟨2147483629, rfl, by decide, by decide⟩
  · exact ⟨2147483587, rfl, by decide, by decide⟩
  · exact ⟨2147483579, rfl, by decide, by decide⟩
  · exact ⟨2147483563, rfl, by decide, by decide⟩
  · exact ⟨2147483549, rfl, by decide, by decide⟩
  · exact ⟨2147483543, rfl, by decide, by decide⟩
theorem cpow_of {i j : Int} (h0 : 0 ≤ j) (h1 : j ≤ 10) (h : -18446744073709551616 < i ∧ i < 18446744073709551616) : CPow i j := ⟨h0, by omega, by omega⟩
noncomputable def drawTail : Stm := (seqS (setS 5 (lst [(rt (.int 2147483647)), (rt (.int 2147483629)), (rt (.int 2147483587)), (rt (.int 2147483579)), (rt (.int 2147483563)), (rt (.int 2147483549)), (rt (.int 2147483543))]))
    (seqS (setS 6 (op2 oMod (op2 oPow (op2 uAdd (op2 oMod (rd 4) (op2 uIx (rd 5) (op2 oMod (rd 3) (rt (.int 7))))) (op2 uMul (op2 uMul (op2 uAdd (rd 3) (rt (.int 3))) (op2 uAdd (rd 3) (rt (.int 5)))) (rt (.int 50021)))) (rt (.int 5))) (op2 uIx (rd 5) (op2 oMod (rd 3) (rt (.int 7))))))
    (seqS (setS 6 (op2 oMod (op2 oPow (op2 uAdd (op2 uMul (rd 6) (op2 uAdd (op2 uMul (rt (.int 2)) (rd 3)) (rt (.int 69621)))) (rd 3)) (rt (.int 3))) (op2 uIx (rd 5) (op2 oMod (op2 uAdd (rd 3) (rt (.int 3))) (rt (.int 7))))))
    (retS (op2 oMod (op2 oDiv (rd 6) (rt (.int 64))) (rd 1))))))
theorem draw_tail {s0 s2 : Sl} {i m cell : Int} (i0 : 0 ≤ i) (i1 : i ≤ 100000) (m0 : 0 < m) : WS drawTail [s0, .da (.int m), s2, .da (.int i), .da (.int cell), .un, .un] fun fl ρ => ∃ r : Int, fl = .rt (.int r) ∧ 0 ≤ r ∧ r < m ∧ ρ[0]? = some s0 := by
  obtain ⟨q1, e1, q1p, q1l⟩ := prime_at (k := i % 7) (Int.emod_nonneg _ (by decide)) (Int.emod_lt_of_pos _ (by decide))
  obtain ⟨q2, e2, q2p, q2l⟩ := prime_at (k := (i + 3) % 7) (Int.emod_nonneg _ (by decide)) (Int.emod_lt_of_pos _ (by decide))
  have b1 := abs_mul_le (a := i + 3) (c := i + 5) (G := 100005) (B := 100005) (by omega) (by omega)
  have n1 : 0 ≤ (i + 3) * (i + 5) := Int.mul_nonneg (by omega) (by omega)
  have c1 := Int.emod_nonneg cell (show q1 ≠ 0 by omega)
  have c2 := Int.emod_lt_of_pos cell q1p
  have p1 : CPow (cell % q1 + (i + 3) * (i + 5) * 50021) 5 := cpow_of (by decide) (by decide) (by omega)
  generalize hx : (cell % q1 + (i + 3) * (i + 5) * 50021) ^ (5 : Int).toNat % q1 = x
  have x0 : 0 ≤ x := by rw [← hx]; exact Int.emod_nonneg _ (by omega)
  have x1 : x < q1 := by rw [← hx]; exact Int.emod_lt_of_pos _ q1p
  have b2 := abs_mul_le (a := x) (c := 2 * i + 69621) (G := 2147483648) (B := 300000) (by omega) (by omega)
  have p2 : CPow (x * (2 * i + 69621) + i) 3 := cpow_of (by decide) (by decide) (by omega)
  have w1 : CMulW (i + 3) (i + 5) := small_mul (by omega) (by omega)
  have w2 : CMulW ((i + 3) * (i + 5)) 50021 := wide_mul (lt1900 (B := 10001000025) (by decide) (by omega)) (by decide)
  have w3 : CMulW 2 i := small_mul (by omega) (by omega)
  have w4 : CMulW x (2 * i + 69621) := wide_mul (lt1900 (B := 2147483648) (by decide) (by omega)) (lt1900 (B := 2147483648) (by decide) (by omega))
  have d64 : ∀ z : Int, CDivW z 64 := fun z => small_div (by decide) (by decide)
  unfold drawTail
  simp only [LB.dlS, DL.ol, DL.ow, DL.oT, DL.oI, LB.bkF, Nat.reduceAdd, Nat.reduceEqDiff, reduceIte, ol, ow, oT, oI, bkF, mod_int (show (0 : Int) < 7 by decide), e1, mod_int q1p, add_int, mul_int w1, mul_int w2, pow_int p1, hx, mul_int w3, mul_int w4, pow_int p2, e2, mod_int q2p, div_int (d64 _), mod_int m0, Fl.rt.injEq]
  exact ⟨Int.emod_nonneg _ (by omega), Int.emod_lt_of_pos _ m0⟩
theorem okE_lints (ns : List Int) : okE (.list (ns.map PyData.int)) = true := by
  unfold okE
  rw [shaped_ints ns]
  show (true && !PyData.hasDictAll (ns.map PyData.int)) = true
  rw [hasDict_ints]
  rfl
theorem ne_lnil (ns : List Int) : uNe (.list (ns.map PyData.int)) (.list []) = some (.bool (!ns.isEmpty)) := by
  show (orO oNeS oNeD) _ _ = _
  simp only [orO, oNeS]
  unfold oNeD
  rw [if_pos (by rw [okE_lints]; rfl), eqv_nil]
theorem draw_eq {cs : List Int} {n : Nat} {c : Oc} (p : PenOk cs n c) (hl : cs.length ≤ 63) (hn : n ≤ 100000) {m : Int} (m0 : 0 < m) (m1 : m.natAbs < 2 ^ 1900) :
    ∃ d c', F__law_draw c [.int m] = some (.ok d, c') ∧ ∃ r : Int, d = .int r ∧ 0 ≤ r ∧ r < m ∧ PenOk cs (n + 1) c' := by
  obtain ⟨i, l, rfl, i0, i1, l0⟩ := p
  refine runO_of rfl ?_
  show WS (seqS _ (seqS _ (seqS _ (seqS _ (seqS _ (seqS _ drawTail)))))) [.ow false (penC cs i l), .da (.int m), .un, .un, .un, .un, .un] _
  have w1 : CMulW 40503 i := small_mul (by decide) (by omega)
  have pw : CPow 10 18 := ⟨by decide, by decide, by decide⟩
  unfold penC
  by_cases h0 : 0 < l
  · simp only [LB.dlS, DL.ol, DL.ow, DL.oT, DL.oI, LB.bkF, Nat.reduceAdd, Nat.reduceEqDiff, reduceIte, ol, ow, oT, oI, bkF, at2, at1, at0, put2, put1, mod_int m0, div_int (small_div m0 m1), add_int, decide_eq_true h0, Fl.rt.injEq]
    exact ⟨Int.emod_nonneg _ (by omega), Int.emod_lt_of_pos _ m0, i, l / m, rfl, i0, by omega, Int.ediv_nonneg l0 (by omega)⟩
  · have l00 : l = 0 := by omega
    subst l00
    have fin : ∀ (s2 : Sl) (cell : Int), WS drawTail [.ow false (penC cs (i + 1) 0), .da (.int m), s2, .da (.int i), .da (.int cell), .un, .un] fun fl ρ' => ∃ d, fl = .rt d ∧ ∃ c', ρ'[0]? = some (.ow false c') ∧ ∃ r : Int, d = .int r ∧ 0 ≤ r ∧ r < m ∧ PenOk cs (n + 1) c' := fun s2 cell => by
      obtain ⟨fl, ρ', e, nx, r, rfl, r0, r1, eo⟩ := draw_tail (s0 := .ow false (penC cs (i + 1) 0)) (s2 := s2) (i := i) (m := m) (cell := cell) i0 (by omega) m0
      exact ⟨_, ρ', e, nx, _, rfl, _, eo, r, rfl, r0, r1, i + 1, 0, rfl, by omega, by omega, Int.le_refl 0⟩
    have big : ∀ cell : Int, ∃ d, Fl.rt (.int ((cell.natAbs : Int) % m)) = Fl.rt d ∧ ∃ r : Int, d = .int r ∧ 0 ≤ r ∧ r < m ∧ PenOk cs (n + 1) (.lst [.list (cs.map PyData.int), .int (i + 1), .int ((cell.natAbs : Int) / m)]) := fun cell =>
      ⟨_, rfl, _, rfl, Int.emod_nonneg _ (by omega), Int.emod_lt_of_pos _ m0, i + 1, (cell.natAbs : Int) / m, rfl, by omega, by omega, Int.ediv_nonneg (by omega) (by omega)⟩
    cases cs with
    | nil =>
      have en : uNe (.list []) (.list []) = some (.bool false) := ne_lnil []
      have ei : decide (i < ((0 : Nat) : Int)) = false := decide_eq_false (by omega)
      simp only [LB.dlS, DL.ol, DL.ow, DL.oT, DL.oI, LB.bkF, Nat.reduceAdd, Nat.reduceEqDiff, reduceIte, ol, ow, oT, oI, bkF, at2, at1, at0, put2, put1, mod_int m0, div_int (small_div m0 m1), add_int, mul_int w1, decide_eq_false h0, en, ei, pow_int pw, abs_i]
      exact fin _ _
    | cons x r =>
      have en : uNe (.list (.int x :: r.map PyData.int)) (.list []) = some (.bool true) := ne_lnil (x :: r)
      have lp : (0 : Int) < ((r.length + 1 : Nat) : Int) := by omega
      have q0 := Int.emod_nonneg i (show ((r.length + 1 : Nat) : Int) ≠ 0 by omega)
      have q1 := Int.emod_lt_of_pos i lp
      have ex : uIx (.list (.int x :: r.map PyData.int)) (.int (i % ((r.length + 1 : Nat) : Int))) = some (.int (atR (x :: r) (i % ((r.length + 1 : Nat) : Int)))) := ix_l (at_ints (ns := x :: r) q0 (by rw [List.length_cons]; exact q1))
      simp only [LB.dlS, DL.ol, DL.ow, DL.oT, DL.oI, LB.bkF, Nat.reduceAdd, Nat.reduceEqDiff, reduceIte, ol, ow, oT, oI, bkF, at2, at1, at0, put2, put1, add_int, mul_int w1, decide_eq_false h0, en, mod_int lp, ex, pow_int pw, abs_i, div_int (small_div m0 m1), mod_int m0]
      split
      · split
        · exact big _
        · exact fin _ _
      · exact fin _ _
end LB
set_option Elab.async false
set_option linter.all false
set_option maxRecDepth 100000
set_option maxHeartbeats 2000000
namespace LB
open PySem PySem.Spec PyProof.Rows L2 GL DL
end LB
set_option Elab.async false
set_option linter.all false
set_option maxRecDepth 100000
set_option maxHeartbeats 2000000
namespace LB
open PySem PySem.Spec PyProof.Rows L2 GL DL
end LB
set_option Elab.async false
set_option linter.all false
set_option maxRecDepth 100000
set_option maxHeartbeats 2000000
namespace LB
open PySem PySem.Spec PyProof.Rows L2 GL DL
theorem rng_eqI {m : Int} (h0 : 0 ≤ m) (h : m ≤ 1000) : rngO (.int m) = some ((List.range m.toNat).map fun i : Nat => .int (i : Int)) := by
  have := rng_eq (n := m.toNat) (by omega)
  rw [show ((m.toNat : Nat) : Int) = m by omega] at this
  exact this
theorem int_b (b : Bool) : oInt [.bool b] = some (.int (if b = true then 1 else 0)) := by cases b <;> rfl
theorem flat_ints (ns : List Int) : (ns.map PyData.int).all flat = true := List.all_eq_true.mpr fun d hd => by
  obtain ⟨n, _, rfl⟩ := List.mem_map.mp hd
  rfl
end LB
set_option Elab.async false
set_option linter.all false
set_option maxRecDepth 100000
set_option maxHeartbeats 2000000
namespace LB
open PySem PySem.Spec PyProof.Rows L2 GL DL
structure Good (W : Web) (L : Lot) : Prop where
  g : 1 ≤ L.g
  bd : Bd bigL L
  len : L.goings.length = W.names.length
  rest : L.rest = lotRest W L.g L.goings
end LB
set_option Elab.async false
set_option linter.all false
set_option maxRecDepth 100000
set_option maxHeartbeats 2000000
namespace LB
open PySem PySem.Spec PyProof.Rows L2 GL DL
end LB
set_option Elab.async false
set_option linter.all false
set_option maxRecDepth 100000
set_option maxHeartbeats 2000000
namespace LB
open PySem PySem.Spec PyProof.Rows L2 GL DL
theorem sl_l (ds : List D) (lo hi : Option Int) : uSl (.list ds) lo hi = some (.list (DL.cutD ds lo hi)) := rfl
theorem sl_t (ds : List D) (lo hi : Option Int) : uSl (.tuple ds) lo hi = some (.tuple (DL.cutD ds lo hi)) := rfl
end LB
set_option Elab.async false
set_option linter.all false
set_option maxRecDepth 100000
set_option maxHeartbeats 2000000
namespace LB
open PySem PySem.Spec PyProof.Rows L2 GL DL
abbrev Fd := List ((Int × Int) × Int)
def putF (f : Fd) (p : Int × Int) (t : Int) : Fd := if (f.any fun z => decide (z.1 = p)) = true then f.map (fun z => if z.1 = p then (z.1, t) else z) else f ++ [(p, t)]
structure FoundOk (m : Int) (f : Fd) : Prop where
  nd : (f.map (·.1)).Nodup
  rng : ∀ z ∈ f, (0 ≤ z.1.1 ∧ z.1.1 < m) ∧ (0 ≤ z.1.2 ∧ z.1.2 < m) ∧ 1 ≤ z.2 ∧ z.2 ≤ 30
theorem FoundOk.nil (m : Int) : FoundOk m [] := ⟨List.nodup_nil, fun _ z => (nomatch z)⟩
theorem FoundOk.put {m : Int} {f : Fd} (h : FoundOk m f) {p : Int × Int} {t : Int} (h1 : 0 ≤ p.1 ∧ p.1 < m) (h2 : 0 ≤ p.2 ∧ p.2 < m) (ht : 1 ≤ t ∧ t ≤ 30) : FoundOk m (putF f p t) := by
  unfold putF
  split
  · refine ⟨?_, ?_⟩
    · have : (f.map (fun z => if z.1 = p then (z.1, t) else z)).map (·.1) = f.map (·.1) := by
        rw [List.map_map]
        refine List.map_congr_left fun z _ => ?_
        simp only [Function.comp]
        split <;> rfl
      rw [this]
      exact h.nd
    · intro z hz
      obtain ⟨y, hy, rfl⟩ := List.mem_map.mp hz
      have := h.rng y hy
      split
      · exact ⟨this.1, this.2.1, ht⟩
      · exact this
  · rename_i hn
    refine ⟨?_, ?_⟩
    · rw [List.map_append, List.nodup_append]
      refine ⟨h.nd, List.nodup_cons.mpr ⟨List.not_mem_nil, List.nodup_nil⟩, fun a ha b hb e => hn ?_⟩
      rw [List.mem_singleton.mp hb] at e
      obtain ⟨y, hy, rfl⟩ := List.mem_map.mp ha
      exact List.any_eq_true.mpr ⟨y, hy, decide_eq_true e⟩
    · intro z hz
      rcases List.mem_append.mp hz with h' | h'
      · exact h.rng z h'
      · rw [List.mem_singleton.mp h']
        exact ⟨h1, h2, ht⟩
end LB
set_option Elab.async false
set_option linter.all false
namespace LB
open PySem PySem.Spec PyProof.Rows L2 GL DL
def dnS := And.intro @WS_seq (And.intro @WS_asg (And.intro @WS_set (And.intro @WS_setO (And.intro @WS_setK (And.intro @WS_newT (And.intro @WS_newK (And.intro @WS_nil (And.intro @WS_ret (And.intro @WS_if (And.intro @WS_frz (And.intro @WS_put (And.intro @WS_app (And.intro @WS_rev (And.intro @WS_augO (And.intro @WS_putT (And.intro @WS_for (And.intro @then_rt (And.intro @then_bk (And.intro @then_ct (And.intro @W_bnd (And.intro @W_rt (And.intro @W_lf (And.intro @W_rd (And.intro @W_op2 (And.intro @W_op2o (And.intro @W_op1 (And.intro @W_args0 (And.intro @W_args1 (And.intro @W_tup (And.intro @W_lst (And.intro @W_opA (And.intro @W_opAo (And.intro @W_asL (And.intro @W_bN (And.intro @W_bS (And.intro @W_slc (And.intro @W_slco (And.intro @W_tst (And.intro @W_bnot (And.intro @W_band (And.intro @W_bor (And.intro @W_ife (And.intro @W_vand (And.intro @W_vor (And.intro @W_vnot (And.intro @W_chn (And.intro @W_isi (And.intro @W_itU (And.intro @W_itR (And.intro @W_itE (And.intro @W_itZ (And.intro @W_callP (And.intro @W_callN (And.intro @W_callO (And.intro @W_ixo (And.intro @W_leno (And.intro @W_lenT (And.intro @W_sortT (And.intro @W_kyT (And.intro @W_kyV (And.intro @W_getT (And.intro @W_rep (And.intro @W_joinM (And.intro @W_qt (And.intro @W_qT (And.intro @W_qo (And.intro @W_lc (And.intro @W_gx (And.intro @List.getElem?_cons_zero.{0} (And.intro @List.getElem?_cons_succ.{0} (And.intro @List.set_cons_zero.{0} (And.intro @List.set_cons_succ.{0} (And.intro @Option.some.injEq.{0} (And.intro @Sl.da.injEq (And.intro @Sl.ow.injEq (And.intro @Sl.tk.injEq (And.intro @Oc.lst.injEq (And.intro @Oc.dT.injEq (And.intro @exists_eq_left'.{1} (And.intro @exists_eq_left.{1} (And.intro @tgN_eq (And.intro @tgT_eq (And.intro @tgs_nil (And.intro @tgs_cons (And.intro @Option.bind_some.{0, 0} (And.intro @asI_i (And.intro @asB_b (And.intro @Option.isSome_some.{0} (And.intro @Option.map_some.{0, 0} (And.intro @true_and (And.intro @and_true (And.intro @seq_t (And.intro @seq_l (And.intro @isi_tt (And.intro @isi_lt (And.intro @isi_ll (And.intro @isi_tl (And.intro @isi_ii (And.intro @isi_ib (And.intro @isi_bi (And.intro @isi_bb (And.intro @ex_lot (And.intro @ex_web (And.intro @ex_t (And.intro @ex_l (And.intro @ex_i (And.intro @ex_b (And.intro @ex_s (And.intro @ex_n (And.intro @Bool.not_true (And.intro @Bool.not_false (And.intro @decide_true (And.intro @flat_i (And.intro @flat_b (And.intro @flat_s (And.intro @List.map_cons.{0, 0} (And.intro @List.map_nil.{0, 0} (And.intro @frz_da (And.intro @frz_un (And.intro @frz_ol (And.intro @frz_tk (And.intro @len_tup (And.intro @len_lst (And.intro @oTup_l (And.intro @oTup_t (And.intro @eq_int (And.intro @ne_int (And.intro @exists_and_left.{1} (And.intro @List.length_map.{0, 0} (And.intro @gxif_t.{1} (And.intro @gxif_f.{1} (And.intro @and_assoc (And.intro @PyData.int.injEq (And.intro @PyData.bool.injEq (And.intro @if_true.{1} (And.intro @if_false.{1} (And.intro @Bool.false_eq_true (And.intro @wipe0 (And.intro @wipe1 (And.intro @back_bkF (And.intro @List.length_cons.{0} (And.intro @List.length_nil.{0} (And.intro @List.mem_cons.{0} (And.intro @List.not_mem_nil.{0} (And.intro @or_false (And.intro @Nat.zero_add (And.intro @Option.getD_some.{0} (@Except.ok.injEq.{0, 0}))))))))))))))))))))))))))))))))))))))))))))))))))))))))))))))))))))))))))))))))))))))))))))))))))))))))))))))))))))))))))))))))))))))))))))))))))))
end LB
set_option Elab.async false
set_option linter.all false
set_option maxRecDepth 100000
set_option maxHeartbeats 2000000
namespace LB
open PySem PySem.Spec PyProof.Rows L2 GL DL
end LB
set_option Elab.async false
set_option linter.all false
set_option maxRecDepth 100000
set_option maxHeartbeats 2000000
namespace LB
open PySem PySem.Spec PyProof.Rows L2 GL DL
theorem cat_l (xs ys : List D) (h : xs.length + ys.length ≤ 1000) : uAdd (.list xs) (.list ys) = some (.list (xs ++ ys)) := by
  have e1 : oAdd (.list xs) (.list ys) = none := rfl
  have e2 : oCatT (.list xs) (.list ys) = none := rfl
  have e3 : oCatS (.list xs) (.list ys) = none := rfl
  have e4 : oCatL (.list xs) (.list ys) = some (xs ++ ys) := by
    unfold oCatL
    dsimp only
    rw [if_pos (by first | exact few10 h | exact ⟨few10 h, by omega⟩ | omega)]
  show orO oAdd (orO oCatT (orO oCatS _)) _ _ = _
  simp only [orO, e1, e2, e3, e4, Option.map_some]
structure Twin (W W' : Web) : Prop where
  ok : WebOk W'
  names : W'.names = W.names
  ties : W'.ties = W.ties
end LB
set_option Elab.async false
set_option linter.all false
set_option maxRecDepth 100000
set_option maxHeartbeats 2000000
namespace LB
open PySem PySem.Spec PyProof.Rows L2 GL DL
theorem pen_eq {ns : List Int} (h : ns.length ≤ 63) : F__law_pen [.list (ns.map PyData.int)] = some [.list (ns.map PyData.int), .int 0, .int 0] := by
  refine runN_of rfl (retN_of ?_)
  show W _ [.da (.list (ns.map PyData.int))] _
  simp only [LB.dlS, DL.ol, DL.ow, DL.oT, DL.oI, LB.bkF, Nat.reduceAdd, Nat.reduceEqDiff, reduceIte, ol, ow, oT, oI, bkF, sl_l]
  have e1 : HT.sIx ns.length 0 none = 0 := rfl
  have e2 : HT.sIx ns.length ns.length (some 63) = ns.length := by
    unfold HT.sIx
    simp
    omega
  unfold DL.cutD
  rw [List.length_map, e1, e2, List.drop_zero, Nat.sub_zero, List.take_of_length_le (by rw [List.length_map]; exact Nat.le_refl _)]
theorem pen_ok (ns : List Int) : PenOk ns 0 (.lst [.list (ns.map PyData.int), .int 0, .int 0]) := ⟨0, 0, rfl, by decide, by decide, by decide⟩
end LB
set_option Elab.async false
set_option linter.all false
set_option maxRecDepth 100000
set_option maxHeartbeats 2000000
namespace LB
open PySem PySem.Spec PyProof.Rows L2 GL DL
def sm (f : Nat → Int) : Nat → Int
  | 0 => 0
  | n + 1 => sm f n + f n
theorem sm_congr {f g : Nat → Int} : ∀ n, (∀ i, i < n → f i = g i) → sm f n = sm g n
  | 0, _ => rfl
  | n + 1, h => by
    show sm f n + f n = sm g n + g n
    rw [sm_congr n fun i hi => h i (by omega), h n (by omega)]
theorem sm_add (f g : Nat → Int) : ∀ n, sm (fun i => f i + g i) n = sm f n + sm g n
  | 0 => rfl
  | n + 1 => by
    show sm _ n + (f n + g n) = (sm f n + f n) + (sm g n + g n)
    rw [sm_add f g n]
    omega
theorem sm_neg (f : Nat → Int) : ∀ n, sm (fun i => -f i) n = -sm f n
  | 0 => rfl
  | n + 1 => by
    show sm _ n + -f n = -(sm f n + f n)
    rw [sm_neg f n]
    omega
theorem sm_one {f : Nat → Int} {a : Nat} : ∀ n, a < n → (∀ i, i < n → i ≠ a → f i ≤ 0) → sm f n ≤ f a
  | 0, h, _ => by omega
  | n + 1, h, k => by
    show sm f n + f n ≤ f a
    by_cases e : a = n
    · subst e
      have : ∀ m, m ≤ a → sm f m ≤ 0 := fun m => by
        induction m with
        | zero => intro _; exact Int.le_refl 0
        | succ m ih =>
          intro hm
          show sm f m + f m ≤ 0
          have h1 := ih (by omega)
          have h2 := k m (by omega) (by omega)
          omega
      have := this a (Nat.le_refl _)
      omega
    · have h1 := sm_one (f := f) (a := a) n (by omega) (fun i hi hne => k i (by omega) hne)
      have h2 := k n (by omega) (fun z => e z.symm)
      omega
theorem sm_point {f g : Nat → Int} {a : Nat} {v : Int} : ∀ n, (∀ i, i < n → i ≠ a → g i = f i) → (a < n → g a = f a + v) → sm g n = sm f n + (if a < n then v else 0)
  | 0, _, _ => rfl
  | n + 1, h, k => by
    show sm g n + g n = sm f n + f n + _
    have ih := sm_point (f := f) (g := g) (a := a) (v := v) n (fun i hi => h i (by omega)) (fun z => k (by omega))
    by_cases e : a = n
    · subst e
      rw [ih, if_neg (by omega), k (by omega), if_pos (by omega)]
      omega
    · rw [ih, h n (by omega) (fun z => e z.symm)]
      by_cases q : a < n
      · rw [if_pos q, if_pos (by omega)]
        omega
      · rw [if_neg q, if_neg (by omega)]
        omega
def gI (xs : List Int) (i : Nat) : Int := xs.getD i 0
theorem atR_nat (xs : List Int) (i : Nat) : atR xs (i : Int) = gI xs i := by
  unfold atR gI
  rw [List.getD_eq_getElem?_getD]
  rfl
theorem gI_ext {xs ys : List Int} (h : xs.length = ys.length) (k : ∀ i, i < xs.length → gI xs i = gI ys i) : xs = ys := by
  refine List.ext_getElem h fun i h1 h2 => ?_
  have := k i h1
  unfold gI at this
  rw [List.getD_eq_getElem?_getD, List.getD_eq_getElem?_getD, List.getElem?_eq_getElem h1, List.getElem?_eq_getElem h2] at this
  exact this
theorem gI_set {xs : List Int} {a : Nat} {v : Int} (i : Nat) (ha : a < xs.length) : gI (xs.set a v) i = if i = a then v else gI xs i := by
  unfold gI
  rw [List.getD_eq_getElem?_getD, List.getD_eq_getElem?_getD, List.getElem?_set]
  by_cases e : a = i
  · subst e
    rw [if_pos rfl, if_pos ha, if_pos rfl]
    rfl
  · rw [if_neg e, if_neg (fun z => e z.symm)]
theorem gI_mem {xs : List Int} {i : Nat} (h : i < xs.length) : gI xs i ∈ xs := by
  unfold gI
  rw [List.getD_eq_getElem?_getD, List.getElem?_eq_getElem h]
  exact List.getElem_mem h
theorem mem_gI {xs : List Int} {x : Int} (h : x ∈ xs) : ∃ i, i < xs.length ∧ gI xs i = x := by
  obtain ⟨i, hi, e⟩ := List.mem_iff_getElem.mp h
  refine ⟨i, hi, ?_⟩
  unfold gI
  rw [List.getD_eq_getElem?_getD, List.getElem?_eq_getElem hi]
  exact e
def cf (W : Web) (a b : Nat) : Int := gI (colOf W (a : Int)) b
def sz (W : Web) (a : Nat) : Int := sizeOf W (a : Int)
theorem sz_cf {W : Web} (h : WebOk W) {a : Nat} (ha : a < W.names.length) : cf W a a = sz W a ∧ 1 ≤ sz W a ∧ sz W a ≤ 100000 := by
  have hs := size_at h (a := (a : Int)) (by omega) (by omega)
  refine ⟨?_, hs.2⟩
  unfold cf gI
  rw [List.getD_eq_getElem?_getD]
  have := hs.1
  rw [Int.toNat_natCast] at this
  rw [this]
  rfl
theorem cf_neg {W : Web} (h : WebOk W) {a b : Nat} (hab : b ≠ a) : cf W a b ≤ 0 := by
  unfold cf gI
  rw [List.getD_eq_getElem?_getD]
  cases e : (colOf W (a : Int))[b]? with
  | none => exact Int.le_refl 0
  | some v => exact col_other h (by omega) e
theorem gI_step {cs rs : List Int} {m : Int} {b : Nat} (h1 : b < rs.length) (h2 : b < cs.length) : gI (stepR cs m rs) b = gI rs b - m * gI cs b := by
  unfold gI stepR
  rw [List.getD_eq_getElem?_getD, List.getD_eq_getElem?_getD, List.getD_eq_getElem?_getD, List.getElem?_zipWith, List.getElem?_eq_getElem h1, List.getElem?_eq_getElem h2]
  rfl
def rs (W : Web) (g : Int) (x : List Int) (b : Nat) : Int := g * gI W.leaps b - sm (fun a => gI x a * cf W a b) W.names.length
theorem restN_at {W : Web} (h : WebOk W) (g : Int) (x : List Int) {b : Nat} (hb : b < W.names.length) : ∀ i, gI (restN W g x i) b = g * gI W.leaps b - sm (fun a => gI x a * cf W a b) i
  | 0 => by
    show gI (W.leaps.map fun y => g * y) b = g * gI W.leaps b - 0
    have hl : b < W.leaps.length := by have := h.leaps.len; omega
    unfold gI
    rw [List.getD_eq_getElem?_getD, List.getElem?_map, List.getElem?_eq_getElem hl, List.getD_eq_getElem?_getD, List.getElem?_eq_getElem hl]
    simp
  | i + 1 => by
    show gI (stepR (colOf W i) (x.getD i 0) (restN W g x i)) b = _ - (sm _ i + _)
    rw [gI_step (by rw [restN_len h]; exact hb) (by rw [col_len, row_len h.fits]; exact hb), restN_at h g x hb i]
    show _ - gI x i * cf W i b = g * gI W.leaps b - (sm _ i + gI x i * cf W i b)
    omega
theorem rest_rs {W : Web} (h : WebOk W) (g : Int) {x : List Int} (hx : x.length = W.names.length) {b : Nat} (hb : b < W.names.length) : gI (lotRest W g x) b = rs W g x b := by
  unfold lotRest rs
  rw [restN_at h g x hb, hx]
theorem rs_set (W : Web) (g : Int) {x : List Int} (hx : x.length = W.names.length) {a : Nat} (ha : a < W.names.length) (m : Int) (b : Nat) : rs W g (x.set a (gI x a + m)) b = rs W g x b - m * cf W a b := by
  unfold rs
  have e := sm_point (f := fun i => gI x i * cf W i b) (g := fun i => gI (x.set a (gI x a + m)) i * cf W i b) (a := a) (v := m * cf W a b) W.names.length
    (fun i _ hne => by rw [gI_set i (by omega), if_neg hne]) (fun _ => by rw [gI_set a (by omega), if_pos rfl, Int.add_mul])
  rw [e, if_pos ha]
  omega
def addL (x y : List Int) : List Int := List.zipWith (fun a b => a + b) x y
theorem addL_len {x y : List Int} {n : Nat} (h1 : x.length = n) (h2 : y.length = n) : (addL x y).length = n := by
  unfold addL
  rw [List.length_zipWith]
  omega
theorem gI_add {x y : List Int} {n : Nat} (h1 : x.length = n) (h2 : y.length = n) (b : Nat) (hb : b < n) : gI (addL x y) b = gI x b + gI y b := by
  unfold gI addL
  rw [List.getD_eq_getElem?_getD, List.getD_eq_getElem?_getD, List.getD_eq_getElem?_getD, List.getElem?_zipWith, List.getElem?_eq_getElem (by omega : b < x.length), List.getElem?_eq_getElem (by omega : b < y.length)]
  rfl
theorem addL_comm {x y : List Int} {n : Nat} (h1 : x.length = n) (h2 : y.length = n) : addL x y = addL y x :=
  gI_ext (by rw [addL_len h1 h2, addL_len h2 h1]) fun i hi => by
    rw [addL_len h1 h2] at hi
    rw [gI_add h1 h2 i hi, gI_add h2 h1 i hi, Int.add_comm]
theorem rs_add (W : Web) (g g' : Int) {x y : List Int} (h1 : x.length = W.names.length) (h2 : y.length = W.names.length) (b : Nat) : rs W (g + g') (addL x y) b = rs W g x b + rs W g' y b := by
  unfold rs
  have e : sm (fun a => gI (addL x y) a * cf W a b) W.names.length = sm (fun a => gI x a * cf W a b + gI y a * cf W a b) W.names.length :=
    sm_congr _ fun i hi => by rw [gI_add h1 h2 i hi, Int.add_mul]
  rw [e, sm_add, Int.add_mul]
  omega
structure Fit (W : Web) (L : Lot) : Prop where
  len : L.goings.length = W.names.length
  rest : L.rest = lotRest W L.g L.goings
theorem Fit.rlen {W : Web} (h : WebOk W) {L : Lot} (f : Fit W L) : L.rest.length = W.names.length := by rw [f.rest, lotRest_len h]
theorem Fit.at {W : Web} (h : WebOk W) {L : Lot} (f : Fit W L) {b : Nat} (hb : b < W.names.length) : gI L.rest b = rs W L.g L.goings b := by rw [f.rest, rest_rs h L.g f.len hb]
theorem Fit.push {W : Web} {L : Lot} (f : Fit W L) {a : Nat} (ha : a < W.names.length) (m : Int) : Fit W (pushL W L (a : Int) m) := by
  have hl := f.len
  exact ⟨by show (L.goings.set _ _).length = _; rw [List.length_set]; exact hl, push_lot (by omega) (by omega) f.rest⟩
inductive Run (W : Web) : Lot → Lot → Prop
  | refl (L : Lot) : Run W L L
  | step {L L' : Lot} (a : Nat) (m : Int) : Run W L L' → a < W.names.length → May W L' (a : Int) m → Run W L (pushL W L' (a : Int) m)
theorem Run.trans {W : Web} {L L1 L2 : Lot} (r : Run W L L1) (q : Run W L1 L2) : Run W L L2 := by
  induction q with
  | refl => exact r
  | step a m _ ha my ih => exact .step a m ih ha my
theorem Run.g {W : Web} {L L' : Lot} (r : Run W L L') : L'.g = L.g := by
  induction r with
  | refl => rfl
  | step a m _ ha my ih => exact ih
theorem Run.fit {W : Web} {L L' : Lot} (f : Fit W L) (r : Run W L L') : Fit W L' := by
  induction r with
  | refl => exact f
  | step a m _ ha my ih => exact ih.push ha m
theorem push_goings (W : Web) (L : Lot) (a : Nat) (m : Int) : (pushL W L (a : Int) m).goings = L.goings.set a (gI L.goings a + m) := by
  show L.goings.set (a : Int).toNat (atR L.goings (a : Int) + m) = _
  rw [atR_nat, Int.toNat_natCast]
theorem may_mul {W : Web} (h : WebOk W) {L : Lot} {a : Nat} (ha : a < W.names.length) {m : Int} (my : May W L (a : Int) m) : (m.natAbs : Int) * sz W a ≤ ((gI L.rest a).natAbs : Int) := by
  have := most_mul h (by omega) (by omega) my
  rw [atR_nat] at this
  exact this
def NN (W : Web) (L : Lot) : Prop := ∀ b, b < W.names.length → 0 ≤ rs W L.g L.goings b
theorem may_pos {W : Web} (h : WebOk W) {L : Lot} (f : Fit W L) (n : NN W L) {a : Nat} (ha : a < W.names.length) {m : Int} (my : May W L (a : Int) m) : 1 ≤ m ∧ m * sz W a ≤ rs W L.g L.goings a := by
  have h1 := my.sg
  have h2 := my.lo
  have h3 := n a ha
  rw [atR_nat, f.at h ha] at h1
  have hm : 1 ≤ m := by omega
  have h4 := may_mul h ha my
  rw [f.at h ha] at h4
  rw [show ((m.natAbs : Nat) : Int) = m by omega, show (((rs W L.g L.goings a).natAbs : Nat) : Int) = rs W L.g L.goings a by omega] at h4
  exact ⟨hm, h4⟩
theorem rs_push (W : Web) {L : Lot} (f : Fit W L) {a : Nat} (ha : a < W.names.length) (m : Int) (b : Nat) : rs W (pushL W L (a : Int) m).g (pushL W L (a : Int) m).goings b = rs W L.g L.goings b - m * cf W a b := by
  rw [push_goings]
  exact rs_set W L.g f.len ha m b
theorem NN.push {W : Web} (h : WebOk W) {L : Lot} (f : Fit W L) (n : NN W L) {a : Nat} (ha : a < W.names.length) {m : Int} (my : May W L (a : Int) m) : NN W (pushL W L (a : Int) m) := by
  obtain ⟨h1, h2⟩ := may_pos h f n ha my
  intro b hb
  rw [rs_push W f ha]
  by_cases e : b = a
  · subst e
    rw [(sz_cf h ha).1]
    omega
  · have h3 := cf_neg h (a := a) (b := b) e
    have h4 := n b hb
    have : m * cf W a b ≤ 0 := Int.mul_nonpos_of_nonneg_of_nonpos (by omega) h3
    omega
theorem Run.nn {W : Web} (h : WebOk W) {L L' : Lot} (f : Fit W L) (n : NN W L) (r : Run W L L') : NN W L' ∧ ∀ b, b < W.names.length → gI L.goings b ≤ gI L'.goings b := by
  induction r with
  | refl => exact ⟨n, fun _ _ => Int.le_refl _⟩
  | step a m r0 ha my ih =>
    have f' := r0.fit f
    refine ⟨ih.1.push h f' ha my, fun b hb => ?_⟩
    have := ih.2 b hb
    have h1 := (may_pos h f' ih.1 ha my).1
    rw [push_goings, gI_set b (by rw [f'.len]; exact ha)]
    split
    · rename_i e
      subst e
      omega
    · exact this
def Ended (W : Web) (g : Int) (y : List Int) : Prop := ∀ b, b < W.names.length → rs W g y b < sz W b
theorem Run.least {W : Web} (h : WebOk W) {L L' : Lot} (f : Fit W L) (n : NN W L) (r : Run W L L') {y : List Int} (hy : y.length = W.names.length) (h0 : ∀ b, b < W.names.length → gI L.goings b ≤ gI y b) (he : Ended W L.g y) :
    ∀ b, b < W.names.length → gI L'.goings b ≤ gI y b := by
  induction r with
  | refl => exact h0
  | @step L' a m r0 ha my ih =>
    have f' := r0.fit f
    have n' := (r0.nn h f n).1
    obtain ⟨h1, h2⟩ := may_pos h f' n' ha my
    intro b hb
    rw [push_goings, gI_set b (by rw [f'.len]; exact ha)]
    split
    · rename_i e
      subst e
      refine Int.not_lt.mp fun hlt => ?_
      -- what rests at b by y is no less than by L', less (y - L') at b times the size
      have hd : rs W L.g y b ≥ rs W L'.g L'.goings b - (gI y b - gI L'.goings b) * sz W b := by
        unfold rs
        rw [r0.g]
        have e : sm (fun i => gI y i * cf W i b) W.names.length - sm (fun i => gI L'.goings i * cf W i b) W.names.length = sm (fun i => (gI y i - gI L'.goings i) * cf W i b) W.names.length := by
          have := sm_add (fun i => gI y i * cf W i b) (fun i => -(gI L'.goings i * cf W i b)) W.names.length
          rw [sm_neg] at this
          have e2 : sm (fun i => (gI y i - gI L'.goings i) * cf W i b) W.names.length = sm (fun i => gI y i * cf W i b + -(gI L'.goings i * cf W i b)) W.names.length :=
            sm_congr _ fun i _ => by rw [Int.sub_mul]; omega
          omega
        have e3 := sm_one (f := fun i => (gI y i - gI L'.goings i) * cf W i b) (a := b) W.names.length hb (fun i hi hne => by
          have := ih i hi
          have := cf_neg h (a := i) (b := b) (fun z => hne z.symm)
          exact Int.mul_nonpos_of_nonneg_of_nonpos (by omega) this)
        rw [(sz_cf h hb).1] at e3
        omega
      have h3 := he b hb
      have h4 : (gI y b - gI L'.goings b) * sz W b ≤ (m - 1) * sz W b := Int.mul_le_mul_of_nonneg_right (by omega) (by have := sz_cf h hb; omega)
      rw [Int.sub_mul m 1, Int.one_mul] at h4
      omega
    · exact ih b hb
theorem lot_ext {W : Web} {L L' : Lot} (f : Fit W L) (f' : Fit W L') (hg : L.g = L'.g) (k : ∀ b, b < W.names.length → gI L.goings b = gI L'.goings b) : L = L' := by
  have e : L.goings = L'.goings := gI_ext (by rw [f.len, f'.len]) fun i hi => k i (by rw [← f.len]; exact hi)
  obtain ⟨g, x, r⟩ := L
  obtain ⟨g', x', r'⟩ := L'
  have h1 := f.rest
  have h2 := f'.rest
  simp only at hg e h1 h2
  subst hg
  subst e
  rw [h1, h2]
def joinL (L M : Lot) : Lot := ⟨L.g + M.g, addL L.goings M.goings, addL L.rest M.rest⟩
theorem joinL_fit {W : Web} (h : WebOk W) {L M : Lot} (f : Fit W L) (k : Fit W M) : Fit W (joinL L M) := by
  refine ⟨addL_len f.len k.len, ?_⟩
  have l1 := f.rlen h
  have l2 := k.rlen h
  refine gI_ext (by rw [lotRest_len h]; exact addL_len l1 l2) fun i hi => ?_
  have hi : i < W.names.length := by
    have e : (joinL L M).rest.length = W.names.length := addL_len l1 l2
    omega
  show gI (addL L.rest M.rest) i = gI (lotRest W (L.g + M.g) (addL L.goings M.goings)) i
  rw [rest_rs h _ (addL_len f.len k.len) hi]
  show gI (addL L.rest M.rest) i = rs W (L.g + M.g) (addL L.goings M.goings) i
  rw [gI_add l1 l2 i hi, rs_add W L.g M.g f.len k.len, f.at h hi, k.at h hi]
theorem joinL_comm {W : Web} (h : WebOk W) {L M : Lot} (f : Fit W L) (k : Fit W M) : joinL L M = joinL M L := by
  unfold joinL
  rw [addL_comm f.len k.len, addL_comm (f.rlen h) (k.rlen h), Int.add_comm]
theorem Run.join {W : Web} (h : WebOk W) {L L' M : Lot} (f : Fit W L) (n : NN W L) (k : Fit W M) (n' : NN W M) (r : Run W L L') : Run W (joinL L M) (joinL L' M) := by
  induction r with
  | refl => exact .refl _
  | @step L' a m r0 ha my ih =>
    have f' := r0.fit f
    have nn' := (r0.nn h f n).1
    obtain ⟨h1, h2⟩ := may_pos h f' nn' ha my
    have fj := joinL_fit h f' k
    have hr := rs_add W L'.g M.g f'.len k.len a
    have hM := n' a ha
    have hs := sz_cf h ha
    have my2 : May W (joinL L' M) (a : Int) m := by
      have e : atR (joinL L' M).rest (a : Int) = rs W L'.g L'.goings a + rs W M.g M.goings a := by
        rw [atR_nat, fj.at h ha]
        exact hr
      refine ⟨by omega, ?_, ?_⟩
      · unfold mostOf
        rw [e]
        refine (Int.le_ediv_iff_mul_le (by show 0 < sz W a; omega)).mpr ?_
        show (m.natAbs : Int) * sz W a ≤ _
        rw [show ((m.natAbs : Nat) : Int) = m by omega]
        have := nn' a ha
        omega
      · rw [e]
        have := nn' a ha
        omega
    have q := Run.step a m ih ha my2
    have e : pushL W (joinL L' M) (a : Int) m = joinL (pushL W L' (a : Int) m) M := by
      refine lot_ext (W := W) (fj.push ha m) (joinL_fit h (f'.push ha m) k) rfl fun b hb => ?_
      rw [push_goings]
      show gI ((addL L'.goings M.goings).set a _) b = gI (addL (pushL W L' (a : Int) m).goings M.goings) b
      rw [gI_add (f'.push ha m).len k.len b hb, push_goings, gI_set b (by rw [addL_len f'.len k.len]; exact ha), gI_set b (by rw [f'.len]; exact ha), gI_add f'.len k.len b hb]
      show (if b = a then gI (addL L'.goings M.goings) a + m else _) = _
      rw [gI_add f'.len k.len a ha]
      split
      · rename_i e
        subst e
        omega
      · rfl
    rw [e] at q
    exact q
end LB
set_option Elab.async false
set_option linter.all false
set_option maxRecDepth 100000
set_option maxHeartbeats 2000000
namespace LB
def sk (i r : Nat) : Nat := if r < i then r else r + 1
def sgn : Nat → Int
  | 0 => 1
  | n + 1 => -sgn n
abbrev Mx := Nat → Nat → Int
def mnr (A : Mx) (i : Nat) : Mx := fun r c => A (sk i r) (c + 1)
def det : Nat → Mx → Int
  | 0, _ => 1
  | n + 1, A => sm (fun i => sgn i * A i 0 * det n (mnr A i)) (n + 1)
theorem det_congr : ∀ (n : Nat) {A B : Mx}, (∀ r c, r < n → c < n → A r c = B r c) → det n A = det n B
  | 0, _, _, _ => rfl
  | n + 1, A, B, h => by
    refine sm_congr _ fun i hi => ?_
    rw [h i 0 hi (by omega), det_congr n (A := mnr A i) (B := mnr B i) fun r c hr hc => ?_]
    unfold mnr sk
    split
    · exact h r (c + 1) (by omega) (by omega)
    · exact h (r + 1) (c + 1) (by omega) (by omega)
theorem sm_lin (f g : Nat → Int) (a b : Int) : ∀ n, sm (fun i => a * f i + b * g i) n = a * sm f n + b * sm g n
  | 0 => by simp [sm]
  | n + 1 => by
    show sm _ n + (a * f n + b * g n) = a * (sm f n + f n) + b * (sm g n + g n)
    rw [sm_lin f g a b n, Int.mul_add, Int.mul_add]
    omega
theorem det_lin : ∀ (n : Nat) {A X Y : Mx} {a b : Int} {p : Nat}, p < n → (∀ r c, r < n → c < n → r ≠ p → A r c = X r c ∧ A r c = Y r c) → (∀ c, c < n → A p c = a * X p c + b * Y p c) → det n A = a * det n X + b * det n Y
  | 0, _, _, _, _, _, _, h, _, _ => by omega
  | n + 1, A, X, Y, a, b, p, hp, h, k => by
    show sm _ (n + 1) = a * sm _ (n + 1) + b * sm _ (n + 1)
    rw [← sm_lin]
    refine sm_congr _ fun i hi => ?_
    by_cases e : i = p
    · subst e
      have e1 : det n (mnr A i) = det n (mnr X i) := det_congr n fun r c hr hc => by
        unfold mnr sk
        split
        · exact (h r (c + 1) (by omega) (by omega) (by omega)).1
        · exact (h (r + 1) (c + 1) (by omega) (by omega) (by omega)).1
      have e2 : det n (mnr A i) = det n (mnr Y i) := det_congr n fun r c hr hc => by
        unfold mnr sk
        split
        · exact (h r (c + 1) (by omega) (by omega) (by omega)).2
        · exact (h (r + 1) (c + 1) (by omega) (by omega) (by omega)).2
      rw [k 0 (by omega), ← e1, ← e2, Int.mul_add, Int.add_mul]
      rw [Int.mul_left_comm (sgn i) a, Int.mul_left_comm (sgn i) b, Int.mul_assoc a, Int.mul_assoc b]
    · have h0 := h i 0 hi (by omega) e
      obtain ⟨q, hq, sq⟩ : ∃ q, q < n ∧ sk i q = p := by
        unfold sk
        by_cases c : p < i
        · exact ⟨p, by omega, if_pos c⟩
        · exact ⟨p - 1, by omega, by rw [if_neg (by omega)]; omega⟩
      have hne : ∀ r, r ≠ q → sk i r ≠ p := fun r hr z => by
        unfold sk at z sq
        split at z <;> split at sq <;> omega
      have hlt : ∀ r, r < n → sk i r < n + 1 := fun r hr => by unfold sk; split <;> omega
      have ih := det_lin n (A := mnr A i) (X := mnr X i) (Y := mnr Y i) (a := a) (b := b) (p := q) hq (fun r c hr hc hne' => h (sk i r) (c + 1) (hlt r hr) (by omega) (hne r hne')) (fun c hc => by
        unfold mnr
        rw [sq]
        exact k (c + 1) (by omega))
      rw [ih, Int.mul_add, Int.mul_left_comm _ a, Int.mul_left_comm _ b]
      rw [← h0.1, ← h0.2]
theorem sm_two {f : Nat → Int} {p : Nat} : ∀ n, p + 1 < n → (∀ i, i < n → i ≠ p → i ≠ p + 1 → f i = 0) → sm f n = f p + f (p + 1)
  | 0, h, _ => by omega
  | n + 1, h, k => by
    show sm f n + f n = _
    by_cases e : p + 1 = n
    · subst e
      show (sm f p + f p) + f (p + 1) = _
      have : ∀ m, m ≤ p → sm f m = 0 := fun m => by
        induction m with
        | zero => intro _; rfl
        | succ m ih =>
          intro hm
          show sm f m + f m = 0
          rw [ih (by omega), k m (by omega) (by omega) (by omega)]
          rfl
      rw [this p (Nat.le_refl _)]
      omega
    · rw [sm_two n (by omega) (fun i hi => k i (by omega)), k n (by omega) (by omega) (by omega)]
      omega
theorem det_adj : ∀ (n : Nat) {A : Mx} {p : Nat}, p + 1 < n → (∀ c, c < n → A p c = A (p + 1) c) → det n A = 0
  | 0, _, _, h, _ => by omega
  | n + 1, A, p, hp, h => by
    have e : det (n + 1) A = sgn p * A p 0 * det n (mnr A p) + sgn (p + 1) * A (p + 1) 0 * det n (mnr A (p + 1)) := by
      refine sm_two (f := fun i => sgn i * A i 0 * det n (mnr A i)) (n + 1) hp fun i hi h1 h2 => ?_
      have : det n (mnr A i) = 0 := by
        by_cases c : i < p
        · refine det_adj n (A := mnr A i) (p := p - 1) (by omega) fun c hc => ?_
          unfold mnr sk
          rw [if_neg (by omega), if_neg (by omega), show p - 1 + 1 = p by omega]
          exact h (c + 1) (by omega)
        · refine det_adj n (A := mnr A i) (p := p) (by omega) fun c hc => ?_
          unfold mnr sk
          rw [if_pos (by omega), if_pos (by omega)]
          exact h (c + 1) (by omega)
      simp only [this, Int.mul_zero]
    have em : det n (mnr A p) = det n (mnr A (p + 1)) := det_congr n fun r c hr hc => by
      unfold mnr sk
      by_cases h1 : r < p
      · rw [if_pos h1, if_pos (by omega)]
      · by_cases h2 : r = p
        · subst h2
          rw [if_neg (by omega), if_pos (by omega)]
          exact (h (c + 1) (by omega)).symm
        · rw [if_neg h1, if_neg (by omega)]
    rw [e, em, ← h 0 (by omega)]
    show _ + -sgn p * A p 0 * _ = 0
    rw [Int.neg_mul, Int.neg_mul]
    omega
def swp (A : Mx) (p : Nat) : Mx := fun r c => if r = p then A (p + 1) c else if r = p + 1 then A p c else A r c
def two (A : Mx) (p : Nat) (x y : Nat → Int) : Mx := fun r c => if r = p then x c else if r = p + 1 then y c else A r c
theorem det_swap (n : Nat) (A : Mx) {p : Nat} (hp : p + 1 < n) : det n (swp A p) = -det n A := by
  have b1 : ∀ x y z : Nat → Int, det n (two A p (fun c => x c + y c) z) = det n (two A p x z) + det n (two A p y z) := fun x y z => by
    have := det_lin n (A := two A p (fun c => x c + y c) z) (X := two A p x z) (Y := two A p y z) (a := 1) (b := 1) (p := p) (by omega)
      (fun r c _ _ hr => by unfold two; rw [if_neg hr, if_neg hr, if_neg hr]; exact ⟨rfl, rfl⟩) (fun c _ => by unfold two; simp)
    rw [Int.one_mul, Int.one_mul] at this
    exact this
  have b2 : ∀ x y z : Nat → Int, det n (two A p x (fun c => y c + z c)) = det n (two A p x y) + det n (two A p x z) := fun x y z => by
    have := det_lin n (A := two A p x (fun c => y c + z c)) (X := two A p x y) (Y := two A p x z) (a := 1) (b := 1) (p := p + 1) (by omega)
      (fun r c _ _ hr => by
        unfold two
        split
        · exact ⟨rfl, rfl⟩
        · simp [hr]) (fun c _ => by unfold two; simp)
    rw [Int.one_mul, Int.one_mul] at this
    exact this
  have z : ∀ x : Nat → Int, det n (two A p x x) = 0 := fun x => det_adj n hp fun c _ => by unfold two; simp
  have e1 : det n A = det n (two A p (A p) (A (p + 1))) := det_congr n fun r c _ _ => by
    unfold two
    split
    · rename_i h; rw [h]
    · split
      · rename_i h; rw [h]
      · rfl
  have e2 : det n (swp A p) = det n (two A p (A (p + 1)) (A p)) := rfl
  have s := z (fun c => A p c + A (p + 1) c)
  rw [b1, b2, b2, z, z] at s
  rw [e1, e2]
  have s : 0 + det n (two A p (A p) (A (p + 1))) + (det n (two A p (A (p + 1)) (A p)) + 0) = 0 := s
  omega
theorem det_alike : ∀ (k n : Nat) {A : Mx} {p q : Nat}, q = p + 1 + k → q < n → (∀ c, c < n → A p c = A q c) → det n A = 0
  | 0, n, A, p, q, e, hq, h => by
    subst e
    exact det_adj n hq h
  | k + 1, n, A, p, q, e, hq, h => by
    have h1 := det_swap n A (p := q - 1) (by omega)
    have h2 := det_alike k n (A := swp A (q - 1)) (p := p) (q := q - 1) (by omega) (by omega) (fun c hc => by
      unfold swp
      rw [if_neg (by omega), if_neg (by omega), if_pos rfl, show q - 1 + 1 = q by omega]
      exact h c hc)
    omega
theorem det_last : ∀ (n : Nat) {A : Mx}, (∀ c, c < n → A n c = 0) → det (n + 1) A = A n n * det n A
  | 0, A, _ => by
    show 0 + sgn 0 * A 0 0 * 1 = A 0 0 * 1
    show 0 + 1 * A 0 0 * 1 = _
    omega
  | n + 1, A, h => by
    show sm _ (n + 1) + sgn (n + 1) * A (n + 1) 0 * _ = _
    rw [h 0 (by omega), Int.mul_zero, Int.zero_mul, Int.add_zero]
    show _ = A (n + 1) (n + 1) * sm _ (n + 1)
    have e : sm (fun i => sgn i * A i 0 * det (n + 1) (mnr A i)) (n + 1) = sm (fun i => A (n + 1) (n + 1) * (sgn i * A i 0 * det n (mnr A i)) + 0 * 0) (n + 1) := by
      refine sm_congr _ fun i hi => ?_
      have ih := det_last n (A := mnr A i) (fun c hc => by
        unfold mnr sk
        rw [if_neg (by omega)]
        exact h (c + 1) (by omega))
      have e2 : mnr A i n n = A (n + 1) (n + 1) := by
        unfold mnr sk
        rw [if_neg (by omega)]
      rw [ih, e2, Int.mul_left_comm, Int.zero_mul, Int.add_zero]
    rw [e, sm_lin (fun i => sgn i * A i 0 * det n (mnr A i)) (fun _ => 0), Int.zero_mul, Int.add_zero]
end LB
set_option Elab.async false
set_option linter.all false
set_option maxRecDepth 100000
set_option maxHeartbeats 2000000
namespace LB
def brd (k : Nat) (R : Mx) (r : Nat → Int) (j : Nat) : Mx := fun p c => (if p < k then R p else r) (if c < k then c else j)
def E (k : Nat) (R : Mx) (r : Nat → Int) (j : Nat) : Int := det (k + 1) (brd k R r j)
section
variable {k : Nat} {R : Mx}
theorem E_lin (x y : Nat → Int) (a b : Int) (j : Nat) : E k R (fun c => a * x c + b * y c) j = a * E k R x j + b * E k R y j := by
  refine det_lin (k + 1) (p := k) (by omega) (fun r c hr _ hne => ?_) (fun c _ => ?_)
  · have h1 : r < k := by omega
    simp [brd, h1]
  · simp [brd]
theorem E_congr {x y : Nat → Int} {j : Nat} (h : ∀ c, c < k → x c = y c) (hj : x j = y j) : E k R x j = E k R y j := by
  refine det_congr (k + 1) fun r c hr hc => ?_
  unfold brd
  split
  · rfl
  · split
    · exact h c (by assumption)
    · exact hj
theorem E_row {l : Nat} (hl : l < k) (j : Nat) : E k R (R l) j = 0 := by
  refine det_alike (k - 1 - l) (k + 1) (p := l) (q := k) (by omega) (by omega) fun c _ => ?_
  simp [brd, hl]
theorem E_zero {w : Nat → Int} (h : ∀ c, c < k → w c = 0) (j : Nat) : E k R w j = w j * det k R := by
  unfold E
  rw [det_last k (A := brd k R w j) (fun c hc => by unfold brd; rw [if_neg (by omega), if_pos hc]; exact h c hc)]
  congr 1
  · unfold brd
    rw [if_neg (by omega), if_neg (by omega)]
  · exact det_congr k fun r c hr hc => by unfold brd; rw [if_pos hr, if_pos hc]
theorem E_self : E k R (R k) k = det (k + 1) R := det_congr (k + 1) fun r c hr hc => by
  unfold brd
  by_cases h1 : r < k
  · rw [if_pos h1]
    by_cases h2 : c < k
    · rw [if_pos h2]
    · rw [if_neg h2, show c = k by omega]
  · rw [if_neg h1, show r = k by omega]
    by_cases h2 : c < k
    · rw [if_pos h2]
    · rw [if_neg h2, show c = k by omega]
def cmb (R : Mx) (r : Nat → Int) (a : Int) (u : Nat → Int) (m : Nat) (c : Nat) : Int := a * r c - sm (fun l => u l * R l c) m
theorem E_cmb (r : Nat → Int) (a : Int) (u : Nat → Int) (j : Nat) : ∀ m, m ≤ k → E k R (cmb R r a u m) j = a * E k R r j
  | 0, _ => by
    have e : cmb R r a u 0 = fun c => a * r c + 0 * r c := by
      funext c
      unfold cmb sm
      omega
    rw [e, E_lin]
    omega
  | m + 1, hm => by
    have e : cmb R r a u (m + 1) = fun c => 1 * cmb R r a u m c + (-u m) * R m c := by
      funext c
      show a * r c - (sm _ m + u m * R m c) = 1 * (a * r c - sm _ m) + -u m * R m c
      rw [Int.neg_mul]
      omega
    rw [e, E_lin, E_cmb r a u j m (by omega), E_row (by omega)]
    omega
theorem E_rep {r : Nat → Int} {a : Int} {u : Nat → Int} (h : ∀ c, c < k → cmb R r a u k c = 0) (j : Nat) : a * E k R r j = cmb R r a u k j * det k R := by
  rw [← E_cmb r a u j k (Nat.le_refl _), E_zero h]
def Rep (k : Nat) (R : Mx) (r : Nat → Int) : Prop := ∃ (a : Int) (u : Nat → Int), a ≠ 0 ∧ ∀ c, c < k → cmb R r a u k c = 0
theorem cmb_step {r : Nat → Int} {a b : Int} {u v : Nat → Int} (c : Nat) :
    cmb R r (cmb R (R k) b v k k * a) (fun l => if l < k then cmb R (R k) b v k k * u l - cmb R r a u k k * v l else cmb R r a u k k * b) (k + 1) c
      = cmb R (R k) b v k k * cmb R r a u k c - cmb R r a u k k * cmb R (R k) b v k c := by
  generalize hX : cmb R (R k) b v k k = X
  generalize hY : cmb R r a u k k = Y
  unfold cmb
  show X * a * r c - (sm _ k + (if k < k then _ else Y * b) * R k c) = _
  rw [if_neg (by omega)]
  have e : sm (fun l => (if l < k then X * u l - Y * v l else Y * b) * R l c) k = X * sm (fun l => u l * R l c) k + (-Y) * sm (fun l => v l * R l c) k := by
    rw [← sm_lin]
    refine sm_congr _ fun i hi => ?_
    rw [if_pos hi, Int.sub_mul, Int.mul_assoc, Int.mul_assoc, Int.neg_mul]
    omega
  rw [e]
  grind
theorem Rep.step {r : Nat → Int} (h0 : det k R ≠ 0) (h1 : det (k + 1) R ≠ 0) (p : Rep k R r) (q : Rep k R (R k)) : Rep (k + 1) R r := by
  obtain ⟨a, u, ha, hu⟩ := p
  obtain ⟨b, v, hb, hv⟩ := q
  have e := E_rep hv k
  rw [E_self] at e
  have hx : cmb R (R k) b v k k ≠ 0 := fun z => by
    rw [z, Int.zero_mul] at e
    rcases Int.mul_eq_zero.mp e with z | z
    · exact hb z
    · exact h1 z
  refine ⟨cmb R (R k) b v k k * a, fun l => if l < k then cmb R (R k) b v k k * u l - cmb R r a u k k * v l else cmb R r a u k k * b, Int.mul_ne_zero hx ha, fun c hc => ?_⟩
  rw [cmb_step]
  by_cases e2 : c = k
  · subst e2
    rw [Int.mul_comm]
    omega
  · rw [hu c (by omega), hv c (by omega)]
    omega
theorem E_next {r : Nat → Int} (h0 : det k R ≠ 0) (h1 : det (k + 1) R ≠ 0) (p : Rep k R r) (q : Rep k R (R k)) (j : Nat) :
    det k R * E (k + 1) R r j = det (k + 1) R * E k R r j - E k R r k * E k R (R k) j := by
  obtain ⟨a, u, ha, hu⟩ := p
  obtain ⟨b, v, hb, hv⟩ := q
  have e1 := E_rep hv k
  rw [E_self] at e1
  have hx : cmb R (R k) b v k k ≠ 0 := fun z => by
    rw [z, Int.zero_mul] at e1
    rcases Int.mul_eq_zero.mp e1 with z | z
    · exact hb z
    · exact h1 z
  have e2 := E_rep hu j
  have e3 := E_rep hu k
  have e4 := E_rep hv j
  have e5 := E_rep (k := k + 1) (R := R) (r := r) (a := cmb R (R k) b v k k * a) (u := fun l => if l < k then cmb R (R k) b v k k * u l - cmb R r a u k k * v l else cmb R r a u k k * b) (fun c hc => by
    rw [cmb_step]
    by_cases e2 : c = k
    · subst e2
      rw [Int.mul_comm]
      omega
    · rw [hu c (by omega), hv c (by omega)]
      omega) j
  rw [cmb_step] at e5
  generalize cmb R (R k) b v k k = X at *
  generalize cmb R r a u k j = wj at *
  generalize cmb R r a u k k = wk at *
  generalize cmb R (R k) b v k j = vj at *
  generalize E (k + 1) R r j = F at *
  generalize E k R r j = Gj at *
  generalize E k R r k = Gk at *
  generalize E k R (R k) j = Hj at *
  generalize det k R = d at *
  generalize det (k + 1) R = d' at *
  have hn : X * a * b ≠ 0 := Int.mul_ne_zero (Int.mul_ne_zero hx ha) hb
  refine Int.eq_of_mul_eq_mul_right hn ?_
  grind
end
end LB
set_option Elab.async false
set_option linter.all false
set_option maxRecDepth 100000
set_option maxHeartbeats 2000000
namespace LB
structure Dom (n : Nat) (R : Mx) : Prop where
  off : ∀ i j, i < n → j < n → i ≠ j → R i j ≤ 0
  sum : ∀ j, j < n → 0 < sm (fun i => R i j) n
theorem E_0 (R : Mx) (r : Nat → Int) (j : Nat) : E 0 R r j = r j := by
  show 0 + sgn 0 * brd 0 R r j 0 0 * 1 = r j
  show 0 + 1 * r j * 1 = r j
  omega
structure Lev (n k : Nat) (R : Mx) : Prop where
  pos : 0 < det k R
  rep : ∀ r, Rep k R r
  off : ∀ i j, k ≤ i → i < n → k ≤ j → j < n → i ≠ j → E k R (R i) j ≤ 0
  sum : ∀ j, k ≤ j → j < n → 0 < sm (fun i => E k R (R i) j) n
theorem lev0 {n : Nat} {R : Mx} (d : Dom n R) : Lev n 0 R := by
  refine ⟨by show (0 : Int) < 1; decide, fun r => ⟨1, fun _ => 0, by decide, fun c hc => by omega⟩, fun i j _ hi _ hj hne => ?_, fun j _ hj => ?_⟩
  · rw [E_0]
    exact d.off i j hi hj hne
  · have e : sm (fun i => E 0 R (R i) j) n = sm (fun i => R i j) n := sm_congr _ fun i _ => E_0 _ _ _
    rw [e]
    exact d.sum j hj
theorem Lev.own {n k : Nat} {R : Mx} (l : Lev n k R) {j : Nat} (h1 : k ≤ j) (h2 : j < n) : 0 < E k R (R j) j := by
  have := sm_one (f := fun i => E k R (R i) j) (a := j) n h2 (fun i hi hne => by
    by_cases c : i < k
    · rw [E_row c]
      exact Int.le_refl 0
    · exact l.off i j (by omega) hi h1 h2 hne)
  have := l.sum j h1 h2
  omega
theorem Lev.next {n k : Nat} {R : Mx} (l : Lev n k R) (hk : k < n) : Lev n (k + 1) R := by
  have h1 : 0 < det (k + 1) R := by rw [← E_self]; exact l.own (Nat.le_refl _) hk
  have h0 := l.pos
  have st := fun r j => E_next (r := r) (by omega) (by omega) (l.rep r) (l.rep (R k)) j
  refine ⟨h1, fun r => (l.rep r).step (by omega) (by omega) (l.rep (R k)), fun i j hi hi2 hj hj2 hne => ?_, fun j hj hj2 => ?_⟩
  · have e := st (R i) j
    have a1 := l.off i j (by omega) hi2 (by omega) hj2 hne
    have a2 := l.off i k (by omega) hi2 (by omega) hk (by omega)
    have a3 := l.off k j (by omega) hk (by omega) hj2 (by omega)
    have b1 : det (k + 1) R * E k R (R i) j ≤ 0 := Int.mul_nonpos_of_nonneg_of_nonpos (by omega) a1
    have b2 : 0 ≤ E k R (R i) k * E k R (R k) j := Int.mul_nonneg_of_nonpos_of_nonpos a2 a3
    refine Int.not_lt.mp fun hlt => ?_
    have : 0 < det k R * E (k + 1) R (R i) j := Int.mul_pos h0 hlt
    omega
  · have e : det k R * sm (fun i => E (k + 1) R (R i) j) n = det (k + 1) R * sm (fun i => E k R (R i) j) n + (-E k R (R k) j) * sm (fun i => E k R (R i) k) n := by
      have e1 := sm_lin (fun i => E (k + 1) R (R i) j) (fun _ => 0) (det k R) 0 n
      have e2 := sm_lin (fun i => E k R (R i) j) (fun i => E k R (R i) k) (det (k + 1) R) (-E k R (R k) j) n
      rw [← e2]
      have e3 : det k R * sm (fun i => E (k + 1) R (R i) j) n = sm (fun i => det k R * E (k + 1) R (R i) j + 0 * 0) n := by
        rw [e1, Int.zero_mul, Int.add_zero]
      rw [e3]
      refine sm_congr _ fun i _ => ?_
      rw [st (R i) j, Int.zero_mul, Int.add_zero, Int.neg_mul, Int.mul_comm (E k R (R k) j)]
      omega
    have a3 := l.off k j (by omega) hk (by omega) hj2 (by omega)
    have b1 : 0 < det (k + 1) R * sm (fun i => E k R (R i) j) n := Int.mul_pos h1 (l.sum j (by omega) hj2)
    have b2 : 0 ≤ (-E k R (R k) j) * sm (fun i => E k R (R i) k) n := Int.mul_nonneg (by omega) (Int.le_of_lt (l.sum k (Nat.le_refl _) hk))
    refine Int.not_le.mp fun hle => ?_
    have : det k R * sm (fun i => E (k + 1) R (R i) j) n ≤ 0 := Int.mul_nonpos_of_nonneg_of_nonpos (by omega) hle
    omega
theorem lev {n : Nat} {R : Mx} (d : Dom n R) : ∀ k, k ≤ n → Lev n k R
  | 0, _ => lev0 d
  | k + 1, h => (lev d k (by omega)).next (by omega)
theorem Lev.step {n k : Nat} {R : Mx} (l : Lev n k R) (hk : k < n) (r : Nat → Int) (j : Nat) : det k R * E (k + 1) R r j = det (k + 1) R * E k R r j - E k R r k * E k R (R k) j := by
  have := l.pos
  have := (l.next hk).pos
  exact E_next (by omega) (by omega) (l.rep r) (l.rep (R k)) j
def un (i : Nat) : Nat → Int := fun c => if c = i then 1 else 0
def U (k : Nat) (R : Mx) (i j : Nat) : Int := det k R * un i j - E k R (un i) j
theorem E_sum {k : Nat} {R : Mx} (x : Nat → Int) (j : Nat) : ∀ m, E k R (fun c => if c < m then x c else 0) j = sm (fun a => x a * E k R (un a) j) m
  | 0 => by
    have : E k R (fun c => if c < 0 then x c else 0) j = 0 * det k R := E_zero (fun c hc => by simp) j
    rw [this, Int.zero_mul]
    rfl
  | m + 1 => by
    have e : (fun c => if c < m + 1 then x c else 0) = fun c => 1 * (fun c => if c < m then x c else 0) c + x m * un m c := by
      funext c
      unfold un
      simp only
      by_cases h1 : c < m
      · rw [if_pos h1, if_pos (by omega), if_neg (by omega)]; omega
      · by_cases h2 : c = m
        · subst h2; rw [if_pos (by omega), if_neg h1, if_pos rfl]; omega
        · rw [if_neg (by omega), if_neg h1, if_neg h2]; omega
    rw [e, E_lin, E_sum x j m]
    show 1 * sm _ m + _ = sm _ m + _
    rw [Int.one_mul]
theorem solves {n : Nat} {R : Mx} {i j : Nat} (hi : i < n) (hj : n ≤ j) : sm (fun a => R i a * U n R a j) n = det n R * R i j := by
  have e0 : E n R (R i) j = 0 := E_row hi j
  have e1 : E n R (R i) j = E n R (fun c => 1 * (fun c => if c < n then R i c else 0) c + R i j * un j c) j := E_congr (fun c hc => by
      unfold un
      simp only
      rw [if_pos hc, if_neg (by omega)]
      omega) (by
      have h1 : ¬ j < n := by omega
      simp [un, h1])
  rw [e1, E_lin, E_sum] at e0
  have e2 : E n R (un j) j = det n R := by
    rw [E_zero (fun c hc => by unfold un; rw [if_neg (by omega)])]
    unfold un
    rw [if_pos rfl, Int.one_mul]
  have e3 : sm (fun a => R i a * U n R a j) n = sm (fun a => -(R i a * E n R (un a) j)) n := sm_congr _ fun a ha => by
    unfold U un
    rw [if_neg (by omega), Int.mul_zero, Int.zero_sub, Int.mul_neg]
  rw [e3, sm_neg, Int.mul_comm (det n R)]
  rw [e2] at e0
  omega
structure Sig (n k : Nat) (R : Mx) (j : Nat) : Prop where
  low : ∀ i, k ≤ i → i < n → 0 ≤ E k R (R i) j
  up : ∀ i, i < k → E k R (un i) j ≤ 0
  mid : ∀ i c, i < k → k ≤ c → c < n → 0 ≤ E k R (un i) c
def bnd10 (M : Int) : Nat → Int
  | 0 => 1
  | n + 1 => (n + 1) * M * bnd10 M n
theorem sm_abs {f : Nat → Int} {B : Int} : ∀ n, (∀ i, i < n → -B ≤ f i ∧ f i ≤ B) → -(n * B) ≤ sm f n ∧ sm f n ≤ n * B
  | 0, _ => by simp [sm]
  | n + 1, h => by
    have ih := sm_abs (f := f) (B := B) n fun i hi => h i (by omega)
    have h0 := h n (by omega)
    show -(((n + 1 : Nat) : Int) * B) ≤ sm f n + f n ∧ sm f n + f n ≤ ((n + 1 : Nat) : Int) * B
    rw [Int.natCast_add, Int.add_mul]
    simp only [Int.natCast_one, Int.one_mul]
    omega
theorem bnd10_pos {M : Int} (hM : 1 ≤ M) : ∀ n, 1 ≤ bnd10 M n
  | 0 => Int.le_refl 1
  | n + 1 => by
    have ih := bnd10_pos hM n
    show 1 ≤ ((n : Int) + 1) * M * bnd10 M n
    have h1 : (1 : Int) * 1 ≤ ((n : Int) + 1) * M := Int.mul_le_mul (by omega) hM (by decide) (by omega)
    have h2 : (1 : Int) * 1 ≤ ((n : Int) + 1) * M * bnd10 M n := Int.mul_le_mul (by omega) ih (by decide) (by omega)
    omega
theorem det_le {M : Int} (hM : 1 ≤ M) : ∀ (n : Nat) {A : Mx}, (∀ r c, r < n → c < n → -M ≤ A r c ∧ A r c ≤ M) → -bnd10 M n ≤ det n A ∧ det n A ≤ bnd10 M n
  | 0, _, _ => by
    show -1 ≤ (1 : Int) ∧ (1 : Int) ≤ 1
    decide
  | n + 1, A, h => by
    have := sm_abs (f := fun i => sgn i * A i 0 * det n (mnr A i)) (B := M * bnd10 M n) (n + 1) (fun i hi => by
      have ih := det_le hM n (A := mnr A i) (fun r c hr hc => by
        unfold mnr sk
        split
        · exact h r (c + 1) (by omega) (by omega)
        · exact h (r + 1) (c + 1) (by omega) (by omega))
      have h0 := h i 0 hi (by omega)
      have hs : ∀ i, sgn i = 1 ∨ sgn i = -1 := fun i => by
        induction i with
        | zero => exact .inl rfl
        | succ i ih =>
          show -sgn i = 1 ∨ -sgn i = -1
          omega
      have h1 : -M ≤ sgn i * A i 0 ∧ sgn i * A i 0 ≤ M := by
        rcases hs i with e | e
        · rw [e, Int.one_mul]; exact h0
        · rw [e, Int.neg_mul, Int.one_mul]; omega
      exact abs_mul_le h1 ih)
    show -(((n : Int) + 1) * M * bnd10 M n) ≤ det (n + 1) A ∧ det (n + 1) A ≤ ((n : Int) + 1) * M * bnd10 M n
    rw [Int.mul_assoc]
    exact this
end LB
set_option Elab.async false
set_option linter.all false
set_option maxRecDepth 100000
set_option maxHeartbeats 4000000
set_option pp.maxSteps 300
set_option pp.deepTerms false
namespace LB.K29
open PySem PySem.Spec PyProof.Rows L2 GL DL
noncomputable def B_weight_of : Stm := (retS (opA oSum [(callP LB.F_row_of [(rd 0), (rd 1)])]))
noncomputable def F_weight_of : List D → Option (Except XV D) := runP 2 2 B_weight_of
noncomputable def B_common_divisor : Stm := (seqS (parS 0 1 (opA oAbs [(rd 0)]) (opA oAbs [(rd 1)]))
    (seqS (whS (tst (op2 oGt (rd 1) (rt (.int 0))))
      (parS 0 1 (rd 1) (op2 oMod (rd 0) (rd 1))))
    (retS (rd 0))))
noncomputable def F_common_divisor : List D → Option (Except XV D) := runP 2 2 B_common_divisor
noncomputable def B_fraction : Stm := (seqS (setS 2 (callP LB.K29.F_common_divisor [(rd 0), (rd 1)]))
    (seqS (ifS (tst (op2 oLt (rd 1) (rt (.int 0))))
      (setS 2 (op1 oNeg (rd 2)))
      nilS)
    (retS (tup [(op2 oDiv (rd 0) (rd 2)), (op2 oDiv (rd 1) (rd 2))]))))
noncomputable def F_fraction : List D → Option (Except XV D) := runP 3 2 B_fraction
noncomputable def B_told_top : Stm := (retS (op2 uMul (op2 uMul (op2 uIx (op2 uIx (rd 0) (rt (.int 3))) (rt (.int 0))) (callP LB.K29.F_weight_of [(rd 0), (rd 2)])) (op2 uIx (op2 uIx (rd 1) (rt (.int 1))) (rd 2))))
noncomputable def F_told_top : List D → Option (Except XV D) := runP 3 3 B_told_top
noncomputable def B_told_bottom : Stm := (retS (op2 uMul (op2 uIx (rd 1) (rt (.int 0))) (opA oSum [(op2 uIx (rd 0) (rt (.int 2)))])))
noncomputable def F_told_bottom : List D → Option (Except XV D) := runP 2 2 B_told_bottom
noncomputable def B_ends_of : Stm := (seqS (setS 3 (op2 uIx (rd 1) (rt (.int 2))))
    (seqS (setS 4 (callP LB.K29.F_told_top [(rd 0), (rd 1), (rd 2)]))
    (seqS (setS 5 (callP LB.K29.F_told_bottom [(rd 0), (rd 1)]))
    (seqS (setS 6 (op2 uAdd (rd 4) (gx csSum ceSum (itU (rd 3)) (tgN 8) (tst (op2 oLt (rd 8) (rt (.int 0)))) (rd 8) [8])))
    (seqS (setS 7 (op2 uAdd (rd 4) (gx csSum ceSum (itU (rd 3)) (tgN 8) (tst (op2 oGt (rd 8) (rt (.int 0)))) (rd 8) [8])))
    (retS (tup [(callP LB.K29.F_fraction [(rd 6), (rd 5)]), (callP LB.K29.F_fraction [(rd 7), (rd 5)])])))))))
noncomputable def F_ends_of : List D → Option (Except XV D) := runP 9 3 B_ends_of
end LB.K29
set_option Elab.async false
set_option linter.all false
set_option maxRecDepth 100000
set_option maxHeartbeats 2000000
namespace DL
open PySem PySem.Spec PyProof.Rows L2 GL
variable {ρ : Ev}
theorem WS_par {i j : Nat} {f g : Mo D} {Q : Fl → Ev → Prop} : WS (parS i j f g) ρ Q ↔ W f ρ fun d ρ1 => W g ρ1 fun d' ρ2 => Q .nx ((ρ2.set i (.da d)).set j (.da d')) := by
  unfold parS
  rw [WS_ex1, W_args1]
  refine exists_congr fun d => exists_congr fun ρ1 => and_congr_right fun _ => ?_
  dsimp only
  rw [W_args1]
  refine exists_congr fun d' => exists_congr fun ρ2 => and_congr_right fun _ => ?_
  dsimp only
  rw [W_args0]
  exact WS_nx (g := fun ρ => (ρ.set i (.da d)).set j (.da d'))
theorem WS_drop {f : Mo D} {Q : Fl → Ev → Prop} : WS (dropS f) ρ Q ↔ W f ρ fun _ ρ1 => Q .nx ρ1 := by
  unfold dropS
  rw [WS_ex1]
  exact exists_congr fun d => exists_congr fun ρ1 => and_congr_right fun _ => WS_nx (g := fun ρ => ρ)
theorem WS_while {c : Mo Bool} {b : Stm} {Q : Fl → Ev → Prop} (I : Nat → Ev → Prop) (st : ∀ (k : Nat) (ρ : Ev), I k ρ → W c ρ fun t ρ1 => if t = true then WS b ρ1 fun fl ρ2 => match fl with
      | .nx => ∃ j, j < k ∧ I j ρ2
      | .ct => ∃ j, j < k ∧ I j ρ2
      | .bk => Q .nx ρ2
      | .rt d => Q (.rt d) ρ2
      | .ex _ => False else Q .nx ρ1) : ∀ {k : Nat} {ρ : Ev}, I k ρ → WS (whS c b) ρ Q := by
  have key : ∀ (k : Nat) (ρ : Ev), I k ρ → ∃ n fl ρ', whN c b n ρ = some (fl, ρ') ∧ (∀ x, fl ≠ .ex x) ∧ Q fl ρ' := by
    intro k
    induction k using Nat.strongRecOn with
    | _ k ih =>
      intro ρ h
      obtain ⟨t, ρ1, e1, h1⟩ := st k ρ h
      cases t with
      | false =>
        rw [if_neg Bool.false_ne_true] at h1
        exact ⟨1, .nx, ρ1, by show ex1 c _ ρ = _; rw [ex1_ok e1]; rfl, (by intro z h; cases h), h1⟩
      | true =>
        rw [if_pos rfl] at h1
        obtain ⟨fl, ρ2, e2, n2, h2⟩ := h1
        have go : (∃ j, j < k ∧ I j ρ2) → (fl = .nx ∨ fl = .ct) → ∃ n fl ρ', whN c b n ρ = some (fl, ρ') ∧ (∀ x, fl ≠ .ex x) ∧ Q fl ρ' := by
          rintro ⟨j, hj, hI⟩ hfl
          obtain ⟨n, fl', ρ', e3, n3, q3⟩ := ih j hj ρ2 hI
          refine ⟨n + 1, fl', ρ', ?_, n3, q3⟩
          show ex1 c _ ρ = _
          rw [ex1_ok e1, if_pos rfl]
          rcases hfl with rfl | rfl
          · simp only [e2]; exact e3
          · simp only [e2]; exact e3
        cases fl with
        | nx => exact go h2 (.inl rfl)
        | ct => exact go h2 (.inr rfl)
        | bk => exact ⟨1, .nx, ρ2, by show ex1 c _ ρ = _; rw [ex1_ok e1, if_pos rfl]; simp only [e2], (by intro z h; cases h), h2⟩
        | rt d => exact ⟨1, .rt d, ρ2, by show ex1 c _ ρ = _; rw [ex1_ok e1, if_pos rfl]; simp only [e2], (by intro z h; cases h), h2⟩
        | ex x => exact h2.elim
  intro k ρ h
  obtain ⟨n, fl, ρ', e, nx, q⟩ := key k ρ h
  exact ⟨fl, ρ', whS_of e, nx, q⟩
theorem WG_tup {tg : Tg} {el : Mo D} {vs : List Nat} {Q : D → Ev → Prop} {ρ : Ev} (g : D → D) : ∀ {ds ys : List D}, (∀ d ∈ ds, ∃ ρ1, tg d ρ = some ρ1 ∧ W el ρ1 fun y ρ2 => y = g d ∧ wipeE ρ2 vs = ρ) → ys.length + ds.length ≤ 1000 → Q (.tuple (ys ++ ds.map g)) ρ → WG csTup ceTup tg yesM el vs ds ys ρ Q
  | [], ys, _, hl, q => by
    refine ⟨_, ρ, ?_, q⟩
    have hl2 : ys.length ≤ sizeLine := Nat.le_trans (by simpa using hl) (show 1000 ≤ sizeLine by decide)
    simp [gl, ceTup, hl2]
  | d :: ds, ys, h, hl, q => by
    obtain ⟨ρ1, e1, y, ρ2, e2, rfl, e3⟩ := h d List.mem_cons_self
    rw [List.length_cons] at hl
    obtain ⟨y, ρ', h', q'⟩ := WG_tup g (ds := ds) (ys := ys ++ [g d]) (fun x hx => h x (List.mem_cons_of_mem _ hx)) (by rw [List.length_append]; simp only [List.length_cons, List.length_nil]; omega) (by rw [List.append_assoc]; exact q)
    have hl2 : ys.length < sizeLine := Nat.lt_of_lt_of_le (show ys.length < 1001 by omega) (by decide)
    exact ⟨y, ρ', by simp only [gl, e1, yesM, rt, e2, csTup, if_pos hl2, e3]; exact h', q'⟩
theorem WG_sum {tg : Tg} {t : Mo Bool} {el : Mo D} {vs : List Nat} {Q : D → Ev → Prop} {ρ : Ev} (p : D → Bool) (g : D → Int) : ∀ {ds ys : List D}, (∀ d ∈ ds, ∃ ρ1, tg d ρ = some ρ1 ∧ W t ρ1 fun c ρ2 => c = p d ∧ if p d = true then W el ρ2 fun y ρ3 => y = .int (g d) ∧ wipeE ρ3 vs = ρ else wipeE ρ2 vs = ρ) → Q (.int (dsum ys + ((ds.filter p).map g).sum)) ρ → WG csSum ceSum tg t el vs ds ys ρ Q
  | [], ys, _, q => ⟨_, ρ, rfl, by simpa using q⟩
  | d :: ds, ys, h, q => by
    obtain ⟨ρ1, e1, c, ρ2, e2, rfl, h1⟩ := h d List.mem_cons_self
    cases hp : p d with
    | true =>
      rw [if_pos hp] at h1
      obtain ⟨y, ρ3, e3, rfl, e4⟩ := h1
      rw [hp] at e2
      have ed : dsum (ys ++ [.int (g d)]) = dsum ys + g d := by
        unfold dsum
        rw [List.map_append, List.sum_append]
        simp
      obtain ⟨y, ρ', h', q'⟩ := WG_sum p g (ds := ds) (ys := ys ++ [.int (g d)]) (fun x hx => h x (List.mem_cons_of_mem _ hx)) (by
        rw [List.filter_cons, if_pos hp, List.map_cons, List.sum_cons, ← Int.add_assoc] at q
        rw [ed]
        exact q)
      exact ⟨y, ρ', by simp only [gl, e1, e2, e3, csSum, e4]; exact h', q'⟩
    | false =>
      rw [if_neg (by rw [hp]; exact Bool.false_ne_true)] at h1
      rw [hp] at e2
      obtain ⟨y, ρ', h', q'⟩ := WG_sum p g (ds := ds) (ys := ys) (fun x hx => h x (List.mem_cons_of_mem _ hx)) (by
        rw [List.filter_cons, if_neg (by rw [hp]; exact Bool.false_ne_true)] at q
        exact q)
      exact ⟨y, ρ', by simp only [gl, e1, e2, h1]; exact h', q'⟩
theorem W_getK {i : Nat} {f : Mo D} {Q : D → Ev → Prop} : W (getK i f) ρ Q ↔ (oK ρ i).isSome = true ∧ W f ρ fun d ρ1 => ∃ kvs, (oK ρ1 i).map (·.2) = some kvs ∧ ∃ k, dK1 d = some k ∧ ∃ v, valD kvs k = some v ∧ Q v ρ1 := by
  constructor
  · rintro ⟨v, ρ', e, q⟩
    unfold getK at e
    cases e0 : oK ρ i with
    | none => rw [e0] at e; cases e
    | some z =>
      rw [e0] at e
      refine ⟨rfl, ?_⟩
      rcases bnd_cases e with ⟨x, e1, h1⟩ | ⟨d, ρ1, e1, h1⟩
      · cases h1
      · refine ⟨d, ρ1, e1, ?_⟩
        split at h1
        · rename_i l kvs k e2 e3
          obtain ⟨v', e4, e5, e6⟩ := lf_ok h1
          cases e5
          subst e6
          exact ⟨kvs, by rw [e2]; rfl, k, e3, _, e4, q⟩
        · cases h1
  · rintro ⟨h0, d, ρ1, e1, kvs, e2, k, e3, v, e4, q⟩
    obtain ⟨z, hz⟩ := Option.isSome_iff_exists.mp h0
    obtain ⟨⟨l, kvs'⟩, hk, rfl⟩ := Option.map_eq_some_iff.mp e2
    refine ⟨v, ρ1, ?_, q⟩
    unfold getK
    rw [hz]
    simp only [bnd, e1, hk, e3]
    unfold lf
    simp only at e4
    rw [e4]
end DL
set_option Elab.async false
set_option linter.all false
set_option maxRecDepth 100000
set_option maxHeartbeats 2000000
namespace LB.K29
open PySem PySem.Spec PyProof.Rows L2 GL DL
theorem cd_eq (a b : Int) : F_common_divisor [.int a, .int b] = some (.ok (.int ((Int.gcd a b : Nat) : Int))) := by
  refine runP_of rfl ?_
  show WS B_common_divisor [.da (.int a), .da (.int b)] _
  unfold B_common_divisor
  simp only [LB.dnS, DL.ol, DL.ow, DL.oT, DL.oI, LB.bkF, Nat.reduceAdd, Nat.reduceEqDiff, reduceIte, ol, ow, oT, oI, bkF, WS_par, abs_i]
  rw [then_nx, WS_seq]
  refine WS_while (fun k ρ => ∃ x y : Nat, k = y ∧ Nat.gcd x y = Int.gcd a b ∧ ρ = [.da (.int (x : Int)), .da (.int (y : Int))]) ?_ ⟨a.natAbs, b.natAbs, rfl, rfl, rfl⟩
  rintro k ρ ⟨x, y, rfl, hg, rfl⟩
  simp only [LB.dnS, DL.ol, DL.ow, DL.oT, DL.oI, LB.bkF, Nat.reduceAdd, Nat.reduceEqDiff, reduceIte, ol, ow, oT, oI, bkF, WS_par]
  split
  · rename_i hy
    have hy : (0 : Int) < (k : Int) := of_decide_eq_true hy
    simp only [LB.dnS, DL.ol, DL.ow, DL.oT, DL.oI, LB.bkF, Nat.reduceAdd, Nat.reduceEqDiff, reduceIte, ol, ow, oT, oI, bkF, mod_int hy]
    refine ⟨x % k, Nat.mod_lt _ (by omega), k, ?_, ?_⟩
    · rw [← hg, Nat.gcd_comm x k, Nat.gcd_rec k x, Nat.gcd_comm]
    · rw [Int.natCast_emod]
  · rename_i hy
    have hy : k = 0 := by
      have : ¬ (0 : Int) < (k : Int) := fun z => hy (decide_eq_true z)
      omega
    subst hy
    (rw [then_nx]; simp only [LB.dnS, DL.ol, DL.ow, DL.oT, DL.oI, LB.bkF, Nat.reduceAdd, Nat.reduceEqDiff, reduceIte, ol, ow, oT, oI, bkF])
    rw [← hg, Nat.gcd_zero_right]
theorem gcd_pos {a b : Int} (hb : 0 < b) : 0 < ((Int.gcd a b : Nat) : Int) := by
  have : 0 < Int.gcd a b := Int.gcd_pos_of_ne_zero_right a (by omega)
  omega
theorem frac_eq {t b : Int} (hb : 0 < b) (h1 : b.natAbs < 2 ^ 1900) : F_fraction [.int t, .int b] = some (.ok (.tuple [.int (t / (Int.gcd t b : Nat)), .int (b / (Int.gcd t b : Nat))])) := by
  have hg := gcd_pos (a := t) hb
  have hle : ((Int.gcd t b : Nat) : Int) ≤ b := Int.le_of_dvd hb (Int.gcd_dvd_right t b)
  have hc : ∀ z : Int, CDivW z ((Int.gcd t b : Nat) : Int) := fun z => small_div hg (Nat.lt_of_le_of_lt (by omega) h1)
  refine runP_of rfl ?_
  show WS B_fraction [.da (.int t), .da (.int b), .un] _
  unfold B_fraction
  simp only [LB.dnS, DL.ol, DL.ow, DL.oT, DL.oI, LB.bkF, Nat.reduceAdd, Nat.reduceEqDiff, reduceIte, ol, ow, oT, oI, bkF, cd_eq]
  (rw [then_nx]; simp only [LB.dnS, DL.ol, DL.ow, DL.oT, DL.oI, LB.bkF, Nat.reduceAdd, Nat.reduceEqDiff, reduceIte, ol, ow, oT, oI, bkF, decide_eq_false (show ¬ b < 0 by omega)])
  (rw [then_nx]; simp only [LB.dnS, DL.ol, DL.ow, DL.oT, DL.oI, LB.bkF, Nat.reduceAdd, Nat.reduceEqDiff, reduceIte, ol, ow, oT, oI, bkF, div_int (hc _)])
theorem weight_eq {W : Web} (h : WebOk W) {a : Int} (a0 : 0 ≤ a) (a1 : a < W.names.length) : F_weight_of [webD W, .int a] = some (.ok (.int (rowOf W a).sum)) := by
  refine runP_of rfl ?_
  show WS B_weight_of [.da (webD W), .da (.int a)] _
  unfold B_weight_of
  simp only [LB.dlS, DL.ol, DL.ow, DL.oT, DL.oI, LB.bkF, Nat.reduceAdd, Nat.reduceEqDiff, reduceIte, ol, ow, oT, oI, bkF, row_eq h.fits a0 a1, sum_t]
theorem run_less {W : Web} (h : WebOk W) {L L' : Lot} (f : Fit W L) (r : Run W L L') : absS L'.rest ≤ absS L.rest ∧ ∀ b, b < W.names.length → ((gI L'.goings b - gI L.goings b).natAbs : Int) ≤ absS L.rest - absS L'.rest := by
  induction r with
  | refl => exact ⟨Int.le_refl _, fun b hb => by rw [Int.sub_self]; simp⟩
  | @step L' a m r0 ha my ih =>
    have f' := r0.fit f
    have h1 := push_less h (f'.rlen h) (a := (a : Int)) (by omega) (by omega) my
    have h2 := row_sum h (a := (a : Int)) (by omega) (by omega)
    have h3 := h.chance
    have h4 : 1 ≤ W.p * (rowOf W (a : Int)).sum := by
      have := Int.mul_le_mul h3.1 h2 (by decide) (by omega)
      omega
    have h5 : (m.natAbs : Int) * 1 ≤ (m.natAbs : Int) * (W.p * (rowOf W (a : Int)).sum) := Int.mul_le_mul_of_nonneg_left h4 (by omega)
    have h6 := my.lo
    refine ⟨by omega, fun b hb => ?_⟩
    have := ih.2 b hb
    rw [push_goings, gI_set b (by rw [f'.len]; exact ha)]
    split
    · rename_i e
      subst e
      omega
    · omega
theorem abs_mem {xs : List Int} {x : Int} (hx : x ∈ xs) : (x.natAbs : Int) ≤ absS xs := by
  unfold absS
  exact le_sum (fun y hy => by obtain ⟨z, _, rfl⟩ := List.mem_map.mp hy; omega) (List.mem_map.mpr ⟨x, hx, rfl⟩)
end LB.K29
set_option Elab.async false
set_option linter.all false
set_option maxRecDepth 100000
set_option maxHeartbeats 2000000
namespace LB.K29
open PySem PySem.Spec PyProof.Rows L2 GL DL
end LB.K29
set_option Elab.async false
set_option linter.all false
set_option maxRecDepth 100000
set_option maxHeartbeats 2000000
namespace LB.K29
open PySem PySem.Spec PyProof.Rows L2 GL DL
def beg (W : Web) (g : Int) : Lot := ⟨g, List.replicate W.names.length 0, lotRest W g (List.replicate W.names.length 0)⟩
theorem beg_fit (W : Web) (g : Int) : Fit W (beg W g) := ⟨List.length_replicate, rfl⟩
theorem gI_rep (n i : Nat) : gI (List.replicate n 0) i = 0 := by
  unfold gI
  rw [List.getD_eq_getElem?_getD, List.getElem?_replicate]
  split <;> rfl
theorem rs_beg (W : Web) (g : Int) (b : Nat) : rs W g (List.replicate W.names.length 0) b = g * gI W.leaps b := by
  unfold rs
  have e : sm (fun a => gI (List.replicate W.names.length 0) a * cf W a b) W.names.length = sm (fun _ => 0) W.names.length := sm_congr _ fun i _ => by rw [gI_rep, Int.zero_mul]
  have z : ∀ n, sm (fun _ => 0) n = 0 := fun n => by
    induction n with
    | zero => rfl
    | succ n ih => show sm _ n + 0 = 0; rw [ih]; rfl
  rw [e, z]
  omega
theorem leap_at {W : Web} (h : WebOk W) {b : Nat} (hb : b < W.names.length) : 0 ≤ gI W.leaps b ∧ gI W.leaps b ≤ 30 := h.leaps.rng _ (gI_mem (by have := h.leaps.len; omega))
theorem beg_nn {W : Web} (h : WebOk W) {g : Int} (hg : 0 ≤ g) : NN W (beg W g) := fun b hb => by
  show 0 ≤ rs W g (List.replicate W.names.length 0) b
  rw [rs_beg]
  exact Int.mul_nonneg hg (leap_at h hb).1
theorem abs_le {K : Int} : ∀ {xs : List Int}, (∀ x ∈ xs, (x.natAbs : Int) ≤ K) → absS xs ≤ K * xs.length
  | [], _ => by simp [absS]
  | x :: xs, h => by
    have ih := abs_le (K := K) (xs := xs) fun y hy => h y (List.mem_cons_of_mem _ hy)
    have := h x List.mem_cons_self
    unfold absS at ih ⊢
    rw [List.map_cons, List.sum_cons, List.length_cons, Int.natCast_add, Int.mul_add]
    simp only [Int.mul_one, Int.natCast_one]
    omega
structure Tm (W : Web) (g : Int) (L : Lot) : Prop where
  run : Run W (beg W g) L
  g0 : 1 ≤ g ∧ g ≤ 1000
section
variable {W : Web} {g : Int} {L : Lot}
theorem Tm.fit (t : Tm W g L) : Fit W L := t.run.fit (beg_fit W g)
theorem Tm.gr (t : Tm W g L) : L.g = g := t.run.g
theorem Tm.nn (h : WebOk W) (t : Tm W g L) : NN W L := (t.run.nn h (beg_fit W g) (beg_nn h (by have := t.g0; omega))).1
theorem Tm.step (t : Tm W g L) {L' : Lot} (r : Run W L L') : Tm W g L' := ⟨t.run.trans r, t.g0⟩
theorem beg_abs (h : WebOk W) (hg : 1 ≤ g ∧ g ≤ 1000) : absS (beg W g).rest ≤ 300000 := by
  have hl : (beg W g).rest.length = W.names.length := (beg_fit W g).rlen h
  have h1 := abs_le (K := 30000) (xs := (beg W g).rest) fun x hx => by
    obtain ⟨i, hi, rfl⟩ := mem_gI hx
    rw [hl] at hi
    rw [(beg_fit W g).at h hi]
    show ((rs W g (List.replicate W.names.length 0) i).natAbs : Int) ≤ 30000
    rw [rs_beg]
    have h2 := leap_at h hi
    have h3 := abs_mul_le (a := g) (c := gI W.leaps i) (G := 1000) (B := 30) (by omega) (by omega)
    omega
  have := h.many
  rw [hl] at h1
  omega
theorem Tm.abs (h : WebOk W) (t : Tm W g L) : absS L.rest ≤ 300000 := by
  have := (run_less h (beg_fit W g) t.run).1
  have := beg_abs h t.g0
  omega
theorem absS_nn : ∀ xs : List Int, 0 ≤ absS xs
  | [] => Int.le_refl 0
  | x :: xs => by
    have := absS_nn xs
    unfold absS at this ⊢
    rw [List.map_cons, List.sum_cons]
    omega
theorem Tm.going (h : WebOk W) (t : Tm W g L) : ∀ x ∈ L.goings, 0 ≤ x ∧ x ≤ 300000 := fun x hx => by
  obtain ⟨i, hi, rfl⟩ := mem_gI hx
  rw [t.fit.len] at hi
  have h1 := (run_less h (beg_fit W g) t.run).2 i hi
  have h2 := (t.run.nn h (beg_fit W g) (beg_nn h (by have := t.g0; omega))).2 i hi
  have h3 := beg_abs h t.g0
  have h4 := absS_nn L.rest
  rw [show (beg W g).goings = List.replicate W.names.length 0 from rfl, gI_rep] at h1 h2
  omega
theorem Tm.rest (h : WebOk W) (t : Tm W g L) : ∀ x ∈ L.rest, 0 ≤ x ∧ x ≤ 300000 := fun x hx => by
  have h1 := abs_mem hx
  have h2 := t.abs h
  obtain ⟨i, hi, rfl⟩ := mem_gI hx
  rw [t.fit.rlen h] at hi
  have h3 := t.nn h i hi
  rw [t.fit.at h hi] at h1 ⊢
  omega
theorem Tm.bd (h : WebOk W) (t : Tm W g L) : Bd 1000000 L := by
  have hm := h.many
  refine ⟨by rw [t.gr]; have := t.g0; omega, fun x hx => by have := t.going h x hx; omega, fun x hx => by have := t.rest h x hx; omega, by rw [t.fit.len]; exact hm.2, by rw [t.fit.rlen h]; exact hm.2⟩
theorem Tm.repr (h : WebOk W) (t : Tm W g L) : oRepr [lotD L] = some (.str (PyData.shown (lotD L))) := repr_lot (by decide) (t.bd h)
theorem beg_join {g' : Int} (h : WebOk W) : joinL (beg W g) (beg W g') = beg W (g + g') := by
  refine lot_ext (W := W) (joinL_fit h (beg_fit W g) (beg_fit W g')) (beg_fit W (g + g')) rfl fun b hb => ?_
  show gI (addL (List.replicate W.names.length 0) (List.replicate W.names.length 0)) b = gI (List.replicate W.names.length 0) b
  rw [gI_add List.length_replicate List.length_replicate b hb, gI_rep]
  rfl
theorem Run.joins (h : WebOk W) {L L' M M' : Lot} (f : Fit W L) (n : NN W L) (k : Fit W M) (n' : NN W M) (r : Run W L L') (q : Run W M M') : Run W (joinL L M) (joinL L' M') := by
  have f' := r.fit f
  have nn := (r.nn h f n).1
  have a := r.join h f n k n'
  have b := q.join h k n' f' nn
  rw [joinL_comm h k f', joinL_comm h (q.fit k) f'] at b
  exact a.trans b
theorem Tm.join (h : WebOk W) {g' : Int} {M : Lot} (t : Tm W g L) (u : Tm W g' M) (hg : g + g' ≤ 1000) : Tm W (g + g') (joinL L M) := by
  have h1 := t.g0
  have h2 := u.g0
  refine ⟨?_, by omega⟩
  have := Run.joins h (beg_fit W g) (beg_nn h (by omega)) (beg_fit W g') (beg_nn h (by omega)) t.run u.run
  rw [beg_join h] at this
  exact this
end
def negS (xs : List Int) : Int := (xs.filter fun x => decide (x < 0)).sum
def posS (xs : List Int) : Int := (xs.filter fun x => decide (0 < x)).sum
def intOf : D → Int
  | .int n => n
  | _ => 0
def ltD : D → Bool
  | .int n => decide (n < 0)
  | _ => false
def gtD : D → Bool
  | .int n => decide (0 < n)
  | _ => false
theorem sum_lt : ∀ xs : List Int, (((xs.map PyData.int).filter ltD).map intOf).sum = negS xs
  | [] => rfl
  | x :: xs => by
    have ih := sum_lt xs
    unfold negS at ih ⊢
    rw [List.map_cons, List.filter_cons, List.filter_cons]
    by_cases c : x < 0
    · rw [if_pos (show ltD (.int x) = true from decide_eq_true c), if_pos (decide_eq_true c), List.map_cons, List.sum_cons, List.sum_cons, ih]
      rfl
    · rw [if_neg (show ¬ ltD (.int x) = true from fun z => c (of_decide_eq_true z)), if_neg (fun z => c (of_decide_eq_true z))]
      exact ih
theorem sum_gt : ∀ xs : List Int, (((xs.map PyData.int).filter gtD).map intOf).sum = posS xs
  | [] => rfl
  | x :: xs => by
    have ih := sum_gt xs
    unfold posS at ih ⊢
    rw [List.map_cons, List.filter_cons, List.filter_cons]
    by_cases c : 0 < x
    · rw [if_pos (show gtD (.int x) = true from decide_eq_true c), if_pos (decide_eq_true c), List.map_cons, List.sum_cons, List.sum_cons, ih]
      rfl
    · rw [if_neg (show ¬ gtD (.int x) = true from fun z => c (of_decide_eq_true z)), if_neg (fun z => c (of_decide_eq_true z))]
      exact ih
def topOf (W : Web) (L : Lot) (a : Int) : Int := W.p * (rowOf W a).sum * atR L.goings a
def botOf (W : Web) (L : Lot) : Int := L.g * W.leaps.sum
def fracD (t b : Int) : D := .tuple [.int (t / (Int.gcd t b : Nat)), .int (b / (Int.gcd t b : Nat))]
theorem top_eq {W : Web} (h : WebOk W) {L : Lot} (hl : L.goings.length = W.names.length) (hG : ∀ x ∈ L.goings, x.natAbs < 2 ^ 1900) {a : Int} (a0 : 0 ≤ a) (a1 : a < W.names.length) : F_told_top [webD W, lotD L, .int a] = some (.ok (.int (topOf W L a))) := by
  have hc := h.chance
  have hM := h.many
  have hr := row_rng h a
  have hs := sum_rng (xs := rowOf W a) hr
  have hl2 := row_len h.fits a
  rw [hl2] at hs
  have hp := abs_mul_le (a := W.p) (c := (rowOf W a).sum) (G := 12) (B := 300) (by omega) (by omega)
  refine runP_of rfl ?_
  show WS B_told_top [.da (webD W), .da (lotD L), .da (.int a)] _
  unfold B_told_top
  simp only [LB.dlS, DL.ol, DL.ow, DL.oT, DL.oI, LB.bkF, Nat.reduceAdd, Nat.reduceEqDiff, reduceIte, ol, ow, oT, oI, bkF, web3, chance0, weight_eq h a0 a1, mul_int (small_mul (i := W.p) (j := (rowOf W a).sum) (by omega) (by omega)), lot1, ix_t (at_ints (ns := L.goings) a0 (by omega)), mul_int (wide_mul (i := W.p * (rowOf W a).sum) (j := atR L.goings a) (small_1900 (by omega)) (hG _ (rest_at (xs := L.goings) a0 (by omega)).2))]
  rfl
theorem leaps_sum {W : Web} (h : WebOk W) : 1 ≤ W.leaps.sum ∧ W.leaps.sum ≤ 300 := by
  obtain ⟨x, hx, x0⟩ := h.leaps.pos
  have h1 := le_sum (fun y hy => (h.leaps.rng y hy).1) hx
  have h2 := sum_rng (xs := W.leaps) h.leaps.rng
  have := h.leaps.len
  have := h.many
  omega
theorem bot_eq {W : Web} (h : WebOk W) {L : Lot} (hg : L.g.natAbs < 2 ^ 1900) : F_told_bottom [webD W, lotD L] = some (.ok (.int (botOf W L))) := by
  have hl := leaps_sum h
  refine runP_of rfl ?_
  show WS B_told_bottom [.da (webD W), .da (lotD L)] _
  unfold B_told_bottom
  simp only [LB.dlS, DL.ol, DL.ow, DL.oT, DL.oI, LB.bkF, Nat.reduceAdd, Nat.reduceEqDiff, reduceIte, ol, ow, oT, oI, bkF, lot0, web2, sum_t, mul_int (wide_mul (i := L.g) (j := W.leaps.sum) hg (small_1900 (by omega)))]
  rfl
theorem ends_eq {W : Web} (h : WebOk W) {L : Lot} (hl : L.goings.length = W.names.length) (hG : ∀ x ∈ L.goings, x.natAbs < 2 ^ 1900) (hg : L.g.natAbs < 2 ^ 1900) (hb0 : 0 < botOf W L) (hb : (botOf W L).natAbs < 2 ^ 1900) {a : Int} (a0 : 0 ≤ a) (a1 : a < W.names.length) :
    F_ends_of [webD W, lotD L, .int a] = some (.ok (.tuple [fracD (topOf W L a + negS L.rest) (botOf W L), fracD (topOf W L a + posS L.rest) (botOf W L)])) := by
  refine runP_of rfl ?_
  show WS B_ends_of [.da (webD W), .da (lotD L), .da (.int a), .un, .un, .un, .un, .un, .un] _
  unfold B_ends_of
  simp only [LB.dnS, DL.ol, DL.ow, DL.oT, DL.oI, LB.bkF, Nat.reduceAdd, Nat.reduceEqDiff, reduceIte, ol, ow, oT, oI, bkF, lot2]
  (rw [then_nx]; simp only [LB.dnS, DL.ol, DL.ow, DL.oT, DL.oI, LB.bkF, Nat.reduceAdd, Nat.reduceEqDiff, reduceIte, ol, ow, oT, oI, bkF, top_eq h hl hG a0 a1])
  (rw [then_nx]; simp only [LB.dnS, DL.ol, DL.ow, DL.oT, DL.oI, LB.bkF, Nat.reduceAdd, Nat.reduceEqDiff, reduceIte, ol, ow, oT, oI, bkF, bot_eq h hg])
  (rw [then_nx]; simp only [LB.dnS, DL.ol, DL.ow, DL.oT, DL.oI, LB.bkF, Nat.reduceAdd, Nat.reduceEqDiff, reduceIte, ol, ow, oT, oI, bkF])
  refine ⟨rfl, WG_sum ltD intOf (fun d hd => ?_) ?_⟩
  · obtain ⟨n, _, rfl⟩ := List.mem_map.mp hd
    simp only [LB.dlS, DL.ol, DL.ow, DL.oT, DL.oI, LB.bkF, Nat.reduceAdd, Nat.reduceEqDiff, reduceIte, ol, ow, oT, oI, bkF, ltD, intOf]
    split <;> trivial
  · rw [sum_lt, show dsum [] = 0 from rfl, Int.zero_add]
    simp only [LB.dnS, DL.ol, DL.ow, DL.oT, DL.oI, LB.bkF, Nat.reduceAdd, Nat.reduceEqDiff, reduceIte, ol, ow, oT, oI, bkF, add_int]
    (rw [then_nx]; simp only [LB.dnS, DL.ol, DL.ow, DL.oT, DL.oI, LB.bkF, Nat.reduceAdd, Nat.reduceEqDiff, reduceIte, ol, ow, oT, oI, bkF])
    refine ⟨rfl, WG_sum gtD intOf (fun d hd => ?_) ?_⟩
    · obtain ⟨n, _, rfl⟩ := List.mem_map.mp hd
      simp only [LB.dlS, DL.ol, DL.ow, DL.oT, DL.oI, LB.bkF, Nat.reduceAdd, Nat.reduceEqDiff, reduceIte, ol, ow, oT, oI, bkF, gtD, intOf]
      split <;> trivial
    · rw [sum_gt, show dsum [] = 0 from rfl, Int.zero_add]
      simp only [LB.dnS, DL.ol, DL.ow, DL.oT, DL.oI, LB.bkF, Nat.reduceAdd, Nat.reduceEqDiff, reduceIte, ol, ow, oT, oI, bkF, add_int]
      (rw [then_nx]; simp only [LB.dnS, DL.ol, DL.ow, DL.oT, DL.oI, LB.bkF, Nat.reduceAdd, Nat.reduceEqDiff, reduceIte, ol, ow, oT, oI, bkF, frac_eq hb0 hb])
      rfl
end LB.K29
set_option Elab.async false
set_option linter.all false
set_option maxRecDepth 100000
set_option maxHeartbeats 2000000
namespace LB
open K29
def T (k : Nat) (R : Mx) (j c : Nat) : Int := if j < k then U k R j c else E k R (R j) c
theorem bnd10_le {M : Int} (hM : 1 ≤ M) : ∀ {n m : Nat}, n ≤ m → bnd10 M n ≤ bnd10 M m
  | n, 0, h => by rw [show n = 0 by omega]; exact Int.le_refl _
  | n, m + 1, h => by
    by_cases e : n = m + 1
    · rw [e]; exact Int.le_refl _
    · have ih := bnd10_le hM (n := n) (m := m) (by omega)
      have p := bnd10_pos hM m
      have h1 : (1 : Int) * 1 ≤ ((m : Int) + 1) * M := Int.mul_le_mul (by omega) hM (by decide) (by omega)
      have h2 : 1 * bnd10 M m ≤ ((m : Int) + 1) * M * bnd10 M m := Int.mul_le_mul_of_nonneg_right (by omega) (by omega)
      show bnd10 M n ≤ ((m : Int) + 1) * M * bnd10 M m
      omega
def bigT : Int := 1000000000000000000000000000000000000000000000000000000000000000
theorem bigT_le : 2 * bnd10 100000 11 ≤ bigT := by decide
theorem E_le {k : Nat} {R : Mx} {r : Nat → Int} (hk : k ≤ 10) (h : ∀ i c, -100000 ≤ R i c ∧ R i c ≤ 100000) (hr : ∀ c, -100000 ≤ r c ∧ r c ≤ 100000) (j : Nat) : -bnd10 100000 11 ≤ E k R r j ∧ E k R r j ≤ bnd10 100000 11 := by
  have h1 := det_le (M := 100000) (by decide) (k + 1) (A := brd k R r j) (fun p c _ _ => by
    unfold brd
    split
    · exact h _ _
    · exact hr _)
  have h2 := bnd10_le (M := 100000) (by decide) (n := k + 1) (m := 11) (by omega)
  unfold E
  omega
theorem T_le {k : Nat} {R : Mx} (hk : k ≤ 10) (h : ∀ i c, -100000 ≤ R i c ∧ R i c ≤ 100000) (j c : Nat) : -bigT ≤ T k R j c ∧ T k R j c ≤ bigT := by
  have hb := bigT_le
  have hp := bnd10_pos (M := 100000) (by decide) 11
  unfold T
  split
  · unfold U
    have h1 := E_le hk h (r := un j) (fun c => by unfold un; split <;> omega) c
    have h2 := det_le (M := 100000) (by decide) k (A := R) (fun p c _ _ => h p c)
    have h3 := bnd10_le (M := 100000) (by decide) (n := k) (m := 11) (by omega)
    have h4 : un j c = 0 ∨ un j c = 1 := by unfold un; split <;> simp
    rcases h4 with e | e
    · rw [e, Int.mul_zero]; omega
    · rw [e, Int.mul_one]; omega
  · have h1 := E_le hk h (r := R j) (fun c => h j c) c
    omega
theorem det_big {k : Nat} {R : Mx} (hk : k ≤ 10) (h : ∀ i c, -100000 ≤ R i c ∧ R i c ≤ 100000) : -bigT ≤ det k R ∧ det k R ≤ bigT := by
  have hb := bigT_le
  have hp := bnd10_pos (M := 100000) (by decide) 11
  have h2 := det_le (M := 100000) (by decide) k (A := R) (fun p c _ _ => h p c)
  have h3 := bnd10_le (M := 100000) (by decide) (n := k) (m := 11) (by omega)
  omega
theorem sum_sm_from : ∀ (xs : List Int) (f : Nat → Int) (m : Nat), (∀ i, i < xs.length → f (m + i) = gI xs i) → sm f (m + xs.length) = sm f m + xs.sum
  | [], f, m, _ => by simp
  | x :: xs, f, m, h => by
    have ih := sum_sm_from xs f (m + 1) (fun i hi => by
      have := h (i + 1) (by simp; omega)
      rw [show m + (i + 1) = m + 1 + i by omega] at this
      exact this)
    rw [List.length_cons, show m + (xs.length + 1) = m + 1 + xs.length by omega, ih, List.sum_cons]
    have h0 := h 0 (by simp)
    show sm f m + f m + xs.sum = _
    have h0 : f m = x := h0
    omega
theorem sum_sm (xs : List Int) : sm (gI xs) xs.length = xs.sum := by
  have := sum_sm_from xs (gI xs) 0 (fun i _ => by rw [Nat.zero_add])
  rw [Nat.zero_add] at this
  rw [this]
  show 0 + _ = _
  omega
def lin (W : Web) (rhs : Nat → Nat → Int) : Mx := fun j c => if c < W.names.length then cf W c j else rhs j (c - W.names.length)
theorem cf_rng {W : Web} (h : WebOk W) (a b : Nat) : -100000 ≤ cf W a b ∧ cf W a b ≤ 100000 := by
  unfold cf gI
  rw [List.getD_eq_getElem?_getD]
  cases e : (colOf W (a : Int))[b]? with
  | none => exact ⟨by decide, by decide⟩
  | some v =>
    have := col_rng h (a : Int) v (List.mem_of_getElem? e)
    show -100000 ≤ v ∧ v ≤ 100000
    omega
theorem lin_dom {W : Web} (h : WebOk W) (rhs : Nat → Nat → Int) : Dom W.names.length (lin W rhs) := by
  refine ⟨fun i j hi hj hne => ?_, fun j hj => ?_⟩
  · unfold lin
    rw [if_pos hj]
    exact cf_neg h hne
  · have e : sm (fun i => lin W rhs i j) W.names.length = (colOf W (j : Int)).sum := by
      have hl : (colOf W (j : Int)).length = W.names.length := by rw [col_len, row_len h.fits]
      rw [← sum_sm, hl]
      exact sm_congr _ fun i _ => by unfold lin; rw [if_pos hj]; rfl
    rw [e, col_sum h (by omega) (by omega)]
    have h1 := row_sum h (a := (j : Int)) (by omega) (by omega)
    have h2 := h.chance
    exact Int.mul_pos (by omega) (by omega)
theorem lin_rng {W : Web} (h : WebOk W) {rhs : Nat → Nat → Int} (hr : ∀ j c, -100000 ≤ rhs j c ∧ rhs j c ≤ 100000) (j c : Nat) : -100000 ≤ lin W rhs j c ∧ lin W rhs j c ≤ 100000 := by
  unfold lin
  split
  · exact cf_rng h c j
  · exact hr j _
def gcdL (xs : List Int) : Nat := xs.foldl (fun g x => Int.gcd (g : Int) x) 0
theorem gcd_fold (d m : Int) : ∀ (xs : List Int) (g : Nat), (∀ x ∈ xs, d ∣ m * x) → d ∣ m * (g : Int) → d ∣ m * ((xs.foldl (fun g x => Int.gcd (g : Int) x) g : Nat) : Int)
  | [], g, _, h => h
  | x :: xs, g, h, hg => by
    refine gcd_fold d m xs (Int.gcd (g : Int) x) (fun y hy => h y (List.mem_cons_of_mem _ hy)) ?_
    have h1 := h x List.mem_cons_self
    have e : d ∣ ((Int.gcd (m * (g : Int)) (m * x) : Nat) : Int) := Int.dvd_coe_gcd hg h1
    rw [Int.gcd_mul_left] at e
    rcases Int.natAbs_eq m with z | z
    · rw [z]
      exact Int.natCast_mul _ _ ▸ e
    · rw [z, Int.neg_mul]
      exact Int.dvd_neg.mpr (Int.natCast_mul _ _ ▸ e)
theorem gcdL_dvd_of {d m : Int} {xs : List Int} (h : ∀ x ∈ xs, d ∣ m * x) : d ∣ m * ((gcdL xs : Nat) : Int) := gcd_fold d m xs 0 h (by simp)
theorem fold_dvd : ∀ (xs : List Int) (g : Nat), (((xs.foldl (fun g x => Int.gcd (g : Int) x) g : Nat) : Int) ∣ (g : Int)) ∧ ∀ x ∈ xs, ((xs.foldl (fun g x => Int.gcd (g : Int) x) g : Nat) : Int) ∣ x
  | [], g => ⟨Int.dvd_refl _, fun _ h => by cases h⟩
  | x :: xs, g => by
    obtain ⟨h1, h2⟩ := fold_dvd xs (Int.gcd (g : Int) x)
    refine ⟨Int.dvd_trans h1 (Int.gcd_dvd_left _ _), fun y hy => ?_⟩
    rcases List.mem_cons.mp hy with rfl | hy
    · exact Int.dvd_trans h1 (Int.gcd_dvd_right _ _)
    · exact h2 y hy
theorem gcdL_dvd {xs : List Int} {x : Int} (h : x ∈ xs) : ((gcdL xs : Nat) : Int) ∣ x := (fold_dvd xs 0).2 x h
theorem gcdL_pos {xs : List Int} {x : Int} (h : x ∈ xs) (h0 : x ≠ 0) : 0 < ((gcdL xs : Nat) : Int) := by
  have h1 := gcdL_dvd h
  refine Int.not_le.mp fun hle => h0 ?_
  have : ((gcdL xs : Nat) : Int) = 0 := by omega
  rw [this] at h1
  exact Int.zero_dvd.mp h1
end LB
set_option Elab.async false
set_option linter.all false
set_option maxRecDepth 100000
set_option maxHeartbeats 2000000
namespace LB.K29
open PySem PySem.Spec PyProof.Rows L2 GL DL
theorem div_abs {t b B : Int} (hb : 0 < b) (h : -B ≤ t ∧ t ≤ B) : -B ≤ t / b ∧ t / b ≤ B := by
  constructor
  · refine (Int.le_ediv_iff_mul_le hb).mpr ?_
    have : (-B) * b ≤ -B * 1 := Int.mul_le_mul_of_nonpos_left (by omega) (by omega)
    omega
  · refine Int.ediv_le_of_le_mul hb ?_
    have : B * 1 ≤ B * b := Int.mul_le_mul_of_nonneg_left (by omega) (by omega)
    omega
end LB.K29
set_option Elab.async false
set_option linter.all false
set_option maxRecDepth 100000
set_option maxHeartbeats 2000000
namespace DL
open PySem PySem.Spec PyProof.Rows L2 GL
section
variable {X : Cx} {Ts : Tbs} {E : EK}
theorem de_dict0 {pos : Pos} : DE X Ts E (.Dict [] [] pos) (rt (.dict [])) := by
  refine pe_mono pe_dnewK ?_
  rintro σ H Q ⟨A, S, ρ, r, ρ', rel, hf, he, k⟩
  obtain ⟨rfl, rfl⟩ := rt_ok hf
  intro p np
  have g : Grow Ts H (upd H p (.dK [])) := .new np
  exact k _ rfl _ _ (.grow rel g) (.dct (.inl (hide_of (new_hid rel.dom np) upd_same)) .nil)
def oStr : List D → Option D
  | [.int i] => if i.natAbs.log2 < 1920 then some (.str (toString i)) else none
  | [.str x] => some (.str x)
  | _ => none
theorem s_str {K : PySem.W.Frag} : SndA K Ts (fun xs H Q => (∃ i, xs = [V.int i] ∧ i.natAbs.log2 < 1920 ∧ Q (.str (toString i)) H) ∨ ∃ a, xs = [V.str a] ∧ Q (.str a) H) oStr := by
  intro xs es d H S Q dom dx e q
  unfold oStr at e
  split at e
  · rename_i i
    split at e
    · rename_i hl
      cases e
      cases dx with
      | cons a b => cases a; cases b; exact .inl ⟨i, rfl, hl, q _ H (.refl _ _) (.str _)⟩
    · cases e
  · rename_i x
    cases e
    cases dx with
    | cons a b => cases a; cases b; exact .inr ⟨x, rfl, q _ H (.refl _ _) (.str _)⟩
  · cases e
theorem call_strU : CallR X (.type "str") (fun xs H Q => (∃ i, xs = [V.int i] ∧ i.natAbs.log2 < 1920 ∧ Q (.str (toString i)) H) ∨ ∃ a, xs = [V.str a] ∧ Q (.str a) H) := CallR.or call_str_int SkE.call_str_str
end
end DL
set_option Elab.async false
set_option linter.all false
set_option maxRecDepth 100000
set_option maxHeartbeats 2000000
namespace DL
open PySem PySem.Spec PyProof.Rows L2 GL
section
variable {prog : Program} {w : World} {A : Around} {E : Value → Shared → Prop} {s : Shared} {t : Addr}
end
section
variable {X : Cx} {Ts : Tbs}
end
end DL
set_option Elab.async false
set_option linter.all false
set_option maxRecDepth 100000
set_option maxHeartbeats 4000000
set_option pp.maxSteps 300
set_option pp.deepTerms false
namespace LB.K12
open PySem PySem.Spec PyProof.Rows L2 GL DL
noncomputable def B_common_divisor_of_all : Stm := (seqS (setS 1 (rt (.int 0)))
    (seqS (forS (itU (rd 0)) (tgN 2)
      (setS 1 (callP LB.K29.F_common_divisor [(rd 1), (rd 2)])))
    (retS (rd 1))))
noncomputable def F_common_divisor_of_all : List D → Option (Except XV D) := runP 3 1 B_common_divisor_of_all
noncomputable def B__law_common : Stm := (seqS (setS 1 (rt (.int 0)))
    (seqS (forS (itU (rd 0)) (tgN 2)
      (seqS (setS 2 (opA oAbs [(rd 2)]))
    (whS (tst (op2 oGt (rd 2) (rt (.int 0))))
      (parS 1 2 (rd 2) (op2 oMod (rd 1) (rd 2))))))
    (retS (rd 1))))
noncomputable def F__law_common : List D → Option (Except XV D) := runP 3 1 B__law_common
end LB.K12
set_option Elab.async false
set_option linter.all false
set_option maxRecDepth 100000
set_option maxHeartbeats 2000000
namespace DL
open PySem PySem.Spec PyProof.Rows L2 GL
variable {ρ : Ev}
end DL
set_option Elab.async false
set_option linter.all false
set_option maxRecDepth 100000
set_option maxHeartbeats 2000000
namespace LB.K12
open PySem PySem.Spec PyProof.Rows L2 GL DL
open LB.K29 (cd_eq)
end LB.K12
set_option Elab.async false
set_option linter.all false
set_option maxRecDepth 100000
set_option maxHeartbeats 2000000
namespace LB.K12
open PySem PySem.Spec PyProof.Rows L2 GL DL
open LB.K29 (cd_eq)
theorem cda_eq {d : D} {xs : List Int} (hs : seqOf d = some (xs.map PyData.int)) : F_common_divisor_of_all [d] = some (.ok (.int ((gcdL xs : Nat) : Int))) := by
  refine runP_of rfl ?_
  show WS B_common_divisor_of_all [.da d, .un, .un] _
  unfold B_common_divisor_of_all
  simp only [LB.dnS, DL.ol, DL.ow, DL.oT, DL.oI, LB.bkF, Nat.reduceAdd, Nat.reduceEqDiff, reduceIte, ol, ow, oT, oI, bkF]
  (rw [then_nx]; simp only [LB.dnS, DL.ol, DL.ow, DL.oT, DL.oI, LB.bkF, Nat.reduceAdd, Nat.reduceEqDiff, reduceIte, ol, ow, oT, oI, bkF, hs])
  refine WS_loop0 (fun i ρ => ∃ s2, ρ = [.da d, .da (.int (((xs.take i).foldl (fun g x => Int.gcd (g : Int) x) 0 : Nat) : Int)), s2]) ⟨_, rfl⟩ ?_ ?_
  · rintro i x ρ hx ⟨s2, rfl⟩
    rw [List.getElem?_map] at hx
    obtain ⟨y, hy, rfl⟩ := Option.map_eq_some_iff.mp hx
    rw [tgN_eq]
    refine ⟨_, rfl, ?_⟩
    simp only [LB.dnS, DL.ol, DL.ow, DL.oT, DL.oI, LB.bkF, Nat.reduceAdd, Nat.reduceEqDiff, reduceIte, ol, ow, oT, oI, bkF, cd_eq]
    refine ⟨.da (.int y), ?_⟩
    rw [List.take_add_one, hy, Option.toList_some, List.foldl_append]
    rfl
  · rintro ρ ⟨s2, rfl⟩
    rw [List.length_map, List.take_length]
    (rw [then_nx]; simp only [LB.dnS, DL.ol, DL.ow, DL.oT, DL.oI, LB.bkF, Nat.reduceAdd, Nat.reduceEqDiff, reduceIte, ol, ow, oT, oI, bkF])
    rfl
def rhsL (W : Web) : Nat → Nat → Int := fun j _ => gI W.leaps j
def Rw (W : Web) : Mx := lin W (rhsL W)
def exD (W : Web) : Int := det W.names.length (Rw W)
def exU (W : Web) : List Int := (List.range W.names.length).map fun j => U W.names.length (Rw W) j W.names.length
def exG (W : Web) : Int := ((gcdL (exD W :: exU W) : Nat) : Int)
def exL (W : Web) : Lot := ⟨exD W / exG W, (exU W).map (fun u => u / exG W), lotRest W (exD W / exG W) ((exU W).map fun u => u / exG W)⟩
theorem rhs_rng {W : Web} (h : WebOk W) (j c : Nat) : -100000 ≤ rhsL W j c ∧ rhsL W j c ≤ 100000 := by
  unfold rhsL gI
  rw [List.getD_eq_getElem?_getD]
  cases e : W.leaps[j]? with
  | none => exact ⟨by decide, by decide⟩
  | some v =>
    have := h.leaps.rng v (List.mem_of_getElem? e)
    show -100000 ≤ v ∧ v ≤ 100000
    omega
theorem Rw_dom {W : Web} (h : WebOk W) : Dom W.names.length (Rw W) := lin_dom h _
theorem Rw_rng {W : Web} (h : WebOk W) (i c : Nat) : -100000 ≤ Rw W i c ∧ Rw W i c ≤ 100000 := lin_rng h (rhs_rng h) i c
theorem exD_pos {W : Web} (h : WebOk W) : 0 < exD W ∧ exD W ≤ bigT := ⟨(lev (Rw_dom h) W.names.length (Nat.le_refl _)).pos, (det_big (by have := h.many; omega) (Rw_rng h)).2⟩
theorem exU_at {W : Web} {j : Nat} (hj : j < W.names.length) : gI (exU W) j = U W.names.length (Rw W) j W.names.length := by
  unfold gI exU
  rw [List.getD_eq_getElem?_getD, List.getElem?_map, List.getElem?_range hj]
  rfl
theorem exU_len (W : Web) : (exU W).length = W.names.length := by unfold exU; rw [List.length_map, List.length_range]
theorem exG_pos {W : Web} (h : WebOk W) : 0 < exG W := gcdL_pos List.mem_cons_self (by have := exD_pos h; omega)
theorem exG_d {W : Web} : exG W ∣ exD W := gcdL_dvd List.mem_cons_self
theorem exG_u {W : Web} {u : Int} (hu : u ∈ exU W) : exG W ∣ u := gcdL_dvd (List.mem_cons_of_mem _ hu)
def divD (g : Int) : D → D
  | .int x => .int (x / g)
  | d => d
end LB.K12
set_option Elab.async false
set_option linter.all false
set_option maxRecDepth 100000
set_option maxHeartbeats 2000000
namespace LB.K12
open PySem PySem.Spec PyProof.Rows L2 GL DL
open LB.K29 (cd_eq)
theorem sm_mul (f : Nat → Int) (a : Int) : ∀ n, sm (fun i => a * f i) n = a * sm f n
  | 0 => by simp [sm]
  | n + 1 => by
    show sm _ n + a * f n = a * (sm f n + f n)
    rw [sm_mul f a n, Int.mul_add]
theorem ex_sum {W : Web} (h : WebOk W) {b : Nat} (hb : b < W.names.length) : sm (fun a => gI (exU W) a * cf W a b) W.names.length = exD W * gI W.leaps b := by
  have e := solves (n := W.names.length) (R := Rw W) (i := b) (j := W.names.length) hb (Nat.le_refl _)
  have e1 : Rw W b W.names.length = gI W.leaps b := by
    unfold Rw lin rhsL
    rw [if_neg (by omega)]
  rw [e1] at e
  rw [show exD W = det W.names.length (Rw W) from rfl, ← e]
  refine sm_congr _ fun a ha => ?_
  rw [exU_at ha, Int.mul_comm]
  congr 1
  unfold Rw lin
  rw [if_pos ha]
theorem gI_map (f : Int → Int) (xs : List Int) {i : Nat} (h : i < xs.length) : gI (xs.map f) i = f (gI xs i) := by
  unfold gI
  rw [List.getD_eq_getElem?_getD, List.getElem?_map, List.getD_eq_getElem?_getD, List.getElem?_eq_getElem h]
  rfl
theorem ex_rs {W : Web} (h : WebOk W) {b : Nat} (hb : b < W.names.length) : rs W (exL W).g (exL W).goings b = 0 := by
  have hG := exG_pos h
  have e := ex_sum h hb
  obtain ⟨x, hx⟩ := exG_d (W := W)
  have ex : exD W / exG W = x := by rw [hx]; exact Int.mul_ediv_cancel_left _ (by omega)
  unfold rs
  show exD W / exG W * gI W.leaps b - sm (fun a => gI ((exU W).map fun u => u / exG W) a * cf W a b) W.names.length = 0
  rw [ex]
  have e2 : exG W * sm (fun a => gI ((exU W).map fun u => u / exG W) a * cf W a b) W.names.length = sm (fun a => gI (exU W) a * cf W a b) W.names.length := by
    rw [← sm_mul]
    refine sm_congr _ fun a ha => ?_
    rw [gI_map _ _ (by rw [exU_len]; exact ha), ← Int.mul_assoc, Int.mul_ediv_cancel' (exG_u (gI_mem (by rw [exU_len]; exact ha)))]
  rw [e, hx, Int.mul_assoc] at e2
  have := Int.eq_of_mul_eq_mul_left (by omega) e2
  omega
theorem exL_g {W : Web} (h : WebOk W) : 1 ≤ (exL W).g ∧ (exL W).g ≤ bigT := by
  have hG := exG_pos h
  have hD := exD_pos h
  refine ⟨?_, ?_⟩
  · show 1 ≤ exD W / exG W
    exact (Int.le_ediv_iff_mul_le hG).mpr (by rw [Int.one_mul]; exact Int.le_of_dvd hD.1 exG_d)
  · exact (K29.div_abs (t := exD W) (b := exG W) (B := bigT) hG (by omega)).2
theorem common_eq {d : D} {xs : List Int} (hs : seqOf d = some (xs.map PyData.int)) : F__law_common [d] = some (.ok (.int ((gcdL xs : Nat) : Int))) := by
  refine runP_of rfl ?_
  show WS B__law_common [.da d, .un, .un] _
  unfold B__law_common
  simp only [LB.dnS, DL.ol, DL.ow, DL.oT, DL.oI, LB.bkF, Nat.reduceAdd, Nat.reduceEqDiff, reduceIte, ol, ow, oT, oI, bkF]
  (rw [then_nx]; simp only [LB.dnS, DL.ol, DL.ow, DL.oT, DL.oI, LB.bkF, Nat.reduceAdd, Nat.reduceEqDiff, reduceIte, ol, ow, oT, oI, bkF, hs])
  refine WS_loop0 (fun i ρ => ∃ s2, ρ = [.da d, .da (.int (((xs.take i).foldl (fun g x => Int.gcd (g : Int) x) 0 : Nat) : Int)), s2]) ⟨_, rfl⟩ ?_ ?_
  · rintro i x ρ hx ⟨s2, rfl⟩
    rw [List.getElem?_map] at hx
    obtain ⟨y, hy, rfl⟩ := Option.map_eq_some_iff.mp hx
    rw [tgN_eq]
    refine ⟨_, rfl, ?_⟩
    have ef : (xs.take (i + 1)).foldl (fun g x => Int.gcd (g : Int) x) 0 = Int.gcd (((xs.take i).foldl (fun g x => Int.gcd (g : Int) x) 0 : Nat) : Int) y := by
      rw [List.take_add_one, hy, Option.toList_some, List.foldl_append]
      rfl
    rw [ef]
    generalize (xs.take i).foldl (fun g x => Int.gcd (g : Int) x) 0 = g0
    simp only [LB.dnS, DL.ol, DL.ow, DL.oT, DL.oI, LB.bkF, Nat.reduceAdd, Nat.reduceEqDiff, reduceIte, ol, ow, oT, oI, bkF, abs_i]
    rw [then_nx]
    refine WS_while (fun k ρ => ∃ a : Nat, Nat.gcd a k = Int.gcd (g0 : Int) y ∧ ρ = [.da d, .da (.int (a : Int)), .da (.int (k : Int))]) ?_ (k := y.natAbs) ⟨g0, rfl, rfl⟩
    rintro k ρ ⟨a, hg, rfl⟩
    simp only [LB.dnS, DL.ol, DL.ow, DL.oT, DL.oI, LB.bkF, Nat.reduceAdd, Nat.reduceEqDiff, reduceIte, ol, ow, oT, oI, bkF, WS_par]
    split
    · rename_i hk
      have hk : (0 : Int) < (k : Int) := of_decide_eq_true hk
      simp only [LB.dnS, DL.ol, DL.ow, DL.oT, DL.oI, LB.bkF, Nat.reduceAdd, Nat.reduceEqDiff, reduceIte, ol, ow, oT, oI, bkF, mod_int hk]
      refine ⟨a % k, Nat.mod_lt _ (by omega), k, ?_, ?_⟩
      · rw [← hg, Nat.gcd_comm a k, Nat.gcd_rec k a, Nat.gcd_comm]
      · rw [Int.natCast_emod]
    · rename_i hk
      have hk : k = 0 := by
        have : ¬ (0 : Int) < (k : Int) := fun z => hk (decide_eq_true z)
        omega
      subst hk
      rw [← hg, Nat.gcd_zero_right]
      exact ⟨_, rfl⟩
  · rintro ρ ⟨s2, rfl⟩
    rw [List.length_map, List.take_length]
    (rw [then_nx]; simp only [LB.dnS, DL.ol, DL.ow, DL.oT, DL.oI, LB.bkF, Nat.reduceAdd, Nat.reduceEqDiff, reduceIte, ol, ow, oT, oI, bkF])
    rfl
end LB.K12
set_option Elab.async false
set_option linter.all false
set_option maxRecDepth 100000
set_option maxHeartbeats 2000000
namespace LB.K12
open PySem PySem.Spec PyProof.Rows L2 GL DL
open LB.K29 (cd_eq)
end LB.K12
set_option Elab.async false
set_option linter.all false
set_option maxRecDepth 100000
set_option maxHeartbeats 4000000
namespace LB.K12
open PySem PySem.Spec PyProof.Rows L2 GL DL
open LB.K29 (cd_eq)
def Goo (W : Web) (κ : Nat → Nat) (F : Nat → Nat → Int) (t : Nat → Int) : Prop := ∀ j, j < W.names.length → 1 ≤ t j ∧ ∀ c, c < W.names.length + 1 → T (κ j) (Rw W) j c = t j * F j c
theorem Goo.rng {W : Web} (h : WebOk W) {κ : Nat → Nat} {F : Nat → Nat → Int} {t : Nat → Int} (g : Goo W κ F t) (hκ : ∀ j, κ j ≤ W.names.length) {j : Nat} (hj : j < W.names.length) : ∀ c, c < W.names.length + 1 → -bigT ≤ F j c ∧ F j c ≤ bigT := fun c hc => by
  obtain ⟨h1, h2⟩ := g j hj
  have h3 := T_le (k := κ j) (R := Rw W) (by have := hκ j; have := h.many; omega) (Rw_rng h) j c
  rw [h2 c hc] at h3
  constructor
  · refine Int.not_lt.mp fun z => ?_
    have : t j * F j c ≤ 1 * F j c := Int.mul_le_mul_of_nonpos_right h1 (by unfold bigT at z; omega)
    omega
  · refine Int.not_lt.mp fun z => ?_
    have : 1 * F j c ≤ t j * F j c := Int.mul_le_mul_of_nonneg_right h1 (by unfold bigT at z; omega)
    omega
end LB.K12
set_option Elab.async false
set_option linter.all false
set_option maxRecDepth 100000
set_option maxHeartbeats 4000000
namespace LB.K12
open PySem PySem.Spec PyProof.Rows L2 GL DL
open LB.K29 (cd_eq)
def accD (g : Int) : D → D
  | .tuple [.int x, .int y] => .int (x + g * y)
  | d => d
end LB.K12
set_option Elab.async false
set_option linter.all false
set_option maxRecDepth 100000
set_option maxHeartbeats 4000000
set_option pp.maxSteps 300
set_option pp.deepTerms false
namespace LB.K13
open PySem PySem.Spec PyProof.Rows L2 GL DL
noncomputable def B_split_of : Stm := (seqS (setS 1 (callP LB.K12.F_common_divisor_of_all [(rd 0)]))
    (seqS (setS 2 (gx csTup ceTup (itU (rd 0)) (tgN 3) yesM (op2 oDiv (rd 3) (rd 1)) [3]))
    (retS (tup [(rd 2), (opA oSum [(rd 2)])]))))
noncomputable def F_split_of : List D → Option (Except XV D) := runP 4 1 B_split_of
end LB.K13
set_option Elab.async false
set_option linter.all false
set_option maxRecDepth 100000
set_option maxHeartbeats 4000000
namespace LB.K13
open PySem PySem.Spec PyProof.Rows L2 GL DL
open LB.K29 (weight_eq)
open LB.K12
def wt (W : Web) (a : Nat) : Int := (rowOf W (a : Int)).sum
theorem wt_rng {W : Web} (h : WebOk W) {a : Nat} (ha : a < W.names.length) : 1 ≤ wt W a ∧ wt W a ≤ 300 := by
  have h1 := row_sum h (a := (a : Int)) (by omega) (by omega)
  have h2 := sum_rng (xs := rowOf W (a : Int)) (row_rng h _)
  rw [row_len h.fits] at h2
  have := h.many
  exact ⟨h1, by unfold wt; omega⟩
def shV (W : Web) : List Int := (List.range W.names.length).map fun a => gI (exL W).goings a * wt W a
def shG (W : Web) : Int := ((gcdL (shV W) : Nat) : Int)
def shL (W : Web) : List Int := (shV W).map fun v => v / shG W
def shT (W : Web) : Int := (shL W).sum
theorem shV_len (W : Web) : (shV W).length = W.names.length := by unfold shV; rw [List.length_map, List.length_range]
theorem shV_at {W : Web} {a : Nat} (ha : a < W.names.length) : gI (shV W) a = gI (exL W).goings a * wt W a := by
  unfold gI shV
  rw [List.getD_eq_getElem?_getD, List.getElem?_map, List.getElem?_range ha]
  rfl
def rw_ (W : Web) (a b : Nat) : Int := gI (rowOf W (a : Int)) b
theorem cf_row {W : Web} (h : WebOk W) {a b : Nat} (ha : a < W.names.length) (hb : b < W.names.length) : cf W a b = (if b = a then W.q * wt W a else 0) - (W.q - W.p) * rw_ W a b := by
  have hl := row_len h.fits (a : Int)
  unfold cf rw_ gI
  rw [List.getD_eq_getElem?_getD, col_at, List.getElem?_eq_getElem (by omega : b < (rowOf W (a : Int)).length), List.getD_eq_getElem?_getD, List.getElem?_eq_getElem (by omega : b < (rowOf W (a : Int)).length)]
  show colN W (a : Int) (b : Int) _ = _
  unfold colN wt
  by_cases e : b = a
  · subst e
    rw [if_pos rfl, if_pos rfl]
    show 0 - _ + _ = _ - _ * (rowOf W (b : Int))[b]
    omega
  · rw [if_neg (by omega), if_neg e]
    rfl
theorem flow {W : Web} (h : WebOk W) {j : Nat} (hj : j < W.names.length) : W.q * (gI (exL W).goings j * wt W j) - (W.q - W.p) * sm (fun a => gI (exL W).goings a * rw_ W a j) W.names.length = (exL W).g * gI W.leaps j := by
  have e := ex_rs h hj
  unfold rs at e
  have e1 : sm (fun a => gI (exL W).goings a * cf W a j) W.names.length = W.q * (gI (exL W).goings j * wt W j) + -(W.q - W.p) * sm (fun a => gI (exL W).goings a * rw_ W a j) W.names.length := by
    have e2 : sm (fun a => gI (exL W).goings a * cf W a j) W.names.length = sm (fun a => 1 * (if a = j then W.q * (gI (exL W).goings j * wt W j) else 0) + -(W.q - W.p) * (gI (exL W).goings a * rw_ W a j)) W.names.length := by
      refine sm_congr _ fun a ha => ?_
      rw [cf_row h ha hj]
      by_cases c : a = j
      · subst c
        rw [if_pos rfl, if_pos rfl]
        grind
      · rw [if_neg (fun z => c z.symm), if_neg c]
        grind
    rw [e2, sm_lin]
    have e3 := sm_point (f := fun _ => 0) (g := fun a => if a = j then W.q * (gI (exL W).goings j * wt W j) else 0) (a := j) (v := W.q * (gI (exL W).goings j * wt W j)) W.names.length (fun i _ hne => if_neg hne) (fun _ => by simp)
    have z : ∀ n, sm (fun _ => 0) n = 0 := fun n => by
      induction n with
      | zero => rfl
      | succ n ih => show sm _ n + 0 = 0; rw [ih]; rfl
    rw [e3, z, if_pos hj]
    omega
  rw [e1, Int.neg_mul] at e
  omega
theorem sm_swap (f : Nat → Nat → Int) : ∀ n m, sm (fun i => sm (fun j => f i j) m) n = sm (fun j => sm (fun i => f i j) n) m
  | 0, m => by
    have z : ∀ n, sm (fun _ => 0) n = 0 := fun n => by
      induction n with
      | zero => rfl
      | succ n ih => show sm _ n + 0 = 0; rw [ih]; rfl
    show 0 = sm (fun j => 0) m
    rw [z]
  | n + 1, m => by
    show sm _ n + sm (fun j => f n j) m = sm (fun j => sm (fun i => f i j) n + f n j) m
    rw [sm_add, sm_swap f n m]
theorem cf_sum {W : Web} (h : WebOk W) {a : Nat} (ha : a < W.names.length) : sm (fun b => cf W a b) W.names.length = W.p * wt W a := by
  have hl : (colOf W (a : Int)).length = W.names.length := by rw [col_len, row_len h.fits]
  have := sum_sm (colOf W (a : Int))
  rw [hl] at this
  rw [show (fun b => cf W a b) = gI (colOf W (a : Int)) from rfl, this, col_sum h (by omega) (by omega)]
  rfl
theorem leaps_sm {W : Web} (h : WebOk W) : sm (fun b => gI W.leaps b) W.names.length = W.leaps.sum := by
  have := sum_sm W.leaps
  have hl := h.leaps.len
  rw [show W.leaps.length = W.names.length by omega] at this
  exact this
theorem total {W : Web} (h : WebOk W) : W.p * sm (fun a => gI (exL W).goings a * wt W a) W.names.length = (exL W).g * W.leaps.sum := by
  have e : sm (fun b => sm (fun a => gI (exL W).goings a * cf W a b) W.names.length) W.names.length = (exL W).g * W.leaps.sum := by
    rw [← leaps_sm h, ← sm_mul]
    refine sm_congr _ fun b hb => ?_
    have := ex_rs h hb
    unfold rs at this
    omega
  rw [sm_swap] at e
  rw [← e, ← sm_mul]
  refine sm_congr _ fun a ha => ?_
  rw [sm_mul, cf_sum h ha]
  grind
theorem shV_sum {W : Web} : sm (fun a => gI (exL W).goings a * wt W a) W.names.length = (shV W).sum := by
  have := sum_sm (shV W)
  rw [shV_len] at this
  rw [← this]
  exact sm_congr _ fun a ha => (shV_at ha).symm
theorem shV_pos {W : Web} (h : WebOk W) : 0 < (shV W).sum := by
  have e := total h
  rw [shV_sum] at e
  have h1 := exL_g h
  have h2 := K29.leaps_sum h
  have h3 : 0 < (exL W).g * W.leaps.sum := Int.mul_pos (by omega) (by omega)
  have h4 := h.chance
  refine Int.not_le.mp fun z => ?_
  have : W.p * (shV W).sum ≤ 0 := Int.mul_nonpos_of_nonneg_of_nonpos (by omega) z
  omega
theorem shG_pos {W : Web} (h : WebOk W) : 0 < shG W := by
  have h1 := shV_pos h
  have : ∃ v ∈ shV W, v ≠ 0 := by
    refine Classical.byContradiction fun z => ?_
    have : ∀ v ∈ shV W, v = 0 := fun v hv => Classical.byContradiction fun q => z ⟨v, hv, q⟩
    have hz : ∀ xs : List Int, (∀ v ∈ xs, v = 0) → xs.sum = 0 := fun xs => by
      induction xs with
      | nil => intro _; rfl
      | cons x xs ih =>
        intro hx
        rw [List.sum_cons, hx x List.mem_cons_self, ih fun v hv => hx v (List.mem_cons_of_mem _ hv)]
        rfl
    rw [hz _ this] at h1
    omega
  obtain ⟨v, hv, v0⟩ := this
  exact gcdL_pos hv v0
theorem shG_dvd {W : Web} {v : Int} (hv : v ∈ shV W) : shG W ∣ v := gcdL_dvd hv
theorem sh_at {W : Web} {a : Nat} (ha : a < W.names.length) : shG W * gI (shL W) a = gI (exL W).goings a * wt W a := by
  unfold shL
  rw [gI_map _ _ (by rw [shV_len]; exact ha), Int.mul_ediv_cancel' (shG_dvd (gI_mem (by rw [shV_len]; exact ha))), shV_at ha]
theorem sum_div {g : Int} (hg : 0 < g) : ∀ {xs : List Int}, (∀ x ∈ xs, g ∣ x) → g * (xs.map fun x => x / g).sum = xs.sum
  | [], _ => by simp
  | x :: xs, h => by
    rw [List.map_cons, List.sum_cons, List.sum_cons, Int.mul_add, sum_div hg fun y hy => h y (List.mem_cons_of_mem _ hy), Int.mul_ediv_cancel' (h x List.mem_cons_self)]
theorem shT_eq {W : Web} (h : WebOk W) : shG W * shT W = (shV W).sum := sum_div (shG_pos h) fun x hx => shG_dvd hx
theorem shL_len (W : Web) : (shL W).length = W.names.length := by unfold shL; rw [List.length_map, shV_len]
theorem sum_le10 {B : Int} : ∀ {xs : List Int}, (∀ x ∈ xs, 0 ≤ x ∧ x ≤ B) → 0 ≤ xs.sum ∧ xs.sum ≤ B * xs.length
  | [], _ => by simp
  | x :: xs, h => by
    have ih := sum_le10 (B := B) (xs := xs) fun y hy => h y (List.mem_cons_of_mem _ hy)
    have := h x List.mem_cons_self
    rw [List.sum_cons, List.length_cons, Int.natCast_add, Int.mul_add]
    simp only [Int.natCast_one, Int.mul_one]
    omega
theorem split_eq {xs : List Int} (hl : xs.length ≤ 100) (hp : 0 < ((gcdL xs : Nat) : Int)) (hb : ((gcdL xs : Nat) : Int) ≤ huge) : F_split_of [.tuple (xs.map PyData.int)] = some (.ok (.tuple [.tuple ((xs.map fun v => v / ((gcdL xs : Nat) : Int)).map PyData.int), .int (xs.map fun v => v / ((gcdL xs : Nat) : Int)).sum])) := by
  have hdv : ∀ z : Int, CDivW z ((gcdL xs : Nat) : Int) := fun z => small_div hp (lt1900 (B := huge) (Int.le_refl _) (by unfold huge at *; omega))
  refine runP_of rfl ?_
  show WS B_split_of [.da (.tuple (xs.map PyData.int)), .un, .un, .un] _
  unfold B_split_of
  simp only [LB.dnS, DL.ol, DL.ow, DL.oT, DL.oI, LB.bkF, Nat.reduceAdd, Nat.reduceEqDiff, reduceIte, ol, ow, oT, oI, bkF, cda_eq (d := .tuple (xs.map PyData.int)) (xs := xs) rfl]
  (rw [then_nx]; simp only [LB.dnS, DL.ol, DL.ow, DL.oT, DL.oI, LB.bkF, Nat.reduceAdd, Nat.reduceEqDiff, reduceIte, ol, ow, oT, oI, bkF])
  refine ⟨rfl, WG_tup (divD ((gcdL xs : Nat) : Int)) (fun d hd => ?_) ?_ ?_⟩
  · obtain ⟨u, _, rfl⟩ := List.mem_map.mp hd
    simp only [LB.dlS, DL.ol, DL.ow, DL.oT, DL.oI, LB.bkF, Nat.reduceAdd, Nat.reduceEqDiff, reduceIte, ol, ow, oT, oI, bkF, div_int (hdv _), divD]
  · rw [List.length_map]
    simp
    omega
  · have e : (xs.map PyData.int).map (divD ((gcdL xs : Nat) : Int)) = (xs.map fun v => v / ((gcdL xs : Nat) : Int)).map PyData.int := by
      rw [List.map_map, List.map_map]
      rfl
    rw [List.nil_append, e]
    simp only [LB.dnS, DL.ol, DL.ow, DL.oT, DL.oI, LB.bkF, Nat.reduceAdd, Nat.reduceEqDiff, reduceIte, ol, ow, oT, oI, bkF]
    (rw [then_nx]; simp only [LB.dnS, DL.ol, DL.ow, DL.oT, DL.oI, LB.bkF, Nat.reduceAdd, Nat.reduceEqDiff, reduceIte, ol, ow, oT, oI, bkF, sum_t])
end LB.K13
set_option Elab.async false
set_option linter.all false
set_option maxRecDepth 100000
set_option maxHeartbeats 4000000
namespace LB.K13
open PySem PySem.Spec PyProof.Rows L2 GL DL
open LB.K29 (weight_eq)
open LB.K12
def p300 : Nat → Int
  | 0 => 1
  | i + 1 => p300 i * 300
theorem p300_le {W : Web} (h : WebOk W) : p300 W.names.length ≤ 5904900000000000000000000 := by
  have hM := h.many
  have : ∀ i j, i ≤ j → p300 i ≤ p300 j ∧ 1 ≤ p300 j := fun i j => by
    induction j with
    | zero => intro z; rw [show i = 0 by omega]; exact ⟨Int.le_refl _, Int.le_refl _⟩
    | succ j ih =>
      intro z
      by_cases e : i = j + 1
      · subst e
        refine ⟨Int.le_refl _, ?_⟩
        have := (ih · |>.2)
        show 1 ≤ p300 j * 300
        have hp : ∀ n, 1 ≤ p300 n := fun n => by
          induction n with
          | zero => exact Int.le_refl 1
          | succ n ih => show 1 ≤ p300 n * 300; omega
        have := hp j
        omega
      · obtain ⟨h1, h2⟩ := ih (by omega)
        show p300 i ≤ p300 j * 300 ∧ 1 ≤ p300 j * 300
        omega
  exact Int.le_trans (this W.names.length 10 hM.2).1 (by decide)
theorem rw_rng {W : Web} (h : WebOk W) (a b : Nat) : 0 ≤ rw_ W a b ∧ rw_ W a b ≤ 30 := by
  unfold rw_ gI
  rw [List.getD_eq_getElem?_getD]
  cases e : (rowOf W (a : Int))[b]? with
  | none => exact ⟨by decide, by decide⟩
  | some v => exact row_rng h (a : Int) v (List.mem_of_getElem? e)
theorem comes {W : Web} (h : WebOk W) {j : Nat} (hj : j < W.names.length) {m : Int} (hm : ∀ a, a < W.names.length → wt W a ∣ m) :
    W.q * gI (shL W) j * W.leaps.sum * m = W.p * gI W.leaps j * shT W * m + (W.q - W.p) * W.leaps.sum * sm (fun a => gI (shL W) a * rw_ W a j * (m / wt W a)) W.names.length := by
  have hG := shG_pos h
  refine Int.eq_of_mul_eq_mul_left (a := shG W) (by omega) ?_
  have e1 : shG W * sm (fun a => gI (shL W) a * rw_ W a j * (m / wt W a)) W.names.length = m * sm (fun a => gI (exL W).goings a * rw_ W a j) W.names.length := by
    rw [← sm_mul, ← sm_mul]
    refine sm_congr _ fun a ha => ?_
    have h1 := sh_at (W := W) ha
    obtain ⟨y, hy⟩ := hm a ha
    have hw := wt_rng h ha
    have ey : m / wt W a = y := by rw [hy]; exact Int.mul_ediv_cancel_left _ (by omega)
    rw [ey, hy]
    grind
  have e2 := sh_at (W := W) hj
  have e3 := shT_eq h
  have e4 := total h
  rw [shV_sum] at e4
  have e5 := flow h hj
  generalize sm (fun a => gI (shL W) a * rw_ W a j * (m / wt W a)) W.names.length = Cm at *
  generalize sm (fun a => gI (exL W).goings a * rw_ W a j) W.names.length = Rm at *
  generalize gI (shL W) j = sj at *
  generalize shT W = St at *
  generalize (shV W).sum = Sv at *
  generalize gI (exL W).goings j = xj at *
  generalize wt W j = wj at *
  generalize (exL W).g = gg at *
  generalize W.leaps.sum = Lm at *
  generalize gI W.leaps j = lj at *
  generalize shG W = Gg at *
  grind
end LB.K13
set_option Elab.async false
set_option linter.all false
set_option maxRecDepth 100000
set_option maxHeartbeats 4000000
namespace LB.K13
open PySem PySem.Spec PyProof.Rows L2 GL DL
open LB.K12
end LB.K13
set_option Elab.async false
set_option linter.all false
set_option maxRecDepth 100000
set_option maxHeartbeats 2000000
namespace DL
open PySem PySem.Spec PyProof.Rows L2 GL
def spM (K : PySem.W.Frag) (Ts : Tbs) (F : List D → Option Oc) : Sp := fun vs H Q E => ∃ (S : List Addr) (ds : List D) (c : Oc), (∀ a ∈ S, H a ≠ none) ∧ (∀ a ∈ S, Mu H a) ∧ Tabd Ts H ∧ DRs K (hide S H) vs ds ∧ F ds = some c ∧
  ∀ p H', Grow Ts H H' → H p = none → Mu H' p → OcAt K (hide (p :: S) H') H' p c → Q (.ref p) H'
section
variable {X : Cx} {Ts : Tbs} {E : EK}
def setM (i : Nat) (F : List D → Option Oc) (fs : List (Mo D)) : Stm := ex1 (args fs) fun ds ρ => match F ds with
  | some c => some (.nx, ρ.set i (.ow true c))
  | none => none
theorem ds_setM {st : Stmt} {i : Nat} {F : List D → Option Oc} {fs : List (Mo D)} {E' : XK} (h : PS X st (tAsg (tCall (spM X.K Ts F) [] E' (tA X.K Ts E (args fs))) (gName i))) : DS X Ts E st (setM i F fs) := by
  refine ps_mono h ?_
  rintro Dd σ H ⟨A, S, ρ, fl, ρ', rel, hf, dn⟩
  refine sA_step rel hf dn fun ds ρ1 vs H1 p1 dr h1 => ?_
  rw [List.append_nil]
  split at h1
  · rename_i c hF
    cases h1
    refine ⟨S, ds, c, p1.rel.dom, p1.rel.mu, p1.rel.tab, dr, hF, fun p H' g np hm oc => ?_⟩
    obtain ⟨r2, h0, no, npS, sub⟩ := p1.rel.hideGrow g np hm
    exact dn (p :: S) _ H' (r2.setOw h0 no oc) ((p1.sub rel).trans sub)
  · cases h1
def tM (K : PySem.W.Frag) (Ts : Tbs) (f : Ev → Option Oc) : TS := fun Dd σ H => ∃ (A : Act) (S : List Addr) (ρ : Ev) (c : Oc), A.OP = [] ∧ Rel K Ts A S ρ σ H ∧ f ρ = some c ∧
  ∀ p H', Grow Ts A.H0 H' → A.H0 p = none → Mu H' p → OcAt K (hide (p :: A.S0) H') H' p c → Dd.rt (.ref p) H'
abbrev DM (X : Cx) (Ts : Tbs) (sts : List Stmt) (f : Ev → Option Oc) : Prop := PSs X sts (tM X.K Ts f)
def dsp3 (k1 k2 k3 : Str) (f : Mo D) (i2 i3 : Int) : Ev → Option Oc := fun ρ => match f ρ with
  | some (.ok d, _) => some (.dK [(.inr k1, d), (.inr k2, .int i2), (.inr k3, .int i3)])
  | _ => none
theorem dm_dsp3 {st : Stmt} {k1 k2 k3 : Str} {f : Mo D} {i2 i3 : Int} (n12 : k1 ≠ k2) (n13 : k1 ≠ k3) (n23 : k2 ≠ k3) (h : PS X st (tRet (tDisp [(tC (.str k1), tE X.K Ts E f), (tC (.str k2), tC (.int i2)), (tC (.str k3), tC (.int i3))]))) : DM X Ts [st] (dsp3 k1 k2 k3 f i2 i3) := by
  refine pss_mono (pss_one h) ?_
  rintro Dd σ H ⟨A, S, ρ, c, hop, rel, hf, q⟩
  unfold dsp3 at hf
  split at hf
  · rename_i d ρ1 e1
    cases hf
    intro p hp
    obtain ⟨r2, h0, no, npS, sub⟩ := rel.hideGrow (H' := upd H p (.dK [])) (Grow.new hp) hp ⟨_, upd_same, True.intro⟩
    refine ⟨A, p :: S, ρ, .ok d, ρ1, r2, e1, (fun x hx => by cases hx), fun d' hd v H2 p2 dr => ?_⟩
    cases hd
    have hp2 : H2 p = some (.dK []) := p2.fr p _ upd_same (fun ps z => by cases z) no
    refine ⟨hp2, [(.inr k1, v), (.inr k2, .int i2), (.inr k3, .int i3)], rfl, (by show 3 ≤ 15; decide), ?_⟩
    have em : mergeK [] [((.inr k1 : Key), v), (.inr k2, .int i2), (.inr k3, .int i3)] = [(.inr k1, v), (.inr k2, .int i2), (.inr k3, .int i3)] := by
      simp [mergeK, putK, n12, n13, n23, Ne.symm n12, Ne.symm n13, Ne.symm n23]
    rw [em]
    have no2 : ¬ OwnA ρ1 σ p := fun z => no (p2.same.symm.own z)
    have r3 := p2.rel.putHid (o := .dK [(.inr k1, v), (.inr k2, .int i2), (.inr k3, .int i3)]) List.mem_cons_self no2 h0 True.intro (fun q z => by rw [hp2] at z; cases z)
    have hm : Sub (hide (p :: S) (upd H2 p (.dK [(.inr k1, v), (.inr k2, .int i2), (.inr k3, .int i3)]))) (hide (p :: A.S0) (upd H2 p (.dK [(.inr k1, v), (.inr k2, .int i2), (.inr k3, .int i3)]))) := hide_mono fun b hb => by
      rcases List.mem_cons.mp hb with z | z
      · exact z ▸ List.mem_cons_self
      · exact r2.sub b z
    have dr' : DR X.K (hide (p :: S) (upd H2 p (.dK [(.inr k1, v), (.inr k2, .int i2), (.inr k3, .int i3)]))) v d := by
      rw [hide_upd List.mem_cons_self]
      exact dr
    exact q p _ (rel_grow hop r3) h0 ⟨_, upd_same, True.intro⟩ ⟨_, upd_same, .cons ⟨rfl, dr'.sub hm⟩ (.cons ⟨rfl, .int _⟩ (.cons ⟨rfl, .int _⟩ .nil))⟩
  · cases hf
end
section
variable {P : Program} {w : World} {K : PySem.W.Frag} {mg : Str → Option Value} {base : Heap} {k : Nat} {f : Addr} {fd : FuncData} {ps : List Str} {sp : Sp} {Ts : Tbs}
def runM (n m : Nat) (B : Ev → Option Oc) (ds : List D) : Option Oc := if ds.length = m then B (ins ds n) else none
theorem fnM {x qual : Str} {params : Arguments} {body : List Stmt} {scope : Scope} {dvs : List V} {kws : List (Str × V)} {N : List Str} {B : Ev → Option Oc} (F : FunD K x qual params body scope dvs kws f fd) (Sc : FnScope N ps scope) (hps : ps.length ≤ N.length)
    (hb : ∀ (cdv : Value) (A : Around) (outer : List Env) (s : Shared) (H : Hp) (E : XK), fd.code = cdv → A.guards = some [] → Room k (A.deeper (envOfC qual scope s.heap.objs.size f cdv)) → DM (cxOf CX0 P w K mg base N qual scope f cdv A outer s H E).nox Ts body B) :
    FnG P w K mg base CX0 (k + 1) f fd ps (spM K Ts (runM N.length ps.length B)) := by
  have lenOk : ∀ vs H Q E, spM K Ts (runM N.length ps.length B) vs H Q E → vs.length = ps.length := by
    rintro vs H Q E ⟨S, ds, r, dom, hmu, tb, dr, hF, q⟩
    unfold runM at hF
    split at hF
    · rename_i h
      rw [dr.length, h]
    · cases hF
  refine okGC F Sc lenOk ?_
  rintro cdv A outer s H vs Q E hcd gd hr hsp
  have hl := lenOk _ _ _ _ hsp
  obtain ⟨S, ds, r, dom, hmu, tb, dr, hF, q⟩ := hsp
  unfold runM at hF
  split at hF
  · have rel : Rel K Ts ⟨[], S, H⟩ S (ins ds N.length) (L2.start N vs) H := rel_start dom hmu tb dr (by omega)
    exact ⟨_, hb cdv A outer s H E hcd gd hr, ⟨[], S, H⟩, S, _, r, rfl, rel, hF, q⟩
  · cases hF
end
theorem WS_setM {ρ : Ev} {i : Nat} {F : List D → Option Oc} {fs : List (Mo D)} {Q : Fl → Ev → Prop} : WS (setM i F fs) ρ Q ↔ W (args fs) ρ fun ds ρ1 => ∃ c, F ds = some c ∧ Q .nx (ρ1.set i (.ow true c)) := by
  unfold setM
  rw [WS_ex1]
  refine exists_congr fun ds => exists_congr fun ρ1 => and_congr_right fun _ => ?_
  constructor
  · rintro ⟨fl, ρ', h, n, q⟩
    split at h
    · rename_i c e
      cases h
      exact ⟨c, e, q⟩
    · cases h
  · rintro ⟨c, e, q⟩
    exact ⟨.nx, _, by rw [e], (fun x z => by cases z), q⟩
theorem runM_of {n m : Nat} {B : Ev → Option Oc} {ds : List D} {c : Oc} (hl : ds.length = m) (h : B (ins ds n) = some c) : runM n m B ds = some c := by
  unfold runM
  rw [if_pos hl]
  exact h
end DL
namespace DL
open PySem PySem.Spec PyProof.Rows L2 GL
theorem WS_putK {ρ : Ev} {i : Nat} {kf f : Mo D} {Q : Fl → Ev → Prop} : WS (putKS i kf f) ρ Q ↔ W f ρ fun d ρ1 => (oK ρ1 i).isSome = true ∧ W kf ρ1 fun dk ρ2 => ∃ l kvs, ρ2[i]? = some (.ow l (.dK kvs)) ∧ ∃ k, dK1 dk = some k ∧ kvs.length < sizeLine ∧ Q .nx (ρ2.set i (.ow l (.dK (putD kvs k d)))) := by
  unfold putKS
  rw [WS_ex1]
  refine exists_congr fun d => exists_congr fun ρ1 => and_congr_right fun _ => ?_
  constructor
  · rintro ⟨fl, ρ', h, n, q⟩
    dsimp only at h
    split at h
    · cases h
    · rename_i z e0
      refine ⟨by rw [e0]; rfl, ?_⟩
      obtain ⟨ks, ρ2, e, hw⟩ := WS_ex1.mp ⟨fl, ρ', h, n, q⟩
      refine ⟨ks, ρ2, e, ?_⟩
      obtain ⟨fl, ρ', h, n, q⟩ := hw
      dsimp only at h
      split at h
      · rename_i l kvs k e2 e3
        split at h
        · cases h
          exact ⟨l, kvs, oK_ok e2, k, e3, by assumption, q⟩
        · cases h
      · cases h
  · rintro ⟨h0, ks, ρ2, e, l, kvs, e2, k, e3, hl, q⟩
    obtain ⟨z, ez⟩ := Option.isSome_iff_exists.mp h0
    refine ⟨_, _, ?_, (by intro x z; cases z), q⟩
    dsimp only
    rw [ez]
    dsimp only
    rw [ex1_ok e]
    have : oK ρ2 i = some (l, kvs) := by unfold oK; rw [e2]
    rw [this, e3]
    simp only
    rw [if_pos hl]
end DL
set_option Elab.async false
set_option linter.all false
set_option maxRecDepth 100000
set_option maxHeartbeats 2000000
namespace DL
open PySem PySem.Spec PyProof.Rows L2 GL
theorem DRs.back {K : PySem.W.Frag} {H : Hp} : ∀ {v : List V} {d : List D} {i : Nat} {y : D}, DRs K H v d → d[i]? = some y → ∃ x, v[i]? = some x ∧ DR K H x y
  | _, _, _, _, .nil, h => by simp at h
  | _, _, 0, _, .cons q t, h => ⟨_, rfl, by simp at h; rw [← h]; exact q⟩
  | _, _, i + 1, _, .cons q t, h => by
    rw [List.getElem?_cons_succ] at h
    obtain ⟨x, h1, h2⟩ := DRs.back t h
    exact ⟨x, by rw [List.getElem?_cons_succ]; exact h1, h2⟩
theorem DRs.erase {K : PySem.W.Frag} {H : Hp} : ∀ {v : List V} {d : List D} (i : Nat), DRs K H v d → DRs K H (v.eraseIdx i) (d.eraseIdx i)
  | _, _, _, .nil => .nil
  | _, _, 0, .cons q t => t
  | _, _, i + 1, .cons q t => .cons q (DRs.erase i t)
theorem DRs.takeN {K : PySem.W.Frag} {H : Hp} : ∀ {v : List V} {d : List D} (i : Nat), DRs K H v d → DRs K H (v.take i) (d.take i)
  | _, _, _, .nil => by simp; exact .nil
  | _, _, 0, .cons q t => .nil
  | _, _, i + 1, .cons q t => .cons q (DRs.takeN i t)
theorem DRs.dropN {K : PySem.W.Frag} {H : Hp} : ∀ {v : List V} {d : List D} (i : Nat), DRs K H v d → DRs K H (v.drop i) (d.drop i)
  | _, _, _, .nil => by simp; exact .nil
  | _, _, 0, .cons q t => .cons q t
  | _, _, i + 1, .cons q t => DRs.dropN i t
section
variable {X : Cx} {Ts : Tbs} {E : EK}
def popAt (ds : List D) : D → Option (D × List D)
  | .int j => if 0 ≤ j ∧ j < 2 ^ 62 then (ds[j.toNat]?).map fun d => (d, ds.eraseIdx j.toNat) else none
  | _ => none
def popo (i : Nat) (f : Mo D) : Mo D := fun ρ => match ol ρ i with
  | none => none
  | some _ => bnd (args [f]) (fun es ρ1 => match es with
    | [j] => match ol ρ1 i with
      | none => none
      | some (l, ds) => (popAt ds j).map fun p => (.ok p.1, ρ1.set i (.ow l (.lst p.2)))
    | _ => none) ρ
theorem de_popo {e : Expr} {i : Nat} {f : Mo D} (h : PE X e (tBM X.K "list" rPopAt (tVar i) (tA X.K Ts E (args [f])))) : DE X Ts E e (popo i f) := by
  refine pe_mono h ?_
  rintro σ H Q ⟨A, S, ρ, r, ρ', rel, hf, he, k⟩
  unfold popo at hf
  split at hf
  · cases hf
  · rename_i z e0
    obtain ⟨l0, c0⟩ := z
    obtain ⟨a, xs0, s0, h0, _⟩ := rel.lst (ol_ok e0)
    refine ⟨.ref a, s0, .inl ⟨rfl, xs0, .inl (.inl h0)⟩, ?_⟩
    refine tA_step rel hf he fun es ρ1 vs H1 p1 dr e1 h1 => ?_
    cases dr with
    | nil => cases h1
    | @cons v vs j es dv b =>
      cases b with
      | cons _ _ => cases h1
      | nil =>
        simp only at h1
        split at h1
        · cases h1
        · rename_i l ds e2
          obtain ⟨p, hp, h2⟩ := Option.map_eq_some_iff.mp h1
          cases h2
          unfold popAt at hp
          split at hp
          · rename_i j
            split at hp
            · rename_i hj
              obtain ⟨d, hd, rfl⟩ := Option.map_eq_some_iff.mp hp
              obtain ⟨a', xs, s1, h1', dx⟩ := p1.rel.lst (ol_ok e2)
              rw [s0] at s1
              cases s1
              cases dv
              obtain ⟨x, hx, dxx⟩ := dx.back hd
              have p2 := p1.rel.putL (ol_ok e2) s0 h1' (dx.erase j.toNat)
              have hlen := (List.getElem?_eq_some_iff.mp hx).1
              refine ⟨a, xs, j, j.toNat, x, rfl, rfl, h1', by omega, by omega, ?_, hx, k _ rfl x _ (p1.trans p2) (dxx.sub (p2.sub p1.rel))⟩
              unfold seqIndex?
              simp only [if_neg (show ¬ j < 0 by omega)]
              rw [if_pos (by simp; omega)]
            · cases hp
          · cases hp
def insL (ds : List D) : D → D → Option (List D)
  | .int j, d => if 0 ≤ j ∧ j < 2 ^ 62 ∧ ds.length < sizeLine then some (ds.take j.toNat ++ [d] ++ ds.drop j.toNat) else none
  | _, _ => none
def insS (i : Nat) (f g : Mo D) : Stm := isOl i (ex1 (args [f, g]) fun es ρ => match es with
  | [j, d] => (chg i (fun ds => insL ds j d) ρ).map fun ρ1 => (.nx, ρ1)
  | _ => none)
theorem ds_ins {st : Stmt} {i : Nat} {f g : Mo D} (h : PS X st (tDrop (tBM X.K "list" (fun x vs H Q => ∃ (l : Addr) (xs : List V) (i : Int) (y : V), x = .ref l ∧ vs = [.int i, y] ∧ H l = some (.lst xs) ∧ xs.length < sizeLine ∧ 0 ≤ i ∧ i < 2 ^ 63 ∧
    Q .non (upd H l (.lst (xs.take i.toNat ++ [y] ++ xs.drop i.toNat)))) (tVar i) (tA X.K Ts E (args [f, g]))))) : DS X Ts E st (insS i f g) := by
  refine ps_mono h ?_
  rintro Dd σ H ⟨A, S, ρ, fl, ρ', rel, hf, dn⟩
  obtain ⟨l0, ds0, e0, hf⟩ := isOl_ok hf
  obtain ⟨a, xs0, s0, h0, _⟩ := rel.lst e0
  refine ⟨.ref a, s0, .inl ⟨rfl, xs0, .inl (.inl h0)⟩, ?_⟩
  refine sA_step rel hf dn fun es ρ1 vs H1 p1 dr h1 => ?_
  cases dr with
  | nil => cases h1
  | @cons v vs j es dv b =>
    cases b with
    | nil => cases h1
    | @cons v2 vs2 d es2 dv2 b2 =>
      cases b2 with
      | cons _ _ => cases h1
      | nil =>
        obtain ⟨ρ2, e2, h2⟩ := Option.map_eq_some_iff.mp h1
        cases h2
        obtain ⟨l, ds, ds', e1, hl, rfl⟩ := chg_ok e2
        cases j with
        | int j =>
          unfold insL at hl
          simp only at hl
          split at hl
          · rename_i hj
            cases hl
            obtain ⟨a', xs, s1, h1', dx⟩ := p1.rel.lst e1
            rw [s0] at s1
            cases s1
            cases dv
            have p2 := p1.rel.putL e1 s0 h1' (((dx.takeN j.toNat).append (.cons dv2 .nil)).append (dx.dropN j.toNat))
            exact ⟨a, xs, j, v2, rfl, rfl, h1', by rw [dx.length]; exact hj.2.2, by omega, by omega, dn S σ _ p2.rel ((p1.trans p2).sub rel)⟩
          · cases hl
        | _ => cases hl
end
end DL
set_option Elab.async false
set_option linter.all false
set_option maxRecDepth 100000
set_option maxHeartbeats 2000000
namespace DL
open PySem PySem.Spec PyProof.Rows L2 GL
abbrev T3 := Int × Int × Int
def sm3 (t : T3) : Prop := (0 ≤ t.1 ∧ t.1 < 64) ∧ (0 ≤ t.2.1 ∧ t.2.1 < 64) ∧ 0 ≤ t.2.2 ∧ t.2.2 < 64
instance (t : T3) : Decidable (sm3 t) := by unfold sm3; infer_instance
section
variable {Ts : Tbs} {K : PySem.W.Frag}
end
end DL
set_option Elab.async false
set_option linter.all false
set_option maxRecDepth 100000
set_option maxHeartbeats 4000000
namespace DL
open PySem PySem.Spec PyProof.Rows L2 GL
theorem Grow.own {Ts : Tbs} {H H1 : Hp} {p : Addr} {o : HO} (g : Grow Ts H H1) (hp : H p = none) (hn : ∀ u, H1 p = some u → ¬ Tcd u) : Grow Ts H (upd H1 p o) := by
  refine ⟨fun b u e n => ?_, fun t => (g.tab t).upd hn, fun b hb => ?_⟩
  · rw [upd_ne (ne_of_none e hp)]
    exact g.keep b u e n
  · by_cases e : b = p
    · rw [e, upd_same]
      exact fun z => by cases z
    · rw [upd_ne e]
      exact g.dom b hb
section
variable {X : Cx} {Ts : Tbs} {E : EK}
end
end DL
set_option Elab.async false
set_option linter.all false
set_option maxRecDepth 100000
set_option maxHeartbeats 2000000
namespace DL
open PySem PySem.Spec PyProof.Rows L2 GL
section
variable {X : Cx} {Ts : Tbs} {E : EK}
instance (i j : Int) : Decidable (CMulW i j) := by unfold CMulW; infer_instance
end
end DL
set_option Elab.async false
set_option linter.all false
set_option maxRecDepth 100000
set_option maxHeartbeats 4000000
set_option pp.maxSteps 300
set_option pp.deepTerms false
namespace LB.K21
open PySem PySem.Spec PyProof.Rows L2 GL DL
noncomputable def B_told_share : Stm := (retS (callP LB.K29.F_fraction [(callP LB.K29.F_told_top [(rd 0), (rd 1), (rd 2)]), (callP LB.K29.F_told_bottom [(rd 0), (rd 1)])]))
noncomputable def F_told_share : List D → Option (Except XV D) := runP 3 3 B_told_share
noncomputable def B__law_fraction : Stm := (seqS (setS 2 (callP LB.K12.F__law_common [(lst [(rd 0), (rd 1)])]))
    (retS (tup [(op2 oDiv (rd 0) (rd 2)), (op2 oDiv (rd 1) (rd 2))])))
noncomputable def F__law_fraction : List D → Option (Except XV D) := runP 3 2 B__law_fraction
noncomputable def B__law_due : Stm := (seqS (setS 3 (op2 uMul (op2 uIx (rd 1) (rt (.int 0))) (opA oSum [(op2 uIx (rd 0) (rt (.int 2)))])))
    (seqS (setS 4 (op2 uMul (op2 uMul (op2 uIx (op2 uIx (rd 0) (rt (.int 3))) (rt (.int 0))) (opA oSum [(callP LB.F__law_row [(rd 0), (rd 2)])])) (op2 uIx (op2 uIx (rd 1) (rt (.int 1))) (rd 2))))
    (seqS (setS 5 (rd 4))
    (seqS (setS 6 (rd 4))
    (seqS (forS (itU (op2 uIx (rd 1) (rt (.int 2)))) (tgN 7)
      (ifS (tst (op2 oLt (rd 7) (rt (.int 0))))
      (setS 5 (op2 uAdd (rd 5) (rd 7)))
      (setS 6 (op2 uAdd (rd 6) (rd 7)))))
    (retS (tup [(callP LB.K21.F__law_fraction [(rd 4), (rd 3)]), (tup [(callP LB.K21.F__law_fraction [(rd 5), (rd 3)]), (callP LB.K21.F__law_fraction [(rd 6), (rd 3)])])])))))))
noncomputable def F__law_due : List D → Option (Except XV D) := runP 8 3 B__law_due
end LB.K21
set_option Elab.async false
set_option linter.all false
set_option maxRecDepth 100000
set_option maxHeartbeats 4000000
set_option pp.maxSteps 300
set_option pp.deepTerms false
namespace LB.K22
open PySem PySem.Spec PyProof.Rows L2 GL DL
end LB.K22
set_option Elab.async false
set_option linter.all false
set_option maxRecDepth 100000
set_option maxHeartbeats 4000000
set_option pp.maxSteps 300
set_option pp.deepTerms false
namespace LB.K15
open PySem PySem.Spec PyProof.Rows L2 GL DL
noncomputable def B_is_split : Stm := (seqS (ifS (bor (bnot (tst (isi "tuple" (rd 1)))) (tst (op2 uNe (opA uLen [(rd 1)]) (rt (.int 2)))))
      (retS (rt (.bool false)))
      nilS)
    (seqS (asgS (rd 1) (tgT [(tgN 2), (tgN 3)]))
    (seqS (ifS (bor (bnot (tst (callP LB.F_are_wholes [(rd 0), (rd 2)]))) (bnot (tst (callP LB.F_is_whole [(rd 3)]))))
      (retS (rt (.bool false)))
      nilS)
    (seqS (ifS (bor (tst (gx csAny (fun _ => some (.bool false)) (itU (rd 2)) (tgN 4) yesM (op2 oLt (rd 4) (rt (.int 0))) [4])) (tst (op2 uNe (rd 3) (opA oSum [(rd 2)]))))
      (retS (rt (.bool false)))
      nilS)
    (retS (op2 uEq (callP LB.K12.F_common_divisor_of_all [(rd 2)]) (rt (.int 1))))))))
noncomputable def F_is_split : List D → Option (Except XV D) := runP 5 2 B_is_split
end LB.K15
set_option Elab.async false
set_option linter.all false
set_option maxRecDepth 100000
set_option maxHeartbeats 4000000
namespace LB.K15
open PySem PySem.Spec PyProof.Rows L2 GL DL
open LB.K29 (div_abs)
open LB.K13 (wt wt_rng rw_ p300 rw_rng)
def mN (W : Web) : Nat → Int
  | 0 => 1
  | i + 1 => mN W i * wt W i
theorem mN_rng {W : Web} (h : WebOk W) : ∀ i, i ≤ W.names.length → 1 ≤ mN W i ∧ mN W i ≤ p300 i ∧ ∀ a, a < i → wt W a ∣ mN W i
  | 0, _ => ⟨Int.le_refl _, Int.le_refl _, fun _ z => by omega⟩
  | i + 1, hi => by
    obtain ⟨h1, h2, h3⟩ := mN_rng h i (by omega)
    have hw := wt_rng h (a := i) (by omega)
    refine ⟨?_, Int.mul_le_mul h2 hw.2 (by omega) (by omega), fun a ha => ?_⟩
    · have := Int.mul_le_mul h1 hw.1 (by decide) (by omega)
      show 1 ≤ mN W i * wt W i
      omega
    · by_cases e : a = i
      · subst e
        exact Int.dvd_mul_left _ _
      · exact Int.dvd_mul_of_dvd_left (h3 a (by omega))
def mW (W : Web) : Int := mN W W.names.length
def cmL (W : Web) (xs : List Int) (i : Nat) (k : Nat) : List Int := (List.range W.names.length).map fun b => sm (fun a => gI xs a * (mW W / wt W a) * rw_ W a b) i + if b < k then gI xs i * (mW W / wt W i) * rw_ W i b else 0
theorem cm_at {W : Web} {xs : List Int} {i k b : Nat} (hb : b < W.names.length) : gI (cmL W xs i k) b = sm (fun a => gI xs a * (mW W / wt W a) * rw_ W a b) i + if b < k then gI xs i * (mW W / wt W i) * rw_ W i b else 0 := by
  unfold gI cmL
  rw [List.getD_eq_getElem?_getD, List.getElem?_map, List.getElem?_range hb]
  rfl
theorem pow83 {W : Web} (h : WebOk W) : mW W ≤ 5904900000000000000000000 := Int.le_trans (mN_rng h _ (Nat.le_refl _)).2.1 (LB.K13.p300_le h)
end LB.K15
set_option Elab.async false
set_option linter.all false
set_option maxRecDepth 100000
set_option maxHeartbeats 4000000
namespace LB.K15
open PySem PySem.Spec PyProof.Rows L2 GL DL
open LB.K29 (div_abs leaps_sum)
open LB.K13 (wt wt_rng rw_ p300 rw_rng)
open LB.K12 (cda_eq divD)
def norm (ys : List Int) : List Int := ys.map fun v => v / ((gcdL ys : Nat) : Int)
def spD (xs : List Int) : D := .tuple [.tuple (xs.map PyData.int), .int xs.sum]
def Bg : Int := 2 ^ 1400
theorem Bg_pos : 0 < Bg := by unfold Bg; exact Int.pow_pos (by decide)
theorem lt_B {x K : Int} (h : -(K * Bg) ≤ x ∧ x ≤ K * Bg) (hK : K ≤ 2 ^ 400 := by decide) : x.natAbs < 2 ^ 1900 := by
  have h1 : K * Bg ≤ 2 ^ 400 * Bg := Int.mul_le_mul_of_nonneg_right hK (Int.le_of_lt Bg_pos)
  have h2 : (2 : Int) ^ 400 * Bg = ((2 ^ 1800 : Nat) : Int) := by
    unfold Bg
    rw [← Int.pow_add]
    norm_cast
  have h3 : x.natAbs ≤ 2 ^ 1800 := by omega
  exact Nat.lt_of_le_of_lt h3 (Nat.pow_lt_pow_right (by decide) (by decide))
structure Sp (W : Web) (xs : List Int) : Prop where
  len : xs.length = W.names.length
  nn : ∀ x ∈ xs, 0 ≤ x
  pos : 0 < xs.sum
  lt : xs.sum ≤ Bg
theorem Sp.le {W : Web} {xs : List Int} (s : Sp W xs) : ∀ x ∈ xs, 0 ≤ x ∧ x ≤ xs.sum := fun x hx => ⟨s.nn x hx, le_sum s.nn hx⟩
def rnL (W : Web) (xs : List Int) : List Int := (List.range W.names.length).map fun b => W.p * xs.sum * mW W * gI W.leaps b + (W.q - W.p) * W.leaps.sum * gI (cmL W xs W.names.length 0) b
def m83 : Int := 5904900000000000000000000
theorem cm_rng {W : Web} (h : WebOk W) {xs : List Int} (s : Sp W xs) {b : Nat} (hb : b < W.names.length) : 0 ≤ gI (cmL W xs W.names.length 0) b ∧ gI (cmL W xs W.names.length 0) b ≤ 300 * m83 * Bg := by
  have hM := h.many
  have hm := (mN_rng h W.names.length (Nat.le_refl _))
  have hm83 := pow83 h
  rw [cm_at hb, if_neg (by omega), Int.add_zero]
  have B0 := Bg_pos
  have hsb := s.lt
  have each : ∀ a, a < W.names.length → 0 ≤ gI xs a * (mW W / wt W a) * rw_ W a b ∧ gI xs a * (mW W / wt W a) * rw_ W a b ≤ Bg * m83 * 30 := fun a ha => by
    have hx := s.le _ (gI_mem (xs := xs) (i := a) (by rw [s.len]; exact ha))
    have hw := wt_rng h ha
    have hr := rw_rng h a b
    have hq := div_abs (t := mW W) (b := wt W a) (B := m83) (by omega) (by unfold mW m83 at *; omega)
    have hq0 : 0 ≤ mW W / wt W a := Int.ediv_nonneg (by unfold mW; omega) (by omega)
    have h1 := abs_mul_le (a := gI xs a) (c := mW W / wt W a) (G := Bg) (B := m83) (by omega) hq
    have h2 := abs_mul_le (c := rw_ W a b) (B := 30) h1 (by omega)
    exact ⟨Int.mul_nonneg (Int.mul_nonneg hx.1 hq0) hr.1, h2.2⟩
  have h1 := sm_abs (f := fun a => gI xs a * (mW W / wt W a) * rw_ W a b) (B := Bg * m83 * 30) W.names.length (fun a ha => by have := each a ha; omega)
  have h3 : 0 ≤ sm (fun a => gI xs a * (mW W / wt W a) * rw_ W a b) W.names.length := by
    have : ∀ n, n ≤ W.names.length → 0 ≤ sm (fun a => gI xs a * (mW W / wt W a) * rw_ W a b) n := fun n => by
      induction n with
      | zero => intro _; exact Int.le_refl 0
      | succ n ih =>
        intro hn
        have h7 := ih (by omega)
        have h8 := (each n (by omega)).1
        exact Int.add_nonneg h7 h8
    exact this _ (Nat.le_refl _)
  have h4 : ((W.names.length : Nat) : Int) * (Bg * m83 * 30) ≤ 10 * (Bg * m83 * 30) := Int.mul_le_mul_of_nonneg_right (by omega) (by unfold m83; omega)
  have h5 : 10 * (Bg * m83 * 30) = 300 * m83 * Bg := by unfold m83; omega
  exact ⟨h3, by omega⟩
theorem rn_rng {W : Web} (h : WebOk W) {xs : List Int} (s : Sp W xs) : ∀ v ∈ rnL W xs, 0 ≤ v ∧ v ≤ 10000000 * m83 * Bg := fun v hv => by
  obtain ⟨b, hb, rfl⟩ := List.mem_map.mp hv
  have hb := List.mem_range.mp hb
  have hc := cm_rng h s hb
  have hl := LB.K29.leap_at h hb
  have hL := leaps_sum h
  have hch := h.chance
  have hm := (mN_rng h W.names.length (Nat.le_refl _))
  have hm83 := pow83 h
  have B0 := Bg_pos
  have hT := s.pos
  have hTB := s.lt
  have a1 := abs_mul_le (a := W.p) (c := xs.sum) (G := 12) (B := Bg) (by omega) (by omega)
  have a2 := abs_mul_le (c := mW W) (B := m83) a1 (by unfold mW m83 at *; omega)
  have a3 := abs_mul_le (c := gI W.leaps b) (B := 30) a2 (by omega)
  have b1 := abs_mul_le (a := W.q - W.p) (c := W.leaps.sum) (G := 12) (B := 300) (by omega) (by omega)
  have b2 := abs_mul_le (c := gI (cmL W xs W.names.length 0) b) (B := 300 * m83 * Bg) b1 (by omega)
  have c1 := Int.mul_nonneg (Int.mul_nonneg (Int.mul_nonneg (show 0 ≤ W.p by omega) (show 0 ≤ xs.sum by omega)) (show 0 ≤ mW W by unfold mW; omega)) hl.1
  have c2 := Int.mul_nonneg (Int.mul_nonneg (show 0 ≤ W.q - W.p by omega) (show 0 ≤ W.leaps.sum by omega)) hc.1
  have e1 : 12 * Bg * m83 * 30 = 360 * m83 * Bg := by unfold m83; omega
  have e2 : 12 * 300 * (300 * m83 * Bg) = 1080000 * m83 * Bg := by unfold m83; omega
  have e3 : 360 * m83 * Bg + 1080000 * m83 * Bg ≤ 10000000 * m83 * Bg := by unfold m83; omega
  refine ⟨by omega, by omega⟩
theorem rn_len (W : Web) (xs : List Int) : (rnL W xs).length = W.names.length := by unfold rnL; rw [List.length_map, List.length_range]
theorem rn_some {W : Web} (h : WebOk W) {xs : List Int} (s : Sp W xs) : ∃ v ∈ rnL W xs, v ≠ 0 := by
  obtain ⟨l, hl, l0⟩ := h.leaps.pos
  obtain ⟨b, hb⟩ := List.mem_iff_getElem?.mp hl
  have hll : W.leaps.length = W.names.length := by have := h.leaps.len; omega
  have hb2 : b < W.names.length := by have := (List.getElem?_eq_some_iff.mp hb).1; omega
  have hg : gI W.leaps b = l := by unfold gI; rw [List.getD_eq_getElem?_getD, hb]; rfl
  refine ⟨_, List.mem_map.mpr ⟨b, List.mem_range.mpr hb2, rfl⟩, ?_⟩
  have hc := cm_rng h s hb2
  have hL := leaps_sum h
  have hch := h.chance
  have hm := (mN_rng h W.names.length (Nat.le_refl _))
  have hT := s.pos
  rw [hg]
  have c1 : 0 < W.p * xs.sum * mW W * l := Int.mul_pos (Int.mul_pos (Int.mul_pos (by omega) hT) (by unfold mW; omega)) l0
  have c2 := Int.mul_nonneg (Int.mul_nonneg (show 0 ≤ W.q - W.p by omega) (show 0 ≤ W.leaps.sum by omega)) hc.1
  omega
theorem rn_gcd {W : Web} (h : WebOk W) {xs : List Int} (s : Sp W xs) : 0 < ((gcdL (rnL W xs) : Nat) : Int) ∧ gcdL (rnL W xs) < 2 ^ 1900 := by
  obtain ⟨v, hv, v0⟩ := rn_some h s
  have h1 := gcdL_pos hv v0
  refine ⟨h1, ?_⟩
  have h2 := rn_rng h s v hv
  have h3 := Int.le_of_dvd (by omega) (gcdL_dvd hv)
  have := lt_B (x := v) (K := 10000000 * m83) (by omega)
  omega
end LB.K15
set_option Elab.async false
set_option linter.all false
set_option maxRecDepth 100000
set_option maxHeartbeats 4000000
namespace LB.K15
open PySem PySem.Spec PyProof.Rows L2 GL DL
open LB.K29 (leaps_sum)
open LB.K13 (wt wt_rng rw_ rw_rng sm_swap leaps_sm)
open LB.K12 (sm_mul)
theorem rn_at {W : Web} {xs : List Int} {b : Nat} (hb : b < W.names.length) : gI (rnL W xs) b = W.p * xs.sum * mW W * gI W.leaps b + (W.q - W.p) * W.leaps.sum * sm (fun a => gI xs a * (mW W / wt W a) * rw_ W a b) W.names.length := by
  unfold gI rnL
  rw [List.getD_eq_getElem?_getD, List.getElem?_map, List.getElem?_range hb]
  show _ + _ * gI (cmL W xs W.names.length 0) b = _
  rw [cm_at hb, if_neg (by omega), Int.add_zero]
  rfl
theorem row_sm {W : Web} (h : WebOk W) (a : Nat) : sm (fun b => rw_ W a b) W.names.length = wt W a := by
  have := sum_sm (rowOf W (a : Int))
  rw [row_len h.fits] at this
  exact this
theorem m_wt {W : Web} (h : WebOk W) {a : Nat} (ha : a < W.names.length) : mW W / wt W a * wt W a = mW W := by
  obtain ⟨y, hy⟩ := (mN_rng h W.names.length (Nat.le_refl _)).2.2 a ha
  have hw := wt_rng h ha
  unfold mW
  rw [hy, Int.mul_ediv_cancel_left _ (by omega), Int.mul_comm]
theorem come_total {W : Web} (h : WebOk W) (x : Nat → Int) : sm (fun b => sm (fun a => x a * (mW W / wt W a) * rw_ W a b) W.names.length) W.names.length = mW W * sm x W.names.length := by
  rw [sm_swap, ← sm_mul]
  refine sm_congr _ fun a ha => ?_
  rw [sm_mul, row_sm h, Int.mul_assoc, m_wt h ha, Int.mul_comm]
theorem rn_total {W : Web} (h : WebOk W) {xs : List Int} (hl : xs.length = W.names.length) : (rnL W xs).sum = W.q * mW W * W.leaps.sum * xs.sum := by
  have e1 := sum_sm (rnL W xs)
  rw [rn_len] at e1
  have e2 := sum_sm xs
  rw [hl] at e2
  rw [← e1, sm_congr (g := fun b => W.p * xs.sum * mW W * gI W.leaps b + (W.q - W.p) * W.leaps.sum * sm (fun a => gI xs a * (mW W / wt W a) * rw_ W a b) W.names.length) _ fun b hb => rn_at hb, sm_lin, leaps_sm h, come_total h (fun a => gI xs a), e2]
  grind
theorem sm_tri (f : Nat → Int) : ∀ n, ((sm f n).natAbs : Int) ≤ sm (fun i => ((f i).natAbs : Int)) n
  | 0 => Int.le_refl _
  | n + 1 => by
    have := sm_tri f n
    show ((sm f n + f n).natAbs : Int) ≤ sm (fun i => ((f i).natAbs : Int)) n + ((f n).natAbs : Int)
    omega
theorem sm_mono {f g : Nat → Int} : ∀ n, (∀ i, i < n → f i ≤ g i) → sm f n ≤ sm g n
  | 0, _ => Int.le_refl _
  | n + 1, h => by
    have h1 := sm_mono n fun i hi => h i (by omega)
    have h2 := h n (by omega)
    exact Int.add_le_add h1 h2
theorem nearer {W : Web} (h : WebOk W) {xs ys : List Int} (hx : xs.length = W.names.length) (hy : ys.length = W.names.length) :
    sm (fun b => ((gI (rnL W xs) b * ys.sum - gI (rnL W ys) b * xs.sum).natAbs : Int)) W.names.length ≤ (W.q - W.p) * W.leaps.sum * mW W * sm (fun a => ((gI xs a * ys.sum - gI ys a * xs.sum).natAbs : Int)) W.names.length := by
  have hL := leaps_sum h
  have hch := h.chance
  have hm := (mN_rng h W.names.length (Nat.le_refl _)).1
  have hk : 0 ≤ (W.q - W.p) * W.leaps.sum := Int.mul_nonneg (by omega) (by omega)
  have e : ∀ b, b < W.names.length → ((gI (rnL W xs) b * ys.sum - gI (rnL W ys) b * xs.sum).natAbs : Int) ≤ (W.q - W.p) * W.leaps.sum * sm (fun a => ((gI xs a * ys.sum - gI ys a * xs.sum).natAbs : Int) * (mW W / wt W a) * rw_ W a b) W.names.length := fun b hb => by
    rw [rn_at hb, rn_at hb]
    have e1 : (W.p * xs.sum * mW W * gI W.leaps b + (W.q - W.p) * W.leaps.sum * sm (fun a => gI xs a * (mW W / wt W a) * rw_ W a b) W.names.length) * ys.sum - (W.p * ys.sum * mW W * gI W.leaps b + (W.q - W.p) * W.leaps.sum * sm (fun a => gI ys a * (mW W / wt W a) * rw_ W a b) W.names.length) * xs.sum = (W.q - W.p) * W.leaps.sum * sm (fun a => (gI xs a * ys.sum - gI ys a * xs.sum) * (mW W / wt W a) * rw_ W a b) W.names.length := by
      have e2 : sm (fun a => (gI xs a * ys.sum - gI ys a * xs.sum) * (mW W / wt W a) * rw_ W a b) W.names.length = ys.sum * sm (fun a => gI xs a * (mW W / wt W a) * rw_ W a b) W.names.length + -xs.sum * sm (fun a => gI ys a * (mW W / wt W a) * rw_ W a b) W.names.length := by
        rw [← sm_lin]
        refine sm_congr _ fun a _ => ?_
        generalize mW W / wt W a = z
        grind
      rw [e2]
      generalize sm (fun a => gI xs a * (mW W / wt W a) * rw_ W a b) W.names.length = A
      generalize sm (fun a => gI ys a * (mW W / wt W a) * rw_ W a b) W.names.length = B
      grind
    rw [e1, Int.natAbs_mul, Int.natCast_mul, show ((((W.q - W.p) * W.leaps.sum).natAbs : Nat) : Int) = (W.q - W.p) * W.leaps.sum by omega]
    refine Int.mul_le_mul_of_nonneg_left (Int.le_trans (sm_tri _ _) (sm_mono _ fun a ha => ?_)) hk
    have hw := wt_rng h ha
    have hr := rw_rng h a b
    have hq : 0 ≤ mW W / wt W a := Int.ediv_nonneg (by unfold mW; omega) (by omega)
    rw [Int.natAbs_mul, Int.natAbs_mul, Int.natCast_mul, Int.natCast_mul, show (((mW W / wt W a).natAbs : Nat) : Int) = mW W / wt W a by omega, show (((rw_ W a b).natAbs : Nat) : Int) = rw_ W a b by omega]
    exact Int.le_refl _
  refine Int.le_trans (sm_mono _ e) ?_
  rw [sm_mul, come_total h (fun a => ((gI xs a * ys.sum - gI ys a * xs.sum).natAbs : Int)), Int.mul_assoc ((W.q - W.p) * W.leaps.sum)]
  exact Int.le_refl _
end LB.K15
set_option Elab.async false
set_option linter.all false
set_option maxRecDepth 100000
set_option maxHeartbeats 4000000
namespace LB.K21
open PySem PySem.Spec PyProof.Rows L2 GL DL
open LB.K29 (weight_eq gcd_pos top_eq bot_eq ends_eq frac_eq topOf botOf fracD negS posS leaps_sum div_abs)
open LB.K12 (common_eq exL exL_g)
def big5 : Int := 5000000000000000000000000000000000000000000000000000000000000000
theorem restN_rng5 {W : Web} (h : WebOk W) {g : Int} {goings : List Int} (hg : -big5 ≤ g ∧ g ≤ big5) (hG : ∀ x ∈ goings, -big5 ≤ x ∧ x ≤ big5) : ∀ i, ∀ x ∈ restN W g goings i, -(big5 * 100000 * (i + 1)) ≤ x ∧ x ≤ big5 * 100000 * (i + 1)
  | 0, x, hx => by
    obtain ⟨l, hl, rfl⟩ := List.mem_map.mp hx
    have h1 := h.leaps.rng l hl
    have h2 := abs_mul_le hg (c := l) (B := 30) (by omega)
    unfold big5 at h2 ⊢
    omega
  | i + 1, x, hx => by
    obtain ⟨n, hn, c, hc, rfl⟩ := zw_mem hx
    have h1 := restN_rng5 h hg hG i n hn
    have h2 := col_rng h i c hc
    have h3 : -big5 ≤ goings.getD i 0 ∧ goings.getD i 0 ≤ big5 := by
      rw [List.getD_eq_getElem?_getD]
      cases e : goings[i]? with
      | none => exact ⟨by decide, by decide⟩
      | some v => exact hG v (List.mem_of_getElem? e)
    have h4 := abs_mul_le h3 (c := c) (B := 100000) (by omega)
    unfold big5 at h1 h4 ⊢
    omega
structure G5 (W : Web) (L : Lot) : Prop where
  g : 1 ≤ L.g ∧ L.g ≤ big5
  goings : ∀ x ∈ L.goings, -big5 ≤ x ∧ x ≤ big5
  len : L.goings.length = W.names.length
  rest : L.rest = lotRest W L.g L.goings
def big6 : Int := big5 * 1100000
theorem G5.bd {W : Web} {L : Lot} (h : WebOk W) (p : G5 W L) : Bd big6 L := by
  have hM := h.many
  have hg := p.g
  have hl := p.len
  refine ⟨?_, fun x hx => ?_, fun x hx => ?_, by omega, by rw [p.rest, lotRest_len h]; omega⟩
  · unfold big6 big5 at *
    omega
  · have := p.goings x hx
    unfold big6 big5 at *
    omega
  · rw [p.rest] at hx
    have := restN_rng5 h (g := L.g) (goings := L.goings) (by unfold big5 at *; omega) p.goings L.goings.length x hx
    unfold big6 big5 at *
    omega
theorem big6_le : big6 ≤ huge := by decide
theorem lt_of {x : Int} (h : -big6 ≤ x ∧ x ≤ big6) : x.natAbs < 2 ^ 1900 := lt1900 big6_le h
theorem gcd2 (t b : Int) : gcdL [t, b] = Int.gcd t b := by
  show Int.gcd ((Int.gcd ((0 : Nat) : Int) t : Nat) : Int) b = Int.gcd t b
  rw [show ((0 : Nat) : Int) = 0 from rfl, Int.zero_gcd]
  unfold Int.gcd
  simp
theorem lfrac_eq {t b : Int} (hb : 0 < b) (h1 : b.natAbs < 2 ^ 1900) : F__law_fraction [.int t, .int b] = some (.ok (fracD t b)) := by
  have hg := gcd_pos (a := t) hb
  have hle : ((Int.gcd t b : Nat) : Int) ≤ b := Int.le_of_dvd hb (Int.gcd_dvd_right t b)
  have hc : ∀ z : Int, CDivW z ((Int.gcd t b : Nat) : Int) := fun z => small_div hg (Nat.lt_of_le_of_lt (by omega) h1)
  have c2 := common_eq (d := .list [.int t, .int b]) (xs := [t, b]) rfl
  rw [gcd2] at c2
  refine runP_of rfl ?_
  show WS B__law_fraction [.da (.int t), .da (.int b), .un] _
  unfold B__law_fraction
  simp only [LB.dlS, DL.ol, DL.ow, DL.oT, DL.oI, LB.bkF, Nat.reduceAdd, Nat.reduceEqDiff, reduceIte, ol, ow, oT, oI, bkF, c2, div_int (hc t), div_int (hc b)]
  rfl
theorem told_eq {W : Web} (h : WebOk W) {L : Lot} (hl : L.goings.length = W.names.length) (hG : ∀ x ∈ L.goings, x.natAbs < 2 ^ 1900) (hg : L.g.natAbs < 2 ^ 1900) (hb0 : 0 < botOf W L) (hb : (botOf W L).natAbs < 2 ^ 1900) {a : Int} (a0 : 0 ≤ a) (a1 : a < W.names.length) : F_told_share [webD W, lotD L, .int a] = some (.ok (fracD (topOf W L a) (botOf W L))) := by
  refine runP_of rfl ?_
  show WS B_told_share [.da (webD W), .da (lotD L), .da (.int a)] _
  unfold B_told_share
  simp only [LB.dlS, DL.ol, DL.ow, DL.oT, DL.oI, LB.bkF, Nat.reduceAdd, Nat.reduceEqDiff, reduceIte, ol, ow, oT, oI, bkF, top_eq h hl hG a0 a1, bot_eq h hg, frac_eq hb0 hb]
  rfl
theorem neg_add (x : Int) (xs : List Int) : negS (xs ++ [x]) = negS xs + if x < 0 then x else 0 := by
  unfold negS
  rw [List.filter_append, List.sum_append, List.filter_cons]
  by_cases c : x < 0
  · rw [if_pos (decide_eq_true c), if_pos c]; simp
  · rw [if_neg (fun z => c (of_decide_eq_true z)), if_neg c]; simp
theorem pos_add (x : Int) (xs : List Int) : posS (xs ++ [x]) = posS xs + if x < 0 then 0 else x := by
  unfold posS
  rw [List.filter_append, List.sum_append, List.filter_cons]
  by_cases c : x < 0
  · rw [if_neg (fun z => absurd (of_decide_eq_true z) (by omega)), if_pos c]; simp
  · rw [if_neg c]
    by_cases c2 : 0 < x
    · rw [if_pos (decide_eq_true c2)]; simp
    · rw [if_neg (fun z => c2 (of_decide_eq_true z)), show x = 0 by omega]; simp
theorem due_eq {W : Web} (h : WebOk W) {L : Lot} (hl : L.goings.length = W.names.length) (hG : ∀ x ∈ L.goings, x.natAbs < 2 ^ 1900) (hg : L.g.natAbs < 2 ^ 1900) (hb0 : 0 < botOf W L) (hb : (botOf W L).natAbs < 2 ^ 1900) {a : Int} (a0 : 0 ≤ a) (a1 : a < W.names.length) :
    F__law_due [webD W, lotD L, .int a] = some (.ok (.tuple [fracD (topOf W L a) (botOf W L), .tuple [fracD (topOf W L a + negS L.rest) (botOf W L), fracD (topOf W L a + posS L.rest) (botOf W L)]])) := by
  have hc := h.chance
  have hM := h.many
  have hll := leaps_sum h
  have hr := row_rng h a
  have hs := sum_rng (xs := rowOf W a) hr
  have hl2 := row_len h.fits a
  rw [hl2] at hs
  have hp := abs_mul_le (a := W.p) (c := (rowOf W a).sum) (G := 12) (B := 300) (by omega) (by omega)
  refine runP_of rfl ?_
  show WS B__law_due [.da (webD W), .da (lotD L), .da (.int a), .un, .un, .un, .un, .un] _
  unfold B__law_due
  have eb : L.g * W.leaps.sum = botOf W L := rfl
  have et : W.p * (rowOf W a).sum * atR L.goings a = topOf W L a := rfl
  simp only [LB.dnS, DL.ol, DL.ow, DL.oT, DL.oI, LB.bkF, Nat.reduceAdd, Nat.reduceEqDiff, reduceIte, ol, ow, oT, oI, bkF, lot0, web2, sum_t, mul_int (wide_mul (i := L.g) (j := W.leaps.sum) hg (small_1900 (by omega))), eb]
  (rw [then_nx]; simp only [LB.dnS, DL.ol, DL.ow, DL.oT, DL.oI, LB.bkF, Nat.reduceAdd, Nat.reduceEqDiff, reduceIte, ol, ow, oT, oI, bkF, web3, chance0, lrow_eq h.fits a0 a1, sum_l, mul_int (small_mul (i := W.p) (j := (rowOf W a).sum) (by omega) (by omega)), lot1, ix_t (at_ints (ns := L.goings) a0 (by omega)), mul_int (wide_mul (i := W.p * (rowOf W a).sum) (j := atR L.goings a) (small_1900 (by omega)) (hG _ (rest_at (xs := L.goings) a0 (by omega)).2)), et])
  (rw [then_nx]; simp only [LB.dnS, DL.ol, DL.ow, DL.oT, DL.oI, LB.bkF, Nat.reduceAdd, Nat.reduceEqDiff, reduceIte, ol, ow, oT, oI, bkF])
  (rw [then_nx]; simp only [LB.dnS, DL.ol, DL.ow, DL.oT, DL.oI, LB.bkF, Nat.reduceAdd, Nat.reduceEqDiff, reduceIte, ol, ow, oT, oI, bkF])
  (rw [then_nx]; simp only [LB.dnS, DL.ol, DL.ow, DL.oT, DL.oI, LB.bkF, Nat.reduceAdd, Nat.reduceEqDiff, reduceIte, ol, ow, oT, oI, bkF, lot2])
  refine WS_loop0 (fun i ρ => ∃ s7, ρ = [.da (webD W), .da (lotD L), .da (.int a), .da (.int (botOf W L)), .da (.int (topOf W L a)), .da (.int (topOf W L a + negS (L.rest.take i))), .da (.int (topOf W L a + posS (L.rest.take i))), s7]) ⟨_, by rw [List.take_zero, show negS [] = 0 from rfl, show posS [] = 0 from rfl, Int.add_zero]⟩ ?_ ?_
  · rintro i d ρ hd ⟨s7, rfl⟩
    rw [List.getElem?_map] at hd
    obtain ⟨x, hx, rfl⟩ := Option.map_eq_some_iff.mp hd
    rw [List.take_add_one, hx, Option.toList_some, neg_add, pos_add]
    rw [tgN_eq]
    refine ⟨_, rfl, ?_⟩
    by_cases c : x < 0
    · rw [if_pos c, if_pos c, ← Int.add_assoc, Int.add_zero]
      simp only [LB.dnS, DL.ol, DL.ow, DL.oT, DL.oI, LB.bkF, Nat.reduceAdd, Nat.reduceEqDiff, reduceIte, ol, ow, oT, oI, bkF, decide_eq_true c, add_int]
      exact ⟨_, rfl⟩
    · rw [if_neg c, if_neg c, Int.add_zero, ← Int.add_assoc]
      simp only [LB.dnS, DL.ol, DL.ow, DL.oT, DL.oI, LB.bkF, Nat.reduceAdd, Nat.reduceEqDiff, reduceIte, ol, ow, oT, oI, bkF, decide_eq_false c, add_int]
      exact ⟨_, rfl⟩
  · rintro ρ ⟨s7, rfl⟩
    rw [List.length_map, List.take_length]
    (rw [then_nx]; simp only [LB.dnS, DL.ol, DL.ow, DL.oT, DL.oI, LB.bkF, Nat.reduceAdd, Nat.reduceEqDiff, reduceIte, ol, ow, oT, oI, bkF, lfrac_eq hb0 hb])
end LB.K21
set_option Elab.async false
set_option linter.all false
set_option maxRecDepth 100000
set_option maxHeartbeats 4000000
namespace LB.K15
open PySem PySem.Spec PyProof.Rows L2 GL DL
open LB.K29 (leaps_sum frac_eq fracD)
open LB.K12 (cda_eq)
structure Sm2 (xs : List Int) : Prop where
  len : xs.length ≤ 10
  nn : ∀ x ∈ xs, 0 ≤ x
  pos : 0 < xs.sum
  lt : xs.sum.natAbs < 2 ^ 900
theorem Sm2.at {xs : List Int} (s : Sm2 xs) : ∀ x ∈ xs, x.natAbs < 2 ^ 900 := fun x hx => by
  have h1 := s.nn x hx
  have h2 := le_sum s.nn hx
  have h3 := s.lt
  omega
end LB.K15
set_option Elab.async false
set_option linter.all false
set_option maxRecDepth 100000
set_option maxHeartbeats 4000000
namespace LB.K15
open PySem PySem.Spec PyProof.Rows L2 GL DL
open LB.K29 (leaps_sum)
open LB.K13 (wt wt_rng rw_ rw_rng shL shT shL_len comes)
def kW (W : Web) : Int := W.q * mW W * W.leaps.sum
theorem kW_pos {W : Web} (h : WebOk W) : 0 < kW W := by
  have hL := leaps_sum h
  have hch := h.chance
  have hm := (mN_rng h W.names.length (Nat.le_refl _)).1
  exact Int.mul_pos (Int.mul_pos (by omega) (by unfold mW; omega)) (by omega)
theorem rn_shares {W : Web} (h : WebOk W) {j : Nat} (hj : j < W.names.length) : gI (rnL W (shL W)) j = kW W * gI (shL W) j := by
  have e := comes h hj (m := mW W) (mN_rng h W.names.length (Nat.le_refl _)).2.2
  rw [rn_at hj]
  have e2 : sm (fun a => gI (shL W) a * (mW W / wt W a) * rw_ W a j) W.names.length = sm (fun a => gI (shL W) a * rw_ W a j * (mW W / wt W a)) W.names.length := sm_congr _ fun a _ => by rw [Int.mul_right_comm]
  rw [e2]
  have e3 : (shL W).sum = shT W := rfl
  rw [e3]
  unfold kW
  generalize sm (fun a => gI (shL W) a * rw_ W a j * (mW W / wt W a)) W.names.length = A at *
  grind
theorem stays_one {W : Web} (h : WebOk W) {xs ys : List Int} (hx : xs.length = W.names.length) (hy : ys.length = W.names.length) (ex : ∀ b, b < W.names.length → gI (rnL W xs) b = kW W * gI xs b) (ey : ∀ b, b < W.names.length → gI (rnL W ys) b = kW W * gI ys b) :
    ∀ b, b < W.names.length → gI xs b * ys.sum = gI ys b * xs.sum := by
  have hn := nearer h hx hy
  have hL := leaps_sum h
  have hch := h.chance
  have hm := (mN_rng h W.names.length (Nat.le_refl _)).1
  have hk := kW_pos h
  have e1 : sm (fun b => ((gI (rnL W xs) b * ys.sum - gI (rnL W ys) b * xs.sum).natAbs : Int)) W.names.length = kW W * sm (fun b => ((gI xs b * ys.sum - gI ys b * xs.sum).natAbs : Int)) W.names.length := by
    rw [← LB.K12.sm_mul]
    refine sm_congr _ fun b hb => ?_
    rw [ex b hb, ey b hb, Int.mul_assoc, Int.mul_assoc, ← Int.mul_sub, Int.natAbs_mul, Int.natCast_mul, show (((kW W).natAbs : Nat) : Int) = kW W by omega]
  rw [e1] at hn
  have h0 : 0 ≤ sm (fun b => ((gI xs b * ys.sum - gI ys b * xs.sum).natAbs : Int)) W.names.length := by
    have : ∀ n, 0 ≤ sm (fun b => ((gI xs b * ys.sum - gI ys b * xs.sum).natAbs : Int)) n := fun n => by
      induction n with
      | zero => exact Int.le_refl 0
      | succ n ih => exact Int.add_nonneg ih (Int.natCast_nonneg _)
    exact this _
  have hz : sm (fun b => ((gI xs b * ys.sum - gI ys b * xs.sum).natAbs : Int)) W.names.length = 0 := by
    refine Int.le_antisymm (Int.not_lt.mp fun z => ?_) h0
    generalize sm (fun b => ((gI xs b * ys.sum - gI ys b * xs.sum).natAbs : Int)) W.names.length = A at *
    have e2 : kW W = (W.q - W.p) * W.leaps.sum * mW W + W.p * W.leaps.sum * mW W := by unfold kW; grind
    have h3 : 0 < W.p * W.leaps.sum * mW W := Int.mul_pos (Int.mul_pos (by omega) (by omega)) (by unfold mW; omega)
    have h4 : 0 < W.p * W.leaps.sum * mW W * A := Int.mul_pos h3 z
    rw [e2, Int.add_mul] at hn
    omega
  intro b hb
  have hle : ∀ n, b < n → ((gI xs b * ys.sum - gI ys b * xs.sum).natAbs : Int) ≤ sm (fun b => ((gI xs b * ys.sum - gI ys b * xs.sum).natAbs : Int)) n := fun n => by
    induction n with
    | zero => intro z; omega
    | succ n ih =>
      intro hbn
      show _ ≤ sm _ n + _
      have hp : ∀ n, 0 ≤ sm (fun b => ((gI xs b * ys.sum - gI ys b * xs.sum).natAbs : Int)) n := fun n => by
        induction n with
        | zero => exact Int.le_refl 0
        | succ n ih => exact Int.add_nonneg ih (Int.natCast_nonneg _)
      by_cases e : b = n
      · subst e
        have := hp b
        exact Int.le_add_of_nonneg_left this
      · have h5 := ih (by omega)
        exact Int.le_trans h5 (Int.le_add_of_nonneg_right (Int.natCast_nonneg _))
  have h6 := hle _ hb
  rw [hz] at h6
  omega
end LB.K15
set_option Elab.async false
set_option linter.all false
set_option maxRecDepth 100000
set_option maxHeartbeats 4000000
namespace LB.K15
open PySem PySem.Spec PyProof.Rows L2 GL DL
open LB.K29 (leaps_sum)
open LB.K13 (shL shT shV shG shG_pos shL_len shV_pos)
def mulK (K : Int) (xs : List Int) : List Int := xs.map fun x => K * x
theorem gcd_mul {K : Int} (hK : 0 < K) (xs : List Int) : ((gcdL (mulK K xs) : Nat) : Int) = K * ((gcdL xs : Nat) : Int) := by
  have h1 : K * ((gcdL xs : Nat) : Int) ∣ 1 * ((gcdL (mulK K xs) : Nat) : Int) := gcdL_dvd_of fun y hy => by
    obtain ⟨x, hx, rfl⟩ := List.mem_map.mp hy
    rw [Int.one_mul]
    exact Int.mul_dvd_mul_left K (gcdL_dvd hx)
  have h2 : ((gcdL (mulK K xs) : Nat) : Int) ∣ K * ((gcdL xs : Nat) : Int) := gcdL_dvd_of fun x hx => gcdL_dvd (List.mem_map.mpr ⟨x, hx, rfl⟩)
  rw [Int.one_mul] at h1
  exact Int.dvd_antisymm (by omega) (Int.mul_nonneg (by omega) (by omega)) h2 h1
theorem norm_mul {K : Int} (hK : 0 < K) {xs : List Int} (h1 : gcdL xs = 1) : norm (mulK K xs) = xs := by
  unfold norm
  rw [gcd_mul hK, h1]
  unfold mulK
  rw [List.map_map]
  conv => rhs; rw [← List.map_id xs]
  refine List.map_congr_left fun x _ => ?_
  show K * x / (K * ((1 : Nat) : Int)) = x
  rw [show K * ((1 : Nat) : Int) = K by simp, Int.mul_ediv_cancel_left _ (by omega)]
theorem mul_norm {ys : List Int} (hp : 0 < ((gcdL ys : Nat) : Int)) : mulK ((gcdL ys : Nat) : Int) (norm ys) = ys := by
  unfold mulK norm
  rw [List.map_map]
  conv => rhs; rw [← List.map_id ys]
  exact List.map_congr_left fun y hy => Int.mul_ediv_cancel' (gcdL_dvd hy)
theorem gcd_norm {ys : List Int} (hp : 0 < ((gcdL ys : Nat) : Int)) : gcdL (norm ys) = 1 := by
  have h1 := gcd_mul hp (norm ys)
  rw [mul_norm hp] at h1
  have h2 : ((gcdL (norm ys) : Nat) : Int) = 1 := Int.eq_of_mul_eq_mul_left (a := ((gcdL ys : Nat) : Int)) (by omega) (by omega)
  omega
theorem sum_mul (K : Int) : ∀ xs : List Int, (mulK K xs).sum = K * xs.sum
  | [] => by unfold mulK; simp
  | x :: xs => by
    have := sum_mul K xs
    unfold mulK at this ⊢
    rw [List.map_cons, List.sum_cons, List.sum_cons, this, Int.mul_add]
theorem mul_at {K : Int} {xs : List Int} {b : Nat} (hb : b < xs.length) : gI (mulK K xs) b = K * gI xs b := by
  unfold gI mulK
  rw [List.getD_eq_getElem?_getD, List.getElem?_map, List.getElem?_eq_getElem hb, List.getD_eq_getElem?_getD, List.getElem?_eq_getElem hb]
  rfl
theorem mulK_len (K : Int) (xs : List Int) : (mulK K xs).length = xs.length := List.length_map ..
theorem same {xs ys : List Int} (hl : xs.length = ys.length) (hx : gcdL xs = 1) (hy : gcdL ys = 1) (px : 0 < xs.sum) (py : 0 < ys.sum) (e : ∀ b, b < xs.length → gI xs b * ys.sum = gI ys b * xs.sum) : xs = ys := by
  have e1 : mulK ys.sum xs = mulK xs.sum ys := gI_ext (by rw [mulK_len, mulK_len, hl]) fun b hb => by
    rw [mulK_len] at hb
    rw [mul_at hb, mul_at (by omega), Int.mul_comm, e b hb, Int.mul_comm]
  rw [← norm_mul py hx, e1, norm_mul px hy]
theorem sh_gcd {W : Web} (h : WebOk W) : gcdL (shL W) = 1 := gcd_norm (ys := shV W) (shG_pos h)
theorem sh_pos {W : Web} (h : WebOk W) : 0 < (shL W).sum := by
  have h1 := LB.K13.shT_eq h
  have h2 := shV_pos h
  have h3 := shG_pos h
  rw [← h1] at h2
  refine Int.not_le.mp fun z => ?_
  have : shG W * shT W ≤ 0 := Int.mul_nonpos_of_nonneg_of_nonpos (by omega) z
  omega
theorem rn_sh {W : Web} (h : WebOk W) : rnL W (shL W) = mulK (kW W) (shL W) := gI_ext (by rw [rn_len, mulK_len, shL_len]) fun b hb => by
  rw [rn_len] at hb
  rw [rn_shares h hb, mul_at (by rw [shL_len]; exact hb)]
theorem stays {W : Web} (h : WebOk W) {xs : List Int} (s : Sp W xs) (hg : gcdL xs = 1) : norm (rnL W xs) = xs ↔ xs = shL W := by
  constructor
  · intro e
    obtain ⟨g1, _⟩ := rn_gcd h s
    have e1 := mul_norm g1
    rw [e] at e1
    have e2 := rn_total h s.len
    rw [← e1, sum_mul] at e2
    have hk : ((gcdL (rnL W xs) : Nat) : Int) = kW W := by
      have := s.pos
      have e3 : ((gcdL (rnL W xs) : Nat) : Int) * xs.sum = kW W * xs.sum := by
        have e4 : W.q * mW W * W.leaps.sum * xs.sum = kW W * xs.sum := rfl
        rw [← e4, ← e2]
      exact Int.eq_of_mul_eq_mul_right (by omega) e3
    rw [hk] at e1
    refine same (by rw [s.len, shL_len]) hg (sh_gcd h) s.pos (sh_pos h) fun b hb => ?_
    rw [s.len] at hb
    refine stays_one h s.len (shL_len W) (fun c hc => ?_) (fun c hc => rn_shares h hc) b hb
    rw [← e1, mul_at (by rw [s.len]; exact hc)]
  · intro e
    rw [e, rn_sh h, norm_mul (kW_pos h) (sh_gcd h)]
end LB.K15
set_option Elab.async false
set_option linter.all false
set_option maxRecDepth 100000
set_option maxHeartbeats 4000000
namespace LB.K15
open PySem PySem.Spec PyProof.Rows L2 GL DL
open LB.K12 (cda_eq)
open LB.K13 (shL)
def negD : D → Bool
  | .int n => decide (n < 0)
  | _ => false
theorem len_sp (xs : List Int) : uLen [spD xs] = some (.int 2) := rfl
theorem issplit_eq {xs : List Int} (h10 : xs.length ≤ 10) (nn : ∀ x ∈ xs, 0 ≤ x) (hg : gcdL xs = 1) : F_is_split [.int xs.length, spD xs] = some (.ok (.bool true)) := by
  refine runP_of rfl ?_
  show WS B_is_split [.da (.int xs.length), .da (spD xs), .un, .un, .un] _
  unfold B_is_split
  have ei : (tyN (spD xs) == "tuple" || ("tuple" == "int" && tyN (spD xs) == "bool")) = true := isi_tt _
  have e1 := cda_eq (d := .tuple (xs.map PyData.int)) (xs := xs) rfl
  rw [hg] at e1
  simp only [LB.dnS, DL.ol, DL.ow, DL.oT, DL.oI, LB.bkF, Nat.reduceAdd, Nat.reduceEqDiff, reduceIte, ol, ow, oT, oI, bkF, ei, show isExn (spD xs) = false from rfl, len_sp]
  unfold spD
  (rw [then_nx]; simp only [LB.dnS, DL.ol, DL.ow, DL.oT, DL.oI, LB.bkF, Nat.reduceAdd, Nat.reduceEqDiff, reduceIte, ol, ow, oT, oI, bkF])
  (rw [then_nx]; simp only [LB.dnS, DL.ol, DL.ow, DL.oT, DL.oI, LB.bkF, Nat.reduceAdd, Nat.reduceEqDiff, reduceIte, ol, ow, oT, oI, bkF, wholes_eq, whole_eq])
  (rw [then_nx]; simp only [LB.dnS, DL.ol, DL.ow, DL.oT, DL.oI, LB.bkF, Nat.reduceAdd, Nat.reduceEqDiff, reduceIte, ol, ow, oT, oI, bkF])
  refine ⟨rfl, WG_any negD (fun d hd => ?_) ?_⟩
  · obtain ⟨n, _, rfl⟩ := List.mem_map.mp hd
    simp only [LB.dlS, DL.ol, DL.ow, DL.oT, DL.oI, LB.bkF, Nat.reduceAdd, Nat.reduceEqDiff, reduceIte, ol, ow, oT, oI, bkF, negD]
  · have e2 : (xs.map PyData.int).any negD = false := by
      rw [List.any_map, List.any_eq_false]
      intro x hx
      show ¬ decide (x < 0) = true
      rw [decide_eq_true_eq]
      have := nn x hx
      omega
    rw [e2]
    simp only [LB.dlS, DL.ol, DL.ow, DL.oT, DL.oI, LB.bkF, Nat.reduceAdd, Nat.reduceEqDiff, reduceIte, ol, ow, oT, oI, bkF, sum_t, e1]
    first | done | rfl
end LB.K15
set_option Elab.async false
set_option linter.all false
set_option maxRecDepth 100000
set_option maxHeartbeats 4000000
namespace LB.K15
open PySem PySem.Spec PyProof.Rows L2 GL DL
open LB.K29 (leaps_sum)
open LB.K12 (sm_mul)
end LB.K15
set_option Elab.async false
set_option linter.all false
set_option maxRecDepth 100000
set_option maxHeartbeats 4000000
namespace LB.K15
open PySem PySem.Spec PyProof.Rows L2 GL DL
open LB.K29 (leaps_sum fracD div_abs gcd_pos)
structure S8 (W : Web) (xs : List Int) : Prop where
  len : xs.length = W.names.length
  nn : ∀ x ∈ xs, 0 ≤ x
  pos : 0 < xs.sum
  lt : xs.sum.natAbs < 2 ^ 700
  one : gcdL xs = 1
theorem S8.sp {W : Web} {xs : List Int} (s : S8 W xs) : Sp W xs := ⟨s.len, s.nn, s.pos, by
  have h1 : Bg = ((2 ^ 1400 : Nat) : Int) := by unfold Bg; norm_cast
  have h2 : xs.sum.natAbs < 2 ^ 1400 := Nat.lt_of_lt_of_le s.lt (Nat.pow_le_pow_right (by decide) (by decide))
  have := s.pos
  omega⟩
theorem kW_le {W : Web} (h : WebOk W) : kW W ≤ 12 * m83 * 300 := by
  have hL := leaps_sum h
  have hch := h.chance
  have hm := (mN_rng h W.names.length (Nat.le_refl _)).1
  have hm83 := pow83 h
  have a1 := abs_mul_le (a := W.q) (c := mW W) (G := 12) (B := m83) (by omega) (by unfold mW m83 at *; omega)
  exact (abs_mul_le (c := W.leaps.sum) (B := 300) a1 (by omega)).2
end LB.K15
set_option Elab.async false
set_option linter.all false
set_option maxRecDepth 100000
set_option maxHeartbeats 4000000
namespace LB.K15
open PySem PySem.Spec PyProof.Rows L2 GL DL
open LB.K29 (leaps_sum fracD div_abs gcd_pos)
end LB.K15
set_option Elab.async false
set_option linter.all false
set_option maxRecDepth 100000
set_option maxHeartbeats 4000000
namespace LB.K15
open PySem PySem.Spec PyProof.Rows L2 GL DL
open TL (tl tl_append tl_join tl_num numL numL_inj numL_free ext_tl)
end LB.K15
set_option Elab.async false
set_option linter.all false
set_option maxRecDepth 100000
set_option maxHeartbeats 4000000
namespace LB.K15
open PySem PySem.Spec PyProof.Rows L2 GL DL
end LB.K15
set_option Elab.async false
set_option linter.all false
set_option maxRecDepth 100000
set_option maxHeartbeats 4000000
namespace LB.K15
open PySem PySem.Spec PyProof.Rows L2 GL DL
open LB.K29 (leaps_sum)
open LB.K13 (shL shL_len shT)
structure S6 (W : Web) (xs : List Int) : Prop where
  s : S8 W xs
  lt6 : xs.sum.natAbs < 2 ^ 600
theorem pos_some {ys : List Int} (nn : ∀ y ∈ ys, 0 ≤ y) (p : 0 < ys.sum) : ∃ v ∈ ys, 0 < v := by
  refine Classical.byContradiction fun z => ?_
  have hz : ∀ xs : List Int, (∀ v ∈ xs, v = 0) → xs.sum = 0 := fun xs => by
    induction xs with
    | nil => intro _; rfl
    | cons x xs ih =>
      intro hx
      rw [List.sum_cons, hx x List.mem_cons_self, ih fun v hv => hx v (List.mem_cons_of_mem _ hv)]
      rfl
  have : ∀ v ∈ ys, v = 0 := fun v hv => by
    have := nn v hv
    refine Classical.byContradiction fun q => z ⟨v, hv, by omega⟩
  rw [hz _ this] at p
  omega
theorem rn_le {W : Web} (h : WebOk W) {xs : List Int} (s : Sp W xs) : 0 < (norm (rnL W xs)).sum ∧ (norm (rnL W xs)).sum ≤ kW W * xs.sum := by
  obtain ⟨gx, _⟩ := rn_gcd h s
  have ex := mul_norm gx
  have sx := rn_total h s.len
  have tx : (rnL W xs).sum = ((gcdL (rnL W xs) : Nat) : Int) * (norm (rnL W xs)).sum := by
    conv => lhs; rw [← ex]
    exact sum_mul _ _
  have hK : W.q * mW W * W.leaps.sum = kW W := rfl
  rw [hK] at sx
  have hk := kW_pos h
  have hT : 0 < kW W * xs.sum := Int.mul_pos hk s.pos
  rw [tx] at sx
  have hp : 0 < (norm (rnL W xs)).sum := by
    refine Int.not_le.mp fun z => ?_
    have : ((gcdL (rnL W xs) : Nat) : Int) * (norm (rnL W xs)).sum ≤ 0 := Int.mul_nonpos_of_nonneg_of_nonpos (by omega) z
    omega
  refine ⟨hp, ?_⟩
  rw [← sx]
  have : 1 * (norm (rnL W xs)).sum ≤ ((gcdL (rnL W xs) : Nat) : Int) * (norm (rnL W xs)).sum := Int.mul_le_mul_of_nonneg_right (by omega) (by omega)
  omega
end LB.K15
set_option Elab.async false
set_option linter.all false
set_option maxRecDepth 100000
set_option maxHeartbeats 4000000
namespace LB.K15
open PySem PySem.Spec PyProof.Rows L2 GL DL
open LB.K29 (leaps_sum)
open LB.K13 (shL shL_len)
end LB.K15
set_option Elab.async false
set_option linter.all false
set_option maxRecDepth 100000
set_option maxHeartbeats 4000000
namespace LB.K15
open PySem PySem.Spec PyProof.Rows L2 GL DL
open LB.K13 (shL shL_len)
end LB.K15
set_option Elab.async false
set_option linter.all false
set_option maxRecDepth 100000
set_option maxHeartbeats 4000000
namespace DL
open PySem PySem.Spec PyProof.Rows L2 GL
def oReprU : List D → Option D
  | [d] => if okR d = true then some (.str (PyData.shown d)) else none
  | _ => none
def rReprU (K : PySem.W.Frag) : List V → Hp → VK → Prop := fun xs H Q => ∃ (v : V) (d : PyData), xs = [v] ∧ Dp K H v d ∧ d.showable = true ∧ d.hasDict = false ∧ d.depth ≤ 60 ∧ d.shown.length ≤ sizeLine ∧ Q (.str d.shown) H
theorem call_reprU {X : Cx} (gd : X.A.guards = some []) (hu : X.A.units + 64 < cLine) : CallR X (.builtin "repr") (rReprU X.K) := by
  intro pins s σ H xs us Q I r h
  obtain ⟨v, d, rfl, hd, h1, h2, h3, h4, q⟩ := h
  cases hd with
  | non =>
    obtain ⟨u, rfl, ru⟩ := vals1 r
    cases ru
    exact PySem.P.repr_of_none ⟨.str _, H, I.tok _, ⟨_, rfl⟩, q⟩
  | bl b =>
    obtain ⟨u, rfl, ru⟩ := vals1 r
    cases ru
    refine PySem.P.repr_of_bool ⟨.str _, H, I.tok _, ⟨_, rfl⟩, ?_⟩
    cases b <;> exact q
  | int i =>
    obtain ⟨u, rfl, t, rfl⟩ := vals1 r
    refine PySem.P.repr_of_int ?_ ⟨.str _, H, I.tok _, ⟨_, rfl⟩, q⟩
    exact of_decide_eq_true h1
  | str x =>
    obtain ⟨u, rfl, t, rfl⟩ := vals1 r
    refine PySem.P.repr_of_str ⟨.str _, H, I.tok _, ⟨_, rfl⟩, q⟩ h4
  | lst a b => exact call_repr gd hu pins s σ H _ us Q I r ⟨_, _, rfl, .lst a b, h1, h2, h3, h4, q⟩
  | tup a b => exact call_repr gd hu pins s σ H _ us Q I r ⟨_, _, rfl, .tup a b, h1, h2, h3, h4, q⟩
section
variable {K : PySem.W.Frag} {Ts : Tbs}
theorem s_reprU : SndA K Ts (rReprU K) oReprU := by
  intro xs es d H S Q dom dx e q
  cases dx with
  | nil => cases e
  | cons a b =>
    cases b with
    | cons _ _ => cases e
    | nil =>
      simp only [oReprU] at e
      split at e
      · rename_i h
        obtain ⟨h1, h2, h3, h4⟩ := okR_ok h
        cases e
        exact ⟨_, _, rfl, (a.sub (hide_sub _ _)).dp h2, h1, h2, h3, h4, q _ H (.refl _ _) (.str _)⟩
      · cases e
end
end DL
set_option Elab.async false
set_option linter.all false
set_option maxRecDepth 100000
set_option maxHeartbeats 4000000
namespace DL
open PySem PySem.Spec PyProof.Rows L2 GL
open AutoSeq1 (wpAny_loadPart')
section
variable {X : Cx} {Ts : Tbs} {E : Nat}
end
end DL
set_option Elab.async false
set_option linter.all false
set_option maxRecDepth 100000
set_option maxHeartbeats 4000000
namespace DL
open PySem PySem.Spec PyProof.Rows L2 GL
section
variable {X : Cx} {Ts : Tbs} {E : EK}
end
variable {ρ : Ev}
end DL
set_option Elab.async false
set_option linter.all false
set_option maxRecDepth 100000
set_option maxHeartbeats 4000000
namespace DL
open PySem PySem.Spec PyProof.Rows L2 GL
section
variable {X : Cx} {Ts : Tbs} {E : EK}
def tKs : D → Option (List Key)
  | .tuple ds => dKs ds
  | _ => none
def kyD (f : Mo D) : Mo (List Key) := bnd f fun d => lf (tKs d)
theorem dk_da {e : Expr} {f : Mo D} (h : DE X Ts E e f) : DK X Ts E e (kyD f) := by
  refine pe_mono h ?_
  rintro σ H Q ⟨A, S, ρ, r, ρ', rel, hf, he, k⟩
  refine tE_step rel hf he fun d ρ1 v H1 p1 dr h1 => ?_
  obtain ⟨ks, e2, rfl, rfl⟩ := lf_ok h1
  cases dr with
  | @tup a xs ds sq dr =>
    have e3 : dKs ds = some ks := e2
    refine k _ rfl a H1 p1 ?_
    rw [dKs_ok e3] at dr
    rw [keys_v dr] at sq
    exact sq
  | _ => cases e2
end
theorem W_kyD {ρ : Ev} {f : Mo D} {Q : List Key → Ev → Prop} : W (kyD f) ρ Q ↔ W f ρ fun d ρ1 => ∃ ks, tKs d = some ks ∧ Q ks ρ1 := by
  unfold kyD
  simp only [W_bnd, W_lf]
end DL
set_option Elab.async false
set_option linter.all false
set_option maxRecDepth 100000
set_option maxHeartbeats 2000000
namespace DL
open PySem PySem.Spec PyProof.Rows L2 GL
theorem putK_new {kvs : List (Key × V)} {k : Key} {v : V} (h : k ∉ kvs.map (·.1)) : putK kvs k v = kvs ++ [(k, v)] := by
  unfold putK
  rw [if_neg]
  intro z
  obtain ⟨p, hp, e⟩ := List.any_eq_true.mp z
  exact h (List.mem_map.mpr ⟨p, hp, of_decide_eq_true e⟩)
theorem mergeK_new : ∀ {more kvs : List (Key × V)}, ((kvs ++ more).map (·.1)).Nodup → mergeK kvs more = kvs ++ more
  | [], kvs, _ => by rw [List.append_nil]; rfl
  | p :: r, kvs, h => by
    have h1 : p.1 ∉ kvs.map (·.1) := fun z => by
      rw [List.map_append, List.map_cons] at h
      exact (List.nodup_append.mp h).2.2 _ z _ List.mem_cons_self rfl
    show mergeK (putK kvs p.1 p.2) r = _
    rw [putK_new h1, mergeK_new (by rw [List.append_assoc]; exact h), List.append_assoc]
    rfl
section
variable {X : Cx} {Ts : Tbs} {E : EK}
end
end DL
set_option Elab.async false
set_option linter.all false
set_option maxRecDepth 100000
set_option maxHeartbeats 4000000
namespace DL
open PySem PySem.Spec PyProof.Rows L2 GL
def keysB (ds : List D) : Bool := ds.all fun d => match d with
  | .int _ => true
  | .str _ => true
  | _ => false
mutual
def dictOk : D → Bool
  | .none => true
  | .bool _ => true
  | .int _ => true
  | .str _ => true
  | .list _ => false
  | .tuple ds => dictsOk ds
  | .dict kvs => pairsOk kvs
def dictsOk : List D → Bool
  | [] => true
  | d :: ds => dictOk d && dictsOk ds
def pairsOk : List (D × D) → Bool
  | [] => true
  | (.int _, v) :: r => dictOk v && pairsOk r
  | (.str _, v) :: r => dictOk v && pairsOk r
  | (.tuple ks, v) :: [] => keysB ks && dictOk v
  | _ => false
end
section
variable {X : Cx} {pins : List (Addr × Obj)} {σ : L2.St} {H : Hp} {s : Shared}
mutual
theorem dr_reads (I : Inv X pins σ H s) : ∀ (d : D) (v : V) (u : Value), dictOk d = true → DR X.K H v d → RelV v u → ∃ as, Reads s.heap u d as ∧ sysModules ∉ as
  | .none, _, _, _, h, r => by
    cases h
    cases r
    exact ⟨_, Reads.none, fun z => nomatch z⟩
  | .bool b, _, _, _, h, r => by
    cases h
    cases r
    exact ⟨_, Reads.bool b, fun z => nomatch z⟩
  | .int i, _, _, _, h, r => by
    cases h
    obtain ⟨t, rfl⟩ := r
    exact ⟨_, Reads.int i t, fun z => nomatch z⟩
  | .str x, _, _, _, h, r => by
    cases h
    obtain ⟨t, rfl⟩ := r
    exact ⟨_, Reads.str x t, fun z => nomatch z⟩
  | .list ds, _, _, e, _, _ => by simp [dictOk] at e
  | .tuple ds, _, _, e, h, r => by
    cases h with
    | tup hs ha =>
      cases r
      obtain ⟨_, its, rv, o, ho, hc, n, hd⟩ := I.hok _ _ hs
      obtain ⟨as, hr, hn⟩ := drs_reads I ds _ its (by simpa only [dictOk] using e) ha rv
      exact ⟨_, Reads.tuple ho hc hd hr, hn⟩
  | .dict kvs, _, _, e, h, r => by
    cases h with
    | exn _ _ => simp [dictOk, pairsOk] at e
    | @dctT a ks v d hs hv =>
      cases r
      obtain ⟨_, hq, xs, rk, o, es, ep, ho, hx, hd, he, _⟩ := dt_of I.hok hs
      cases rk with
      | @cons p q ps qs r1 r2 =>
        cases r2
        have e2 : keysB (ks.map kD) = true ∧ dictOk d = true := by simpa only [dictOk, pairsOk, Bool.and_eq_true] using e
        obtain ⟨as, q1, n1⟩ := dr_reads I d _ _ e2.2 hv r1.2.2
        obtain ⟨_, its, rv, o2, ho2, hc2, n2, hd2⟩ := I.hok _ _ r1.2.1
        have hk : ∃ bs, Reads s.heap (.ref q.2.1) (.tuple (ks.map kD)) bs ∧ sysModules ∉ bs := by
          have go : ∀ (l : List Key) (us : List Value), Vals (l.map kV) us → ∃ bs, ReadsAll s.heap us (l.map kD) bs ∧ sysModules ∉ bs := by
            intro l
            induction l with
            | nil => intro us r; cases r; exact ⟨_, ReadsAll.nil, fun z => nomatch z⟩
            | cons k l ih =>
              intro us r
              rw [List.map_cons] at r
              cases r with
              | @cons _ u _ us2 ra rb =>
                obtain ⟨bs, h1, h2⟩ := ih us2 rb
                cases k with
                | inl i => obtain ⟨t, rfl⟩ := ra; exact ⟨_, ReadsAll.cons (Reads.int i t) h1, by simpa using h2⟩
                | inr x => obtain ⟨t, rfl⟩ := ra; exact ⟨_, ReadsAll.cons (Reads.str x t) h1, by simpa using h2⟩
          obtain ⟨bs, h1, h2⟩ := go _ _ rv
          exact ⟨_, Reads.tuple ho2 hc2 hd2 h1, h2⟩
        obtain ⟨bs, k1, k2⟩ := hk
        have es1 : es.toList = [entryOfKey (tupleKind (mixKind X.prog X.w)) q] := by rw [he]; rfl
        have K1 : ReadsAll s.heap (es.toList.map (·.key)) [.tuple (ks.map kD)] (bs ++ []) := by
          rw [es1]
          exact ReadsAll.cons k1 ReadsAll.nil
        have K2 : ReadsAll s.heap (es.toList.map (·.val)) [d] (as ++ []) := by
          rw [es1]
          exact ReadsAll.cons q1 ReadsAll.nil
        refine ⟨_, Reads.dict (kvs := [(.tuple (ks.map kD), d)]) ho hx.1 hd K1 K2, fun z => ?_⟩
        rcases List.mem_append.mp z with z | z
        · rcases List.mem_cons.mp z with z | z
          · rw [z] at hq
            simp at hq
          · exact k2 (by simpa using z)
        · exact n1 (by simpa using z)
    | dct rd dk =>
      cases r
      obtain ⟨_, hs, vs, kv, o, es, ep, ho, hx, hd, _, hp, _⟩ := dk_rd I.hok rd
      obtain ⟨bs, h1, h2, hn⟩ := drk_reads I kvs _ vs es.toList (by simpa only [dictOk] using e) dk kv hp
      refine ⟨_, Reads.dict ho hx.1 hd h1 h2, fun z => ?_⟩
      rcases List.mem_cons.mp z with z | z
      · rw [z] at hs
        simp at hs
      · exact hn (by simpa using z)
theorem drs_reads (I : Inv X pins σ H s) : ∀ (ds : List D) (vs : List V) (us : List Value), dictsOk ds = true → DRs X.K H vs ds → Vals vs us → ∃ as, ReadsAll s.heap us ds as ∧ sysModules ∉ as
  | [], _, _, _, h, r => by
    cases h
    cases r
    exact ⟨_, ReadsAll.nil, fun z => nomatch z⟩
  | d :: ds, _, _, e, h, r => by
    simp only [dictsOk, Bool.and_eq_true] at e
    cases h with
    | cons h1 h2 =>
      cases r with
      | cons r1 r2 =>
        obtain ⟨as, q1, n1⟩ := dr_reads I d _ _ e.1 h1 r1
        obtain ⟨bs, q2, n2⟩ := drs_reads I ds _ _ e.2 h2 r2
        exact ⟨_, ReadsAll.cons q1 q2, fun z => (List.mem_append.mp z).elim n1 n2⟩
theorem drk_reads (I : Inv X pins σ H s) : ∀ (ds : List (D × D)) (ys : List (Key × V)) (vs : List (Key × Value)) (es : List DictEntry), pairsOk ds = true → DRk X.K H ys ds → KV ys vs → Pairs (mixKind X.prog X.w) es vs → ∃ bs, ReadsAll s.heap (es.map (·.key)) (ds.map (·.1)) [] ∧ ReadsAll s.heap (es.map (·.val)) (ds.map (·.2)) bs ∧ sysModules ∉ bs
  | [], _, _, _, _, h, r, p => by
    cases h
    cases r
    cases p
    exact ⟨_, ReadsAll.nil, ReadsAll.nil, fun z => nomatch z⟩
  | (dk, dv) :: ds, _, _, _, e, h, r, p => by
    cases h with
    | @cons k v ys2 d2 ds2 h1 h2 =>
      cases r with
      | @cons a b _ _ r1 r2 =>
        cases p with
        | @cons en kv es2 kvs2 p1 p2 p3 =>
          have e' : dictOk dv = true ∧ pairsOk ds = true := by
            cases k <;> simpa only [kD, pairsOk, Bool.and_eq_true] using e
          obtain ⟨as, q1, n1⟩ := dr_reads I dv _ _ e'.1 h1 r1.2
          obtain ⟨bs, q2, q3, n2⟩ := drk_reads I ds _ _ _ e'.2 h2 r2 p3
          have hk : Reads s.heap en.key (kD k) [] := by
            have e1 : k = b.1 := r1.1
            rw [← e1] at p1
            rcases keyIs_shape p1 with ⟨i, t, rfl, ek⟩ | ⟨x, t, rfl, ek⟩
            · rw [ek]; exact Reads.int i t
            · rw [ek]; exact Reads.str x t
          refine ⟨_, ReadsAll.cons hk q2, ?_, fun z => (List.mem_append.mp z).elim n1 n2⟩
          rw [List.map_cons, List.map_cons, p2]
          exact ReadsAll.cons q1 q3
end
end
def okRD (d : D) : Bool := dictOk d && d.showable && decide (d.depth ≤ 60) && decide (d.shown.length ≤ sizeLine)
def oReprX : List D → Option D
  | [.tuple ds] => if okR (.tuple ds) = true || okRD (.tuple ds) then some (.str (PyData.shown (.tuple ds))) else none
  | [.dict kvs] => if okRD (.dict kvs) then some (.str (PyData.shown (.dict kvs))) else none
  | ds => oReprU ds
def rReprX (K : PySem.W.Frag) : List V → Hp → VK → Prop := fun xs H Q => rReprU K xs H Q ∨ ∃ (a : Addr) (d : D), xs = [.ref a] ∧ DR K H (.ref a) d ∧ dictOk d = true ∧ d.showable = true ∧ d.depth ≤ 60 ∧ d.shown.length ≤ sizeLine ∧ Q (.str d.shown) H
theorem call_reprX {X : Cx} (gd : X.A.guards = some []) (hu : X.A.units + 64 < cLine) : CallR X (.builtin "repr") (rReprX X.K) := by
  intro pins s σ H xs us Q I r h
  rcases h with h | ⟨a, d, rfl, hd, h0, h1, h3, h4, q⟩
  · exact call_reprU gd hu pins s σ H xs us Q I r h
  · obtain ⟨u, rfl, ru⟩ := vals1 r
    obtain rfl : u = Value.ref a := ru
    obtain ⟨as, rd, hn⟩ := dr_reads I d _ _ h0 hd (show RelV (.ref a) (Value.ref a) from rfl)
    refine repr_of_reads' rd h1 (fun _ => hn) gd (by omega) (fun _ _ e => e) ?_ h4
    intro h' u tk hk
    exact ⟨.str _, H, I.kept hk, ⟨_, rfl⟩, q⟩
theorem okRD_ok {d : D} (h : okRD d = true) : dictOk d = true ∧ d.showable = true ∧ d.depth ≤ 60 ∧ d.shown.length ≤ sizeLine := by
  unfold okRD at h
  simp only [Bool.and_eq_true, decide_eq_true_eq] at h
  exact ⟨h.1.1.1, h.1.1.2, h.1.2, h.2⟩
section
variable {K : PySem.W.Frag} {Ts : Tbs}
theorem s_reprX : SndA K Ts (rReprX K) oReprX := by
  intro xs es d H S Q dom dx e q
  cases dx with
  | nil => cases e
  | @cons v vs d1 ds1 a b =>
    cases b with
    | cons _ _ => cases d1 <;> cases e
    | nil =>
      have old : oReprU [d1] = some d → rReprX K [v] H Q := fun e => .inl (s_reprU [v] [d1] d H S Q dom (.cons a .nil) e q)
      cases d1 with
      | tuple ds =>
        simp only [oReprX] at e
        split at e
        · rename_i h
          rcases Bool.or_eq_true_iff.mp h with h | h
          · exact old (by show (if okR (.tuple ds) = true then some (PyData.str (PyData.shown (.tuple ds))) else none) = some d; rw [if_pos (of_decide_eq_true h)]; exact e)
          · obtain ⟨h0, h1, h3, h4⟩ := okRD_ok h
            cases e
            cases a with
            | tup hs ha => exact .inr ⟨_, _, rfl, (DR.tup hs ha).sub (hide_sub _ _), h0, h1, h3, h4, q _ H (.refl _ _) (.str _)⟩
        · cases e
      | dict kvs =>
        simp only [oReprX] at e
        split at e
        · rename_i h
          obtain ⟨h0, h1, h3, h4⟩ := okRD_ok h
          cases e
          cases a with
          | dct hs ha => exact .inr ⟨_, _, rfl, (DR.dct hs ha).sub (hide_sub _ _), h0, h1, h3, h4, q _ H (.refl _ _) (.str _)⟩
          | exn _ _ => simp [dictOk, pairsOk] at h0
          | dctT hs ha => exact .inr ⟨_, _, rfl, (DR.dctT hs ha).sub (hide_sub _ _), h0, h1, h3, h4, q _ H (.refl _ _) (.str _)⟩
        · cases e
      | _ => exact old e
end
end DL
set_option Elab.async false
set_option linter.all false
set_option maxRecDepth 100000
set_option maxHeartbeats 2000000
namespace DL
open PySem PySem.Spec PyProof.Rows L2 GL
section
variable {X : Cx} {k : Nat} {f : Addr} {fd : FuncData} {ps : List Str} {sp : Sp} {CX : CXT} {E : XK} {x : Str} {p pos : Pos}
end
section
variable {X : Cx} {Ts : Tbs} {E : EK}
end
end DL
set_option Elab.async false
set_option linter.all false
set_option maxRecDepth 100000
set_option maxHeartbeats 2000000
namespace DL
open PySem PySem.Spec PyProof.Rows L2 GL
end DL
set_option Elab.async false
set_option linter.all false
set_option maxRecDepth 100000
set_option maxHeartbeats 4000000
namespace DL
open PySem PySem.Spec PyProof.Rows L2 GL
section
variable {X : Cx} {Ts : Tbs} {E : EK}
end
end DL
set_option Elab.async false
set_option linter.all false
set_option maxRecDepth 100000
set_option maxHeartbeats 4000000
namespace DL
open PySem PySem.Spec PyProof.Rows L2 GL
section
variable {prog : Program} {w : World} {A : Around} {EE : Value → Shared → Prop} {s : Shared}
end
section
variable {X : Cx} {Ts : Tbs} {E : EK}
end
end DL
set_option Elab.async false
set_option linter.all false
set_option maxRecDepth 100000
set_option maxHeartbeats 2000000
namespace DL
open PySem PySem.Spec PyProof.Rows L2 GL
def veB : List Value := [.type "ValueError", .type "Exception", .type "BaseException", .type "object"]
def plainX (ns : List Str) : List Str := ns.filter fun n => decide (n ≠ ("NoText" : Str))
structure Ex1 (K : PySem.W.Frag) (mg : Str → Option Value) (ns : List Str) (nm : Str) : Prop where
  gl : mg nm = some (.ref (He.ga K nm))
  ex : PySem.W.excIn K (He.ga K nm) veB "ValueError.__new__" = true
  kp : PySem.W.keepIn K (.ref (He.ga K nm)) = true
  sb : PySem.W.subIn K (.ref (He.ga K nm)) (.type "BaseException") = some true
  ty : PySem.W.typeIn K (.ref (He.ga K nm)) = some (.type "type")
  em : PySem.W.exmOne K (.ref (He.ga K nm)) (.ref (He.ga K "RankError")) = some true
  cc : ExcC K (He.ga K nm)
  ve : PySem.W.kitOne K (.ref (He.ga K nm)) (.type "ValueError") = some true
  re : PySem.W.kitOne K (.ref (He.ga K nm)) (.ref (He.ga K "RankError")) = some true
  is : ∀ T ∈ ns, PySem.W.kitOne K (.ref (He.ga K nm)) (.ref (He.ga K T)) = some (decide (nm = T))
structure ExG (K : PySem.W.Frag) (mg : Str → Option Value) (ns : List Str) : Prop where
  rk : mg "RankError" = some (.ref (He.ga K "RankError"))
  gl : ∀ nm ∈ ns, mg nm = some (.ref (He.ga K nm))
  all : ∀ nm ∈ plainX ns, Ex1 K mg ns nm
theorem ba {a b : Bool} (h : (a && b) = true) : a = true ∧ b = true := Bool.and_eq_true_iff.mp h
structure CalX (P : Program) (w : World) (K : PySem.W.Frag) (mg : Str → Option Value) (base : Heap) (k : Nat) (x : Str) (sp : Sp) : Prop where
  ex : ∃ (f : Addr) (fd : FuncData) (ps : List Str), FnG P w K mg base (L2.CX P w) k f fd ps sp ∧ mg x = some (.ref f) ∧ PySem.W.keepIn K (.ref f) = true ∧ Binds K fd ps []
section
variable {X : Cx} {k : Nat} {x : Str} {sp : Sp} {p pos : Pos} {e : Expr} {es : List Expr} {t : TA} {W : WX} {f : Addr} {fd : FuncData} {ps : List Str}
end
section
variable {X : Cx} {Ts : Tbs} {W : WX}
def callX (F : List D → Option (Except XV D)) (fs : List (Mo D)) : Mo D := bnd (args fs) fun ds ρ => match F ds with
  | some r => some (r, ρ)
  | none => none
end
section
variable {P : Program} {w : World} {K : PySem.W.Frag} {mg : Str → Option Value} {base : Heap} {k : Nat} {f : Addr} {fd : FuncData} {ps : List Str} {sp : Sp} {Ts : Tbs}
end
end DL
set_option Elab.async false
set_option linter.all false
set_option maxRecDepth 100000
set_option maxHeartbeats 2000000
namespace DL
open PySem PySem.Spec PyProof.Rows L2 GL
section
variable {X : Cx} {pins : List (Addr × Obj)} {σ : L2.St} {H : Hp} {s : Shared}
end
section
variable {X : Cx} {x n : Str} {c : Value} {i j : Nat} {body suite : List Stmt} {b₀ : Stmt} {np pos pos' : Pos} {tb : WX → TS} {Wout : WX}
end
theorem Rel.gone {K : PySem.W.Frag} {Ts : Tbs} {A : Act} {S : List Addr} {σ : L2.St} {ρ : Ev} {H : Hp} (i : Nat) (r : Rel K Ts A S ρ σ H) : Rel K Ts A S (ρ.set i .un) (σ.set i none) H := r.wipe [i]
section
variable {X : Cx} {Ts : Tbs} {E : EK}
end
end DL
set_option Elab.async false
set_option linter.all false
set_option maxRecDepth 100000
set_option maxHeartbeats 2000000
namespace DL
open PySem PySem.Spec PyProof.Rows L2 GL
structure ExN (K : PySem.W.Frag) (ns : List Str) : Prop where
  no : ∀ T ∈ ns, PySem.W.kitOne K (.type "NoneType") (.ref (He.ga K T)) = some false
section
variable {X : Cx} {Ts : Tbs} {E : EK} {ns : List Str}
end
end DL
set_option Elab.async false
set_option linter.all false
set_option maxRecDepth 100000
set_option maxHeartbeats 2000000
namespace DL
open PySem PySem.Spec PyProof.Rows L2 GL
variable {ρ : Ev}
def WE (f : Stm) (ρ : Ev) (Q : Fl → Ev → Prop) : Prop := ∃ fl ρ', f ρ = some (fl, ρ') ∧ Q fl ρ'
end DL
set_option Elab.async false
set_option linter.all false
set_option maxRecDepth 100000
set_option maxHeartbeats 4000000
set_option pp.maxSteps 300
set_option pp.deepTerms false
namespace LB.K25
open PySem PySem.Spec PyProof.Rows L2 GL DL
end LB.K25
set_option Elab.async false
set_option linter.all false
set_option maxRecDepth 100000
set_option maxHeartbeats 2000000
namespace DL
open PySem PySem.Spec PyProof.Rows L2 GL
section
variable {X : Cx} {Ts : Tbs} {E : EK}
end
end DL
set_option Elab.async false
set_option linter.all false
set_option maxRecDepth 100000
set_option maxHeartbeats 4000000
set_option pp.maxSteps 300
set_option pp.deepTerms false
namespace LB.K08
open PySem PySem.Spec PyProof.Rows L2 GL DL
noncomputable def B__law_pen : Ev → Option Oc := (dsp3 ("script" : Str) ("at" : Str) ("left" : Str) (rd 0) 0 0)
noncomputable def F__law_pen : List D → Option Oc := runM 1 1 B__law_pen
noncomputable def B__law_draw : Stm := (seqS (ifS (tst (op2 oGt (getK 0 (rt (.str ("left" : Str)))) (rt (.int 0))))
      (seqS (setS 2 (op2 oMod (getK 0 (rt (.str ("left" : Str)))) (rd 1)))
    (seqS (putKS 0 (rt (.str ("left" : Str))) (op2 oDiv (getK 0 (rt (.str ("left" : Str)))) (rd 1)))
    (retS (rd 2))))
      nilS)
    (seqS (setS 3 (getK 0 (rt (.str ("script" : Str)))))
    (seqS (setS 4 (getK 0 (rt (.str ("at" : Str)))))
    (seqS (putKS 0 (rt (.str ("at" : Str))) (op2 uAdd (rd 4) (rt (.int 1))))
    (seqS (setS 5 (op2 uAdd (op2 uMul (rt (.int 50021)) (rd 4)) (rt (.int 37))))
    (seqS (ifS (tst (op2 uNe (rd 3) (lst [])))
      (setS 5 (op2 uIx (rd 3) (op2 oMod (rd 4) (opA uLen [(rd 3)]))))
      nilS)
    (seqS (ifS (band (tst (op2 oLt (rd 4) (opA uLen [(rd 3)]))) (tst (op2 oGe (opA oAbs [(rd 5)]) (op2 oPow (rt (.int 10)) (rt (.int 18))))))
      (seqS (putKS 0 (rt (.str ("left" : Str))) (op2 oDiv (opA oAbs [(rd 5)]) (rd 1)))
    (retS (op2 oMod (opA oAbs [(rd 5)]) (rd 1))))
      nilS)
    (seqS (setS 6 (op2 uIx (lst [(rt (.int 2147483647)), (rt (.int 2147483629)), (rt (.int 2147483587)), (rt (.int 2147483579)), (rt (.int 2147483563)), (rt (.int 2147483549)), (rt (.int 2147483543))]) (op2 oMod (rd 4) (rt (.int 7)))))
    (seqS (setS 7 (op2 oMod (op2 uAdd (op2 uAdd (op2 oMod (rd 5) (rt (.int 2147483497))) (op2 uMul (op2 uMul (rt (.int 40009)) (rd 4)) (rd 4))) (rt (.int 21))) (rd 6)))
    (seqS (setS 7 (op2 oMod (op2 uAdd (op2 uAdd (op2 oPow (rd 7) (rt (.int 3))) (op2 uMul (rt (.int 69621)) (rd 7))) (rd 4)) (rt (.int 2147483489))))
    (retS (op2 oMod (op2 oDiv (op2 oMod (op2 uMul (rd 7) (op2 uAdd (op2 uAdd (op2 oMod (rd 7) (rt (.int 65521))) (op2 uMul (rt (.int 2)) (rd 4))) (rt (.int 3)))) (rt (.int 2147483477))) (rt (.int 64))) (rd 1)))))))))))))
noncomputable def F__law_draw : Oc → List D → Option (Except XV D × Oc) := runO 8 2 B__law_draw
noncomputable def B__law_measure : Stm := (seqS (setS 1 (rt (.int 0)))
    (seqS (forS (itU (rd 0)) (tgN 2)
      (whS (tst (op2 oGt (rd 2) (rt (.int 0))))
      (parS 1 2 (rd 2) (op2 oMod (rd 1) (rd 2)))))
    (retS (rd 1))))
noncomputable def F__law_measure : List D → Option (Except XV D) := runP 3 1 B__law_measure
noncomputable def B__law_great : Stm := (seqS (setS 2 (rt (.int 0)))
    (seqS (forS (itR (op2 uAdd (rt (.int 1)) (callO LB.K08.F__law_draw 0 [(rd 1)]))) (tgN 3)
      (setS 2 (op2 uAdd (op2 uMul (rd 2) (op2 oPow (rt (.int 10)) (rt (.int 6)))) (callO LB.K08.F__law_draw 0 [(op2 oPow (rt (.int 10)) (rt (.int 6)))]))))
    (retS (rd 2))))
noncomputable def F__law_great : Oc → List D → Option (Except XV D × Oc) := runO 4 2 B__law_great
noncomputable def B__law_numbers : Stm := (seqS (setS 3 (callO LB.K08.F__law_draw 0 [(rt (.int 6))]))
    (seqS (setO 4 (rep (args [(rt (.int 0))]) (rd 1)))
    (seqS (ifS (tst (op2 uEq (rd 3) (rt (.int 0))))
      (putS 4 (callO LB.K08.F__law_draw 0 [(rd 1)]) (op2 uAdd (rt (.int 1)) (callO LB.K08.F__law_draw 0 [(rt (.int 9))])))
      nilS)
    (seqS (forS (itR (op2 uMul (rd 1) (opA oInt [(op2 oGt (rd 3) (rt (.int 0)))]))) (tgN 5)
      (seqS (putS 4 (rd 5) (callO LB.K08.F__law_draw 0 [(op2 uIx (lst [(rt (.int 1)), (rt (.int 1)), (rt (.int 9)), (rt (.int 50)), (rt (.int 1000)), (rt (.int 1000))]) (rd 3))]))
    (seqS (ifS (tst (op2 uEq (rd 3) (rt (.int 1))))
      (putS 4 (rd 5) (callO LB.K08.F__law_great 0 [(rd 2)]))
      nilS)
    (ifS (band (tst (op2 uEq (rd 3) (rt (.int 3)))) (tst (op2 oGt (callO LB.K08.F__law_draw 0 [(rt (.int 3))]) (rt (.int 0)))))
      (putS 4 (rd 5) (rt (.int 0)))
      nilS))))
    (seqS (ifS (tst (op2 uEq (qt (opA oSum [(rd 4)])) (rt (.int 0))))
      (putS 4 (callO LB.K08.F__law_draw 0 [(rd 1)]) (rt (.int 1)))
      nilS)
    (seqS (ifS (tst (op2 uEq (rd 3) (rt (.int 2))))
      (seqS (setS 6 (op2 uAdd (rt (.int 2)) (callO LB.K08.F__law_draw 0 [(rt (.int 30))])))
    (setO 4 (qo (lc (itU (rd 4)) (tgN 7) yesM (op2 uMul (rd 6) (rd 7)) [7]))))
      nilS)
    (frz 4 (retS (rd 4)))))))))
noncomputable def F__law_numbers : Oc → List D → Option (Except XV D × Oc) := runO 8 3 B__law_numbers
noncomputable def B__law_split : Stm := (seqS (setS 3 (callO LB.K08.F__law_numbers 0 [(rd 1), (rd 2)]))
    (seqS (setS 4 (callP LB.K08.F__law_measure [(rd 3)]))
    (retS (tup [(opA oTup [(asL (lc (itU (rd 3)) (tgN 5) yesM (op2 oDiv (rd 5) (rd 4)) [5]))]), (op2 oDiv (opA oSum [(rd 3)]) (rd 4))]))))
noncomputable def F__law_split : Oc → List D → Option (Except XV D × Oc) := runO 6 3 B__law_split
noncomputable def B__law_many : Stm := (seqS (setS 1 (callO LB.K08.F__law_draw 0 [(rt (.int 4))]))
    (retS (op2 uIx (lst [(op2 uAdd (rt (.int 1)) (callO LB.K08.F__law_draw 0 [(rt (.int 10))])), (op2 uAdd (rt (.int 1)) (callO LB.K08.F__law_draw 0 [(rt (.int 4))])), (op2 uAdd (rt (.int 1)) (callO LB.K08.F__law_draw 0 [(rt (.int 10))])), (rt (.int 10))]) (rd 1))))
noncomputable def F__law_many : Oc → List D → Option (Except XV D × Oc) := runO 2 1 B__law_many
end LB.K08
set_option Elab.async false
set_option linter.all false
set_option maxRecDepth 100000
set_option maxHeartbeats 4000000
set_option pp.maxSteps 300
set_option pp.deepTerms false
namespace LB.K26
open PySem PySem.Spec PyProof.Rows L2 GL DL
end LB.K26
set_option Elab.async false
set_option linter.all false
set_option maxRecDepth 100000
set_option maxHeartbeats 4000000
set_option pp.maxSteps 300
set_option pp.deepTerms false
namespace LB.K28
open PySem PySem.Spec PyProof.Rows L2 GL DL
end LB.K28
set_option Elab.async false
set_option linter.all false
set_option maxRecDepth 100000
set_option maxHeartbeats 4000000
set_option pp.maxSteps 300
set_option pp.deepTerms false
namespace LB.K27
open PySem PySem.Spec PyProof.Rows L2 GL DL
end LB.K27
set_option Elab.async false
set_option linter.all false
set_option maxRecDepth 100000
set_option maxHeartbeats 4000000
set_option pp.maxSteps 300
set_option pp.deepTerms false
namespace LB.K19
open PySem PySem.Spec PyProof.Rows L2 GL DL
end LB.K19
set_option Elab.async false
set_option linter.all false
set_option maxRecDepth 100000
set_option maxHeartbeats 4000000
set_option pp.maxSteps 300
set_option pp.deepTerms false
namespace LB.K09
open PySem PySem.Spec PyProof.Rows L2 GL DL
end LB.K09
set_option Elab.async false
set_option linter.all false
set_option maxRecDepth 100000
set_option maxHeartbeats 4000000
set_option pp.maxSteps 300
set_option pp.deepTerms false
namespace LB.K10
open PySem PySem.Spec PyProof.Rows L2 GL DL
end LB.K10
set_option Elab.async false
set_option linter.all false
set_option maxRecDepth 100000
set_option maxHeartbeats 4000000
set_option pp.maxSteps 300
set_option pp.deepTerms false
namespace LB.K11
open PySem PySem.Spec PyProof.Rows L2 GL DL
end LB.K11
set_option Elab.async false
set_option linter.all false
set_option maxRecDepth 100000
set_option maxHeartbeats 4000000
set_option pp.maxSteps 300
set_option pp.deepTerms false
namespace LB.K16
open PySem PySem.Spec PyProof.Rows L2 GL DL
end LB.K16
set_option Elab.async false
set_option linter.all false
set_option maxRecDepth 100000
set_option maxHeartbeats 2000000
namespace DL
open PySem PySem.Spec PyProof.Rows L2 GL
end DL
set_option Elab.async false
set_option linter.all false
set_option maxRecDepth 100000
set_option maxHeartbeats 4000000
set_option pp.maxSteps 300
set_option pp.deepTerms false
namespace LB.K60
open PySem PySem.Spec PyProof.Rows L2 GL DL
noncomputable def B__law_measure : Stm := (seqS (whS (tst (op2 oGt (rd 1) (rt (.int 0))))
      (parS 0 1 (rd 1) (op2 oMod (rd 0) (rd 1))))
    (retS (rd 0)))
noncomputable def F__law_measure : List D → Option (Except XV D) := runP 2 2 B__law_measure
end LB.K60
set_option Elab.async false
set_option linter.all false
set_option maxRecDepth 100000
set_option maxHeartbeats 4000000
set_option pp.maxSteps 300
set_option pp.deepTerms false
namespace LB.K01
open PySem PySem.Spec PyProof.Rows L2 GL DL
end LB.K01
set_option Elab.async false
set_option linter.all false
set_option maxRecDepth 100000
set_option maxHeartbeats 4000000
namespace LB.K25
open PySem PySem.Spec PyProof.Rows L2 GL DL
def isW : D → Bool
  | .int _ => true
  | _ => false
theorem whole_any {d : D} (h : isExn d = false) : F_is_whole [d] = some (.ok (.bool (isW d))) := by
  refine runP_of rfl ?_
  show WS B_is_whole [.da d] _
  unfold B_is_whole
  cases d <;> simp only [WS_ret, W_vand, W_vnot, W_isi, W_rd, List.getElem?_cons_zero, Option.some.injEq, Sl.da.injEq, exists_eq_left', h, true_and] <;> first | exact ⟨_, rfl, rfl⟩ | exact ⟨_, rfl, _, rfl, rfl⟩
end LB.K25
set_option Elab.async false
set_option linter.all false
set_option maxRecDepth 100000
set_option maxHeartbeats 4000000
namespace LB.K25
open PySem PySem.Spec PyProof.Rows L2 GL DL
end LB.K25
set_option Elab.async false
set_option linter.all false
set_option maxRecDepth 100000
set_option maxHeartbeats 2000000
namespace LB.K60
def Fit (n m M t b : Int) : Prop := 0 ≤ t ∧ t ≤ M ∧ 1 ≤ b ∧ b ≤ M ∧ Int.gcd t b = 1 ∧ m ∣ t - b * n
structure On (n m : Int) (a r s' s : Int) (e : Int) : Prop where
  e1 : e = 1 ∨ e = -1
  r0 : 0 ≤ r
  ra : r < a
  s0 : 1 ≤ e * s
  s1 : e * s' ≤ 0
  sum : a * (e * s) - r * (e * s') = m
  ca : m ∣ a - s' * n
  cr : m ∣ r - s * n
  z : n = 0 → e = 1 ∧ r = 0
end LB.K60
set_option Elab.async false
set_option linter.all false
set_option maxRecDepth 100000
set_option maxHeartbeats 4000000
namespace LB.K60
open PySem PySem.Spec PyProof.Rows L2 GL DL
end LB.K60
set_option Elab.async false
set_option linter.all false
set_option maxRecDepth 100000
set_option maxHeartbeats 4000000
namespace LB.K60
open PySem PySem.Spec PyProof.Rows L2 GL DL
theorem measure_eq {a b : Int} (ha : 0 ≤ a) (hb : 0 ≤ b) : F__law_measure [.int a, .int b] = some (.ok (.int ((Int.gcd a b : Nat) : Int))) := by
  refine runP_of rfl ?_
  show WS B__law_measure [.da (.int a), .da (.int b)] _
  unfold B__law_measure
  rw [WS_seq]
  refine WS_while (fun k ρ => ∃ x y : Nat, k = y ∧ Nat.gcd x y = Int.gcd a b ∧ ρ = [.da (.int (x : Int)), .da (.int (y : Int))]) ?_ (k := b.natAbs) ⟨a.natAbs, b.natAbs, rfl, rfl, by rw [Int.natAbs_of_nonneg ha, Int.natAbs_of_nonneg hb]⟩
  rintro k ρ ⟨x, y, rfl, hg, rfl⟩
  simp only [LB.dnS, DL.ol, DL.ow, DL.oT, DL.oI, LB.bkF, Nat.reduceAdd, Nat.reduceEqDiff, reduceIte, ol, ow, oT, oI, bkF, WS_par]
  split
  · rename_i hy
    have hy : (0 : Int) < (k : Int) := of_decide_eq_true hy
    simp only [LB.dnS, DL.ol, DL.ow, DL.oT, DL.oI, LB.bkF, Nat.reduceAdd, Nat.reduceEqDiff, reduceIte, ol, ow, oT, oI, bkF, mod_int hy]
    refine ⟨x % k, Nat.mod_lt _ (by omega), k, ?_, ?_⟩
    · rw [← hg, Nat.gcd_comm x k, Nat.gcd_rec k x, Nat.gcd_comm]
    · rw [Int.natCast_emod]
  · rename_i hy
    have hy : k = 0 := by
      have : ¬ (0 : Int) < (k : Int) := fun z => hy (decide_eq_true z)
      omega
    subst hy
    (rw [then_nx]; simp only [LB.dnS, DL.ol, DL.ow, DL.oT, DL.oI, LB.bkF, Nat.reduceAdd, Nat.reduceEqDiff, reduceIte, ol, ow, oT, oI, bkF])
    rw [← hg, Nat.gcd_zero_right]
end LB.K60
set_option Elab.async false
set_option linter.all false
set_option maxRecDepth 100000
set_option maxHeartbeats 4000000
namespace LB.K60
open PySem PySem.Spec PyProof.Rows L2 GL DL
end LB.K60
set_option Elab.async false
set_option linter.all false
set_option maxRecDepth 100000
set_option maxHeartbeats 4000000
namespace LB.K60
open PySem PySem.Spec PyProof.Rows L2 GL DL
end LB.K60
set_option Elab.async false
set_option linter.all false
set_option maxRecDepth 100000
set_option maxHeartbeats 4000000
namespace LB.K60
open PySem PySem.Spec PyProof.Rows L2 GL DL
end LB.K60
set_option Elab.async false
set_option linter.all false
set_option maxRecDepth 100000
set_option maxHeartbeats 4000000
namespace LB.K60
open PySem PySem.Spec PyProof.Rows L2 GL DL
end LB.K60
set_option Elab.async false
set_option linter.all false
set_option maxRecDepth 100000
set_option maxHeartbeats 4000000
namespace LB.K60
open PySem PySem.Spec PyProof.Rows L2 GL DL
end LB.K60
set_option Elab.async false
set_option linter.all false
set_option maxRecDepth 100000
set_option maxHeartbeats 4000000
namespace LB.K60
open PySem PySem.Spec PyProof.Rows L2 GL DL
end LB.K60
namespace LB.K60
open PySem PySem.Spec PyProof.Rows L2 GL DL
end LB.K60
set_option Elab.async false
set_option linter.all false
set_option maxRecDepth 100000
set_option maxHeartbeats 4000000
namespace LB.K08
open PySem PySem.Spec PyProof.Rows L2 GL DL
def penK (cs : List Int) (i l : Int) : Oc := .dK [(.inr "script", .list (cs.map PyData.int)), (.inr "at", .int i), (.inr "left", .int l)]
def PenK (cs : List Int) (n : Nat) (c : Oc) : Prop := ∃ i l : Int, c = penK cs i l ∧ 0 ≤ i ∧ i ≤ n ∧ 0 ≤ l
theorem PenK.mono {cs : List Int} {n m : Nat} {c : Oc} (h : PenK cs n c) (k : n ≤ m) : PenK cs m c := by
  obtain ⟨i, l, e, h1, h2, h3⟩ := h
  exact ⟨i, l, e, h1, by omega, h3⟩
theorem n_sa : Str.ofString "script" ≠ Str.ofString "at" := by decide
theorem n_sl : Str.ofString "script" ≠ Str.ofString "left" := by decide
theorem n_al : Str.ofString "at" ≠ Str.ofString "left" := by decide
section
variable (x y z d : D)
theorem val_s : valD [((.inr "script" : Key), x), (.inr "at", y), (.inr "left", z)] (.inr "script") = some x := by simp [valD]
theorem val_a : valD [((.inr "script" : Key), x), (.inr "at", y), (.inr "left", z)] (.inr "at") = some y := by simp [valD, n_sa]
theorem val_l : valD [((.inr "script" : Key), x), (.inr "at", y), (.inr "left", z)] (.inr "left") = some z := by simp [valD, n_sl, n_al]
theorem pk_a : putD [((.inr "script" : Key), x), (.inr "at", y), (.inr "left", z)] (.inr "at") d = [(.inr "script", x), (.inr "at", d), (.inr "left", z)] := by simp [putD, n_sa, Ne.symm n_al]
theorem pk_l : putD [((.inr "script" : Key), x), (.inr "at", y), (.inr "left", z)] (.inr "left") d = [(.inr "script", x), (.inr "at", y), (.inr "left", d)] := by simp [putD, n_sl, n_al]
end
theorem dK1_s (x : Str) : dK1 (.str x) = some (.inr x) := rfl
theorem few3' : 3 < sizeLine := by decide
noncomputable def drawTail : Stm := (seqS (setS 6 (op2 uIx (lst [(rt (.int 2147483647)), (rt (.int 2147483629)), (rt (.int 2147483587)), (rt (.int 2147483579)), (rt (.int 2147483563)), (rt (.int 2147483549)), (rt (.int 2147483543))]) (op2 oMod (rd 4) (rt (.int 7)))))
    (seqS (setS 7 (op2 oMod (op2 uAdd (op2 uAdd (op2 oMod (rd 5) (rt (.int 2147483497))) (op2 uMul (op2 uMul (rt (.int 40009)) (rd 4)) (rd 4))) (rt (.int 21))) (rd 6)))
    (seqS (setS 7 (op2 oMod (op2 uAdd (op2 uAdd (op2 oPow (rd 7) (rt (.int 3))) (op2 uMul (rt (.int 69621)) (rd 7))) (rd 4)) (rt (.int 2147483489))))
    (retS (op2 oMod (op2 oDiv (op2 oMod (op2 uMul (rd 7) (op2 uAdd (op2 uAdd (op2 oMod (rd 7) (rt (.int 65521))) (op2 uMul (rt (.int 2)) (rd 4))) (rt (.int 3)))) (rt (.int 2147483477))) (rt (.int 64))) (rd 1))))))
theorem draw_tail {s0 s2 s3 : Sl} {i m cell : Int} (i0 : 0 ≤ i) (i1 : i ≤ 100000) (m0 : 0 < m) : WS drawTail [s0, .da (.int m), s2, s3, .da (.int i), .da (.int cell), .un, .un] fun fl ρ => ∃ r : Int, fl = .rt (.int r) ∧ 0 ≤ r ∧ r < m ∧ ρ[0]? = some s0 := by
  obtain ⟨q1, e1, q1p, q1l⟩ := prime_at (k := i % 7) (Int.emod_nonneg _ (by decide)) (Int.emod_lt_of_pos _ (by decide))
  have b1 := abs_mul_le (a := 40009) (c := i) (G := 40009) (B := 100000) (by omega) (by omega)
  have n1 : 0 ≤ 40009 * i := by omega
  have b2 := abs_mul_le (a := 40009 * i) (c := i) (G := 4000900000) (B := 100000) (by omega) (by omega)
  have n2 : 0 ≤ 40009 * i * i := Int.mul_nonneg n1 i0
  have c1 := Int.emod_nonneg cell (show (2147483497 : Int) ≠ 0 by decide)
  have c2 := Int.emod_lt_of_pos cell (show (0 : Int) < 2147483497 by decide)
  generalize hx : (cell % 2147483497 + 40009 * i * i + 21) % q1 = x
  have x0 : 0 ≤ x := by rw [← hx]; exact Int.emod_nonneg _ (by omega)
  have x1 : x < q1 := by rw [← hx]; exact Int.emod_lt_of_pos _ q1p
  have p2 : CPow x 3 := cpow_of (by decide) (by decide) (by omega)
  generalize hy : (x ^ (3 : Int).toNat + 69621 * x + i) % 2147483489 = y
  have y0 : 0 ≤ y := by rw [← hy]; exact Int.emod_nonneg _ (by decide)
  have y1 : y < 2147483489 := by rw [← hy]; exact Int.emod_lt_of_pos _ (by decide)
  have z0 := Int.emod_nonneg y (show (65521 : Int) ≠ 0 by decide)
  have z1 := Int.emod_lt_of_pos y (show (0 : Int) < 65521 by decide)
  have w1 : CMulW 40009 i := small_mul (by decide) (by omega)
  have w2 : CMulW (40009 * i) i := wide_mul (lt1900 (B := 4000900000) (by decide) (by omega)) (lt1900 (B := 4000900000) (by decide) (by omega))
  have w3 : CMulW 69621 x := wide_mul (by decide) (lt1900 (B := 2147483648) (by decide) (by omega))
  have w4 : CMulW 2 i := small_mul (by omega) (by omega)
  have w5 : CMulW y (y % 65521 + 2 * i + 3) := wide_mul (lt1900 (B := 2147483648) (by decide) (by omega)) (lt1900 (B := 2147483648) (by decide) (by omega))
  have d64 : ∀ z : Int, CDivW z 64 := fun z => small_div (by decide) (by decide)
  unfold drawTail
  simp only [LB.dlS, DL.ol, DL.ow, DL.oT, DL.oI, LB.bkF, Nat.reduceAdd, Nat.reduceEqDiff, reduceIte, ol, ow, oT, oI, bkF, mod_int (show (0 : Int) < 7 by decide), e1, mod_int (show (0 : Int) < 2147483497 by decide), mod_int q1p, add_int, mul_int w1, mul_int w2, hx, pow_int p2, mul_int w3, mod_int (show (0 : Int) < 2147483489 by decide), hy, mod_int (show (0 : Int) < 65521 by decide), mul_int w4, mul_int w5, mod_int (show (0 : Int) < 2147483477 by decide), div_int (d64 _), mod_int m0, Fl.rt.injEq]
  exact ⟨Int.emod_nonneg _ (by omega), Int.emod_lt_of_pos _ m0⟩
theorem draw_eq {cs : List Int} {n : Nat} {c : Oc} (p : PenK cs n c) (hl : cs.length ≤ 63) (hn : n ≤ 90000) {m : Int} (m0 : 0 < m) (m1 : m.natAbs < 2 ^ 1900) :
    ∃ d c', F__law_draw c [.int m] = some (.ok d, c') ∧ ∃ r : Int, d = .int r ∧ 0 ≤ r ∧ r < m ∧ PenK cs (n + 1) c' := by
  obtain ⟨i, l, rfl, i0, i1, l0⟩ := p
  refine runO_of rfl ?_
  show WS (seqS _ (seqS _ (seqS _ (seqS _ (seqS _ (seqS _ (seqS _ drawTail))))))) [.ow false (penK cs i l), .da (.int m), .un, .un, .un, .un, .un, .un] _
  have w1 : CMulW 50021 i := small_mul (by decide) (by omega)
  have pw : CPow 10 18 := ⟨by decide, by decide, by decide⟩
  unfold penK
  by_cases h0 : 0 < l
  · simp only [LB.dlS, DL.ol, DL.ow, DL.oT, DL.oI, LB.bkF, Nat.reduceAdd, Nat.reduceEqDiff, reduceIte, ol, ow, oT, oI, bkF, W_getK, WS_putK, oK, Oc.dK.injEq, dK1_s, val_s, val_a, val_l, pk_a, pk_l, few3', mod_int m0, div_int (small_div m0 m1), add_int, decide_eq_true h0, Fl.rt.injEq]
    exact ⟨Int.emod_nonneg _ (by omega), Int.emod_lt_of_pos _ m0, i, l / m, rfl, i0, by omega, Int.ediv_nonneg l0 (by omega)⟩
  · have l00 : l = 0 := by omega
    subst l00
    have fin : ∀ (s2 s3 : Sl) (cell : Int), WS drawTail [.ow false (penK cs (i + 1) 0), .da (.int m), s2, s3, .da (.int i), .da (.int cell), .un, .un] fun fl ρ' => ∃ d, fl = .rt d ∧ ∃ c', ρ'[0]? = some (.ow false c') ∧ ∃ r : Int, d = .int r ∧ 0 ≤ r ∧ r < m ∧ PenK cs (n + 1) c' := fun s2 s3 cell => by
      obtain ⟨fl, ρ', e, nx, r, rfl, r0, r1, eo⟩ := draw_tail (s0 := .ow false (penK cs (i + 1) 0)) (s2 := s2) (s3 := s3) (i := i) (m := m) (cell := cell) i0 (by omega) m0
      exact ⟨_, ρ', e, nx, _, rfl, _, eo, r, rfl, r0, r1, i + 1, 0, rfl, by omega, by omega, Int.le_refl 0⟩
    have big : ∀ cell : Int, ∃ d, Fl.rt (.int ((cell.natAbs : Int) % m)) = Fl.rt d ∧ ∃ r : Int, d = .int r ∧ 0 ≤ r ∧ r < m ∧ PenK cs (n + 1) (.dK [(.inr "script", .list (cs.map PyData.int)), (.inr "at", .int (i + 1)), (.inr "left", .int ((cell.natAbs : Int) / m))]) := fun cell =>
      ⟨_, rfl, _, rfl, Int.emod_nonneg _ (by omega), Int.emod_lt_of_pos _ m0, i + 1, (cell.natAbs : Int) / m, rfl, by omega, by omega, Int.ediv_nonneg (by omega) (by omega)⟩
    cases cs with
    | nil =>
      have en : uNe (.list []) (.list []) = some (.bool false) := ne_lnil []
      have ei : decide (i < ((0 : Nat) : Int)) = false := decide_eq_false (by omega)
      simp only [LB.dlS, DL.ol, DL.ow, DL.oT, DL.oI, LB.bkF, Nat.reduceAdd, Nat.reduceEqDiff, reduceIte, ol, ow, oT, oI, bkF, W_getK, WS_putK, oK, Oc.dK.injEq, dK1_s, val_s, val_a, val_l, pk_a, pk_l, few3', mod_int m0, div_int (small_div m0 m1), add_int, mul_int w1, decide_eq_false h0, en, ei, pow_int pw, abs_i]
      exact fin _ _ _
    | cons x r =>
      have en : uNe (.list (.int x :: r.map PyData.int)) (.list []) = some (.bool true) := ne_lnil (x :: r)
      have lp : (0 : Int) < ((r.length + 1 : Nat) : Int) := by omega
      have q0 := Int.emod_nonneg i (show ((r.length + 1 : Nat) : Int) ≠ 0 by omega)
      have q1 := Int.emod_lt_of_pos i lp
      have ex : uIx (.list (.int x :: r.map PyData.int)) (.int (i % ((r.length + 1 : Nat) : Int))) = some (.int (atR (x :: r) (i % ((r.length + 1 : Nat) : Int)))) := ix_l (at_ints (ns := x :: r) q0 (by rw [List.length_cons]; exact q1))
      simp only [LB.dlS, DL.ol, DL.ow, DL.oT, DL.oI, LB.bkF, Nat.reduceAdd, Nat.reduceEqDiff, reduceIte, ol, ow, oT, oI, bkF, W_getK, WS_putK, oK, Oc.dK.injEq, dK1_s, val_s, val_a, val_l, pk_a, pk_l, few3', add_int, mul_int w1, decide_eq_false h0, en, mod_int lp, ex, pow_int pw, abs_i, div_int (small_div m0 m1), mod_int m0]
      split
      · split
        · exact big _
        · exact fin _ _ _
      · exact fin _ _ _
theorem pen_eq {ns : List Int} : F__law_pen [.list (ns.map PyData.int)] = some (penK ns 0 0) := runM_of rfl rfl
theorem pen_ok (ns : List Int) : PenK ns 0 (penK ns 0 0) := ⟨0, 0, rfl, by decide, by decide, by decide⟩
theorem measure_eq {d : D} {xs : List Int} (hs : seqOf d = some (xs.map PyData.int)) (nn : ∀ x ∈ xs, 0 ≤ x) : F__law_measure [d] = some (.ok (.int ((gcdL xs : Nat) : Int))) := by
  refine runP_of rfl ?_
  show WS B__law_measure [.da d, .un, .un] _
  unfold B__law_measure
  simp only [LB.dnS, DL.ol, DL.ow, DL.oT, DL.oI, LB.bkF, Nat.reduceAdd, Nat.reduceEqDiff, reduceIte, ol, ow, oT, oI, bkF]
  (rw [then_nx]; simp only [LB.dnS, DL.ol, DL.ow, DL.oT, DL.oI, LB.bkF, Nat.reduceAdd, Nat.reduceEqDiff, reduceIte, ol, ow, oT, oI, bkF, hs])
  refine WS_loop0 (fun i ρ => ∃ s2, ρ = [.da d, .da (.int (((xs.take i).foldl (fun g x => Int.gcd (g : Int) x) 0 : Nat) : Int)), s2]) ⟨_, rfl⟩ ?_ ?_
  · rintro i x ρ hx ⟨s2, rfl⟩
    rw [List.getElem?_map] at hx
    obtain ⟨y, hy, rfl⟩ := Option.map_eq_some_iff.mp hx
    have y0 := nn y (List.mem_of_getElem? hy)
    rw [tgN_eq]
    refine ⟨_, rfl, ?_⟩
    have ef : (xs.take (i + 1)).foldl (fun g x => Int.gcd (g : Int) x) 0 = Int.gcd (((xs.take i).foldl (fun g x => Int.gcd (g : Int) x) 0 : Nat) : Int) y := by
      rw [List.take_add_one, hy, Option.toList_some, List.foldl_append]
      rfl
    rw [ef]
    generalize (xs.take i).foldl (fun g x => Int.gcd (g : Int) x) 0 = g0
    refine WS_while (fun k ρ => ∃ a : Nat, Nat.gcd a k = Int.gcd (g0 : Int) y ∧ ρ = [.da d, .da (.int (a : Int)), .da (.int (k : Int))]) ?_ (k := y.natAbs) ⟨g0, rfl, by rw [show ((y.natAbs : Nat) : Int) = y by omega]; rfl⟩
    rintro k ρ ⟨a, hg, rfl⟩
    simp only [LB.dnS, DL.ol, DL.ow, DL.oT, DL.oI, LB.bkF, Nat.reduceAdd, Nat.reduceEqDiff, reduceIte, ol, ow, oT, oI, bkF, WS_par]
    split
    · rename_i hk
      have hk : (0 : Int) < (k : Int) := of_decide_eq_true hk
      simp only [LB.dnS, DL.ol, DL.ow, DL.oT, DL.oI, LB.bkF, Nat.reduceAdd, Nat.reduceEqDiff, reduceIte, ol, ow, oT, oI, bkF, mod_int hk]
      refine ⟨a % k, Nat.mod_lt _ (by omega), k, ?_, ?_⟩
      · rw [← hg, Nat.gcd_comm a k, Nat.gcd_rec k a, Nat.gcd_comm]
      · rw [Int.natCast_emod]
    · rename_i hk
      have hk : k = 0 := by
        have : ¬ (0 : Int) < (k : Int) := fun z => hk (decide_eq_true z)
        omega
      subst hk
      rw [← hg, Nat.gcd_zero_right]
      exact ⟨_, rfl⟩
  · rintro ρ ⟨s2, rfl⟩
    rw [List.length_map, List.take_length]
    (rw [then_nx]; simp only [LB.dnS, DL.ol, DL.ow, DL.oT, DL.oI, LB.bkF, Nat.reduceAdd, Nat.reduceEqDiff, reduceIte, ol, ow, oT, oI, bkF])
    rfl
end LB.K08
set_option Elab.async false
set_option linter.all false
set_option maxRecDepth 100000
set_option maxHeartbeats 4000000
namespace LB.K08
open PySem PySem.Spec PyProof.Rows L2 GL DL
open LB.K15 (norm spD mul_norm gcd_norm pos_some)
def bN : Nat → Int
  | 0 => 1
  | i + 1 => bN i * 1000000
theorem bN_pos : ∀ i, 1 ≤ bN i
  | 0 => Int.le_refl _
  | i + 1 => by
    have := bN_pos i
    show 1 ≤ bN i * 1000000
    omega
theorem bN_mono {i j : Nat} (h : i ≤ j) : bN i ≤ bN j := by
  induction j with
  | zero => rw [Nat.le_zero.mp h]; exact Int.le_refl _
  | succ j ih =>
    by_cases e : i = j + 1
    · rw [e]; exact Int.le_refl _
    · have h1 := ih (by omega)
      have h2 := bN_pos j
      show bN i ≤ bN j * 1000000
      omega
theorem bN_wide {x : Int} {i : Nat} (hi : i ≤ 33) (h0 : 0 ≤ x) (h : x ≤ bN i) : x.natAbs < 2 ^ 1900 := by
  have h1 := bN_mono hi
  exact Nat.lt_of_le_of_lt (show x.natAbs ≤ (bN 33).natAbs by omega) (by decide)
theorem e6 : (10 : Int) ^ (6 : Int).toNat = 1000000 := by decide
theorem pw6 : CPow 10 6 := ⟨by decide, by decide, by decide⟩
theorem great_eq {cs : List Int} {n : Nat} {c : Oc} (p : PenK cs n c) (hl : cs.length ≤ 63) (hn : n ≤ 80000) {M : Nat} (m0 : 1 ≤ M) (m1 : M ≤ 33) :
    ∃ d c', F__law_great c [.int (M : Int)] = some (.ok d, c') ∧ ∃ r : Int, d = .int r ∧ 0 ≤ r ∧ r < bN M ∧ PenK cs (n + 34) c' := by
  refine runO_of rfl ?_
  show WS B__law_great [.ow false c, .da (.int (M : Int)), .un, .un] _
  unfold B__law_great
  simp only [LB.dnS, DL.ol, DL.ow, DL.oT, DL.oI, LB.bkF, Nat.reduceAdd, Nat.reduceEqDiff, reduceIte, ol, ow, oT, oI, bkF]
  obtain ⟨d, c1, e1, r, rfl, r0, r1, p1⟩ := draw_eq p hl (by omega) (m := (M : Int)) (by omega) (small_1900 (by omega))
  (rw [then_nx]; simp only [LB.dnS, DL.ol, DL.ow, DL.oT, DL.oI, LB.bkF, Nat.reduceAdd, Nat.reduceEqDiff, reduceIte, ol, ow, oT, oI, bkF, add_int])
  refine ⟨_, _, e1, ?_⟩
  simp only [LB.dnS, DL.ol, DL.ow, DL.oT, DL.oI, LB.bkF, Nat.reduceAdd, Nat.reduceEqDiff, reduceIte, ol, ow, oT, oI, bkF, add_int, rng_eqI (show 0 ≤ 1 + r by omega) (by omega)]
  refine WS_loop0 (fun i ρ => i ≤ (1 + r).toNat ∧ ∃ (x : Int) (c : Oc) (s3 : Sl), 0 ≤ x ∧ x < bN i ∧ PenK cs (n + 1 + i) c ∧ ρ = [.ow false c, .da (.int (M : Int)), .da (.int x), s3]) ⟨by omega, 0, c1, _, Int.le_refl _, by decide, p1, rfl⟩ ?_ ?_
  · rintro i d ρ hd ⟨hi, x, c2, s3, x0, x1, p2, rfl⟩
    have hi2 : i < (1 + r).toNat := by
      have := (List.getElem?_eq_some_iff.mp hd).1
      rw [List.length_map, List.length_range] at this
      exact this
    obtain ⟨d', c3, e3, y, rfl, y0, y1, p3⟩ := draw_eq p2 hl (by omega) (m := 1000000) (by decide) (by decide)
    have hw := bN_wide (x := x) (i := i) (by omega) x0 (by omega)
    rw [tgN_eq]
    refine ⟨_, rfl, ?_⟩
    simp only [LB.dnS, DL.ol, DL.ow, DL.oT, DL.oI, LB.bkF, Nat.reduceAdd, Nat.reduceEqDiff, reduceIte, ol, ow, oT, oI, bkF, pow_int pw6, e6, mul_int (wide_mul (i := x) (j := 1000000) hw (by decide))]
    refine ⟨_, _, e3, ?_⟩
    simp only [LB.dnS, DL.ol, DL.ow, DL.oT, DL.oI, LB.bkF, Nat.reduceAdd, Nat.reduceEqDiff, reduceIte, ol, ow, oT, oI, bkF, add_int]
    refine ⟨by omega, x * 1000000 + y, by omega, ?_, c3, p3, _, rfl⟩
    show x * 1000000 + y < bN i * 1000000
    omega
  · rintro ρ ⟨hi, x, c2, s3, x0, x1, p2, rfl⟩
    rw [List.length_map, List.length_range] at x1 p2
    have := bN_mono (show (1 + r).toNat ≤ M by omega)
    (rw [then_nx]; simp only [LB.dnS, DL.ol, DL.ow, DL.oT, DL.oI, LB.bkF, Nat.reduceAdd, Nat.reduceEqDiff, reduceIte, ol, ow, oT, oI, bkF])
    exact ⟨_, rfl, _, rfl, x0, by omega, p2.mono (by omega)⟩
theorem many_eq {cs : List Int} {n : Nat} {c : Oc} (p : PenK cs n c) (hl : cs.length ≤ 63) (hn : n ≤ 80000) :
    ∃ d c', F__law_many c [] = some (.ok d, c') ∧ ∃ m : Nat, d = .int (m : Int) ∧ 1 ≤ m ∧ m ≤ 10 ∧ PenK cs (n + 4) c' := by
  refine runO_of rfl ?_
  show WS B__law_many [.ow false c, .un] _
  unfold B__law_many
  simp only [LB.dnS, DL.ol, DL.ow, DL.oT, DL.oI, LB.bkF, Nat.reduceAdd, Nat.reduceEqDiff, reduceIte, ol, ow, oT, oI, bkF]
  obtain ⟨d, c1, e1, w, rfl, w0, w1, p1⟩ := draw_eq p hl (by omega) (m := 4) (by decide) (by decide)
  refine ⟨_, _, e1, ?_⟩
  obtain ⟨d, c2, e2, a, rfl, a0, a1, p2⟩ := draw_eq p1 hl (by omega) (m := 10) (by decide) (by decide)
  (rw [then_nx]; simp only [LB.dnS, DL.ol, DL.ow, DL.oT, DL.oI, LB.bkF, Nat.reduceAdd, Nat.reduceEqDiff, reduceIte, ol, ow, oT, oI, bkF])
  refine ⟨_, _, e2, ?_⟩
  obtain ⟨d, c3, e3, b, rfl, b0, b1, p3⟩ := draw_eq p2 hl (by omega) (m := 4) (by decide) (by decide)
  simp only [LB.dnS, DL.ol, DL.ow, DL.oT, DL.oI, LB.bkF, Nat.reduceAdd, Nat.reduceEqDiff, reduceIte, ol, ow, oT, oI, bkF, add_int]
  refine ⟨_, _, e3, ?_⟩
  obtain ⟨d, c4, e4, g, rfl, g0, g1, p4⟩ := draw_eq p3 hl (by omega) (m := 10) (by decide) (by decide)
  simp only [LB.dnS, DL.ol, DL.ow, DL.oT, DL.oI, LB.bkF, Nat.reduceAdd, Nat.reduceEqDiff, reduceIte, ol, ow, oT, oI, bkF, add_int]
  refine ⟨_, _, e4, ?_⟩
  have ex : ∃ m : Nat, uIx (.list [.int (1 + a), .int (1 + b), .int (1 + g), .int 10]) (.int w) = some (.int (m : Int)) ∧ 1 ≤ m ∧ m ≤ 10 := by
    have hw : w = 0 ∨ w = 1 ∨ w = 2 ∨ w = 3 := by omega
    rcases hw with rfl | rfl | rfl | rfl
    · exact ⟨(1 + a).toNat, by rw [show (((1 + a).toNat : Nat) : Int) = 1 + a by omega]; rfl, by omega, by omega⟩
    · exact ⟨(1 + b).toNat, by rw [show (((1 + b).toNat : Nat) : Int) = 1 + b by omega]; rfl, by omega, by omega⟩
    · exact ⟨(1 + g).toNat, by rw [show (((1 + g).toNat : Nat) : Int) = 1 + g by omega]; rfl, by omega, by omega⟩
    · exact ⟨10, rfl, by omega, by omega⟩
  obtain ⟨m, em, m0, m1⟩ := ex
  simp only [LB.dnS, DL.ol, DL.ow, DL.oT, DL.oI, LB.bkF, Nat.reduceAdd, Nat.reduceEqDiff, reduceIte, ol, ow, oT, oI, bkF, add_int, em]
  exact ⟨_, rfl, m, rfl, m0, m1, p4⟩
end LB.K08
set_option Elab.async false
set_option linter.all false
set_option maxRecDepth 100000
set_option maxHeartbeats 4000000
namespace LB.K08
open PySem PySem.Spec PyProof.Rows L2 GL DL
open LB.K15 (norm spD mul_norm gcd_norm pos_some)
structure Nb (m : Nat) (B : Int) (xs : List Int) : Prop where
  len : xs.length = m
  rng : ∀ x ∈ xs, 0 ≤ x ∧ x < B
theorem Nb.set {m : Nat} {B : Int} {xs : List Int} (h : Nb m B xs) {v : Int} (v0 : 0 ≤ v) (v1 : v < B) (i : Nat) : Nb m B (xs.set i v) := by
  refine ⟨by rw [List.length_set]; exact h.len, fun x hx => ?_⟩
  rcases List.mem_or_eq_of_mem_set hx with z | z
  · exact h.rng x z
  · rw [z]; exact ⟨v0, v1⟩
theorem put_n {m : Nat} {B : Int} {xs : List Int} (h : Nb m B xs) {i v : Int} (i0 : 0 ≤ i) (i1 : i < m) : DL.putAt (.int i) (.int v) (xs.map PyData.int) = some ((xs.set i.toNat v).map PyData.int) := by
  rw [putAt_int i0 (by rw [List.length_map, h.len]; exact i1), List.map_set]
theorem sum_nn : ∀ {xs : List Int}, (∀ x ∈ xs, 0 ≤ x) → 0 ≤ xs.sum
  | [], _ => Int.le_refl _
  | x :: xs, h => by
    rw [List.sum_cons]
    have := h x List.mem_cons_self
    have := sum_nn fun y hy => h y (List.mem_cons_of_mem _ hy)
    omega
theorem ways6 {w : Int} (w0 : 0 ≤ w) (w1 : w < 6) : ∃ t : Int, uIx (.list [.int 1, .int 1, .int 9, .int 50, .int 1000, .int 1000]) (.int w) = some (.int t) ∧ 1 ≤ t ∧ t ≤ 1000 ∧ (w = 2 → t = 9) := by
  have hw : w = 0 ∨ w = 1 ∨ w = 2 ∨ w = 3 ∨ w = 4 ∨ w = 5 := by omega
  rcases hw with rfl | rfl | rfl | rfl | rfl | rfl
  · exact ⟨1, rfl, by decide, by decide, fun z => by cases z⟩
  · exact ⟨1, rfl, by decide, by decide, fun z => by cases z⟩
  · exact ⟨9, rfl, by decide, by decide, fun _ => rfl⟩
  · exact ⟨50, rfl, by decide, by decide, fun z => by cases z⟩
  · exact ⟨1000, rfl, by decide, by decide, fun z => by cases z⟩
  · exact ⟨1000, rfl, by decide, by decide, fun z => by cases z⟩
def byD (b : Int) : D → D
  | .int x => .int (b * x)
  | d => d
noncomputable def nTail3 : Stm := (seqS (ifS (tst (op2 uEq (qt (opA oSum [(rd 4)])) (rt (.int 0))))
      (putS 4 (callO LB.K08.F__law_draw 0 [(rd 1)]) (rt (.int 1)))
      nilS)
    (seqS (ifS (tst (op2 uEq (rd 3) (rt (.int 2))))
      (seqS (setS 6 (op2 uAdd (rt (.int 2)) (callO LB.K08.F__law_draw 0 [(rt (.int 30))])))
    (setO 4 (qo (lc (itU (rd 4)) (tgN 7) yesM (op2 uMul (rd 6) (rd 7)) [7]))))
      nilS)
    (frz 4 (retS (rd 4)))))
noncomputable def nTail2 : Stm := (seqS (forS (itR (op2 uMul (rd 1) (opA oInt [(op2 oGt (rd 3) (rt (.int 0)))]))) (tgN 5)
      (seqS (putS 4 (rd 5) (callO LB.K08.F__law_draw 0 [(op2 uIx (lst [(rt (.int 1)), (rt (.int 1)), (rt (.int 9)), (rt (.int 50)), (rt (.int 1000)), (rt (.int 1000))]) (rd 3))]))
    (seqS (ifS (tst (op2 uEq (rd 3) (rt (.int 1))))
      (putS 4 (rd 5) (callO LB.K08.F__law_great 0 [(rd 2)]))
      nilS)
    (ifS (band (tst (op2 uEq (rd 3) (rt (.int 3)))) (tst (op2 oGt (callO LB.K08.F__law_draw 0 [(rt (.int 3))]) (rt (.int 0)))))
      (putS 4 (rd 5) (rt (.int 0)))
      nilS)))) nTail3)
def nEnd (cs : List Int) (n m M : Nat) : Fl → Ev → Prop := fun fl ρ' => ∃ d, fl = .rt d ∧ ∃ c', ρ'[0]? = some (.ow false c') ∧ ∃ xs : List Int, d = .list (xs.map PyData.int) ∧ Nb m (bN M) xs ∧ 0 < xs.sum ∧ PenK cs (n + 400) c'
theorem sum_by (b : Int) : ∀ xs : List Int, (xs.map fun x => b * x).sum = b * xs.sum
  | [] => by simp
  | x :: xs => by rw [List.map_cons, List.sum_cons, List.sum_cons, sum_by b xs, Int.mul_add]
theorem by_map (b : Int) (xs : List Int) : (xs.map PyData.int).map (byD b) = (xs.map fun x => b * x).map PyData.int := by
  rw [List.map_map, List.map_map]
  rfl
theorem n_last {cs : List Int} {n k : Nat} (hk : k ≤ n + 390) (hn : n ≤ 70000) (hl : cs.length ≤ 63) {m M : Nat} (h10 : m ≤ 10) (M0 : 1 ≤ M) {w Bw : Int} (hB : Bw ≤ bN M) (h2 : w = 2 → Bw = 9) {c : Oc} (p : PenK cs k c) {xs : List Int} (b : Nb m Bw xs) (hs : 0 < xs.sum) (s5 : Sl) :
    WS (seqS (ifS (tst (op2 uEq (rd 3) (rt (.int 2))))
      (seqS (setS 6 (op2 uAdd (rt (.int 2)) (callO LB.K08.F__law_draw 0 [(rt (.int 30))])))
    (setO 4 (qo (lc (itU (rd 4)) (tgN 7) yesM (op2 uMul (rd 6) (rd 7)) [7]))))
      nilS)
    (frz 4 (retS (rd 4)))) [.ow false c, .da (.int (m : Int)), .da (.int (M : Int)), .da (.int w), .ow true (.lst (xs.map PyData.int)), s5, .un, .un] (nEnd cs n m M) := by
  have hM := bN_mono M0
  have hB1 : bN 1 = 1000000 := rfl
  by_cases e : w = 2
  · have hb9 := h2 e
    subst e
    obtain ⟨d, c1, e1, y, rfl, y0, y1, p1⟩ := draw_eq p hl (by omega) (m := 30) (by decide) (by decide)
    simp only [LB.dnS, DL.ol, DL.ow, DL.oT, DL.oI, LB.bkF, Nat.reduceAdd, Nat.reduceEqDiff, reduceIte, ol, ow, oT, oI, bkF]
    refine ⟨_, _, e1, ?_⟩
    simp only [LB.dnS, DL.ol, DL.ow, DL.oT, DL.oI, LB.bkF, Nat.reduceAdd, Nat.reduceEqDiff, reduceIte, ol, ow, oT, oI, bkF, add_int]
    rw [then_nx]
    simp only [LB.dnS, DL.ol, DL.ow, DL.oT, DL.oI, LB.bkF, Nat.reduceAdd, Nat.reduceEqDiff, reduceIte, ol, ow, oT, oI, bkF]
    refine ⟨rfl, by rw [b.len]; exact few10 (by omega), WL_map (byD (2 + y)) (fun d hd => ?_) ?_⟩
    · obtain ⟨x, hx, rfl⟩ := List.mem_map.mp hd
      have := b.rng x hx
      simp only [LB.dlS, DL.ol, DL.ow, DL.oT, DL.oI, LB.bkF, Nat.reduceAdd, Nat.reduceEqDiff, reduceIte, ol, ow, oT, oI, bkF, mul_int (small_mul (i := 2 + y) (j := x) (by omega) (by omega)), byD]
    · rw [by_map]
      (rw [then_nx]; simp only [LB.dnS, DL.ol, DL.ow, DL.oT, DL.oI, LB.bkF, Nat.reduceAdd, Nat.reduceEqDiff, reduceIte, ol, ow, oT, oI, bkF])
      refine ⟨flat_ints _, _, rfl, c1, rfl, _, rfl, ⟨by rw [List.length_map]; exact b.len, fun x hx => ?_⟩, ?_, p1.mono (by omega)⟩
      · obtain ⟨z, hz, rfl⟩ := List.mem_map.mp hx
        have := b.rng z hz
        have h1 := Int.mul_nonneg (show 0 ≤ 2 + y by omega) this.1
        have h2 := abs_mul_le (a := 2 + y) (c := z) (G := 32) (B := 9) (by omega) (by omega)
        omega
      · rw [sum_by]
        exact Int.mul_pos (by omega) hs
  · simp only [LB.dnS, DL.ol, DL.ow, DL.oT, DL.oI, LB.bkF, Nat.reduceAdd, Nat.reduceEqDiff, reduceIte, ol, ow, oT, oI, bkF, decide_eq_false e]
    (rw [then_nx]; simp only [LB.dnS, DL.ol, DL.ow, DL.oT, DL.oI, LB.bkF, Nat.reduceAdd, Nat.reduceEqDiff, reduceIte, ol, ow, oT, oI, bkF])
    exact ⟨_, rfl, c, rfl, xs, rfl, ⟨b.len, fun x hx => by have := b.rng x hx; omega⟩, hs, p.mono (by omega)⟩
theorem n_three {cs : List Int} {n k : Nat} (hk : k ≤ n + 380) (hn : n ≤ 70000) (hl : cs.length ≤ 63) {m M : Nat} (h1 : 1 ≤ m) (h10 : m ≤ 10) (M0 : 1 ≤ M) {w Bw : Int} (hB : Bw ≤ bN M) (hB2 : 2 ≤ Bw) (h2 : w = 2 → Bw = 9) {c : Oc} (p : PenK cs k c) {xs : List Int} (b : Nb m Bw xs) (s5 : Sl) :
    WS nTail3 [.ow false c, .da (.int (m : Int)), .da (.int (M : Int)), .da (.int w), .ow true (.lst (xs.map PyData.int)), s5, .un, .un] (nEnd cs n m M) := by
  have nn := sum_nn fun x hx => (b.rng x hx).1
  unfold nTail3
  rw [WS_seq]
  by_cases e : xs.sum = 0
  · obtain ⟨d, c1, e1, y, rfl, y0, y1, p1⟩ := draw_eq p hl (by omega) (m := (m : Int)) (by omega) (small_1900 (by omega))
    simp only [LB.dnS, DL.ol, DL.ow, DL.oT, DL.oI, LB.bkF, Nat.reduceAdd, Nat.reduceEqDiff, reduceIte, ol, ow, oT, oI, bkF, sum_l, decide_eq_true e]
    refine ⟨_, _, e1, ?_⟩
    simp only [LB.dnS, DL.ol, DL.ow, DL.oT, DL.oI, LB.bkF, Nat.reduceAdd, Nat.reduceEqDiff, reduceIte, ol, ow, oT, oI, bkF, put_n b y0 y1]
    have b2 := b.set (v := 1) (by decide) (by omega) y.toNat
    rw [then_nx]
    refine n_last (by omega) hn hl h10 M0 hB h2 p1 b2 ?_ s5
    have hm : (1 : Int) ∈ xs.set y.toNat 1 := List.mem_iff_getElem?.mpr ⟨y.toNat, by rw [List.getElem?_set, if_pos rfl, if_pos (by rw [b.len]; omega)]⟩
    have := le_sum (fun x hx => (b2.rng x hx).1) hm
    omega
  · simp only [LB.dnS, DL.ol, DL.ow, DL.oT, DL.oI, LB.bkF, Nat.reduceAdd, Nat.reduceEqDiff, reduceIte, ol, ow, oT, oI, bkF, sum_l, decide_eq_false e]
    rw [then_nx]
    exact n_last (by omega) hn hl h10 M0 hB h2 p b (by omega) s5
theorem n_two {cs : List Int} {n k : Nat} (hk : k ≤ n + 3) (hn : n ≤ 70000) (hl : cs.length ≤ 63) {m M : Nat} (h1 : 1 ≤ m) (h10 : m ≤ 10) (M0 : 1 ≤ M) (M1 : M ≤ 33) {w Bw : Int} (w0 : 0 ≤ w) (w1 : w < 6) (hB : Bw ≤ bN M) (hB2 : 2 ≤ Bw) (h2 : w = 2 → Bw = 9) (h3 : w ≠ 2 → Bw = bN M) {c : Oc} (p : PenK cs k c) {xs : List Int} (b : Nb m Bw xs) :
    WS nTail2 [.ow false c, .da (.int (m : Int)), .da (.int (M : Int)), .da (.int w), .ow true (.lst (xs.map PyData.int)), .un, .un, .un] (nEnd cs n m M) := by
  obtain ⟨t, et, t0, t1, t2⟩ := ways6 w0 w1
  have hMm := bN_mono M0
  have hB1 : bN 1 = 1000000 := rfl
  have hit : ∃ j : Nat, j ≤ m ∧ uMul (.int (m : Int)) (.int (if decide (0 < w) = true then 1 else 0)) = some (.int (j : Int)) := by
    split
    · exact ⟨m, Nat.le_refl _, by rw [mul_int (small_mul (by omega) (by decide)), Int.mul_one]⟩
    · exact ⟨0, Nat.zero_le _, by rw [mul_int (small_mul (by omega) (by decide)), Int.mul_zero]; rfl⟩
  obtain ⟨j, hj, ej⟩ := hit
  unfold nTail2
  rw [WS_seq]
  simp only [LB.dnS, DL.ol, DL.ow, DL.oT, DL.oI, LB.bkF, Nat.reduceAdd, Nat.reduceEqDiff, reduceIte, ol, ow, oT, oI, bkF, int_b, ej, rng_eq (n := j) (by omega)]
  refine WS_loop0 (fun i ρ => i ≤ j ∧ ∃ (c : Oc) (xs : List Int) (s5 : Sl), PenK cs (k + 37 * i) c ∧ Nb m Bw xs ∧ ρ = [.ow false c, .da (.int (m : Int)), .da (.int (M : Int)), .da (.int w), .ow true (.lst (xs.map PyData.int)), s5, .un, .un]) ⟨by omega, c, xs, _, p, b, rfl⟩ ?_ ?_
  · rintro i d ρ hd ⟨hi, c1, xs, s5, p1, b1, rfl⟩
    rw [List.getElem?_map] at hd
    obtain ⟨i', hi', rfl⟩ := Option.map_eq_some_iff.mp hd
    have hij : i < j := by
      have := (List.getElem?_eq_some_iff.mp hi').1
      rw [List.length_range] at this
      exact this
    rw [List.getElem?_range hij] at hi'
    cases hi'
    rw [tgN_eq]
    refine ⟨_, rfl, ?_⟩
    obtain ⟨d, c2, e2, y, rfl, y0, y1, p2⟩ := draw_eq p1 hl (by omega) (m := t) (by omega) (small_1900 (by omega))
    have yB : y < Bw := by
      by_cases e : w = 2
      · have := t2 e
        have := h2 e
        omega
      · rw [h3 e]; omega
    have b2 := b1.set (v := y) y0 yB i
    have e3 := put_n b1 (i := (i : Int)) (v := y) (by omega) (by omega)
    rw [Int.toNat_natCast] at e3
    simp only [LB.dnS, DL.ol, DL.ow, DL.oT, DL.oI, LB.bkF, Nat.reduceAdd, Nat.reduceEqDiff, reduceIte, ol, ow, oT, oI, bkF, et]
    refine ⟨_, _, e2, ?_⟩
    simp only [LB.dnS, DL.ol, DL.ow, DL.oT, DL.oI, LB.bkF, Nat.reduceAdd, Nat.reduceEqDiff, reduceIte, ol, ow, oT, oI, bkF, e3]
    by_cases ew1 : w = 1
    · subst ew1
      obtain ⟨d, c3, e4, z, rfl, z0, z1, p3⟩ := great_eq p2 hl (by omega) M0 M1
      have zB : z < Bw := by rw [h3 (by decide)]; exact z1
      have b3 := b2.set (v := z) z0 zB i
      have e5 := put_n b2 (i := (i : Int)) (v := z) (by omega) (by omega)
      rw [Int.toNat_natCast] at e5
      (rw [then_nx]; simp only [LB.dnS, DL.ol, DL.ow, DL.oT, DL.oI, LB.bkF, Nat.reduceAdd, Nat.reduceEqDiff, reduceIte, ol, ow, oT, oI, bkF])
      refine ⟨_, _, e4, ?_⟩
      simp only [LB.dnS, DL.ol, DL.ow, DL.oT, DL.oI, LB.bkF, Nat.reduceAdd, Nat.reduceEqDiff, reduceIte, ol, ow, oT, oI, bkF, e5]
      (rw [then_nx]; simp only [LB.dnS, DL.ol, DL.ow, DL.oT, DL.oI, LB.bkF, Nat.reduceAdd, Nat.reduceEqDiff, reduceIte, ol, ow, oT, oI, bkF, decide_eq_false (show ¬ (1 : Int) = 3 by decide)])
      exact ⟨by omega, c3, p3.mono (by omega), _, b3, _, rfl⟩
    · (rw [then_nx]; simp only [LB.dnS, DL.ol, DL.ow, DL.oT, DL.oI, LB.bkF, Nat.reduceAdd, Nat.reduceEqDiff, reduceIte, ol, ow, oT, oI, bkF, decide_eq_false ew1])
      by_cases ew3 : w = 3
      · subst ew3
        obtain ⟨d, c3, e4, z, rfl, z0, z1, p3⟩ := draw_eq p2 hl (by omega) (m := 3) (by decide) (by decide)
        have b3 := b2.set (v := 0) (by omega) (by omega) i
        have e5 := put_n b2 (i := (i : Int)) (v := 0) (by omega) (by omega)
        rw [Int.toNat_natCast] at e5
        (rw [then_nx]; simp only [LB.dnS, DL.ol, DL.ow, DL.oT, DL.oI, LB.bkF, Nat.reduceAdd, Nat.reduceEqDiff, reduceIte, ol, ow, oT, oI, bkF])
        refine ⟨_, _, e4, ?_⟩
        simp only [LB.dnS, DL.ol, DL.ow, DL.oT, DL.oI, LB.bkF, Nat.reduceAdd, Nat.reduceEqDiff, reduceIte, ol, ow, oT, oI, bkF, e5]
        split
        · exact ⟨by omega, c3, p3.mono (by omega), _, b3, _, rfl⟩
        · exact ⟨by omega, c3, p3.mono (by omega), _, b2, _, rfl⟩
      · (rw [then_nx]; simp only [LB.dnS, DL.ol, DL.ow, DL.oT, DL.oI, LB.bkF, Nat.reduceAdd, Nat.reduceEqDiff, reduceIte, ol, ow, oT, oI, bkF, decide_eq_false ew3])
        exact ⟨by omega, c2, p2.mono (by omega), _, b2, _, rfl⟩
  · rintro ρ ⟨hi, c1, xs, s5, p1, b1, rfl⟩
    rw [List.length_map, List.length_range] at p1
    rw [then_nx]
    exact n_three (by omega) hn hl h1 h10 M0 hB hB2 h2 p1 b1 s5
theorem numbers_eq {cs : List Int} {n : Nat} {c : Oc} (p : PenK cs n c) (hl : cs.length ≤ 63) (hn : n ≤ 70000) {m M : Nat} (h1 : 1 ≤ m) (h10 : m ≤ 10) (M0 : 1 ≤ M) (M1 : M ≤ 33) :
    ∃ d c', F__law_numbers c [.int (m : Int), .int (M : Int)] = some (.ok d, c') ∧ ∃ xs : List Int, d = .list (xs.map PyData.int) ∧ Nb m (bN M) xs ∧ 0 < xs.sum ∧ PenK cs (n + 400) c' := by
  have hB := bN_mono M0
  have hB1 : bN 1 = 1000000 := rfl
  refine runO_of rfl ?_
  show WS (seqS _ (seqS _ (seqS _ nTail2))) [.ow false c, .da (.int (m : Int)), .da (.int (M : Int)), .un, .un, .un, .un, .un] (nEnd cs n m M)
  obtain ⟨d, c1, e1, w, rfl, w0, w1, p1⟩ := draw_eq p hl (by omega) (m := 6) (by decide) (by decide)
  simp only [LB.dnS, DL.ol, DL.ow, DL.oT, DL.oI, LB.bkF, Nat.reduceAdd, Nat.reduceEqDiff, reduceIte, ol, ow, oT, oI, bkF]
  refine ⟨_, _, e1, ?_⟩
  (rw [then_nx]; simp only [LB.dnS, DL.ol, DL.ow, DL.oT, DL.oI, LB.bkF, Nat.reduceAdd, Nat.reduceEqDiff, reduceIte, ol, ow, oT, oI, bkF])
  refine ⟨by omega, by omega, Nat.le_trans (show 1 * ((m : Int)).toNat ≤ 10 by omega) (by decide), ?_⟩
  rw [Int.toNat_natCast, rep_int]
  have n0 : Nb m (if w = 2 then 9 else bN M) (List.replicate m 0) := ⟨List.length_replicate, fun x hx => by
    rw [(List.mem_replicate.mp hx).2]
    split <;> omega⟩
  generalize hBw : (if w = 2 then (9 : Int) else bN M) = Bw at n0
  have hBw1 : 2 ≤ Bw ∧ Bw ≤ bN M ∧ (w ≠ 2 → Bw = bN M) ∧ (w = 2 → Bw = 9) := by
    rw [← hBw]
    split
    · exact ⟨by omega, by omega, fun z => by omega, fun _ => rfl⟩
    · exact ⟨by omega, by omega, fun _ => rfl, fun z => by omega⟩
  generalize List.replicate m (0 : Int) = xs0 at n0 ⊢
  by_cases e : w = 0
  · subst e
    obtain ⟨d, c2, e2, y, rfl, y0, y1, p2⟩ := draw_eq p1 hl (by omega) (m := 9) (by decide) (by decide)
    obtain ⟨d, c3, e3, z, rfl, z0, z1, p3⟩ := draw_eq p2 hl (by omega) (m := (m : Int)) (by omega) (small_1900 (by omega))
    have h3 := hBw1.2.2.1 (by decide)
    (rw [then_nx]; simp only [LB.dnS, DL.ol, DL.ow, DL.oT, DL.oI, LB.bkF, Nat.reduceAdd, Nat.reduceEqDiff, reduceIte, ol, ow, oT, oI, bkF])
    refine ⟨_, _, e2, ?_⟩
    simp only [LB.dnS, DL.ol, DL.ow, DL.oT, DL.oI, LB.bkF, Nat.reduceAdd, Nat.reduceEqDiff, reduceIte, ol, ow, oT, oI, bkF, add_int]
    refine ⟨_, _, e3, ?_⟩
    simp only [LB.dnS, DL.ol, DL.ow, DL.oT, DL.oI, LB.bkF, Nat.reduceAdd, Nat.reduceEqDiff, reduceIte, ol, ow, oT, oI, bkF, put_n n0 (v := 1 + y) z0 z1]
    rw [then_nx]
    exact n_two (by omega) hn hl h1 h10 M0 M1 w0 w1 hBw1.2.1 hBw1.1 hBw1.2.2.2 hBw1.2.2.1 p3 (n0.set (v := 1 + y) (by omega) (by omega) z.toNat)
  · (rw [then_nx]; simp only [LB.dnS, DL.ol, DL.ow, DL.oT, DL.oI, LB.bkF, Nat.reduceAdd, Nat.reduceEqDiff, reduceIte, ol, ow, oT, oI, bkF, decide_eq_false e])
    rw [then_nx]
    exact n_two (by omega) hn hl h1 h10 M0 M1 w0 w1 hBw1.2.1 hBw1.1 hBw1.2.2.2 hBw1.2.2.1 p1 n0
end LB.K08
set_option Elab.async false
set_option linter.all false
set_option maxRecDepth 100000
set_option maxHeartbeats 4000000
namespace LB.K08
open PySem PySem.Spec PyProof.Rows L2 GL DL
open LB.K15 (norm spD mul_norm gcd_norm pos_some sum_mul)
structure Sq (m : Nat) (B : Int) (xs : List Int) : Prop where
  len : xs.length = m
  nn : ∀ x ∈ xs, 0 ≤ x
  pos : 0 < xs.sum
  lt : xs.sum ≤ B
  one : gcdL xs = 1
def dvD (g : Int) : D → D
  | .int x => .int (x / g)
  | d => d
theorem dv_map (g : Int) (xs : List Int) : (xs.map PyData.int).map (dvD g) = (xs.map fun x => x / g).map PyData.int := by
  rw [List.map_map, List.map_map]
  rfl
theorem nb_sum {m : Nat} {B : Int} {xs : List Int} (b : Nb m B xs) (h10 : m ≤ 10) (hB : 0 ≤ B) : xs.sum ≤ B * 10 := by
  have h1 := LB.K13.sum_le10 (B := B) (xs := xs) fun x hx => by have := b.rng x hx; omega
  have h2 : B * (xs.length : Int) ≤ B * 10 := Int.mul_le_mul_of_nonneg_left (by rw [b.len]; omega) hB
  omega
theorem norm_sq {m : Nat} {B : Int} {ys : List Int} (hl : ys.length = m) (nn : ∀ y ∈ ys, 0 ≤ y) (p : 0 < ys.sum) (lt : ys.sum ≤ B) :
    Sq m B (norm ys) ∧ 0 < ((gcdL ys : Nat) : Int) ∧ ((gcdL ys : Nat) : Int) ≤ B ∧ ys.sum / ((gcdL ys : Nat) : Int) = (norm ys).sum := by
  obtain ⟨v, hv, v0⟩ := pos_some nn p
  have hg := gcdL_pos hv (by omega : v ≠ 0)
  have hgl := Int.le_of_dvd v0 (gcdL_dvd hv)
  have hvs := le_sum nn hv
  have ex := mul_norm hg
  have tx : ys.sum = ((gcdL ys : Nat) : Int) * (norm ys).sum := by
    conv => lhs; rw [← ex]
    exact sum_mul _ _
  have hp : 0 < (norm ys).sum := by
    refine Int.not_le.mp fun z => ?_
    have : ((gcdL ys : Nat) : Int) * (norm ys).sum ≤ 0 := Int.mul_nonpos_of_nonneg_of_nonpos (by omega) z
    omega
  have hle : (norm ys).sum ≤ ys.sum := by
    rw [tx]
    have : 1 * (norm ys).sum ≤ ((gcdL ys : Nat) : Int) * (norm ys).sum := Int.mul_le_mul_of_nonneg_right (by omega) (by omega)
    omega
  refine ⟨⟨by unfold norm; rw [List.length_map, hl], fun x hx => ?_, hp, by omega, gcd_norm hg⟩, hg, by omega, ?_⟩
  · obtain ⟨y, hy, rfl⟩ := List.mem_map.mp hx
    exact Int.ediv_nonneg (nn y hy) (by omega)
  · rw [tx, Int.mul_ediv_cancel_left _ (by omega)]
theorem sp_of_norm {xs : List Int} {g : Int} (h : xs.sum / g = (norm xs).sum) (hg : g = ((gcdL xs : Nat) : Int)) : (PyData.tuple [.tuple ((xs.map fun x => x / g).map PyData.int), .int (xs.sum / g)]) = spD (norm xs) := by
  subst hg
  rw [h]
  rfl
theorem bN_div {M : Nat} (M1 : M ≤ 33) {g : Int} (g0 : 0 < g) (g1 : g ≤ bN M * 10) (z : Int) : CDivW z g := by
  have h1 := bN_mono M1
  refine small_div g0 (Nat.lt_of_le_of_lt (show g.natAbs ≤ (bN 33 * 10).natAbs by omega) (by decide))
theorem split_eq {cs : List Int} {n : Nat} {c : Oc} (p : PenK cs n c) (hl : cs.length ≤ 63) (hn : n ≤ 70000) {m M : Nat} (h1 : 1 ≤ m) (h10 : m ≤ 10) (M0 : 1 ≤ M) (M1 : M ≤ 33) :
    ∃ d c', F__law_split c [.int (m : Int), .int (M : Int)] = some (.ok d, c') ∧ ∃ xs : List Int, d = spD xs ∧ Sq m (bN M * 10) xs ∧ PenK cs (n + 400) c' := by
  refine runO_of rfl ?_
  show WS B__law_split [.ow false c, .da (.int (m : Int)), .da (.int (M : Int)), .un, .un, .un] _
  unfold B__law_split
  obtain ⟨d, c1, e1, xs, rfl, b, hs, p1⟩ := numbers_eq p hl hn h1 h10 M0 M1
  have hB := bN_pos M
  obtain ⟨sq, g0, g1, eg⟩ := norm_sq (m := m) b.len (fun x hx => (b.rng x hx).1) hs (nb_sum b h10 (by omega))
  simp only [LB.dnS, DL.ol, DL.ow, DL.oT, DL.oI, LB.bkF, Nat.reduceAdd, Nat.reduceEqDiff, reduceIte, ol, ow, oT, oI, bkF]
  refine ⟨_, _, e1, ?_⟩
  (rw [then_nx]; simp only [LB.dnS, DL.ol, DL.ow, DL.oT, DL.oI, LB.bkF, Nat.reduceAdd, Nat.reduceEqDiff, reduceIte, ol, ow, oT, oI, bkF, measure_eq (d := .list (xs.map PyData.int)) (xs := xs) rfl fun x hx => (b.rng x hx).1])
  (rw [then_nx]; simp only [LB.dnS, DL.ol, DL.ow, DL.oT, DL.oI, LB.bkF, Nat.reduceAdd, Nat.reduceEqDiff, reduceIte, ol, ow, oT, oI, bkF])
  refine ⟨rfl, by rw [b.len]; exact few10 (by omega), WL_map (dvD ((gcdL xs : Nat) : Int)) (fun d hd => ?_) ?_⟩
  · obtain ⟨x, hx, rfl⟩ := List.mem_map.mp hd
    simp only [LB.dlS, DL.ol, DL.ow, DL.oT, DL.oI, LB.bkF, Nat.reduceAdd, Nat.reduceEqDiff, reduceIte, ol, ow, oT, oI, bkF, div_int (bN_div M1 g0 g1 x), dvD]
  · rw [dv_map]
    simp only [LB.dnS, DL.ol, DL.ow, DL.oT, DL.oI, LB.bkF, Nat.reduceAdd, Nat.reduceEqDiff, reduceIte, ol, ow, oT, oI, bkF, sum_l, div_int (bN_div M1 g0 g1 xs.sum)]
    exact ⟨_, rfl, norm xs, sp_of_norm eg rfl, sq, p1⟩
end LB.K08
set_option Elab.async false
set_option linter.all false
set_option maxRecDepth 100000
set_option maxHeartbeats 4000000
namespace LB.K21
open PySem PySem.Spec PyProof.Rows L2 GL DL
open LB.K29 (weight_eq gcd_pos top_eq bot_eq ends_eq frac_eq topOf botOf fracD negS posS leaps_sum div_abs)
open LB.K12 (common_eq exL exL_g)
theorem fr_bd {t b B : Int} (hb : 0 < b) (ht : -B ≤ t ∧ t ≤ B) (hB : b ≤ B) : (-B ≤ t / (Int.gcd t b : Nat) ∧ t / (Int.gcd t b : Nat) ≤ B) ∧ (-B ≤ b / (Int.gcd t b : Nat) ∧ b / (Int.gcd t b : Nat) ≤ B) :=
  have hg := gcd_pos (a := t) hb
  ⟨div_abs hg ht, div_abs hg (by omega)⟩
theorem sm_fr {t b B : Int} (hB : B ≤ huge) (hb : 0 < b) (ht : -B ≤ t ∧ t ≤ B) (hbB : b ≤ B) : Sm 1 2 (fracD t b) := by
  obtain ⟨h1, h2⟩ := fr_bd hb ht hbB
  exact (Sm.tup (SmAll.cons (Sm.int (fineB hB h1)) (.cons (Sm.int (fineB hB h2)) .nil))).mono (by decide) (by decide)
def big7 : Int := big6 * 100000
theorem sum_abs {B : Int} (hB : 0 ≤ B) (q : Int → Bool) : ∀ {xs : List Int}, (∀ x ∈ xs, -B ≤ x ∧ x ≤ B) → -(B * (xs.length : Int)) ≤ (xs.filter q).sum ∧ (xs.filter q).sum ≤ B * (xs.length : Int)
  | [], _ => by simp
  | x :: xs, h => by
    have ih := sum_abs hB q (xs := xs) fun y hy => h y (List.mem_cons_of_mem _ hy)
    have hx := h x List.mem_cons_self
    have e : B * ((x :: xs).length : Int) = B * (xs.length : Int) + B := by
      rw [List.length_cons, Int.natCast_add, Int.mul_add]
      simp
    rw [e, List.filter_cons]
    split
    · rw [List.sum_cons]; omega
    · omega
theorem rest_sum {W : Web} {L : Lot} (h : WebOk W) (p : G5 W L) (q : Int → Bool) : -(big6 * 10) ≤ (L.rest.filter q).sum ∧ (L.rest.filter q).sum ≤ big6 * 10 := by
  have b := p.bd h
  have := sum_abs (B := big6) (by decide) q b.rest
  have h2 : big6 * (L.rest.length : Int) ≤ big6 * 10 := Int.mul_le_mul_of_nonneg_left (by have := b.l2; omega) (by decide)
  omega
theorem top_rng {W : Web} {L : Lot} (h : WebOk W) (p : G5 W L) {a : Int} (a0 : 0 ≤ a) (a1 : a < W.names.length) : -(big5 * 3600) ≤ topOf W L a ∧ topOf W L a ≤ big5 * 3600 := by
  have hc := h.chance
  have hM := h.many
  have hs := sum_rng (xs := rowOf W a) (row_rng h a)
  rw [row_len h.fits a] at hs
  have h1 := abs_mul_le (a := W.p) (c := (rowOf W a).sum) (G := 12) (B := 300) (by omega) (by omega)
  have h2 := p.goings _ (rest_at (xs := L.goings) a0 (by rw [p.len]; exact a1)).2
  have h3 := abs_mul_le h1 h2
  unfold topOf
  have : big5 * 3600 = 12 * 300 * big5 := by decide
  omega
theorem bot_rng {W : Web} {L : Lot} (h : WebOk W) (p : G5 W L) : 0 < botOf W L ∧ botOf W L ≤ big5 * 300 := by
  have hl := leaps_sum h
  have hg := p.g
  have h1 := abs_mul_le (a := L.g) (c := W.leaps.sum) (G := big5) (B := 300) (by unfold big5 at *; omega) (by omega)
  exact ⟨Int.mul_pos (by omega) (by omega), h1.2⟩
theorem asks {W : Web} {L : Lot} (h : WebOk W) (p : G5 W L) {a : Int} (a0 : 0 ≤ a) (a1 : a < W.names.length) :
    ∃ t b x y, F__law_due [webD W, lotD L, .int a] = some (.ok (.tuple [t, b])) ∧ F_told_share [webD W, lotD L, .int a] = some (.ok t) ∧ LB.K29.F_ends_of [webD W, lotD L, .int a] = some (.ok b) ∧ oRepr [t] = some (.str x) ∧ oRepr [b] = some (.str y) := by
  have ht := top_rng h p a0 a1
  have hb := bot_rng h p
  have bd := p.bd h
  have h1 := fun x hx => lt_of (bd.goings x hx)
  have h2 := lt_of bd.g
  have h3 : (botOf W L).natAbs < 2 ^ 1900 := lt_of (by unfold big6 big5 at *; omega)
  have n1 := rest_sum h p fun x => decide (x < 0)
  have n2 := rest_sum h p fun x => decide (0 < x)
  have n1 : -(big6 * 10) ≤ negS L.rest ∧ negS L.rest ≤ big6 * 10 := n1
  have n2 : -(big6 * 10) ≤ posS L.rest ∧ posS L.rest ≤ big6 * 10 := n2
  have hB : big7 ≤ huge := by decide
  have hb7 : botOf W L ≤ big7 := by unfold big7 big6 big5 at *; omega
  refine ⟨_, _, _, _, due_eq h p.len h1 h2 hb.1 h3 a0 a1, told_eq h p.len h1 h2 hb.1 h3 a0 a1, ends_eq h p.len h1 h2 hb.1 h3 a0 a1, repr_t ((sm_fr hB hb.1 (by unfold big7 big6 big5 at *; omega) hb7).show (by decide) (by decide)), repr_t (Sm.show (k := 2) (n := 6) ((Sm.tup (SmAll.cons (sm_fr hB hb.1 (by unfold big7 big6 big5 at *; omega) hb7) (.cons (sm_fr hB hb.1 (by unfold big7 big6 big5 at *; omega) hb7) (SmAll.nil.mono (Nat.zero_le _) (Nat.le_refl _))))).mono (by decide) (by decide)) (by decide) (by decide))⟩
end LB.K21
set_option Elab.async false
set_option linter.all false
set_option maxRecDepth 100000
set_option maxHeartbeats 4000000
namespace LB.K22
open PySem PySem.Spec PyProof.Rows L2 GL DL
open LB.K29 (weight_eq gcd_pos top_eq bot_eq ends_eq frac_eq topOf botOf fracD negS posS leaps_sum div_abs)
open LB.K12 (common_eq exL exL_g ex_rs sm_mul)
open LB.K13 (wt wt_rng shV shL shT shG shG_pos sh_at shT_eq total shV_sum cf_sum sm_swap shL_len)
open LB.K21 (sum_abs told_eq)
theorem sm_le {f g : Nat → Int} : ∀ n, (∀ i, i < n → f i ≤ g i) → sm f n ≤ sm g n
  | 0, _ => Int.le_refl _
  | n + 1, h => by
    show sm f n + f n ≤ sm g n + g n
    have := sm_le n fun i hi => h i (by omega)
    have := h n (by omega)
    omega
theorem sm_ge {f : Nat → Int} {j : Nat} : ∀ n, j < n → (∀ i, i < n → 0 ≤ f i) → f j ≤ sm f n
  | n + 1, hj, h => by
    show f j ≤ sm f n + f n
    by_cases e : j = n
    · subst e
      have : ∀ m, m ≤ j → 0 ≤ sm f m := fun m => by
        induction m with
        | zero => intro _; exact Int.le_refl 0
        | succ m ih =>
          intro hm
          show 0 ≤ sm f m + f m
          have h1 := ih (by omega)
          have h2 := h m (by omega)
          omega
      have := this j (Nat.le_refl _)
      omega
    · have h8 := sm_ge (f := f) (j := j) n (by omega) fun i hi => h i (by omega)
      have h9 := h n (by omega)
      omega
theorem sm_0 : ∀ n, sm (fun _ => 0) n = 0
  | 0 => rfl
  | n + 1 => by show sm _ n + 0 = 0; rw [sm_0 n]; rfl
theorem sm_np {f : Nat → Int} (n : Nat) (h : ∀ i, i < n → f i ≤ 0) : sm f n ≤ 0 := by
  have := sm_le (f := f) (g := fun _ => 0) n h
  rw [sm_0] at this
  exact this
theorem sm_nn {f : Nat → Int} (n : Nat) (h : ∀ i, i < n → 0 ≤ f i) : 0 ≤ sm f n := by
  have := sm_le (f := fun _ => 0) (g := f) n h
  rw [sm_0] at this
  exact this
theorem most {W : Web} (h : WebOk W) (u : Nat → Int) {j : Nat} (hj : j < W.names.length) :
    W.p * wt W j * u j ≤ sm (fun b => max (sm (fun a => u a * cf W a b) W.names.length) 0) W.names.length := by
  have hc := h.chance
  have e0 : sm (fun b => if 0 < u b then sm (fun a => u a * cf W a b) W.names.length else 0) W.names.length ≤ sm (fun b => max (sm (fun a => u a * cf W a b) W.names.length) 0) W.names.length := sm_le _ fun b hb => by
    split <;> omega
  refine Int.le_trans ?_ e0
  have e1 : sm (fun b => if 0 < u b then sm (fun a => u a * cf W a b) W.names.length else 0) W.names.length = sm (fun a => u a * sm (fun b => if 0 < u b then cf W a b else 0) W.names.length) W.names.length := by
    have : sm (fun b => if 0 < u b then sm (fun a => u a * cf W a b) W.names.length else 0) W.names.length = sm (fun b => sm (fun a => u a * (if 0 < u b then cf W a b else 0)) W.names.length) W.names.length := sm_congr _ fun b hb => by
      split
      · rfl
      · have z : ∀ n, sm (fun a => u a * 0) n = 0 := fun n => by
          rw [sm_congr (g := fun _ => 0) n fun i _ => Int.mul_zero _]
          induction n with
          | zero => rfl
          | succ n ih => show sm _ n + 0 = 0; rw [ih]; rfl
        rw [z]
    rw [this, sm_swap]
    exact sm_congr _ fun a ha => sm_mul _ _ _
  rw [e1]
  have e2 : ∀ a, a < W.names.length → (if 0 < u a then W.p * wt W a * u a else 0) ≤ u a * sm (fun b => if 0 < u b then cf W a b else 0) W.names.length := fun a ha => by
    split
    · rename_i c
      have : W.p * wt W a ≤ sm (fun b => if 0 < u b then cf W a b else 0) W.names.length := by
        rw [← cf_sum h ha]
        refine sm_le _ fun b hb => ?_
        by_cases e : b = a
        · subst e
          rw [if_pos c]
          exact Int.le_refl _
        · have := cf_neg h e
          split <;> omega
      rw [Int.mul_comm (W.p * wt W a) (u a)]
      exact Int.mul_le_mul_of_nonneg_left this (by omega)
    · rename_i c
      have : sm (fun b => if 0 < u b then cf W a b else 0) W.names.length ≤ 0 := by
        refine sm_np _ fun b hb => ?_
        by_cases e : b = a
        · subst e
          rw [if_neg c]
          exact Int.le_refl _
        · have := cf_neg h e
          split <;> omega
      exact Int.mul_nonneg_of_nonpos_of_nonpos (by omega) this
  refine Int.le_trans ?_ (sm_le _ e2)
  by_cases c : 0 < u j
  · have := sm_ge (f := fun a => if 0 < u a then W.p * wt W a * u a else 0) W.names.length hj fun i hi => by
      show 0 ≤ if 0 < u i then W.p * wt W i * u i else 0
      have hw := wt_rng h hi
      split
      · exact Int.mul_nonneg (Int.mul_nonneg (by omega) (by omega)) (by omega)
      · exact Int.le_refl _
    rw [if_pos c] at this
    exact this
  · have hw := wt_rng h hj
    have h1 : W.p * wt W j * u j ≤ 0 := Int.mul_nonpos_of_nonneg_of_nonpos (Int.mul_nonneg (by omega) (by omega)) (by omega)
    refine Int.le_trans h1 (sm_nn _ fun i hi => ?_)
    have hw := wt_rng h hi
    show 0 ≤ if 0 < u i then W.p * wt W i * u i else 0
    split
    · exact Int.mul_nonneg (Int.mul_nonneg (by omega) (by omega)) (by omega)
    · exact Int.le_refl _
end LB.K22
set_option Elab.async false
set_option linter.all false
set_option maxRecDepth 100000
set_option maxHeartbeats 4000000
namespace LB.K22
open PySem PySem.Spec PyProof.Rows L2 GL DL
open LB.K29 (weight_eq gcd_pos top_eq bot_eq ends_eq frac_eq topOf botOf fracD negS posS leaps_sum div_abs beg beg_fit)
open LB.K12 (common_eq exL exL_g ex_rs sm_mul)
open LB.K13 (wt wt_rng shV shL shT shG shG_pos sh_at shT_eq total shV_sum cf_sum sm_swap shL_len)
open LB.K21 (sum_abs told_eq)
theorem restN_rngG {W : Web} (h : WebOk W) {G : Int} (hG0 : 0 ≤ G) {g : Int} {goings : List Int} (hg : -G ≤ g ∧ g ≤ G) (hG : ∀ x ∈ goings, -G ≤ x ∧ x ≤ G) : ∀ i : Nat, ∀ x ∈ restN W g goings i, -(G * 100000 * ((i : Int) + 1)) ≤ x ∧ x ≤ G * 100000 * ((i : Int) + 1)
  | 0, x, hx => by
    obtain ⟨l, hl, rfl⟩ := List.mem_map.mp hx
    have h1 := h.leaps.rng l hl
    have h2 := abs_mul_le hg (c := l) (B := 30) (by omega)
    rw [show G * 100000 * (((0 : Nat) : Int) + 1) = G * 100000 by simp]
    omega
  | i + 1, x, hx => by
    obtain ⟨n, hn, c, hc, rfl⟩ := zw_mem hx
    have h1 := restN_rngG h hG0 hg hG i n hn
    have h2 := col_rng h i c hc
    have h3 : -G ≤ goings.getD i 0 ∧ goings.getD i 0 ≤ G := by
      rw [List.getD_eq_getElem?_getD]
      cases e : goings[i]? with
      | none => exact ⟨by show -G ≤ 0; omega, hG0⟩
      | some v => exact hG v (List.mem_of_getElem? e)
    have h4 := abs_mul_le h3 (c := c) (B := 100000) (by omega)
    have e : G * 100000 * (((i + 1 : Nat) : Int) + 1) = G * 100000 * ((i : Int) + 1) + G * 100000 := by
      rw [Int.natCast_add, Int.mul_add (G * 100000) (((i : Nat) : Int) + ((1 : Nat) : Int)) 1]
      simp
    rw [e]
    generalize G * 100000 * ((i : Int) + 1) = A at *
    omega
def bigJ : Int := 100000000000000000000000000000000000000000000000000000000000000000000000
structure GJ (W : Web) (L : Lot) : Prop where
  fit : Fit W L
  g : 1 ≤ L.g ∧ L.g ≤ bigJ
  goings : ∀ x ∈ L.goings, -bigJ ≤ x ∧ x ≤ bigJ
def bigR : Int := bigJ * 1100000
theorem GJ.rest {W : Web} {L : Lot} (h : WebOk W) (p : GJ W L) : ∀ x ∈ L.rest, -bigR ≤ x ∧ x ≤ bigR := fun x hx => by
  have hM := h.many
  rw [p.fit.rest] at hx
  have hl := p.fit.len
  have := restN_rngG h (G := bigJ) (by decide) (g := L.g) (goings := L.goings) (by have := p.g; unfold bigJ at *; omega) p.goings L.goings.length x hx
  rw [hl] at this
  unfold bigR bigJ at *
  omega
theorem GJ.nar {W : Web} {L : Lot} (p : GJ W L) : Nar L := ⟨lt1900 (B := bigJ) (by decide) (by have := p.g; unfold bigJ at *; omega), fun x hx => lt1900 (B := bigJ) (by decide) (p.goings x hx)⟩
theorem GJ.sums {W : Web} {L : Lot} (h : WebOk W) (p : GJ W L) (q : Int → Bool) : -(bigR * 10) ≤ (L.rest.filter q).sum ∧ (L.rest.filter q).sum ≤ bigR * 10 := by
  have hM := h.many
  have hl := p.fit.rlen h
  have := sum_abs (B := bigR) (by decide) q (p.rest h)
  have h2 : bigR * (L.rest.length : Int) ≤ bigR * 10 := Int.mul_le_mul_of_nonneg_left (by omega) (by decide)
  omega
end LB.K22
set_option Elab.async false
set_option linter.all false
set_option maxRecDepth 100000
set_option maxHeartbeats 4000000
namespace LB.K22
open PySem PySem.Spec PyProof.Rows L2 GL DL
open LB.K29 (weight_eq gcd_pos top_eq bot_eq ends_eq frac_eq topOf botOf fracD negS posS leaps_sum div_abs beg beg_fit)
open LB.K12 (common_eq exL exL_g ex_rs sm_mul)
open LB.K13 (shL shT)
open LB.K21 (sum_abs told_eq)
end LB.K22
set_option Elab.async false
set_option linter.all false
set_option maxRecDepth 100000
set_option maxHeartbeats 2000000
namespace LB.K29
open PySem PySem.Spec PyProof.Rows L2 GL DL
end LB.K29
set_option Elab.async false
set_option linter.all false
set_option maxRecDepth 100000
set_option maxHeartbeats 4000000
namespace LB.K28
open PySem PySem.Spec PyProof.Rows L2 GL DL
open LB.K29 (beg beg_fit beg_nn Tm)
open LB.K12 (exL exL_g ex_rs)
end LB.K28
set_option Elab.async false
set_option linter.all false
set_option maxRecDepth 100000
set_option maxHeartbeats 4000000
namespace LB.K08
open PySem PySem.Spec PyProof.Rows L2 GL DL
open LB.K15 (norm spD Sm2 same)
open LB.K29 (fracD gcd_pos)
end LB.K08
set_option Elab.async false
set_option linter.all false
set_option maxRecDepth 100000
set_option maxHeartbeats 4000000
namespace LB.K08
open PySem PySem.Spec PyProof.Rows L2 GL DL
open LB.K15 (norm spD Sm2 same)
open LB.K29 (fracD gcd_pos)
end LB.K08
set_option Elab.async false
set_option linter.all false
set_option maxRecDepth 100000
set_option maxHeartbeats 4000000
namespace LB.K08
open PySem PySem.Spec PyProof.Rows L2 GL DL
open LB.K15 (norm spD)
end LB.K08
set_option Elab.async false
set_option linter.all false
set_option maxRecDepth 100000
set_option maxHeartbeats 4000000
namespace LB.K08
open PySem PySem.Spec PyProof.Rows L2 GL DL
open LB.K15 (norm spD Sm2)
open LB.K29 (fracD gcd_pos)
end LB.K08
set_option Elab.async false
set_option linter.all false
set_option maxRecDepth 100000
set_option maxHeartbeats 4000000
namespace LB.K09
open PySem PySem.Spec PyProof.Rows L2 GL DL
open LB.K08 (PenK)
end LB.K09
set_option Elab.async false
set_option linter.all false
set_option maxRecDepth 100000
set_option maxHeartbeats 4000000
namespace LB.K09
open PySem PySem.Spec PyProof.Rows L2 GL DL
open LB.K08 (PenK)
end LB.K09
set_option Elab.async false
set_option linter.all false
set_option maxRecDepth 100000
set_option maxHeartbeats 4000000
namespace LB.K09
open PySem PySem.Spec PyProof.Rows L2 GL DL
open LB.K08 (PenK)
theorem W_popo {ρ : Ev} {i : Nat} {f : Mo D} {Q : D → Ev → Prop} : W (popo i f) ρ Q ↔ (ol ρ i).isSome = true ∧ W (args [f]) ρ fun es ρ1 => ∃ j, es = [j] ∧ ∃ l ds, ρ1[i]? = some (.ow l (.lst ds)) ∧ ∃ p, popAt ds j = some p ∧ Q p.1 (ρ1.set i (.ow l (.lst p.2))) := by
  constructor
  · rintro ⟨v, ρ', e, q⟩
    unfold popo at e
    cases e0 : ol ρ i with
    | none => rw [e0] at e; cases e
    | some z =>
      rw [e0] at e
      refine ⟨rfl, ?_⟩
      rcases bnd_cases e with ⟨x, e1, h1⟩ | ⟨es, ρ1, e1, h1⟩
      · cases h1
      · refine ⟨es, ρ1, e1, ?_⟩
        split at h1
        · rename_i j
          split at h1
          · cases h1
          · rename_i l ds e2
            obtain ⟨p, hp, h2⟩ := Option.map_eq_some_iff.mp h1
            cases h2
            exact ⟨j, rfl, l, ds, ol_ok e2, p, hp, q⟩
        · cases h1
  · rintro ⟨h0, es, ρ1, e1, j, rfl, l, ds, e2, p, hp, q⟩
    obtain ⟨z, hz⟩ := Option.isSome_iff_exists.mp h0
    refine ⟨p.1, _, ?_, q⟩
    unfold popo
    rw [hz]
    have e3 : ol ρ1 i = some (l, ds) := by unfold ol; rw [e2]
    simp only [bnd, e1, e3, hp, Option.map_some]
theorem erase_map {α β : Type} (f : α → β) : ∀ (l : List α) (j : Nat), (l.map f).eraseIdx j = (l.eraseIdx j).map f
  | [], _ => rfl
  | _ :: _, 0 => rfl
  | x :: l, j + 1 => by rw [List.map_cons, List.eraseIdx_cons_succ, List.eraseIdx_cons_succ, List.map_cons, erase_map f l j]
end LB.K09
set_option Elab.async false
set_option linter.all false
set_option maxRecDepth 100000
set_option maxHeartbeats 4000000
namespace LB.K09
open PySem PySem.Spec PyProof.Rows L2 GL DL
open LB.K08 (PenK)
end LB.K09
set_option Elab.async false
set_option linter.all false
set_option maxRecDepth 100000
set_option maxHeartbeats 4000000
namespace LB.K09
open PySem PySem.Spec PyProof.Rows L2 GL DL
open LB.K08 (PenK)
end LB.K09
set_option Elab.async false
set_option linter.all false
set_option maxRecDepth 100000
set_option maxHeartbeats 4000000
namespace LB.K09
open PySem PySem.Spec PyProof.Rows L2 GL DL
open LB.K29 (leaps_sum div_abs)
open LB.K13 (wt wt_rng rw_ p300 rw_rng)
open LB.K15 (Sp Bg Bg_pos lt_B m83 mW mN mN_rng pow83 cmL cm_at cm_rng rnL rn_len rn_at rn_rng rn_gcd rn_some norm spD mulK mul_at mulK_len)
end LB.K09
set_option Elab.async false
set_option linter.all false
set_option maxRecDepth 100000
set_option maxHeartbeats 4000000
namespace LB.K09
open PySem PySem.Spec PyProof.Rows L2 GL DL
open LB.K08 (PenK penK bN bN_pos Sq)
open LB.K15 (norm spD Sm2 Sp S8 rnL Bg)
end LB.K09
set_option Elab.async false
set_option linter.all false
set_option maxRecDepth 100000
set_option maxHeartbeats 4000000
namespace LB.K10
open PySem PySem.Spec PyProof.Rows L2 GL DL
open LB.K15 (norm spD Sm2 Sp rnL rn_le rn_gcd rn_rng rn_len Bg kW kW_pos kW_le m83 gcd_norm)
open LB.K29 (fracD gcd_pos)
structure Se (W : Web) (e : Nat) (xs : List Int) : Prop where
  len : xs.length = W.names.length
  nn : ∀ x ∈ xs, 0 ≤ x
  pos : 0 < xs.sum
  lt : xs.sum.natAbs < 2 ^ e
  one : gcdL xs = 1
theorem Se.sp {W : Web} {e : Nat} {xs : List Int} (s : Se W e xs) (he : e ≤ 1400) : Sp W xs := ⟨s.len, s.nn, s.pos, by
  have h1 : Bg = ((2 ^ 1400 : Nat) : Int) := by unfold Bg; norm_cast
  have h2 : xs.sum.natAbs < 2 ^ 1400 := Nat.lt_of_lt_of_le s.lt (Nat.pow_le_pow_right (by decide) he)
  have := s.pos
  omega⟩
theorem Se.round {W : Web} (h : WebOk W) {e : Nat} {xs : List Int} (s : Se W e xs) (he : e ≤ 1400) : Se W (e + 100) (norm (rnL W xs)) := by
  obtain ⟨gx, _⟩ := rn_gcd h (s.sp he)
  obtain ⟨hp, hle⟩ := rn_le h (s.sp he)
  have hkl := kW_le h
  have hk := kW_pos h
  refine ⟨by unfold norm; rw [List.length_map, rn_len], fun x hx => ?_, hp, ?_, gcd_norm gx⟩
  · obtain ⟨y, hy, rfl⟩ := List.mem_map.mp hx
    exact Int.ediv_nonneg (rn_rng h (s.sp he) y hy).1 (by omega)
  · have h1 : (kW W * xs.sum).natAbs < 2 ^ (e + 100) := by
      rw [Int.natAbs_mul, Nat.pow_add, Nat.mul_comm]
      have h2 : (kW W).natAbs < 2 ^ 100 := by
        have : (kW W).natAbs ≤ (12 * m83 * 300).natAbs := by unfold m83 at *; omega
        exact Nat.lt_of_le_of_lt this (by decide)
      exact Nat.mul_lt_mul'' s.lt h2
    omega
def itR (W : Web) (xs : List Int) : Nat → List Int
  | 0 => xs
  | n + 1 => norm (rnL W (itR W xs n))
end LB.K10
set_option Elab.async false
set_option linter.all false
set_option maxRecDepth 100000
set_option maxHeartbeats 4000000
namespace LB.K10
open PySem PySem.Spec PyProof.Rows L2 GL DL
open LB.K08 (PenK penK bN Sq)
open LB.K15 (norm spD Sm2 rnL)
open LB.K29 (fracD gcd_pos)
end LB.K10
set_option Elab.async false
set_option linter.all false
set_option maxRecDepth 100000
set_option maxHeartbeats 4000000
namespace LB.K10
open PySem PySem.Spec PyProof.Rows L2 GL DL
open LB.K08 (PenK penK bN Sq)
open LB.K15 (norm spD Sm2 rnL)
open LB.K29 (fracD gcd_pos)
end LB.K10
set_option Elab.async false
set_option linter.all false
set_option maxRecDepth 100000
set_option maxHeartbeats 4000000
namespace LB.K11
open PySem PySem.Spec PyProof.Rows L2 GL DL
open LB.K13 (wt rw_)
open LB.K15 (norm spD Sm2 Sp rnL rn_at rn_len rn_total rn_gcd kW kW_pos mW mulK mul_at mulK_len gcd_mul mul_norm sum_mul)
open LB.K10 (Se itR)
end LB.K11
set_option Elab.async false
set_option linter.all false
set_option maxRecDepth 100000
set_option maxHeartbeats 4000000
namespace LB.K11
open PySem PySem.Spec PyProof.Rows L2 GL DL
open LB.K08 (PenK penK bN Sq dvD dv_map norm_sq sp_of_norm measure_eq)
open LB.K15 (norm spD Sm2 Sp rnL rn_len rn_gcd)
open LB.K10 (Se itR)
end LB.K11
set_option Elab.async false
set_option linter.all false
set_option maxRecDepth 100000
set_option maxHeartbeats 4000000
namespace LB.K11
open PySem PySem.Spec PyProof.Rows L2 GL DL
open LB.K08 (PenK penK bN Sq)
open LB.K15 (norm spD Sm2 Sp rnL rn_len rn_gcd)
open LB.K10 (Se itR)
end LB.K11
set_option Elab.async false
set_option linter.all false
set_option maxRecDepth 100000
set_option maxHeartbeats 4000000
namespace LB.K11
open PySem PySem.Spec PyProof.Rows L2 GL DL
open LB.K08 (PenK penK bN Sq)
open LB.K15 (norm spD Sm2 Sp rnL rn_len Bg)
open LB.K29 (fracD)
open LB.K10 (Se itR)
theorem q_sm {q x : Int} (hq : 0 ≤ q ∧ q ≤ 12) (h : x.natAbs < 2 ^ 1801) : (x * q).natAbs < 2 ^ 1900 := by
  rw [Int.natAbs_mul]
  have h1 : q.natAbs ≤ 12 := by omega
  exact Nat.lt_of_le_of_lt (Nat.mul_le_mul (Nat.le_of_lt h) h1) (by decide)
end LB.K11
set_option Elab.async false
set_option linter.all false
set_option maxRecDepth 100000
set_option maxHeartbeats 4000000
namespace LB.K11
open PySem PySem.Spec PyProof.Rows L2 GL DL
open LB.K08 (PenK penK bN Sq)
open LB.K15 (spD)
open LB.K10 (Se itR)
end LB.K11
set_option Elab.async false
set_option linter.all false
set_option maxRecDepth 100000
set_option maxHeartbeats 4000000
namespace LB.K16
open PySem PySem.Spec PyProof.Rows L2 GL DL
open LB.K08 (PenK penK bN Sq)
open LB.K15 (norm spD Sm2 Sp rnL issplit_eq rn_len)
open LB.K29 (fracD gcd_pos frac_eq)
open LB.K10 (Se)
end LB.K16
set_option Elab.async false
set_option linter.all false
set_option maxRecDepth 100000
set_option maxHeartbeats 4000000
set_option pp.maxSteps 300
set_option pp.deepTerms false
namespace LB.K58
open PySem PySem.Spec PyProof.Rows L2 GL DL
end LB.K58
set_option Elab.async false
set_option linter.all false
set_option maxRecDepth 100000
set_option maxHeartbeats 4000000
namespace LB.K58
open PySem PySem.Spec PyProof.Rows L2 GL DL
end LB.K58
set_option Elab.async false
set_option linter.all false
set_option maxRecDepth 100000
set_option maxHeartbeats 4000000
namespace LB.K58
open PySem PySem.Spec PyProof.Rows L2 GL DL
end LB.K58
set_option Elab.async false
set_option linter.all false
set_option maxRecDepth 100000
set_option maxHeartbeats 4000000
namespace LB.K58
open PySem PySem.Spec PyProof.Rows L2 GL DL
def Th (d : D) : Prop := isExn d = false ∧ ∃ t : Str, oReprX [d] = some (.str t)
end LB.K58
set_option Elab.async false
set_option linter.all false
set_option maxRecDepth 100000
set_option maxHeartbeats 4000000
namespace LB.K01
open PySem PySem.Spec PyProof.Rows L2 GL DL
def parts : D → List D
  | .tuple ds => ds
  | _ => []
def NX (d : D) : Prop := isExn d = false ∧ ∀ x ∈ parts d, isExn x = false
def isF : D → Bool
  | .tuple [.int x, .int y] => decide (0 < y) && decide (Int.gcd x y = 1)
  | _ => false
def isWs (m : Int) : D → Bool
  | .tuple ds => decide ((ds.length : Int) = m) && ds.all K25.isW
  | _ => false
theorem wholes_any {d : D} (h : NX d) (m : Int) : LB.F_are_wholes [.int m, d] = some (.ok (.bool (isWs m d))) := by
  refine runP_of rfl ?_
  show WS LB.B_are_wholes [.da (.int m), .da d, .un] _
  unfold LB.B_are_wholes
  cases d with
  | tuple ds =>
    simp only [LB.dnS, DL.ol, DL.ow, DL.oT, DL.oI, LB.bkF, Nat.reduceAdd, Nat.reduceEqDiff, reduceIte, ol, ow, oT, oI, bkF]
    by_cases c : (ds.length : Int) = m
    · rw [decide_eq_true c]
      simp only [LB.dnS, DL.ol, DL.ow, DL.oT, DL.oI, LB.bkF, Nat.reduceAdd, Nat.reduceEqDiff, reduceIte, ol, ow, oT, oI, bkF]
      refine ⟨rfl, WG_all K25.isW (fun x hx => ?_) ?_⟩
      · rw [tgN_eq]
        refine ⟨_, rfl, ?_⟩
        simp only [LB.dnS, DL.ol, DL.ow, DL.oT, DL.oI, LB.bkF, Nat.reduceAdd, Nat.reduceEqDiff, reduceIte, ol, ow, oT, oI, bkF, K25.whole_any (h.2 x hx)]
      · show Fl.rt (.bool (ds.all K25.isW)) = Fl.rt (.bool (decide _ && _))
        rw [decide_eq_true c, Bool.true_and]
    · rw [decide_eq_false c]
      simp only [LB.dnS, DL.ol, DL.ow, DL.oT, DL.oI, LB.bkF, Nat.reduceAdd, Nat.reduceEqDiff, reduceIte, ol, ow, oT, oI, bkF]
      show Fl.rt (.bool false) = Fl.rt (.bool (decide _ && _))
      rw [decide_eq_false c, Bool.false_and]
  | int n =>
    simp only [LB.dnS, DL.ol, DL.ow, DL.oT, DL.oI, LB.bkF, Nat.reduceAdd, Nat.reduceEqDiff, reduceIte, ol, ow, oT, oI, bkF, show (tyN (PyData.int n) == "tuple" || ("tuple" == "int" && tyN (PyData.int n) == "bool")) = false from rfl]
    rfl
  | bool b =>
    simp only [LB.dnS, DL.ol, DL.ow, DL.oT, DL.oI, LB.bkF, Nat.reduceAdd, Nat.reduceEqDiff, reduceIte, ol, ow, oT, oI, bkF, show (tyN (PyData.bool b) == "tuple" || ("tuple" == "int" && tyN (PyData.bool b) == "bool")) = false from rfl]
    rfl
  | none =>
    simp only [LB.dnS, DL.ol, DL.ow, DL.oT, DL.oI, LB.bkF, Nat.reduceAdd, Nat.reduceEqDiff, reduceIte, ol, ow, oT, oI, bkF, show (tyN PyData.none == "tuple" || ("tuple" == "int" && tyN PyData.none == "bool")) = false from rfl]
    rfl
  | str x =>
    simp only [LB.dnS, DL.ol, DL.ow, DL.oT, DL.oI, LB.bkF, Nat.reduceAdd, Nat.reduceEqDiff, reduceIte, ol, ow, oT, oI, bkF, show (tyN (PyData.str x) == "tuple" || ("tuple" == "int" && tyN (PyData.str x) == "bool")) = false from rfl]
    rfl
  | list ds =>
    simp only [LB.dnS, DL.ol, DL.ow, DL.oT, DL.oI, LB.bkF, Nat.reduceAdd, Nat.reduceEqDiff, reduceIte, ol, ow, oT, oI, bkF, show (tyN (PyData.list ds) == "tuple" || ("tuple" == "int" && tyN (PyData.list ds) == "bool")) = false from rfl]
    rfl
  | dict kvs =>
    simp only [LB.dnS, DL.ol, DL.ow, DL.oT, DL.oI, LB.bkF, Nat.reduceAdd, Nat.reduceEqDiff, reduceIte, ol, ow, oT, oI, bkF, h.1, show (tyN (PyData.dict kvs) == "tuple" || ("tuple" == "int" && tyN (PyData.dict kvs) == "bool")) = false from rfl]
    rfl
def isI (ds : List D) (i : Nat) (ρ : Ev) : Prop := ∃ s : Sl, (∀ x ∈ ds.take i, K25.isW x = true) ∧ ρ = [.da (.tuple ds), s]
end LB.K01
set_option Elab.async false
set_option linter.all false
set_option maxRecDepth 100000
set_option maxHeartbeats 4000000
namespace DL
open PySem PySem.Spec PyProof.Rows L2 GL
def Cl : Bool → D → Bool
  | true, d => !d.hasDict
  | false, d => dictOk d
mutual
def nar : D → Bool
  | .int n => decide (n.natAbs < 2 ^ 1900)
  | .list ds => nars ds
  | .tuple ds => nars ds
  | _ => true
def nars : List D → Bool
  | [] => true
  | d :: r => nar d && nars r
end
theorem nars_all : ∀ {ds : List D}, nars ds = true ↔ ∀ x ∈ ds, nar x = true
  | [] => ⟨(fun _ _ z => nomatch z), fun _ => rfl⟩
  | d :: r => by
    simp only [nars, Bool.and_eq_true, List.mem_cons, nars_all (ds := r)]
    exact ⟨fun h x hx => hx.elim (fun e => e ▸ h.1) (h.2 x), fun h => ⟨h d (.inl rfl), fun x hx => h x (.inr hx)⟩⟩
structure Pt (N : Bool) (k b : Nat) (d : D) : Prop where
  nr : nar d = true
  ly : N = true → d.canLay0 = true
  cl : Cl N d = true
  sh : d.showable = true
  lv : d.leavesShort 600 = true
  dp : d.depth ≤ k
  bk : d.bulk ≤ b
theorem clD_exn {N : Bool} {d : D} (h : Cl N d = true) : isExn d = false := by
  cases e : isExn d with
  | false => rfl
  | true =>
    unfold isExn at e
    split at e
    · cases N with
      | true => cases h
      | false => cases h
    · cases e
theorem clD_parts {N : Bool} : ∀ {ds : List D}, Cl N (.tuple ds) = true → ∀ x ∈ ds, Cl N x = true := by
  intro ds h x hx
  cases N with
  | true =>
    have h : (!PyData.hasDictAll ds) = true := h
    show (!x.hasDict) = true
    induction ds with
    | nil => cases hx
    | cons d r ih =>
      simp only [PyData.hasDictAll, Bool.not_or, Bool.and_eq_true] at h
      rcases List.mem_cons.mp hx with rfl | hx
      · exact h.1
      · exact ih hx (by unfold Cl; simpa only [PyData.hasDict] using h.2) h.2
  | false =>
    have h : dictsOk ds = true := by simpa only [Cl, dictOk] using h
    show dictOk x = true
    induction ds with
    | nil => cases hx
    | cons d r ih =>
      simp only [dictsOk, Bool.and_eq_true] at h
      rcases List.mem_cons.mp hx with rfl | hx
      · exact h.1
      · exact ih hx (by simpa only [Cl, dictOk] using h.2) h.2
theorem clD_tup {N : Bool} : ∀ {ds : List D}, (∀ x ∈ ds, Cl N x = true) → Cl N (.tuple ds) = true := by
  intro ds h
  cases N with
  | true =>
    have key : PyData.hasDictAll ds = false := by
      induction ds with
      | nil => rfl
      | cons d r ih =>
        have h1 : (!d.hasDict) = true := h d List.mem_cons_self
        simp only [PyData.hasDictAll, ih fun x hx => h x (List.mem_cons_of_mem _ hx), Bool.or_false]
        simpa using h1
    show (!PyData.hasDict (.tuple ds)) = true
    simp only [PyData.hasDict, key, Bool.not_false]
  | false =>
    have key : dictsOk ds = true := by
      induction ds with
      | nil => rfl
      | cons d r ih =>
        have h1 : dictOk d = true := h d List.mem_cons_self
        simp only [dictsOk, ih fun x hx => h x (List.mem_cons_of_mem _ hx), h1, Bool.and_self]
    show dictOk (.tuple ds) = true
    simpa only [dictOk] using key
theorem clD_lst {ds : List D} (h : ∀ x ∈ ds, Cl true x = true) : Cl true (.list ds) = true := by
  have h2 := clD_tup (N := true) h
  have e : Cl true (.list ds) = Cl true (.tuple ds) := by simp only [Cl, PyData.hasDict]
  rw [e]
  exact h2
theorem all_parts {k b : Nat} {N : Bool} : ∀ {ds : List D}, (∀ x ∈ ds, Pt N k b x) → PyData.showableAll ds = true ∧ PyData.leavesShortAll 600 ds = true ∧ PyData.depthAll ds ≤ k ∧ PyData.bulkAll ds ≤ ds.length * (b + 1)
  | [], _ => ⟨rfl, rfl, Nat.zero_le _, Nat.zero_le _⟩
  | d :: r, h => by
    obtain ⟨h1, h2, h3, h4⟩ := all_parts fun x hx => h x (List.mem_cons_of_mem _ hx)
    have p := h d List.mem_cons_self
    refine ⟨?_, ?_, ?_, ?_⟩
    · simp only [PyData.showableAll, p.sh, h1, Bool.and_self]
    · simp only [PyData.leavesShortAll, p.lv, h2, Bool.and_self]
    · simp only [PyData.depthAll]
      exact Nat.max_le.mpr ⟨p.dp, h3⟩
    · simp only [PyData.bulkAll, List.length_cons]
      have := p.bk
      have e : (r.length + 1) * (b + 1) = r.length * (b + 1) + (b + 1) := Nat.succ_mul _ _
      omega
theorem all_lay {k b : Nat} {N : Bool} : ∀ {ds : List D}, (∀ x ∈ ds, Pt N k b x) → N = true → PyData.canLayAll0 ds = true
  | [], _, _ => rfl
  | d :: r, h, hN => by
    simp only [PyData.canLayAll0, (h d List.mem_cons_self).ly hN, all_lay (fun x hx => h x (List.mem_cons_of_mem _ hx)) hN, Bool.and_self]
theorem pt_tup {N : Bool} {k b B : Nat} {ds : List D} (h : ∀ x ∈ ds, Pt N k b x) (hB : ds.length * (b + 1) ≤ B) : Pt N (k + 1) B (.tuple ds) := by
  obtain ⟨h1, h2, h3, h4⟩ := all_parts h
  refine ⟨by simpa only [nar] using nars_all.mpr fun x hx => (h x hx).nr, (fun hN => by simpa only [PyData.canLay0] using all_lay h hN), clD_tup fun x hx => (h x hx).cl, ?_, ?_, ?_, ?_⟩
  · simpa only [PyData.showable] using h1
  · simpa only [PyData.leavesShort] using h2
  · simp only [PyData.depth]; omega
  · simp only [PyData.bulk]; omega
theorem pt_lst {k b B : Nat} {ds : List D} (h : ∀ x ∈ ds, Pt true k b x) (hB : ds.length * (b + 1) ≤ B) : Pt true (k + 1) B (.list ds) := by
  obtain ⟨h1, h2, h3, h4⟩ := all_parts h
  refine ⟨by simpa only [nar] using nars_all.mpr fun x hx => (h x hx).nr, (fun hN => by simpa only [PyData.canLay0] using all_lay h hN), clD_lst fun x hx => (h x hx).cl, ?_, ?_, ?_, ?_⟩
  · simpa only [PyData.showable] using h1
  · simpa only [PyData.leavesShort] using h2
  · simp only [PyData.depth]; omega
  · simp only [PyData.bulk]; omega
theorem Pt.mono {N : Bool} {k b k' b' : Nat} {d : D} (h : Pt N k b d) (hk : k ≤ k') (hb : b ≤ b') : Pt N k' b' d := ⟨h.nr, h.ly, h.cl, h.sh, h.lv, Nat.le_trans h.dp hk, Nat.le_trans h.bk hb⟩
theorem pt_int {N : Bool} {k b : Nat} {n : Int} (h : n.natAbs < 2 ^ 1900) : Pt N k b (.int n) := by
  have f : Fine n := h
  refine ⟨decide_eq_true h, (fun _ => rfl), ?_, ?_, ?_, Nat.zero_le _, Nat.zero_le _⟩
  · cases N <;> rfl
  · show decide _ = true
    exact decide_eq_true f.log
  · show decide ((PyData.shown (.int n)).length ≤ 600) = true
    exact decide_eq_true f.len
theorem pt_bool {N : Bool} {k b : Nat} (v : Bool) : Pt N k b (.bool v) := ⟨rfl, (fun _ => rfl), by cases N <;> rfl, rfl, rfl, Nat.zero_le _, Nat.zero_le _⟩
theorem pt_none {N : Bool} {k b : Nat} : Pt N k b .none := ⟨rfl, (fun _ => rfl), by cases N <;> rfl, rfl, rfl, Nat.zero_le _, Nat.zero_le _⟩
theorem pt_str {N : Bool} {k b : Nat} {x : Str} (ho : PyData.strOk x = true) (hl : PyData.leavesShort 600 (.str x) = true) (hb : x.cps.size ≤ b) : Pt N k b (.str x) := ⟨rfl, (fun _ => ho), by cases N <;> rfl, rfl, hl, Nat.zero_le _, hb⟩
theorem cps_of (s : String) : (Str.ofString s).cps.toList = s.toList.map Char.toNat := by
  rw [Str.ofString_eq_toList]
theorem cps_lt (s : String) : ∀ c ∈ (Str.ofString s).cps.toList, c < 0x110000 := by
  rw [cps_of]
  intro c hc
  obtain ⟨x, _, rfl⟩ := List.mem_map.mp hc
  have := x.valid
  rcases this with h | ⟨_, h⟩
  · exact Nat.lt_trans h (by decide)
  · exact h
theorem pt_text {N : Bool} {k b : Nat} (s : String) (hs : (Str.ofString s).cps.size ≤ b) : Pt N k b (.str (Str.ofString s)) := by
  refine pt_str ?_ ?_ hs
  · show (Str.ofString s).cps.all (fun x => decide (x < 0x110000)) = true
    rw [← Array.all_toList]
    exact List.all_eq_true.mpr fun c hc => decide_eq_true (cps_lt s c hc)
  · show ((Str.ofString s).cps.toList.all fun c => decide (c < 16 ^ 8)) = true
    exact List.all_eq_true.mpr fun c hc => decide_eq_true (Nat.lt_trans (cps_lt s c hc) (by decide))
theorem Pt.okE {k b : Nat} {d : D} (h : Pt true k b d) (hk : k ≤ 64) : okE d = true := by
  have h1 := h.ly rfl
  have h2 : d.hasDict = false := by simpa [Cl] using h.cl
  unfold DL.okE SeqAt.shaped
  rw [h1, h2, decide_eq_true (Nat.le_trans h.dp hk)]
  rfl
theorem pt_dict0 {k b : Nat} : Pt false (k + 1) b (.dict []) := ⟨rfl, (fun z => nomatch z), rfl, rfl, rfl, by show 0 + 1 ≤ k + 1; omega, Nat.zero_le _⟩
theorem Pt.rep {N : Bool} {d : D} (h : Pt N 60 20000 d) : ∃ s : Str, oReprX [d] = some (.str s) := by
  have hs := PyData.shown_le_bulk 600 (by decide) d h.lv
  have e : 13000000 ≤ sizeLine := by decide
  have hb := h.bk
  have hd := h.dp
  have cl := h.cl
  cases N with
  | true =>
    have nd : d.hasDict = false := by simpa [Cl] using cl
    have ok : okR d = true := okR_of (show_of h.sh nd h.dp h.lv h.bk)
    refine ⟨d.shown, ?_⟩
    cases d with
    | dict kvs => cases nd
    | tuple ds => unfold oReprX; simp only [ok, decide_true, Bool.true_or, if_true]
    | list ds => show (if okR (.list ds) = true then some (PyData.str (PyData.shown (.list ds))) else none) = _; rw [if_pos ok]
    | int ds => show (if okR (.int ds) = true then some (PyData.str (PyData.shown (.int ds))) else none) = _; rw [if_pos ok]
    | bool ds => show (if okR (.bool ds) = true then some (PyData.str (PyData.shown (.bool ds))) else none) = _; rw [if_pos ok]
    | str ds => show (if okR (.str ds) = true then some (PyData.str (PyData.shown (.str ds))) else none) = _; rw [if_pos ok]
    | none => show (if okR .none = true then some (PyData.str (PyData.shown .none)) else none) = _; rw [if_pos ok]
  | false =>
    have dk : dictOk d = true := cl
    have okd : okRD d = true := by
      unfold okRD
      rw [dk, h.sh, decide_eq_true hd, decide_eq_true (by omega)]
      rfl
    refine ⟨d.shown, ?_⟩
    have plain : d.hasDict = false → okR d = true := fun nd => okR_of (show_of h.sh nd h.dp h.lv h.bk)
    cases d with
    | dict kvs => unfold oReprX; simp only [okd, if_true]
    | tuple ds => unfold oReprX; simp only [okd, Bool.or_true, if_true]
    | list ds => cases dk
    | int ds => show (if okR (.int ds) = true then some (PyData.str (PyData.shown (.int ds))) else none) = _; rw [if_pos (plain rfl)]
    | bool ds => show (if okR (.bool ds) = true then some (PyData.str (PyData.shown (.bool ds))) else none) = _; rw [if_pos (plain rfl)]
    | str ds => show (if okR (.str ds) = true then some (PyData.str (PyData.shown (.str ds))) else none) = _; rw [if_pos (plain rfl)]
    | none => show (if okR .none = true then some (PyData.str (PyData.shown .none)) else none) = _; rw [if_pos (plain rfl)]
end DL
set_option Elab.async false
set_option linter.all false
set_option maxRecDepth 100000
set_option maxHeartbeats 4000000
namespace LB.K19
open PySem PySem.Spec PyProof.Rows L2 GL DL
open LB.K01 (NX isWs wholes_any parts)
theorem nx_of {N : Bool} {d : D} (h : Cl N d = true) : NX d := by
  refine ⟨clD_exn h, fun x hx => ?_⟩
  cases d with
  | tuple ds => exact clD_exn (clD_parts h x hx)
  | _ => cases hx
theorem isWs_form {m : Int} {d : D} (h : isWs m d = true) : ∃ ns : List Int, d = .tuple (ns.map PyData.int) ∧ (ns.length : Int) = m := by
  cases d with
  | tuple ds =>
    have h : (decide ((ds.length : Int) = m) && ds.all K25.isW) = true := h
    rw [Bool.and_eq_true, decide_eq_true_eq] at h
    have key : ∀ ds : List D, ds.all K25.isW = true → ∃ ns : List Int, ds = ns.map PyData.int := by
      intro ds
      induction ds with
      | nil => exact fun _ => ⟨[], rfl⟩
      | cons d r ih =>
        intro h
        rw [List.all_cons, Bool.and_eq_true] at h
        obtain ⟨ns, rfl⟩ := ih h.2
        cases d with
        | int n => exact ⟨n :: ns, rfl⟩
        | _ => cases h.1
    obtain ⟨ns, rfl⟩ := key ds h.2
    exact ⟨ns, rfl, by have := h.1; rwa [List.length_map] at this⟩
  | _ => cases h
theorem isWs_ints {m : Int} {ns : List Int} (h : (ns.length : Int) = m) : isWs m (.tuple (ns.map PyData.int)) = true := by
  show (decide (((ns.map PyData.int).length : Int) = m) && (ns.map PyData.int).all K25.isW) = true
  rw [List.length_map, decide_eq_true h, Bool.true_and]
  exact List.all_eq_true.mpr fun x hx => by obtain ⟨n, _, rfl⟩ := List.mem_map.mp hx; rfl
end LB.K19
set_option Elab.async false
set_option linter.all false
set_option maxRecDepth 100000
set_option maxHeartbeats 4000000
namespace LB.K19
open PySem PySem.Spec PyProof.Rows L2 GL DL
open LB.K01 (NX isWs wholes_any parts)
def El (d : D) : Prop := ∀ x ∈ parts d, okE x = true ∧ x.depth ≤ 60
end LB.K19
set_option Elab.async false
set_option linter.all false
set_option maxRecDepth 100000
set_option maxHeartbeats 4000000
namespace LB.K19
open PySem PySem.Spec PyProof.Rows L2 GL DL
open LB.K01 (NX isWs parts)
def far : Int := 100000000000000000000000000000000000000000000
structure Ent (o : D) : Prop where
  t : Pt true 1 60 o
  f : ∀ k b, 1 ≤ k → 60 ≤ b → Pt true k b o
  e : El o
theorem cut_hd (ds : List D) {a : Nat} (h : a < ds.length) : DL.cutD ds none (some (a : Int)) = ds.take a := by
  have e1 : HT.sIx ds.length 0 none = 0 := rfl
  have e2 : HT.sIx ds.length ds.length (some (a : Int)) = a := by
    unfold HT.sIx
    simp
    rw [if_neg (by omega)]
    omega
  unfold DL.cutD
  rw [e1, e2, List.drop_zero, Nat.sub_zero]
theorem cut_tl (ds : List D) {a : Nat} (h : a < ds.length) : DL.cutD ds (some ((a : Int) + 1)) none = ds.drop (a + 1) := by
  have e1 : HT.sIx ds.length 0 (some ((a : Int) + 1)) = a + 1 := by
    unfold HT.sIx
    simp
    rw [if_neg (by omega)]
    omega
  have e2 : HT.sIx ds.length ds.length none = ds.length := rfl
  unfold DL.cutD
  rw [e1, e2]
  exact List.take_of_length_le (by rw [List.length_drop]; exact Nat.le_refl _)
def putL (ds : List D) (a : Nat) (x : D) : List D := ds.take a ++ x :: ds.drop (a + 1)
theorem cat_tt (xs ys : List D) (h : xs.length + ys.length ≤ 1000) : uAdd (.tuple xs) (.tuple ys) = some (.tuple (xs ++ ys)) := by
  have e1 : oAdd (.tuple xs) (.tuple ys) = none := rfl
  have e2 : oCatT (.tuple xs) (.tuple ys) = some (.tuple (xs ++ ys)) := by
    unfold oCatT
    simp only
    rw [if_pos (few10 h)]
  unfold uAdd orO
  rw [e1]
  simp only [orO, e2]
theorem put_len {ds : List D} {a : Nat} (h : a < ds.length) (x : D) : (putL ds a x).length = ds.length := by
  unfold putL
  rw [List.length_append, List.length_take, List.length_cons, List.length_drop]
  omega
theorem put_mem {ds : List D} {a : Nat} {x y : D} (h : y ∈ putL ds a x) : y = x ∨ y ∈ ds := by
  unfold putL at h
  rcases List.mem_append.mp h with q | q
  · exact .inr (List.mem_of_mem_take q)
  · rcases List.mem_cons.mp q with q | q
    · exact .inl q
    · exact .inr (List.mem_of_mem_drop q)
structure Prt (N : Bool) (x : D) : Prop where
  t : Pt N 3 1000 x
  e : El x
structure Th (d : D) : Prop where
  p : ∃ N, Pt N 4 5000 d
  e : ∀ x ∈ parts d, El x
end LB.K19
set_option Elab.async false
set_option linter.all false
set_option maxRecDepth 100000
set_option maxHeartbeats 4000000
namespace LB.K19
open PySem PySem.Spec PyProof.Rows L2 GL DL
open LB.K01 (NX isWs parts)
structure Lo3 (W : Web) (L : Lot) : Prop where
  g : 1 ≤ L.g ∧ L.g ≤ far - 10
  len : L.goings.length = W.names.length
  rlen : L.rest.length = W.names.length
  go : ∀ x ∈ L.goings, -(far - 10) ≤ x ∧ x ≤ far - 10
  re : ∀ x ∈ L.rest, -(far - 10) ≤ x ∧ x ≤ far - 10
theorem rest_far {W : Web} (h : WebOk W) {g : Int} {goings : List Int} (hl : goings.length = W.names.length) (hg : -(4 * big) ≤ g ∧ g ≤ 4 * big) (hG : ∀ x ∈ goings, -(4 * big) ≤ x ∧ x ≤ 4 * big) : ∀ x ∈ lotRest W g goings, -(far - 10) ≤ x ∧ x ≤ far - 10 := fun x hx => by
  have hM := h.many
  have := K22.restN_rngG h (G := 4 * big) (by decide) (g := g) (goings := goings) hg hG goings.length x hx
  have h2 : 4 * big * 100000 * ((goings.length : Int) + 1) ≤ 4 * big * 100000 * 11 := Int.mul_le_mul_of_nonneg_left (by omega) (by decide)
  have h3 : 4 * big * 100000 * 11 ≤ far - 10 := by decide
  omega
structure Lb (W : Web) (L : Lot) : Prop where
  g : 1 ≤ L.g ∧ L.g ≤ big
  len : L.goings.length = W.names.length
  go : ∀ x ∈ L.goings, -big ≤ x ∧ x ≤ big
  rest : L.rest = lotRest W L.g L.goings
section
variable {W : Web} (h : WebOk W) {L : Lot} (p : Lb W L)
include h p
theorem Lb.rlen : L.rest.length = W.names.length := by rw [p.rest]; exact lotRest_len h _ _
theorem Lb.re : ∀ x ∈ L.rest, -(far - 10) ≤ x ∧ x ≤ far - 10 := fun x hx => by
  have hb : (0 : Int) ≤ big := by decide
  rw [p.rest] at hx
  exact rest_far h p.len (by have := p.g; omega) (fun y hy => by have := p.go y hy; omega) x hx
end
end LB.K19
set_option Elab.async false
set_option linter.all false
set_option maxRecDepth 100000
set_option maxHeartbeats 4000000
namespace LB.K19
open PySem PySem.Spec PyProof.Rows L2 GL DL
open LB.K01 (NX isWs parts)
section
variable {W : Web} (h : WebOk W) {L : Lot} (p : Lb W L)
include h p
end
end LB.K19
set_option Elab.async false
set_option linter.all false
set_option maxRecDepth 100000
set_option maxHeartbeats 2000000
namespace DL
open PySem PySem.Spec PyProof.Rows L2 GL
def less (p : Addr) (H : Hp) : Hp := fun b => if b = p then none else H b
section
variable {X : Cx} {Ts : Tbs} {E : EK}
end
section
variable {P : Program} {w : World} {K : PySem.W.Frag} {mg : Str → Option Value} {base : Heap} {k : Nat} {f : Addr} {fd : FuncData} {ps : List Str} {sp : Sp} {Ts : Tbs}
end
end DL
set_option Elab.async false
set_option linter.all false
set_option maxRecDepth 100000
set_option maxHeartbeats 4000000
namespace DL
open PySem PySem.Spec PyProof.Rows L2 GL
section
variable {K : PySem.W.Frag} {Ts : Tbs}
end
end DL
set_option Elab.async false
set_option linter.all false
set_option maxRecDepth 100000
set_option maxHeartbeats 4000000
namespace DL
open PySem PySem.Spec PyProof.Rows L2 GL
section
variable {X : Cx}
end
section
variable {K : PySem.W.Frag} {Ts : Tbs}
end
end DL
set_option Elab.async false
set_option linter.all false
set_option maxRecDepth 100000
set_option maxHeartbeats 4000000
namespace DL
open PySem PySem.Spec PyProof.Rows L2 GL
section
variable {X : Cx} {Ts : Tbs} {E : EK}
end
end DL
set_option Elab.async false
set_option linter.all false
set_option maxRecDepth 100000
set_option maxHeartbeats 4000000
namespace DL
open PySem PySem.Spec PyProof.Rows L2 GL
section
variable {X : Cx}
end
end DL
set_option Elab.async false
set_option linter.all false
set_option maxRecDepth 100000
set_option maxHeartbeats 4000000
namespace DL
open PySem PySem.Spec PyProof.Rows L2 GL
section
variable {K : PySem.W.Frag} {H : Hp}
end
section
variable {X : Cx} {Ts : Tbs} {E : EK}
end
end DL
set_option Elab.async false
set_option linter.all false
set_option maxRecDepth 100000
set_option maxHeartbeats 4000000
namespace DL
open PySem PySem.Spec PyProof.Rows L2 GL
section
variable {X : Cx} {pins : List (Addr × Obj)} {σ : L2.St} {H : Hp} {s : Shared} {d : Addr} {o : Obj}
end
section
variable {P : Program} {w : World} {K : PySem.W.Frag} {d : Addr} {o : Obj} {es : Array DictEntry} {ep : Nat}
end
section
variable {X : Cx} {e : Expr} {td : TE} {apos cpos : Pos}
end
end DL
set_option Elab.async false
set_option linter.all false
set_option maxRecDepth 100000
set_option maxHeartbeats 4000000
namespace DL
open PySem PySem.Spec PyProof.Rows L2 GL
section
variable {X : Cx} {Ts : Tbs} {E : EK}
end
end DL
set_option Elab.async false
set_option linter.all false
set_option maxRecDepth 100000
set_option maxHeartbeats 4000000
namespace DL
open PySem PySem.Spec PyProof.Rows L2 GL
section
variable {X : Cx} {Ts : Tbs} {E : EK}
end
end DL
set_option Elab.async false
set_option linter.all false
set_option maxRecDepth 100000
set_option maxHeartbeats 4000000
namespace DL
open PySem PySem.Spec PyProof.Rows L2 GL
section
variable {X : Cx} {Ts : Tbs} {E : EK}
end
end DL
set_option Elab.async false
set_option linter.all false
set_option maxRecDepth 100000
set_option maxHeartbeats 4000000
set_option pp.maxSteps 300
set_option pp.deepTerms false
namespace LB.K14
open PySem PySem.Spec PyProof.Rows L2 GL DL
noncomputable def B__law_split : Stm := (seqS (setS 1 (callP LB.K12.F__law_common [(rd 0)]))
    (retS (tup [(opA oTup [(asL (lc (itU (rd 0)) (tgN 2) yesM (op2 oDiv (rd 2) (rd 1)) [2]))]), (op2 oDiv (opA oSum [(rd 0)]) (rd 1))])))
noncomputable def F__law_split : List D → Option (Except XV D) := runP 3 1 B__law_split
end LB.K14
set_option Elab.async false
set_option linter.all false
set_option maxRecDepth 100000
set_option maxHeartbeats 4000000
namespace LB.K14
open PySem PySem.Spec PyProof.Rows L2 GL DL LB
open LB.K01 (NX isWs wholes_any parts)
open LB.K19 (nx_of isWs_form isWs_ints El)
open LB.K12 (cda_eq common_eq)
open LB.K15 (spD)
def spB (ns : List Int) (t : Int) : Bool := !(ns.any fun x => decide (x < 0)) && (decide (t = ns.sum) && decide (gcdL ns = 1))
def spF : D → Int → Bool
  | .tuple ds, t => ((ints? ds).map fun ns => spB ns t).getD false
  | _, _ => false
def splB (m : Int) : D → Bool
  | .tuple [a, .int t] => isWs m a && spF a t
  | _ => false
theorem spF_ints (ns : List Int) (t : Int) : spF (.tuple (ns.map PyData.int)) t = spB ns t := by
  unfold spF
  simp only [DL.ints_of, Option.map_some, Option.getD_some]
theorem is_tup (d : D) : (∃ ds, d = .tuple ds) ∨ ((tyN d == "tuple" || ("tuple" == "int" && tyN d == "bool")) = false ∧ ∀ m, splB m d = false) := by
  cases d with
  | tuple ds => exact .inl ⟨ds, rfl⟩
  | _ => exact .inr ⟨rfl, fun _ => rfl⟩
theorem spl_len {ds : List D} (h : ds.length ≠ 2) (m : Int) : splB m (.tuple ds) = false := by
  match ds, h with
  | [], _ => rfl
  | [_], _ => rfl
  | [_, _], h => exact absurd rfl h
  | _ :: b :: _ :: _, _ => cases b <;> rfl
theorem spl_w {a b : D} {m : Int} (h : (isWs m a && K25.isW b) = false) : splB m (.tuple [a, b]) = false := by
  cases b with
  | int t =>
    show (isWs m a && spF a t) = false
    have : K25.isW (.int t) = true := rfl
    rw [this, Bool.and_true] at h
    rw [h, Bool.false_and]
  | _ => rfl
theorem neg_any (ns : List Int) : (ns.map PyData.int).any LB.K15.negD = ns.any fun x => decide (x < 0) := by
  rw [List.any_map]
  rfl
theorem split_anyX {d : D} (h : NX d) (hp : ∀ x ∈ parts d, NX x) (m : Int) : LB.K15.F_is_split [.int m, d] = some (.ok (.bool (splB m d))) := by
  refine runP_of rfl ?_
  show WS LB.K15.B_is_split [.da (.int m), .da d, .un, .un, .un] _
  unfold LB.K15.B_is_split
  have hx := h.1
  rcases is_tup d with ⟨ds, rfl⟩ | ⟨e1, e2⟩
  · have ei : (tyN (.tuple ds) == "tuple" || ("tuple" == "int" && tyN (.tuple ds) == "bool")) = true := isi_tt _
    have el : uLen [.tuple ds] = some (.int (ds.length : Int)) := rfl
    by_cases hl : ds.length = 2
    · obtain ⟨a, b, rfl⟩ : ∃ a b, ds = [a, b] := by
        match ds, hl with
        | [a, b], _ => exact ⟨a, b, rfl⟩
      have nxa := hp a (by show a ∈ [a, b]; simp)
      have nxb := hp b (by show b ∈ [a, b]; simp)
      have el2 : uLen [.tuple [a, b]] = some (.int 2) := rfl
      simp only [LB.dnS, DL.ol, DL.ow, DL.oT, DL.oI, LB.bkF, Nat.reduceAdd, Nat.reduceEqDiff, reduceIte, ol, ow, oT, oI, bkF, ei, hx, el2]
      have w1 := wholes_any nxa m
      have w2 := K25.whole_any nxb.1
      (rw [then_nx]; simp only [LB.dnS, DL.ol, DL.ow, DL.oT, DL.oI, LB.bkF, Nat.reduceAdd, Nat.reduceEqDiff, reduceIte, ol, ow, oT, oI, bkF])
      cases hw : (isWs m a && K25.isW b) with
      | false =>
        rw [spl_w hw]
        cases ha : isWs m a with
        | false =>
          rw [ha] at w1
          (rw [then_nx]; simp only [LB.dnS, DL.ol, DL.ow, DL.oT, DL.oI, LB.bkF, Nat.reduceAdd, Nat.reduceEqDiff, reduceIte, ol, ow, oT, oI, bkF, w1])
        | true =>
          rw [ha, Bool.true_and] at hw
          rw [ha] at w1
          rw [hw] at w2
          (rw [then_nx]; simp only [LB.dnS, DL.ol, DL.ow, DL.oT, DL.oI, LB.bkF, Nat.reduceAdd, Nat.reduceEqDiff, reduceIte, ol, ow, oT, oI, bkF, w1, w2])
      | true =>
        rw [Bool.and_eq_true] at hw
        obtain ⟨ns, rfl, hlen⟩ := isWs_form hw.1
        have hb := hw.2
        cases b with
        | int t =>
          have e1 := cda_eq (d := .tuple (ns.map PyData.int)) (xs := ns) rfl
          have es : splB m (.tuple [.tuple (ns.map PyData.int), .int t]) = spB ns t := by
            show (isWs m (.tuple (ns.map PyData.int)) && spF (.tuple (ns.map PyData.int)) t) = _
            rw [hw.1, spF_ints, Bool.true_and]
          rw [es]
          rw [hw.1] at w1
          rw [hb] at w2
          (rw [then_nx]; simp only [LB.dnS, DL.ol, DL.ow, DL.oT, DL.oI, LB.bkF, Nat.reduceAdd, Nat.reduceEqDiff, reduceIte, ol, ow, oT, oI, bkF, w1, w2])
          (rw [then_nx]; simp only [LB.dnS, DL.ol, DL.ow, DL.oT, DL.oI, LB.bkF, Nat.reduceAdd, Nat.reduceEqDiff, reduceIte, ol, ow, oT, oI, bkF])
          refine ⟨rfl, WG_any LB.K15.negD (fun d hd => ?_) ?_⟩
          · obtain ⟨n, _, rfl⟩ := List.mem_map.mp hd
            simp only [LB.dlS, DL.ol, DL.ow, DL.oT, DL.oI, LB.bkF, Nat.reduceAdd, Nat.reduceEqDiff, reduceIte, ol, ow, oT, oI, bkF, LB.K15.negD]
          · rw [neg_any]
            unfold spB
            cases hn : (ns.any fun x => decide (x < 0)) with
            | true =>
              simp only [LB.dlS, DL.ol, DL.ow, DL.oT, DL.oI, LB.bkF, Nat.reduceAdd, Nat.reduceEqDiff, reduceIte, ol, ow, oT, oI, bkF]
              try rfl
            | false =>
              by_cases ht : t = ns.sum
              · have eg : decide (((gcdL ns : Nat) : Int) = 1) = decide (gcdL ns = 1) := by
                  rw [decide_eq_decide]
                  omega
                simp only [LB.dlS, DL.ol, DL.ow, DL.oT, DL.oI, LB.bkF, Nat.reduceAdd, Nat.reduceEqDiff, reduceIte, ol, ow, oT, oI, bkF, sum_t, decide_eq_true ht, e1]
                rw [eg]
                try rfl
              · simp only [LB.dlS, DL.ol, DL.ow, DL.oT, DL.oI, LB.bkF, Nat.reduceAdd, Nat.reduceEqDiff, reduceIte, ol, ow, oT, oI, bkF, sum_t, decide_eq_false ht]
                try rfl
        | _ => cases hb
    · rw [spl_len hl]
      have : ¬ ((ds.length : Int) = 2) := by omega
      simp only [LB.dnS, DL.ol, DL.ow, DL.oT, DL.oI, LB.bkF, Nat.reduceAdd, Nat.reduceEqDiff, reduceIte, ol, ow, oT, oI, bkF, ei, hx, el, decide_eq_false this]
      try rfl
  · rw [e2]
    simp only [LB.dnS, DL.ol, DL.ow, DL.oT, DL.oI, LB.bkF, Nat.reduceAdd, Nat.reduceEqDiff, reduceIte, ol, ow, oT, oI, bkF, hx, e1]
    try rfl
end LB.K14
set_option Elab.async false
set_option linter.all false
set_option maxRecDepth 100000
set_option maxHeartbeats 4000000
namespace LB.K14
open PySem PySem.Spec PyProof.Rows L2 GL DL LB
open LB.K01 (NX isWs wholes_any parts)
open LB.K19 (nx_of isWs_form isWs_ints El)
open LB.K12 (cda_eq common_eq)
open LB.K15 (spD)
def badD : D → Bool
  | .int n => decide (n < 0)
  | _ => true
theorem good_ints : ∀ {ds : List D}, (ds.all fun x => !badD x) = true → ∃ ns : List Int, ds = ns.map PyData.int ∧ ∀ n ∈ ns, 0 ≤ n
  | [], _ => ⟨[], rfl, fun _ z => nomatch z⟩
  | d :: r, h => by
    rw [List.all_cons, Bool.and_eq_true] at h
    obtain ⟨ns, rfl, hn⟩ := good_ints h.2
    cases d with
    | int n =>
      have h1 : (!decide (n < 0)) = true := h.1
      refine ⟨n :: ns, rfl, fun x hx => ?_⟩
      rcases List.mem_cons.mp hx with rfl | hx
      · simpa using h1
      · exact hn x hx
    | _ => cases h.1
theorem ints_good (ns : List Int) : ((ns.map PyData.int).all fun x => !badD x) = !(ns.any fun x => decide (x < 0)) := by
  induction ns with
  | nil => rfl
  | cons n r ih =>
    rw [List.map_cons, List.all_cons, ih, List.any_cons, Bool.not_or]
    rfl
theorem gcd_zero : ∀ {ns : List Int}, (∀ n ∈ ns, n = 0) → gcdL ns = 0
  | ns, h => by
    unfold gcdL
    have : ∀ (ns : List Int) (g : Nat), (∀ n ∈ ns, n = 0) → g = 0 → ns.foldl (fun g x => Int.gcd (g : Int) x) g = 0 := by
      intro ns
      induction ns with
      | nil => exact fun _ _ h => h
      | cons n r ih =>
        intro g h hg
        refine ih _ (fun x hx => h x (List.mem_cons_of_mem _ hx)) ?_
        rw [h n List.mem_cons_self, hg]
        rfl
    exact this ns 0 h rfl
theorem sum_pos_of {ns : List Int} (nn : ∀ n ∈ ns, 0 ≤ n) (hg : gcdL ns = 1) : 0 < ns.sum := by
  refine Int.not_le.mp fun z => ?_
  have : ∀ n ∈ ns, n = 0 := fun n hn => by
    have h1 := LB.le_sum nn hn
    have h2 := nn n hn
    omega
  rw [gcd_zero this] at hg
  cases hg
theorem spl_bad {m : Int} {as : List D} {b : D} (e : ((as ++ [b]).all fun x => !badD x) = false) : splB m (.tuple [.tuple as, b]) = false := by
  cases hs : splB m (.tuple [.tuple as, b]) with
  | false => rfl
  | true =>
    cases b with
    | int t =>
      have hs : (isWs m (.tuple as) && spF (.tuple as) t) = true := hs
      rw [Bool.and_eq_true] at hs
      obtain ⟨ns, ea, _⟩ := isWs_form hs.1
      injection ea with ea
      subst ea
      have h2 := hs.2
      rw [spF_ints] at h2
      unfold spB at h2
      rw [Bool.and_eq_true, Bool.and_eq_true, decide_eq_true_eq, decide_eq_true_eq] at h2
      obtain ⟨h3, h4, h5⟩ := h2
      have nn : ∀ n ∈ ns, 0 ≤ n := fun n hn => by
        have : (ns.any fun x => decide (x < 0)) = false := by simpa using h3
        have := List.any_eq_false.mp this n hn
        simpa using this
      have := sum_pos_of nn h5
      have hb : badD (.int t) = false := by
        show decide (t < 0) = false
        exact decide_eq_false (by omega)
      rw [List.all_append, ints_good, h3] at e
      simp [hb] at e
    | _ => cases hs
end LB.K14
set_option Elab.async false
set_option linter.all false
set_option maxRecDepth 100000
set_option maxHeartbeats 4000000
namespace LB.K14
open PySem PySem.Spec PyProof.Rows L2 GL DL LB
open LB.K12 (cda_eq common_eq sm_mul)
open LB.K13 (wt wt_rng rw_ rw_rng shL p300)
open LB.K15 (spD Sp mN mN_rng mW rnL rn_at rn_len kW kW_pos norm norm_mul mulK mulK_len mul_at gcd_norm stays rn_shares Bg)
end LB.K14
set_option Elab.async false
set_option linter.all false
set_option maxRecDepth 100000
set_option maxHeartbeats 4000000
namespace LB.K14
open PySem PySem.Spec PyProof.Rows L2 GL DL LB
open LB.K01 (NX isWs wholes_any parts)
open LB.K19 (nx_of isWs_form isWs_ints El)
open LB.K12 (cda_eq common_eq sm_mul)
open LB.K13 (wt wt_rng rw_ rw_rng shL p300)
open LB.K15 (spD Sp mN mN_rng mW rnL rn_at rn_len kW kW_pos norm norm_mul mulK mulK_len mul_at gcd_norm stays rn_shares Bg)
def bg : Int := 5904900000000000000000000
end LB.K14
set_option Elab.async false
set_option linter.all false
set_option maxRecDepth 100000
set_option maxHeartbeats 4000000
namespace LB.K14
open PySem PySem.Spec PyProof.Rows L2 GL DL LB
open LB.K01 (NX isWs wholes_any parts)
open LB.K19 (nx_of isWs_form isWs_ints El)
open LB.K13 (shL)
open LB.K15 (spD Sp Bg Bg_pos norm rnL stays)
structure Th (d : D) : Prop where
  p : ∃ N, Pt N 4 5000 d
  e : ∀ x ∈ parts d, El x
  o : ∀ x ∈ parts d, okE x = true ∧ x.depth ≤ 50
  s : ∀ a t, d = .tuple [a, .int t] → t ≤ Bg
def qB : Int := 2 ^ 1000
def Q (x : Int) : Prop := -qB ≤ x ∧ x ≤ qB
theorem q_w {x : Int} (h : Q x) : x.natAbs < 2 ^ 1900 := by
  have h1 : qB = ((2 ^ 1000 : Nat) : Int) := by unfold qB; norm_cast
  have h2 : x.natAbs ≤ 2 ^ 1000 := by have := h.1; have := h.2; omega
  exact Nat.lt_of_le_of_lt h2 (Nat.pow_lt_pow_right (by decide) (by decide))
theorem q_sm {x : Int} (h : -1000000 ≤ x ∧ x ≤ 1000000) : Q x := by
  have h1 : (1000000 : Int) ≤ qB := by unfold qB; decide
  unfold Q
  omega
structure P2 (x : D) : Prop where
  t : Pt true 3 1000 x
  e : El x
  b : ∀ t, x = .int t → t ≤ Bg
theorem P2.ok {x : D} (h : P2 x) : okE x = true ∧ x.depth ≤ 50 := ⟨h.t.okE (by decide), Nat.le_trans h.t.dp (by decide)⟩
end LB.K14
set_option Elab.async false
set_option linter.all false
set_option maxRecDepth 100000
set_option maxHeartbeats 4000000
namespace LB.K14
open PySem PySem.Spec PyProof.Rows L2 GL DL LB
open LB.K12 (common_eq)
open LB.K15 (spD norm mul_norm sum_mul pos_some)
structure Yk (ys : List Int) : Prop where
  len : ys.length ≤ 12
  nn : ∀ x ∈ ys, 0 ≤ x
  pos : 0 < ys.sum
  hi : ys.sum ≤ qB
theorem Yk.g {ys : List Int} (k : Yk ys) : 0 < ((gcdL ys : Nat) : Int) ∧ ((gcdL ys : Nat) : Int) ≤ ys.sum := by
  obtain ⟨v, hv, v0⟩ := pos_some k.nn k.pos
  have d := gcdL_dvd hv
  have h1 := Int.le_of_dvd v0 d
  have h2 := LB.le_sum k.nn hv
  rcases Nat.eq_zero_or_pos (gcdL ys) with z | z
  · rw [z] at d
    have := Int.zero_dvd.mp d
    omega
  · omega
theorem Yk.at {ys : List Int} (k : Yk ys) : ∀ x ∈ ys, Q x := fun x hx => by
  have h1 := k.nn x hx
  have h2 := LB.le_sum k.nn hx
  have h3 := k.hi
  unfold Q
  omega
theorem Yk.norm {ys : List Int} (k : Yk ys) : (∀ x ∈ norm ys, Q x) ∧ Q (norm ys).sum ∧ (K15.norm ys).sum = ys.sum / ((gcdL ys : Nat) : Int) := by
  have g := k.g
  have e := mul_norm (ys := ys) g.1
  have e2 : ((gcdL ys : Nat) : Int) * (K15.norm ys).sum = ys.sum := by
    conv => rhs; rw [← e]
    rw [sum_mul]
  have e3 : (K15.norm ys).sum = ys.sum / ((gcdL ys : Nat) : Int) := by
    rw [← e2, Int.mul_ediv_cancel_left _ (by omega)]
  have hp := k.pos
  have hh := k.hi
  refine ⟨fun x hx => ?_, ?_, e3⟩
  · obtain ⟨y, hy, rfl⟩ := List.mem_map.mp hx
    have h1 := k.nn y hy
    have h2 := k.at y hy
    have h3 := Int.ediv_le_self ((gcdL ys : Nat) : Int) h1
    have h4 : 0 ≤ y / ((gcdL ys : Nat) : Int) := Int.ediv_nonneg h1 (by omega)
    unfold Q at *
    omega
  · rw [e3]
    have h3 := Int.ediv_le_self ((gcdL ys : Nat) : Int) (show 0 ≤ ys.sum by omega)
    have h4 : 0 ≤ ys.sum / ((gcdL ys : Nat) : Int) := Int.ediv_nonneg (by omega) (by omega)
    unfold Q
    omega
def dvD (g : Int) : D → D
  | .int n => .int (n / g)
  | d => d
theorem split_eq {ys : List Int} (k : Yk ys) {d : D} (hs : seqOf d = some (ys.map PyData.int)) (hsum : oSum [d] = some (.int ys.sum)) : F__law_split [d] = some (.ok (spD (K15.norm ys))) := by
  obtain ⟨h1, h2, h3⟩ := k.norm
  have g := k.g
  have hl := k.len
  have gs : (((gcdL ys : Nat) : Int)).natAbs < 2 ^ 1900 := q_w (by have := k.hi; unfold Q; omega)
  refine runP_of rfl ?_
  show WS B__law_split [.da d, .un, .un] _
  unfold B__law_split
  simp only [LB.dnS, DL.ol, DL.ow, DL.oT, DL.oI, LB.bkF, Nat.reduceAdd, Nat.reduceEqDiff, reduceIte, ol, ow, oT, oI, bkF, common_eq hs]
  (rw [then_nx]; simp only [LB.dnS, DL.ol, DL.ow, DL.oT, DL.oI, LB.bkF, Nat.reduceAdd, Nat.reduceEqDiff, reduceIte, ol, ow, oT, oI, bkF])
  refine ⟨_, hs, rfl, few10 (by rw [List.length_map]; omega), WL_map (dvD ((gcdL ys : Nat) : Int)) (fun x hx => ?_) ?_⟩
  · obtain ⟨n, hn, rfl⟩ := List.mem_map.mp hx
    simp only [LB.dlS, DL.ol, DL.ow, DL.oT, DL.oI, LB.bkF, Nat.reduceAdd, Nat.reduceEqDiff, reduceIte, ol, ow, oT, oI, bkF, div_int (small_div g.1 gs), dvD]
  have em : (ys.map PyData.int).map (dvD ((gcdL ys : Nat) : Int)) = (K15.norm ys).map PyData.int := by
    unfold K15.norm
    rw [List.map_map, List.map_map]
    rfl
  rw [em]
  have et : oTup [.list ((K15.norm ys).map PyData.int)] = some (.tuple ((K15.norm ys).map PyData.int)) := rfl
  simp only [LB.dnS, DL.ol, DL.ow, DL.oT, DL.oI, LB.bkF, Nat.reduceAdd, Nat.reduceEqDiff, reduceIte, ol, ow, oT, oI, bkF, et, hsum, div_int (small_div g.1 gs), ← h3]
  rfl
end LB.K14
set_option Elab.async false
set_option linter.all false
set_option maxRecDepth 100000
set_option maxHeartbeats 2000000
namespace DL
open PySem PySem.Spec PyProof.Rows L2 GL
def tDispT (tk tv : TE) : TE := fun σ H Q => ∀ p, H p = none → tk σ (upd H p (.dT [])) fun x H1 => tv σ H1 fun y H2 => ∃ (b : Addr) (ks : List Key) (z : V), [(x, y)] = [(V.ref b, z)] ∧ H2 p = some (.dT []) ∧ H2 b = some (.tup (ks.map kV)) ∧ Q (.ref p) (upd H2 p (.dT [(ks, z)]))
theorem pe_dispT {X : Cx} {k v : Expr} {tk tv : TE} {pos : Pos} (hu : X.A.units + 1 < cLine) (hk : PE X k tk) (hv : PE X v tv) : PE X (.Dict [some k] [v] pos) (tDispT tk tv) := by
  refine ⟨fun pins s σ H Q I q => ?_⟩
  have hn := I.hok.fresh (Nat.le_refl s.heap.objs.size)
  have I1 := I.laid (a := s.heap.objs.size) (o := .dT []) (h' := s.heap.push { cls := .type "dict", data := .dict #[] }) (t' := s.toks) (fun _ _ q => Heap.get?_push_of_some _ q) (Nat.le_refl _) (dt_empty s.heap I.big)
  rw [arm_eval_Dict, zip_pairTrees [some k] [v] X.env pos rfl rfl, dictDisplay_pairs (pairTrees [some k] [v] X.env pos) (fun z => by simp [pairTrees] at z) (by simp [pairTrees])]
  refine wpAny_bind (wpAny_standAt (wpAny_bind (wpAny_subDictH (knd := tupleKind (mixKind X.prog X.w)) (show X.A.units < cLine by omega) (by simp [pairTrees]) ?_)))
  refine thn ((pps_cons hk hv pps_nil).run pins _ σ _ (fun ps H2 => ∃ (b : Addr) (ks : List Key) (y : V), ps = [(.ref b, y)] ∧ H2 s.heap.objs.size = some (.dT []) ∧ H2 b = some (.tup (ks.map kV)) ∧ Q (.ref s.heap.objs.size) (upd H2 s.heap.objs.size (.dT [(ks, y)]))) I1 ?_) ?_
  · exact q _ hn
  · rintro ws s2 ⟨ps, H2, I2, rel, b, ks, y, rfl, e, eb, q2⟩
    cases rel with
    | @cons _ w0 _ _ r1 r2 =>
      cases r2
      obtain ⟨kv, vv⟩ := w0
      obtain ⟨ra, rv⟩ := r1
      obtain rfl : kv = Value.ref b := ra
      obtain ⟨z, hd, xs, rk, dd⟩ := dt_of I2.hok e
      cases rk
      refine ⟨[(ks, b, vv)], ⟨rfl, rfl, key_of I2.hok eb, True.intro⟩, dd, fun h' tk dd' hs => wpAny_pure ?_⟩
      obtain ⟨o, es, ep, hq, h2, h3, h4, _, h5⟩ := dd'
      have new : ObjOk X.prog X.w (upd H2 s.heap.objs.size (.dT [(ks, y)])) h' s.heap.objs.size (.dT [(ks, y)]) := by
        refine ⟨by simp [sizeLine_eq], hd, [(ks, b, vv)], .cons ⟨rfl, ?_, rv⟩ .nil, o, es, ep, hq, h2, h3, h4, h5⟩
        rw [upd_ne (ne_of eb e (fun z => nomatch z))]
        exact eb
      exact ⟨.ref s.heap.objs.size, _, d_write (t' := tk) I2 (by rw [e]; exact True.intro) hs ⟨o, hq⟩ new, rfl, q2⟩
def dspT (f : Mo (List Key)) (g : Mo D) : Mo D := bnd f fun ks => bnd g fun v => rt (.dict [(.tuple (ks.map kD), v)])
section
variable {X : Cx} {Ts : Tbs} {E : EK}
theorem de_dspT {e : Expr} {f : Mo (List Key)} {g : Mo D} (h : PE X e (tDispT (tK X.K Ts E f) (tE X.K Ts E g))) : DE X Ts E e (dspT f g) := by
  refine pe_mono h ?_
  rintro σ H Q ⟨A, S, ρ, r, ρ', rel, hf, he, k⟩
  intro p np
  obtain ⟨r0, z0, no0, nS, sub0⟩ := rel.hideNew (o := .dT []) np True.intro
  -- back to the places as they were
  have back : ∀ {ρ1 H1}, Post X.K Ts A (p :: S) σ ρ (upd H p (.dT [])) ρ1 H1 → Post X.K Ts A S σ ρ H ρ1 H1 := fun {ρ1 H1} q =>
    ⟨q.rel.unhide (fun z => no0 (q.same.symm.own z)) z0 nS, q.same, fun b o e n no => q.fr b o (by rw [upd_ne (ne_of_none e np)]; exact e) n no⟩
  rcases bnd_cases hf with ⟨x, e, rfl⟩ | ⟨ks, ρ1, e, h1⟩
  · exact ⟨A, p :: S, ρ, .error x, ρ', r0, e, (fun y hy H' q => by cases hy; exact he x rfl H' (back q)), (fun d hd => by cases hd)⟩
  refine ⟨A, p :: S, ρ, .ok ks, ρ1, r0, e, (fun y hy => by cases hy), fun ks' hk b H1 p1 hb => ?_⟩
  cases hk
  rcases bnd_cases h1 with ⟨x, e2, rfl⟩ | ⟨v, ρ2, e2, h2⟩
  · exact ⟨A, p :: S, ρ1, .error x, ρ', p1.rel, e2, (fun y hy H' q => by cases hy; exact he x rfl H' (back (p1.trans q))), (fun d hd => by cases hd)⟩
  obtain ⟨rfl, rfl⟩ := rt_ok h2
  refine ⟨A, p :: S, ρ1, .ok v, _, p1.rel, e2, (fun y hy => by cases hy), fun v' hv y H2 p2 dv => ?_⟩
  cases hv
  have q := p1.trans p2
  have hp : H2 p = some (.dT []) := q.fr p _ upd_same (fun _ z => by cases z) (fun z => no0 z)
  have hb2 : hide (p :: S) H2 b = some (.tup (ks.map kV)) := p2.sub p1.rel b _ hb (fun _ z => by cases z)
  refine ⟨b, ks, y, rfl, hp, (of_hide hb2).2, ?_⟩
  have no1 : ¬ OwnA _ σ p := fun z => no0 (q.same.symm.own z)
  have hs : hide (p :: S) (upd H2 p (.dT [(ks, y)])) = hide (p :: S) H2 := hide_upd List.mem_cons_self
  have r2 := (q.rel.putHid (o := .dT [(ks, y)]) List.mem_cons_self no1 z0 True.intro (fun q z => by rw [hp] at z; cases z)).unhide no1 z0 nS
  have p3 : Post X.K Ts A S σ ρ H _ (upd H2 p (.dT [(ks, y)])) := ⟨r2, q.same, fun b o e n no => by
    rw [upd_ne (ne_of_none e np)]
    exact (back q).fr b o e n no⟩
  refine k _ rfl _ _ p3 (.dctT (hide_of nS upd_same) (dv.sub ?_))
  rw [← hs]
  exact hide_mono fun b hb => List.mem_cons_of_mem _ hb
end
theorem W_dspT {ρ : Ev} {f : Mo (List Key)} {g : Mo D} {Q : D → Ev → Prop} : W (dspT f g) ρ Q ↔ W f ρ fun ks ρ1 => W g ρ1 fun v ρ2 => Q (.dict [(.tuple (ks.map kD), v)]) ρ2 := by
  unfold dspT
  simp only [W_bnd, W_rt]
end DL
set_option Elab.async false
set_option linter.all false
set_option maxRecDepth 100000
set_option maxHeartbeats 4000000
namespace DL
open PySem PySem.Spec PyProof.Rows L2 GL
def itOk (d : D) : Bool := dictOk d || !d.hasDict
section
variable {X : Cx} {pins : List (Addr × Obj)} {σ : L2.St} {H : Hp} {s : Shared}
theorem item_reads (I : Inv X pins σ H s) {d : D} {v : V} {u : Value} (h : itOk d = true) (dr : DR X.K H v d) (r : RelV v u) : ∃ as, Reads s.heap u d as ∧ (d.hasDict = true → sysModules ∉ as) := by
  unfold itOk at h
  cases hd : d.hasDict with
  | true =>
    rw [hd, Bool.not_true, Bool.or_false] at h
    obtain ⟨as, h1, h2⟩ := dr_reads I d v u h dr r
    exact ⟨as, h1, fun _ => h2⟩
  | false =>
    obtain ⟨as, h1⟩ := Dp.reads I d v u (dr.dp hd) r
    exact ⟨as, h1, fun z => by cases z⟩
theorem items_repr (I : Inv X pins σ H s) : ∀ {ds : List D} {vs : List V} {us : List Value}, (∀ d ∈ ds, itOk d = true) → DRs X.K H vs ds → Vals vs us → PyData.showableAll ds = true → (∀ t ∈ PyData.shownAll ds, t.length ≤ sizeLine) →
    ∃ as bs, ReadsAll s.heap us ds as ∧ ReadAtMost s.heap (PyData.depthAll ds) bs ∧ ReprAllK X.prog X.w bs s.heap (PyData.depthAll ds) us (PyData.shownAll ds)
  | [], _, _, _, dr, r, _, _ => by
    cases dr
    cases r
    exact ⟨_, [], .nil, (fun _ z => nomatch z), by simp only [PyData.shownAll]; exact .nil⟩
  | d :: ds, _, _, h, dr, r, hs, hz => by
    cases dr with
    | cons d1 d2 =>
    cases r with
    | cons r1 r2 =>
    have hs' : d.showable = true ∧ PyData.showableAll ds = true := by simpa [PyData.showableAll] using hs
    obtain ⟨as, q1, q2⟩ := item_reads I (h d List.mem_cons_self) d1 r1
    obtain ⟨b1, k1, e1⟩ := ReprK.of_reads (prog := X.prog) (w := X.w) q1 hs'.1 q2 (hz _ (by simp only [PyData.shownAll]; exact List.mem_cons_self))
    obtain ⟨cs, b2, q3, k2, e2⟩ := items_repr I (fun d hd => h d (List.mem_cons_of_mem _ hd)) d2 r2 hs'.2 (fun t ht => hz t (by simp only [PyData.shownAll]; exact List.mem_cons_of_mem _ ht))
    refine ⟨_, b1 ++ b2, .cons q1 q3, fun b hm => ?_, ?_⟩
    · simp only [PyData.depthAll]
      rcases List.mem_append.mp hm with z | z
      · obtain ⟨d', as', r', hd'⟩ := k1 b z
        exact ⟨d', as', r', by omega⟩
      · obtain ⟨d', as', r', hd'⟩ := k2 b z
        exact ⟨d', as', r', by omega⟩
    · simp only [PyData.depthAll, PyData.shownAll]
      exact .cons ((e1.more fun b z => List.mem_append_left _ z).level_le (by omega)) (e2.more_le (fun b z => List.mem_append_right _ z) (by omega))
end
def okRY (ds : List D) : Bool := ds.all itOk && (PyData.tuple ds).showable && decide ((PyData.tuple ds).depth ≤ 60) && decide ((PyData.tuple ds).shown.length ≤ sizeLine)
def oReprY : List D → Option D
  | [.tuple ds] => if okRY ds = true then some (.str (PyData.shown (.tuple ds))) else oReprX [.tuple ds]
  | ds => oReprX ds
def rReprY (K : PySem.W.Frag) : List V → Hp → VK → Prop := fun xs H Q => rReprX K xs H Q ∨ ∃ (a : Addr) (vs : List V) (ds : List D), xs = [.ref a] ∧ H a = some (.tup vs) ∧ DRs K H vs ds ∧ okRY ds = true ∧ Q (.str (PyData.shown (.tuple ds))) H
theorem call_reprY {X : Cx} (gd : X.A.guards = some []) (hu : X.A.units + 64 < cLine) : CallR X (.builtin "repr") (rReprY X.K) := by
  intro pins s σ H xs us Q I r h
  rcases h with h | ⟨a, vs, ds, rfl, ha, dr, ok, q⟩
  · exact call_reprX gd hu pins s σ H xs us Q I r h
  · obtain ⟨u, rfl, ru⟩ := vals1 r
    obtain rfl : u = Value.ref a := ru
    unfold okRY at ok
    simp only [Bool.and_eq_true, decide_eq_true_eq] at ok
    obtain ⟨⟨⟨o1, o2⟩, o3⟩, o4⟩ := ok
    obtain ⟨_, its, rv, o, ho, hc, n, hd⟩ := I.hok _ _ ha
    have o4' : (tupleText (PyData.shownAll ds)).length ≤ sizeLine := by simpa only [PyData.shown] using o4
    obtain ⟨as, bs, rd, rm, rk⟩ := items_repr I (fun d hd => List.all_eq_true.mp o1 d hd) dr rv (by simpa only [PyData.showable] using o2) (fun t ht => Nat.le_trans (tupleText_mem_le ht) o4')
    have na : a ∉ bs := not_mem_of_deeper (.tuple ho hc hd rd) (by simp only [PyData.depth]; omega) rm
    have dp : X.A.units + 1 + (PyData.depthAll ds + 1) < cLine := by
      simp only [PyData.depth] at o3
      omega
    refine call_repr_slot (by omega) ⟨o, ho, hc⟩ F.slot_tuple_repr ?_
    refine call_tuple_reprK (A := X.A.in1) ho hc hd na rk gd (fun b _ => Clear.nil b) ?_ (fun _ _ e => e) ?_ o4'
    · show X.A.units + 1 + _ < cLine
      omega
    · intro h' u tk hk
      refine ⟨_, _, rfl, .str _, H, I.kept hk, ⟨_, rfl⟩, ?_⟩
      simpa only [PyData.shown] using q
section
variable {K : PySem.W.Frag} {Ts : Tbs}
theorem s_reprY : SndA K Ts (rReprY K) oReprY := by
  intro xs es d H S Q dom dx e q
  have old : oReprX es = some d → rReprY K xs H Q := fun e => .inl (s_reprX xs es d H S Q dom dx e q)
  match es, dx, e, old with
  | [.tuple ds], .cons a .nil, e, old =>
    simp only [oReprY] at e
    split at e
    · rename_i ok
      cases e
      cases a with
      | tup hs ha => exact .inr ⟨_, _, ds, rfl, (of_hide hs).2, ha.sub (hide_sub _ _), ok, q _ H (.refl _ _) (.str _)⟩
    · exact old e
  | [], _, e, old => exact old e
  | .none :: _, _, e, old => exact old e
  | .bool _ :: _, _, e, old => exact old e
  | .int _ :: _, _, e, old => exact old e
  | .str _ :: _, _, e, old => exact old e
  | .list _ :: _, _, e, old => exact old e
  | .dict _ :: _, _, e, old => exact old e
  | .tuple _ :: _ :: _, _, e, old => exact old e
end
end DL
set_option Elab.async false
set_option linter.all false
set_option maxRecDepth 100000
set_option maxHeartbeats 4000000
namespace LB.K31
open PySem PySem.Spec PyProof.Rows L2 GL DL
structure Rv (k n : Nat) (d : D) : Prop where
  s : d.showable = true
  dp : d.depth ≤ k
  z : d.leavesShort 600 = true
  b : d.bulk ≤ n
structure RvA (k n : Nat) (ds : List D) : Prop where
  s : PyData.showableAll ds = true
  dp : PyData.depthAll ds ≤ k
  z : PyData.leavesShortAll 600 ds = true
  b : PyData.bulkAll ds ≤ n
theorem Rv.mono {k k' n n' : Nat} {d : D} (h : Rv k n d) (h1 : k ≤ k') (h2 : n ≤ n') : Rv k' n' d := ⟨h.s, Nat.le_trans h.dp h1, h.z, Nat.le_trans h.b h2⟩
theorem RvA.mono {k k' n n' : Nat} {d : List D} (h : RvA k n d) (h1 : k ≤ k') (h2 : n ≤ n') : RvA k' n' d := ⟨h.s, Nat.le_trans h.dp h1, h.z, Nat.le_trans h.b h2⟩
theorem Rv.of {k n : Nat} {d : D} (h : Sm k n d) : Rv k n d := ⟨h.s, h.dp, h.z, h.b⟩
theorem rv_i {i : Int} (h : i.natAbs < 2 ^ 1900) : Rv 0 0 (.int i) := .of (Sm.int h)
theorem RvA.nil : RvA 0 0 [] := ⟨rfl, Nat.le_refl _, rfl, Nat.le_refl _⟩
theorem RvA.cons {k n m : Nat} {d : D} {ds : List D} (a : Rv k n d) (b : RvA k m ds) : RvA k (n + 1 + m) (d :: ds) := by
  refine ⟨?_, ?_, ?_, ?_⟩
  · simp only [PyData.showableAll, a.s, b.s, Bool.and_self]
  · have := a.dp
    have := b.dp
    simp only [PyData.depthAll]
    omega
  · simp only [PyData.leavesShortAll, a.z, b.z, Bool.and_self]
  · have := a.b
    have := b.b
    simp only [PyData.bulkAll]
    omega
theorem RvA.all {k n : Nat} : ∀ {ds : List D}, (∀ d ∈ ds, Rv k n d) → RvA k (ds.length * (n + 1)) ds
  | [], _ => RvA.nil.mono (Nat.zero_le _) (Nat.zero_le _)
  | x :: r, h => by
    have h2 := RvA.cons (h x List.mem_cons_self) (RvA.all (fun y hy => h y (List.mem_cons_of_mem _ hy)))
    rw [List.length_cons, Nat.add_mul, Nat.one_mul, Nat.add_comm]
    exact h2
theorem Rv.tup {k n : Nat} {ds : List D} (h : RvA k n ds) : Rv (k + 1) n (.tuple ds) := by
  refine ⟨?_, ?_, ?_, ?_⟩
  · simp only [PyData.showable, h.s]
  · have := h.dp
    simp only [PyData.depth]
    omega
  · simp only [PyData.leavesShort, h.z]
  · simp only [PyData.bulk]
    exact h.b
theorem Rv.lst {k n : Nat} {ds : List D} (h : RvA k n ds) : Rv (k + 1) n (.list ds) := by
  refine ⟨?_, ?_, ?_, ?_⟩
  · simp only [PyData.showable, h.s]
  · have := h.dp
    simp only [PyData.depth]
    omega
  · simp only [PyData.leavesShort, h.z]
  · simp only [PyData.bulk]
    exact h.b
theorem Rv.one {k n m : Nat} {a b : D} (h1 : Rv k n a) (h2 : Rv k m b) : Rv (k + 1) (n + m + 10) (.dict [(a, b)]) := by
  refine ⟨?_, ?_, ?_, ?_⟩
  · simp only [PyData.showable, PyData.showableKv, h1.s, h2.s, Bool.and_self]
  · have := h1.dp
    have := h2.dp
    simp only [PyData.depth, PyData.depthKv]
    omega
  · simp only [PyData.leavesShort, PyData.leavesShortKv, h1.z, h2.z, Bool.and_self]
  · have := h1.b
    have := h2.b
    simp only [PyData.bulk, PyData.bulkKv]
    omega
structure Rp (d : D) : Prop where
  r : Rv 5 3000 d
  i : itOk d = true
theorem rp2 {a b : D} (h1 : Rp a) (h2 : Rp b) : ∃ x, oReprY [.tuple [a, b]] = some (.str x) := by
  have r := Rv.tup (RvA.cons h1.r (RvA.cons h2.r (RvA.nil.mono (Nat.zero_le _) (Nat.le_refl _))))
  refine ⟨PyData.shown (.tuple [a, b]), ?_⟩
  have ok : okRY [a, b] = true := by
    unfold okRY
    have hb := PyData.shown_le_bulk 600 (by decide) _ r.z
    have e : 13000000 ≤ sizeLine := by decide
    have b1 := r.b
    have b2 := r.dp
    simp only [List.all_cons, List.all_nil, h1.i, h2.i, Bool.and_true, Bool.and_self, r.s, Bool.true_and, Bool.and_eq_true, decide_eq_true_eq]
    exact ⟨by omega, by omega⟩
  show (if okRY [a, b] = true then _ else _) = _
  rw [if_pos ok]
theorem it_d {d : D} (h : dictOk d = true) : itOk d = true := by
  unfold itOk
  rw [h, Bool.true_or]
end LB.K31
set_option Elab.async false
set_option linter.all false
set_option maxRecDepth 100000
set_option maxHeartbeats 4000000
namespace GL
open PySem PySem.Spec PyProof.Rows L2
section
variable {prog : Program} {w : World} {A : Around} {E : Value → Shared → Prop} {s : Shared}
theorem next_held {e it T : Addr} {fp : List Addr} {n i : Nat} {P : Nat → Value → Prop} {St : Nat → Heap → Prop} {old : Value} {f : Bool} {oT : Obj} {Q : Option Value → Shared → Prop}
    (D : Draws prog w A.in1 it fp n P St) (he : IsEnumHeld s.heap e it i old T f) (hT : s.heap.get? T = some oT) (hTe : T ≠ e) (hTi : T ≠ it) (hst : St i s.heap) (hlt : i < n) (hne : e ≠ it) (hef : e ∉ fp)
    (hQ : ∀ x h' tk, P i x → IsEnumHeld h' e it ((i : Int) + 1) old T true → St (i + 1) h' → h'.get? s.heap.objs.size = some { cls := .type "tuple", data := .seq #[.int i tk, x] } →
      (∀ b o, b ≠ e → b ≠ it → s.heap.get? b = some o → h'.get? b = some o) → Q (some (.ref s.heap.objs.size)) { s with heap := h', toks := tk + 1 }) :
    wpAny (model prog w) A (pyNext (.ref e)) Q E s := by
  have ty : s.TypeIs (.ref e) "enumerate" := ⟨_, he, rfl⟩
  unfold pyNext
  refine wpAny_bind (wpAny_attempt (wpAny_callSpecial?_slot (name := Str.ofString "__next__") ty F.slot_enumerate_next (wpAny_call_entry F.slot_enumerate_next ty F.entry_enumerate_next ?_ (F.args_enumerate_next_1 _))))
  obtain ⟨hp, g, d, tk0, os⟩ := s
  -- what is read
  show wpAny _ _ (field (.ref e) 2 >>= _) _ _ _
  refine wpAny_bind (wpAny_field he rfl (x := .ref it) rfl (wpAny_bind (D.item i _ _ _ hlt hst fun x h1 tk px st1 k1 => ?_)))
  have k1 : Heap.SameBut it hp h1 := k1
  have e1 : IsEnumHeld h1 e it i old T f := (k1.2 e hne).trans he
  show wpAny _ _ (field (.ref e) 3 >>= _) _ _ ⟨h1, g, d, tk, os⟩
  refine wpAny_bind (wpAny_field e1 rfl (x := rawInt i) rfl ?_)
  show wpAny _ _ (field (.ref e) 4 >>= _) _ _ ⟨h1, g, d, tk, os⟩
  refine wpAny_bind (wpAny_field e1 rfl (x := .none) rfl ?_)
  show wpAny _ _ (mkInt i >>= _) _ _ ⟨h1, g, d, tk, os⟩
  refine wpAny_bind (wpAny_mkInt ?_)
  -- what is written
  show wpAny _ _ (setField (.ref e) 3 (rawInt ((i : Int) + 1)) >>= _) _ _ ⟨h1, g, d, tk + 1, os⟩
  refine wpAny_bind (wpAny_setField_rec e1 (by simp) fun h2 e2 k2 => ?_)
  have k2 : Heap.SameBut e h1 h2 := k2
  have e2 : IsEnumHeld h2 e it ((i : Int) + 1) old T f := e2
  show wpAny _ _ (setField (.ref e) 4 .none >>= _) _ _ ⟨h2, g, d, tk + 1, os⟩
  refine wpAny_bind (wpAny_setField_rec e2 (by simp) fun h3 e3 k3 => ?_)
  have k3 : Heap.SameBut e h2 h3 := k3
  have e3 : IsEnumHeld h3 e it ((i : Int) + 1) old T f := e3
  show wpAny _ _ (newTuple [.int i tk, x] >>= _) _ _ ⟨h3, g, d, tk + 1, os⟩
  refine wpAny_bind (wpAny_newTuple ?_)
  have size3 : h3.objs.size = hp.objs.size := by rw [k3.1, k2.1, k1.1]
  have keep3 : ∀ b o, b ≠ e → b ≠ it → hp.get? b = some o → h3.get? b = some o := fun b o n1 n2 q => k3.extBut b o n1 (k2.extBut b o n1 (k1.extBut b o n2 q))
  have st3 : St i.succ h3 := D.frame _ _ _ st1 fun b hb o q => by
    have : b ≠ e := fun z => hef (z ▸ hb)
    exact k3.extBut b o this (k2.extBut b o this q)
  have lt_e : e < hp.objs.size := Heap.lt_size he
  have e4 : IsEnumHeld (h3.push { cls := .type "tuple", data := .seq #[.int i tk, x] }) e it ((i : Int) + 1) old T f := Heap.get?_push_of_some _ e3
  have new4 : (h3.push { cls := .type "tuple", data := .seq #[.int i tk, x] }).get? hp.objs.size = some { cls := .type "tuple", data := .seq #[.int i tk, x] } := by
    rw [← size3]
    exact Heap.get?_push_size _ rfl
  have T4 := Heap.get?_push_of_some { cls := .type "tuple", data := .seq #[.int i tk, x] } (keep3 T oT hTe hTi hT)
  rw [size3]
  show wpAny _ _ (Builtin.SmallTypes.ownedTupleIsFree (.ref e) >>= _) _ _ _
  refine wpAny_bind (wpAny_tupleHeld_enum e4 T4 fun h5 e5 k5 => ?_)
  simp only [Bool.false_eq_true, if_false]
  refine wpAny_pure ⟨_, rfl, wpAny_pure (hQ x h5 tk px e5 ?_ ?_ ?_)⟩
  · refine D.frame _ _ _ st3 fun b hb o q => ?_
    have : b ≠ e := fun z => hef (z ▸ hb)
    exact k5.extBut b o this (Heap.get?_push_of_some _ q)
  · exact k5.extBut _ _ (Nat.ne_of_gt lt_e) new4
  · exact fun b o n1 n2 q => k5.extBut b o n1 (Heap.get?_push_of_some _ (keep3 b o n1 n2 q))
theorem end_held {e it T : Addr} {fp : List Addr} {n : Nat} {P : Nat → Value → Prop} {St : Nat → Heap → Prop} {i : Int} {old : Value} {f : Bool} {Q : Option Value → Shared → Prop}
    (D : Draws prog w A.in1 it fp n P St) (he : IsEnumHeld s.heap e it i old T f) (hst : St n s.heap) (hQ : ∀ h', Heap.ExtBut it s.heap h' → Q none { s with heap := h' }) : wpAny (model prog w) A (pyNext (.ref e)) Q E s := by
  have ty : s.TypeIs (.ref e) "enumerate" := ⟨_, he, rfl⟩
  unfold pyNext
  refine wpAny_bind (wpAny_attempt (wpAny_callSpecial?_slot (name := Str.ofString "__next__") ty F.slot_enumerate_next (wpAny_call_entry F.slot_enumerate_next ty F.entry_enumerate_next ?_ (F.args_enumerate_next_1 _))))
  show wpAny _ _ (field (.ref e) 2 >>= _) _ _ _
  refine wpAny_bind (wpAny_field he rfl (x := .ref it) rfl (wpAny_bind (D.done _ _ _ hst fun h' x k hx => ?_)))
  obtain ⟨o, ho, hc⟩ := hx
  exact wpAny_bind (wpAny_isInstance (T := "StopIteration") (b := true) ⟨o, ho, hc⟩ isSubtype_stop (wpAny_pure (hQ _ k)))
end
section
variable {prog : Program} {w : World}
def EnSt (e it l d : Addr) (items : Array Value) (i : Nat) (h : Heap) : Prop := (h.IsTupleIter it l i ∧ h.IsTuple l items) ∧ ((∃ old, IsEnum h e it i old) ∨ ∃ old T f oT, IsEnumHeld h e it i old T f ∧ h.get? T = some oT ∧ T ≠ e ∧ T ≠ it ∧ T ≠ d)
theorem pairEnT (e it l : Addr) (hei : e ≠ it) (hle : l ≠ e) (hli : l ≠ it) (items : Array Value) :
    PairArg prog w "enumerate" e [e, it, l] [e, it] items.size (fun i k v => (∃ t, k = .int i t) ∧ items[i]? = some v) (fun h => (∃ old, IsEnum h e it 0 old) ∧ h.IsTupleIter it l 0 ∧ h.IsTuple l items) where
  type := fun s ok => by
    obtain ⟨⟨_, he⟩, _⟩ := ok
    exact ⟨_, he, rfl⟩
  notDict := by decide
  keep := fun h h' ok hk => by
    obtain ⟨⟨old, he⟩, hit, hl⟩ := ok
    exact ⟨⟨old, hk _ _ he⟩, hit.at fun o x => hk _ o x, hl.at fun o x => hk _ o x⟩
  there := fun h ok b hb => by
    obtain ⟨⟨old, he⟩, ⟨o1, h1, _⟩, ⟨o2, h2, _⟩⟩ := ok
    simp only [List.mem_cons, List.not_mem_nil, or_false] at hb
    rcases hb with z | z | z
    · exact ⟨_, z ▸ he⟩
    · exact ⟨o1, z ▸ h1⟩
    · exact ⟨o2, z ▸ h2⟩
  sub := fun b hb => by
    simp only [List.mem_cons, List.not_mem_nil, or_false] at hb ⊢
    rcases hb with z | z
    · exact .inl z
    · exact .inr (.inl z)
  noKeys := fun A s Q E hA ok h => by
    obtain ⟨⟨_, he⟩, _⟩ := ok
    exact getAttrOr_miss_enumerate he rfl rfl rfl enumerate_no_keys (by decide +kernel) hA h
  iter := fun A s d Q E hA ok hd hdf h => by
    obtain ⟨⟨old, he⟩, hit, hl⟩ := ok
    simp only [List.mem_cons, List.not_mem_nil, or_false, not_or] at hdf
    obtain ⟨de, dit, dl⟩ := hdf
    have hef : e ∉ [it, l] := fun z => by
      simp only [List.mem_cons, List.not_mem_nil, or_false] at z
      rcases z with z | z
      · exact hei z
      · exact hle z.symm
    have dr : ∀ A : Around, A.handled = none → Draws prog w A it [it, l] items.size (fun i v => items[i]? = some v) (fun i h => h.IsTupleIter it l i ∧ h.IsTuple l items) := fun A hA => Draws.tuple hA it l hli items
    refine wpAny_pyIter_enum he (h e [e, it] (EnSt e it l d items) s.heap s.toks ?_ ⟨⟨hit, hl⟩, .inl ⟨old, he⟩⟩ (fun _ _ q => q) fun b hb => .inl hb)
    exact {
      off := fun hm => by
        simp only [List.mem_cons, List.not_mem_nil, or_false] at hm
        rcases hm with z | z
        · exact de z
        · exact dit z
      frame := fun i h1 h2 st hk => by
        obtain ⟨⟨hit, hl⟩, he⟩ := st
        refine ⟨⟨hit.at fun o x => hk _ o (Ne.symm dit) x, hl.at fun o x => hk _ o (Ne.symm dl) x⟩, ?_⟩
        rcases he with ⟨old, he⟩ | ⟨old, T, f, oT, he, hT, r1, r2, r3⟩
        · exact .inl ⟨old, hk _ _ (Ne.symm de) he⟩
        · exact .inr ⟨old, T, f, oT, hk _ _ (Ne.symm de) he, hk _ _ r3 hT, r1, r2, r3⟩
      item := fun i s1 Q1 E1 hi st hds hQ => by
        obtain ⟨st0, he⟩ := st
        have ec : ((i + 1 : Nat) : Int) = (i : Int) + 1 := by omega
        have nit : s1.heap.objs.size ≠ it := by
          obtain ⟨_, x, _⟩ := st0.1
          exact Nat.ne_of_gt (Heap.lt_size x)
        have out : ∀ {b : Addr} {o : Obj} {h' : Heap}, (∀ b o, b ≠ e → b ≠ it → s1.heap.get? b = some o → h'.get? b = some o) → b ∉ [e, it] → s1.heap.get? b = some o → h'.get? b = some o := fun {b o h'} k hb q => k b o (fun z => hb (by simp [z])) (fun z => hb (by simp [z])) q
        rcases he with ⟨old, he⟩ | ⟨old, T, f, oT, he, hT, r1, r2, r3⟩
        · have le := Heap.lt_size he
          refine wpAny_pyNext_enum_itemD (dr A.in1 hA) he st0 hi hei hef fun x h' tk px ho st' hT hsz hk => ?_
          exact hQ s1.heap.objs.size _ x h' (tk + 1) ⟨⟨_, rfl⟩, px⟩ (.inl ⟨_, hT, rfl, _, rfl⟩) ⟨st', .inr ⟨x, s1.heap.objs.size, false, _, (by rw [ec]; exact ho), hT, Nat.ne_of_gt le, nit, Nat.ne_of_gt hds⟩⟩ fun b o hb q => out hk hb q
        · have le := Heap.lt_size he
          refine next_held (dr A.in1 hA) he hT r1 r2 st0 hi hei hef fun x h' tk px ho st' hT' hk => ?_
          exact hQ s1.heap.objs.size _ x h' (tk + 1) ⟨⟨_, rfl⟩, px⟩ (.inl ⟨_, hT', rfl, _, rfl⟩) ⟨st', .inr ⟨old, T, true, oT, (by rw [ec]; exact ho), hk _ _ r1 r2 hT, r1, r2, r3⟩⟩ fun b o hb q => out hk hb q
      done := fun s1 Q1 E1 st hQ => by
        obtain ⟨st0, he⟩ := st
        rcases he with ⟨old, he⟩ | ⟨old, T, f, oT, he, hT, r1, r2, r3⟩
        · exact wpAny_pyNext_enum_endD (dr A.in1 hA) he st0 fun h' hk => hQ h' s1.toks fun b o hb q => hk b o (fun z => hb (by simp [z])) q
        · exact end_held (dr A.in1 hA) he st0 fun h' hk => hQ h' s1.toks fun b o hb q => hk b o (fun z => hb (by simp [z])) q }
end
end GL
set_option Elab.async false
set_option linter.all false
set_option maxRecDepth 100000
set_option maxHeartbeats 4000000
namespace GL
open PySem PySem.Spec PyProof.Rows L2
def numK : Int → List V → List (Key × V)
  | _, [] => []
  | i, x :: r => (.inl i, x) :: numK (i + 1) r
def numU : Int → List Value → List (Key × Value)
  | _, [] => []
  | i, x :: r => (.inl i, x) :: numU (i + 1) r
theorem num_kv : ∀ {xs : List V} {us : List Value} (i : Int), Vals xs us → KV (numK i xs) (numU i us)
  | _, _, _, .nil => .nil
  | _, _, i, .cons r t => .cons ⟨rfl, r⟩ (num_kv (i + 1) t)
theorem numU_len : ∀ (us : List Value) (i : Int), (numU i us).length = us.length
  | [], _ => rfl
  | _ :: r, i => by rw [numU, List.length_cons, numU_len r, List.length_cons]
theorem numK_len : ∀ (us : List V) (i : Int), (numK i us).length = us.length
  | [], _ => rfl
  | _ :: r, i => by rw [numK, List.length_cons, numK_len r, List.length_cons]
theorem numU_at : ∀ (us : List Value) (i : Int) (j : Nat) (v : Value), us[j]? = some v → (numU i us)[j]? = some (.inl (i + j), v)
  | [], _, _, _, h => by simp at h
  | u :: r, i, 0, v, h => by
    cases h
    simp [numU]
  | u :: r, i, j + 1, v, h => by
    have h : r[j]? = some v := by simpa using h
    have := numU_at r (i + 1) j v h
    rw [numU, List.getElem?_cons_succ, this]
    congr 3
    omega
theorem numK_keys : ∀ (xs : List V) (i : Int), ((numK i xs).map (·.1)).Nodup ∧ ∀ k ∈ (numK i xs).map (·.1), ∃ j : Int, k = .inl j ∧ i ≤ j
  | [], _ => ⟨List.nodup_nil, fun _ z => nomatch z⟩
  | x :: r, i => by
    obtain ⟨h1, h2⟩ := numK_keys r (i + 1)
    rw [numK, List.map_cons]
    refine ⟨List.nodup_cons.mpr ⟨fun z => ?_, h1⟩, fun k hk => ?_⟩
    · obtain ⟨j, e, hj⟩ := h2 _ z
      injection e with e
      omega
    · rcases List.mem_cons.mp hk with z | z
      · exact ⟨i, z, Int.le_refl _⟩
      · obtain ⟨j, e, hj⟩ := h2 _ z
        exact ⟨j, e, by omega⟩
def tDEn (ta : TA) : TE := fun σ H Q => ta σ H fun vs H1 => ∃ (a : Addr) (xs : List V), vs = [.ref a] ∧ H1 a = some (.tup xs) ∧ ∀ p, H1 p = none → Q (.ref p) (upd H1 p (.dK (numK 0 xs)))
theorem pe_dictEn {X : Cx} {e : Expr} {ta : TA} {p1 p2 pos1 pos2 : Pos} (hcalm : X.calm = true) (hg1 : Gl X "dict") (hm1 : X.mg "dict" = none) (hg2 : Gl X "enumerate") (hm2 : X.mg "enumerate" = none) (ha : PA X [e] ta) (hs : starEach [e] X.env = [(false, eval e X.env)] := by rfl) :
    PE X (.Call (.Name "dict" p1) [.Call (.Name "enumerate" p2) [e] [] pos2] [] pos1) (tDEn ta) := by
  constructor
  intro pins s σ H Q I h
  refine Call_ (ld_blt I hg1 hm1 PyProof.Rows.boot_dict (PyProof.Rows.callWith_type1 ?_ rfl rfl))
  show wpAny _ _ (spliced ((false, eval (.Call (.Name "enumerate" p2) [e] [] pos2) X.env) :: [])) _ _ s
  refine Calls.spliced_cons (Call_ (ld_blt I hg2 hm2 boot_enumerate (PyProof.Rows.callWith_type1 (thn (ha.run pos2 pins s σ H _ I h) ?_) hs rfl)))
  rintro us s1 ⟨vs, H1, I1, r1, a, xs, rfl, hq, q⟩
  obtain ⟨u, eu, ru⟩ := vals1 r1
  subst eu
  obtain rfl : u = Value.ref a := ru
  obtain ⟨its, rv, htp, hz⟩ := I1.tuple (.inl (.inl hq))
  refine call_enumT htp fun h' he hit hsz hk => Calls.spliced_nil ?_
  have la : a < s1.heap.objs.size := by
    obtain ⟨o, ho, _⟩ := htp
    exact Heap.lt_size ho
  have htp' : h'.IsTuple a its.toArray := by
    obtain ⟨o, ho, r⟩ := htp
    exact ⟨o, hk _ _ ho, r⟩
  have hl : its.length = xs.length := rv.length.symm
  refine PySem.call_dict_pairs (knd := mixKind X.prog X.w) (kvs := numU 0 its) (pairEnT (s1.heap.objs.size + 1) s1.heap.objs.size a (Nat.succ_ne_self _) (Nat.ne_of_lt (Nat.lt_succ_of_lt la)) (Nat.ne_of_lt la) its.toArray) (I.ok.hd hcalm) ⟨⟨.none, he⟩, hit, htp'⟩ ⟨by rw [numU_len, List.size_toArray], ?_⟩ (by rw [List.size_toArray]; omega) ?_
  · rintro i key v ⟨⟨t, rfl⟩, hv⟩
    refine ⟨.inl (0 + (i : Int)), numU_at its 0 i v (by simpa using hv), ?_⟩
    show Value.isInt (0 + (i : Int)) (.int (i : Int) t) = true
    rw [Int.zero_add]
    simp [Value.isInt]
  · intro h2 tk dd k2
    have big := I1.big
    have hm : (h'.objs.size == sysModules) = false := beq_eq_false_iff_ne.mpr (by rw [hsz]; exact Nat.ne_of_gt (Nat.lt_trans big (Nat.lt_add_of_pos_right (by decide))))
    have hn := I1.hok.fresh (a := h'.objs.size) (by omega)
    have rel : KV (mergeK [] (numK 0 xs)) (merged [] (numU 0 its)) := KV.merge (num_kv 0 rv) .nil
    rw [DL.mergeK_new (kvs := []) (numK_keys xs 0).1, List.nil_append] at rel
    refine ⟨.ref h'.objs.size, upd H1 h'.objs.size (.dK (numK 0 xs)), I1.laid (t' := tk) (fun b o e => ?_) (by omega) ⟨by rw [numK_len]; omega, hm, _, rel, dd⟩, rfl, q _ hn⟩
    have lb := Heap.lt_size e
    exact k2 b o (fun z => by
      simp only [List.mem_cons, List.not_mem_nil, or_false] at z
      rcases z with z | z
      · exact Nat.ne_of_lt (Nat.lt_succ_of_lt lb) z
      · exact Nat.ne_of_lt lb z) (hk b o e)
end GL
set_option Elab.async false
set_option linter.all false
set_option maxRecDepth 100000
set_option maxHeartbeats 4000000
namespace DL
open PySem PySem.Spec PyProof.Rows L2 GL
def numD : Int → List D → List (D × D)
  | _, [] => []
  | i, x :: r => (.int i, x) :: numD (i + 1) r
theorem num_dr {K : PySem.W.Frag} {H : Hp} : ∀ {xs : List V} {ds : List D} (i : Int), DRs K H xs ds → DRk K H (numK i xs) (numD i ds)
  | _, _, _, .nil => .nil
  | _, _, i, .cons a r => .cons a (num_dr (i + 1) r)
def oDEn : List D → Option D
  | [.tuple ds] => some (.dict (numD 0 ds))
  | _ => none
theorem de_dictEn {X : Cx} {Ts : Tbs} {E : EK} {e : Expr} {f : Mo D} (h : PE X e (tDEn (tA X.K Ts E (args [f])))) : DE X Ts E e (opA oDEn [f]) := by
  refine pe_mono h ?_
  rintro σ H Q ⟨A, S, ρ, r, ρ', rel, hf, he, k⟩
  refine tA_step rel hf he fun ds ρ1 vs H1 p1 dr e1 h1 => ?_
  obtain ⟨d, e2, rfl, rfl⟩ := lf_ok h1
  unfold oDEn at e2
  split at e2
  · rename_i es
    cases e2
    cases dr with
    | cons d1 d2 =>
      cases d2
      cases d1 with
      | @tup a xs _ sq drs =>
        exact ⟨a, xs, rfl, (of_hide sq).2, fun p np => k _ rfl _ _ (p1.trans (.grow p1.rel (.new np))) (.dct (.inl (hide_of (new_hid p1.rel.dom np) upd_same)) (num_dr 0 (drs.sub (grow_hide p1.rel.dom (Grow.new (Ts := ⟨[], [], fun _ h => nomatch h⟩) np)))))⟩
  · cases e2
end DL
set_option Elab.async false
set_option linter.all false
set_option maxRecDepth 100000
set_option maxHeartbeats 4000000
set_option pp.maxSteps 300
set_option pp.deepTerms false
namespace LB.K06
open PySem PySem.Spec PyProof.Rows L2 GL DL
noncomputable def B__law_odd : Stm := (seqS (setS 2 (callO LB.K08.F__law_draw 0 [(rt (.int 11))]))
    (seqS (setS 3 (lst [(rt (.bool true)), (rt (.bool false)), (rt .none), (opA oStr [(rd 1)]), (tup [(rd 1)]), (lst [(rd 1)]), (rt (.dict [])), (op2 oSub (rt (.int 0)) (op2 oPow (rt (.int 10)) (rt (.int 29)))), (op1 oNeg (rt (.int 1))), (op2 uEq (rd 1) (rt (.int 1))), (rt (.str ("" : Str)))]))
    (retS (op2 uIx (rd 3) (rd 2)))))
noncomputable def F__law_odd : Oc → List D → Option (Except XV D × Oc) := runO 4 2 B__law_odd
noncomputable def B__law_bent_numbers : Stm := (seqS (setS 4 (callO LB.K08.F__law_draw 0 [(opA uLen [(rd 2)])]))
    (seqS (setO 5 (opAo oList [(rd 2)]))
    (seqS (ifS (tst (op2 uEq (rd 1) (rt (.int 0))))
      (retS (tup [(op2 uAdd (op2 uAdd (slc uSl (rd 2) bN (bS (rd 4))) (tup [(callO LB.K06.F__law_odd 0 [(op2 uIx (rd 2) (rd 4))])])) (slc uSl (rd 2) (bS (op2 uAdd (rd 4) (rt (.int 1)))) bN)), (rd 3)]))
      nilS)
    (seqS (ifS (tst (op2 uEq (rd 1) (rt (.int 1))))
      (putS 5 (rd 4) (op2 oSub (op2 oSub (rt (.int 0)) (rt (.int 1))) (callO LB.K08.F__law_draw 0 [(rt (.int 3))])))
      nilS)
    (seqS (ifS (bor (tst (op2 uEq (rd 1) (rt (.int 2)))) (tst (op2 uEq (rd 1) (rt (.int 3)))))
      (putS 5 (rd 4) (op2 uAdd (op2 uAdd (ixo 5 (rd 4)) (rt (.int 1))) (callO LB.K08.F__law_draw 0 [(rt (.int 2))])))
      nilS)
    (seqS (ifS (tst (op2 uEq (rd 1) (rt (.int 4))))
      (seqS (setS 6 (op2 uAdd (rt (.int 2)) (callO LB.K08.F__law_draw 0 [(rt (.int 5))])))
    (setO 5 (qo (lc (itU (rd 5)) (tgN 7) yesM (op2 uMul (rd 6) (rd 7)) [7]))))
      nilS)
    (seqS (ifS (tst (op2 uEq (rd 1) (rt (.int 5))))
      (setO 5 (rep (args [(rt (.int 0))]) (leno 5)))
      nilS)
    (seqS (ifS (tst (op2 uEq (rd 1) (rt (.int 6))))
      (insS 5 (rd 4) (op2 uIx (lst [(rt (.int 0)), (rt (.int 0)), (rt (.int 1))]) (callO LB.K08.F__law_draw 0 [(rt (.int 3))])))
      nilS)
    (seqS (ifS (tst (op2 uEq (rd 1) (rt (.int 7))))
      (dropS (popo 5 (rd 4)))
      nilS)
    (seqS (ifS (tst (op2 uEq (rd 1) (rt (.int 2))))
      (frz 5 (retS (tup [(opA oTup [(rd 5)]), (rd 3)])))
      nilS)
    (frz 5 (retS (tup [(opA oTup [(rd 5)]), (opA oSum [(rd 5)])])))))))))))))
noncomputable def F__law_bent_numbers : Oc → List D → Option (Except XV D × Oc) := runO 8 4 B__law_bent_numbers
noncomputable def B__law_bent : Stm := (seqS (setS 2 (callO LB.K08.F__law_draw 0 [(rt (.int 16))]))
    (seqS (asgS (rd 1) (tgT [(tgN 3), (tgN 4)]))
    (seqS (ifS (tst (op2 oLt (rd 2) (rt (.int 8))))
      (retS (callO LB.K06.F__law_bent_numbers 0 [(rd 2), (rd 3), (rd 4)]))
      nilS)
    (seqS (setS 5 (callO LB.K08.F__law_draw 0 [(rt (.int 8))]))
    (seqS (ifS (tst (op2 oLt (rd 2) (rt (.int 10))))
      (retS (tup [(rd 3), (op2 oSub (op2 uAdd (rd 4) (rt (.int 1))) (op2 uMul (rt (.int 2)) (op2 oMod (rd 5) (rt (.int 2)))))]))
      nilS)
    (seqS (ifS (tst (op2 oLt (rd 2) (rt (.int 12))))
      (retS (tup [(rd 3), (callO LB.K06.F__law_odd 0 [(rd 4)])]))
      nilS)
    (seqS (setS 6 (lst [(asL (opAo oList [(rd 1)])), (tup [(asL (opAo oList [(rd 3)])), (rd 4)]), (tup [(rd 3)]), (tup [(rd 3), (rd 4), (rd 4)]), (tup [(rd 4), (rd 3)]), (rd 3)]))
    (seqS (setS 6 (op2 uAdd (rd 6) (lst [(tup [(opA oDEn [(rd 3)]), (rd 4)]), (dspT (kyD (rd 3)) (rd 4))])))
    (seqS (ifS (tst (op2 oLt (rd 2) (rt (.int 14))))
      (retS (op2 uIx (rd 6) (rd 5)))
      nilS)
    (retS (op2 uIx (lst [(rt .none), (rt (.int 0)), (rt (.bool true)), (rt (.str ("" : Str))), (tup []), (lst []), (rt (.dict [])), (tup [(tup []), (rt (.int 0))])]) (rd 5))))))))))))
noncomputable def F__law_bent : Oc → List D → Option (Except XV D × Oc) := runO 7 2 B__law_bent
noncomputable def B__law_is_split : Stm := (seqS (ifS (bor (bnot (tst (isi "tuple" (rd 1)))) (bor (tst (op2 uNe (opA uLen [(rd 1)]) (rt (.int 2)))) (bor (bnot (tst (isi "tuple" (op2 uIx (rd 1) (rt (.int 0)))))) (tst (op2 uNe (opA uLen [(op2 uIx (rd 1) (rt (.int 0)))]) (rd 0))))))
      (retS (rt (.bool false)))
      nilS)
    (seqS (forS (itU (op2 uAdd (op2 uIx (rd 1) (rt (.int 0))) (tup [(op2 uIx (rd 1) (rt (.int 1)))]))) (tgN 2)
      (ifS (bor (bnot (tst (isi "int" (rd 2)))) (bor (tst (isi "bool" (rd 2))) (tst (op2 oLt (rd 2) (rt (.int 0))))))
      (retS (rt (.bool false)))
      nilS))
    (retS (vand (op2 uEq (op2 uIx (rd 1) (rt (.int 1))) (opA oSum [(op2 uIx (rd 1) (rt (.int 0)))])) (op2 uEq (callP LB.K08.F__law_measure [(op2 uIx (rd 1) (rt (.int 0)))]) (rt (.int 1)))))))
noncomputable def F__law_is_split : List D → Option (Except XV D) := runP 3 2 B__law_is_split
noncomputable def B__law_right : Stm := (seqS (setS 2 (opA oReprY [(rd 1)]))
    (seqS (setS 3 (callP LB.K15.F_is_split [(rd 0), (rd 1)]))
    (retS (vand (isi "bool" (rd 3)) (vand (op2 uEq (rd 3) (callP LB.K06.F__law_is_split [(rd 0), (rd 1)])) (op2 uEq (opA oReprY [(rd 1)]) (rd 2)))))))
noncomputable def F__law_right : List D → Option (Except XV D) := runP 4 2 B__law_right
noncomputable def B_law : Stm := (seqS (setM 1 LB.K08.F__law_pen [(rd 0)])
    (seqS (forS (itR (rt (.int 4))) (tgN 2)
      (seqS (setS 3 (callO LB.K08.F__law_many 1 []))
    (seqS (setS 4 (callO LB.K08.F__law_split 1 [(rd 3), (rt (.int 33))]))
    (seqS (setS 5 (op2 uAdd (lst [(rd 4)]) (asL (lc (itR (rt (.int 8))) (tgN 8) yesM (callO LB.K06.F__law_bent 1 [(rd 4)]) [8]))))
    (seqS (forS (itU (rd 5)) (tgN 6)
      (forS (itU (lst [(rd 3), (opA oMin2 [(rt (.int 10)), (op2 uAdd (rd 3) (rt (.int 1)))]), (opA oMax2 [(rt (.int 1)), (op2 oSub (rd 3) (rt (.int 1)))])])) (tgN 7)
      (ifS (bnot (tst (callP LB.K06.F__law_right [(rd 7), (rd 6)])))
      (retS (rt (.bool false)))
      nilS)))
    (ifS (tst (op2 oNot (callP LB.K15.F_is_split [(rd 3), (rd 4)]) (rt (.bool true))))
      (retS (rt (.bool false)))
      nilS))))))
    (retS (vand (op2 oIs (callP LB.K15.F_is_split [(rt (.int 1)), (tup [(tup [(rt (.int 1))]), (rt (.int 1))])]) (rt (.bool true))) (vand (op2 oIs (callP LB.K15.F_is_split [(rt (.int 1)), (tup [(tup [(rt (.int 2))]), (rt (.int 2))])]) (rt (.bool false))) (op2 oIs (callP LB.K15.F_is_split [(rt (.int 2)), (tup [(tup [(rt (.int 0)), (rt (.int 0))]), (rt (.int 0))])]) (rt (.bool false))))))))
noncomputable def F_law : List D → Option (Except XV D) := runP 9 1 B_law
end LB.K06
set_option Elab.async false
set_option linter.all false
set_option maxRecDepth 100000
set_option maxHeartbeats 4000000
namespace LB.K06
open PySem PySem.Spec PyProof.Rows L2 GL DL LB
open LB.K01 (NX isWs parts)
open LB.K19 (nx_of isWs_form isWs_ints cat_tt)
open LB.K14 (splB spB spF spF_ints is_tup spl_len spl_w badD good_ints ints_good sum_pos_of spl_bad)
open LB.K08 (measure_eq)
structure T6 (d : D) : Prop where
  x : NX d
  p : ∀ x ∈ parts d, NX x
  r : ∃ s : Str, oReprY [d] = some (.str s)
theorem repY {d : D} (h : ∃ s : Str, oReprX [d] = some (.str s)) : ∃ s : Str, oReprY [d] = some (.str s) := by
  obtain ⟨s, e⟩ := h
  cases d with
  | tuple ds =>
    by_cases ok : okRY ds = true
    · exact ⟨_, if_pos ok⟩
    · exact ⟨s, (if_neg ok).trans e⟩
  | _ => exact ⟨s, e⟩
theorem t6_of {N : Bool} {d : D} (h : Pt N 60 20000 d) : T6 d :=
  ⟨nx_of h.cl, (fun x hx => by
    cases d with
    | tuple ds => exact nx_of (clD_parts h.cl x hx)
    | _ => cases hx), repY h.rep⟩
theorem lsplit_eq {d : D} (h : NX d) (hp : ∀ x ∈ parts d, NX x) {m : Int} (hm : m ≤ 900) : F__law_is_split [.int m, d] = some (.ok (.bool (splB m d))) := by
  refine runP_of rfl ?_
  show WS B__law_is_split [.da (.int m), .da d, .un] _
  unfold B__law_is_split
  have hx := h.1
  rcases is_tup d with ⟨ds, rfl⟩ | ⟨e1, e2⟩
  · have ei : (tyN (.tuple ds) == "tuple" || ("tuple" == "int" && tyN (.tuple ds) == "bool")) = true := isi_tt _
    have el : uLen [.tuple ds] = some (.int (ds.length : Int)) := rfl
    by_cases hl : ds.length = 2
    · obtain ⟨a, b, rfl⟩ : ∃ a b, ds = [a, b] := by
        match ds, hl with
        | [a, b], _ => exact ⟨a, b, rfl⟩
      have nxa := hp a (by show a ∈ [a, b]; simp)
      have nxb := hp b (by show b ∈ [a, b]; simp)
      have el2 : uLen [.tuple [a, b]] = some (.int 2) := rfl
      have i0 : uIx (.tuple [a, b]) (.int 0) = some a := rfl
      have i1 : uIx (.tuple [a, b]) (.int 1) = some b := rfl
      rcases is_tup a with ⟨as, rfl⟩ | ⟨e3, e4⟩
      · have ei3 : (tyN (.tuple as) == "tuple" || ("tuple" == "int" && tyN (.tuple as) == "bool")) = true := isi_tt _
        have el3 : uLen [.tuple as] = some (.int (as.length : Int)) := rfl
        by_cases hm2 : (as.length : Int) = m
        · have hcat : uAdd (.tuple as) (.tuple [b]) = some (.tuple (as ++ [b])) := cat_tt as [b] (by simp; omega)
          simp only [LB.dnS, DL.ol, DL.ow, DL.oT, DL.oI, LB.bkF, Nat.reduceAdd, Nat.reduceEqDiff, reduceIte, ol, ow, oT, oI, bkF, ei, hx, el2, i0, ei3, nxa.1, el3, decide_eq_true hm2]
          (rw [then_nx]; simp only [LB.dnS, DL.ol, DL.ow, DL.oT, DL.oI, LB.bkF, Nat.reduceAdd, Nat.reduceEqDiff, reduceIte, ol, ow, oT, oI, bkF, i0, i1, hcat])
          refine WS_loop0 (fun i ρ => (∀ j x, j < i → (as ++ [b])[j]? = some x → badD x = false) ∧ ∃ s2 : Sl, ρ = [.da (.int m), .da (.tuple [.tuple as, b]), s2]) ⟨fun j x hj => absurd hj (Nat.not_lt_zero _), _, rfl⟩ ?_ ?_
          · rintro i x ρ hxi ⟨hok, s2, rfl⟩
            have hxm := List.mem_of_getElem? hxi
            have nxx : isExn x = false := by
              rcases List.mem_append.mp hxm with z | z
              · exact nxa.2 x z
              · rw [List.mem_singleton.mp z]; exact nxb.1
            rw [tgN_eq]
            refine ⟨_, rfl, ?_⟩
            have fin : badD x = true → splB m (.tuple [.tuple as, b]) = false := fun hb => spl_bad (List.all_eq_false.mpr ⟨x, hxm, by rw [hb]; simp⟩)
            have nxt : badD x = false → ∀ j y, j < i + 1 → (as ++ [b])[j]? = some y → badD y = false := fun hb j y hj hy => by
              by_cases e : j = i
              · rw [e, hxi] at hy
                cases hy
                exact hb
              · exact hok j y (by omega) hy
            cases x with
            | int n =>
              by_cases hn : n < 0
              · simp only [LB.dnS, DL.ol, DL.ow, DL.oT, DL.oI, LB.bkF, Nat.reduceAdd, Nat.reduceEqDiff, reduceIte, ol, ow, oT, oI, bkF, decide_eq_true hn]
                rw [fin (decide_eq_true hn)]
              · simp only [LB.dnS, DL.ol, DL.ow, DL.oT, DL.oI, LB.bkF, Nat.reduceAdd, Nat.reduceEqDiff, reduceIte, ol, ow, oT, oI, bkF, decide_eq_false hn]
                exact ⟨nxt (decide_eq_false hn), _, rfl⟩
            | _ =>
              simp only [LB.dnS, DL.ol, DL.ow, DL.oT, DL.oI, LB.bkF, Nat.reduceAdd, Nat.reduceEqDiff, reduceIte, ol, ow, oT, oI, bkF, nxx]
              rw [fin rfl]
              try rw [if_pos (by rfl)]
          · rintro ρ ⟨hok, s2, rfl⟩
            have e : ((as ++ [b]).all fun x => !badD x) = true := List.all_eq_true.mpr fun x hx => by
              obtain ⟨j, hj⟩ := List.mem_iff_getElem?.mp hx
              have hj2 := (List.getElem?_eq_some_iff.mp hj).1
              rw [hok j x hj2 hj]
              rfl
            rw [List.all_append, Bool.and_eq_true] at e
            obtain ⟨ns, rfl, hn⟩ := good_ints e.1
            cases b with
            | int t =>
              have w0 : isWs m (.tuple (ns.map PyData.int)) = true := isWs_ints (by rw [List.length_map] at hm2; exact hm2)
              have es : splB m (.tuple [.tuple (ns.map PyData.int), .int t]) = spB ns t := by
                show (isWs m (.tuple (ns.map PyData.int)) && spF (.tuple (ns.map PyData.int)) t) = _
                rw [w0, spF_ints, Bool.true_and]
              have an : (ns.any fun x => decide (x < 0)) = false := by
                have := e.1
                rw [ints_good] at this
                simpa using this
              have e1 := measure_eq (d := .tuple (ns.map PyData.int)) (xs := ns) rfl hn
              have eg : decide (((gcdL ns : Nat) : Int) = 1) = decide (gcdL ns = 1) := by
                rw [decide_eq_decide]
                omega
              rw [es]
              unfold spB
              rw [an, Bool.not_false, Bool.true_and]
              by_cases h2 : t = ns.sum
              · (rw [then_nx]; simp only [LB.dnS, DL.ol, DL.ow, DL.oT, DL.oI, LB.bkF, Nat.reduceAdd, Nat.reduceEqDiff, reduceIte, ol, ow, oT, oI, bkF, i0, i1, sum_t, decide_eq_true h2, e1])
                rw [eg]
                try rfl
              · (rw [then_nx]; simp only [LB.dnS, DL.ol, DL.ow, DL.oT, DL.oI, LB.bkF, Nat.reduceAdd, Nat.reduceEqDiff, reduceIte, ol, ow, oT, oI, bkF, i0, i1, sum_t, decide_eq_false h2])
                try rfl
            | _ => cases e.2
        · have : splB m (.tuple [.tuple as, b]) = false := spl_w (by
            show ((decide ((as.length : Int) = m) && as.all K25.isW) && K25.isW b) = false
            rw [decide_eq_false hm2]
            rfl)
          rw [this]
          simp only [LB.dnS, DL.ol, DL.ow, DL.oT, DL.oI, LB.bkF, Nat.reduceAdd, Nat.reduceEqDiff, reduceIte, ol, ow, oT, oI, bkF, ei, hx, el2, i0, ei3, nxa.1, el3, decide_eq_false hm2]
          try rfl
      · have : splB m (.tuple [a, b]) = false := spl_w (by
          cases a with
          | tuple as => cases e3
          | _ => rfl)
        rw [this]
        simp only [LB.dnS, DL.ol, DL.ow, DL.oT, DL.oI, LB.bkF, Nat.reduceAdd, Nat.reduceEqDiff, reduceIte, ol, ow, oT, oI, bkF, ei, hx, el2, i0, e3, nxa.1]
        try rfl
    · rw [spl_len hl]
      have : ¬ ((ds.length : Int) = 2) := by omega
      simp only [LB.dnS, DL.ol, DL.ow, DL.oT, DL.oI, LB.bkF, Nat.reduceAdd, Nat.reduceEqDiff, reduceIte, ol, ow, oT, oI, bkF, ei, hx, el, decide_eq_false this]
      try rfl
  · rw [e2]
    simp only [LB.dnS, DL.ol, DL.ow, DL.oT, DL.oI, LB.bkF, Nat.reduceAdd, Nat.reduceEqDiff, reduceIte, ol, ow, oT, oI, bkF, hx, e1]
    try rfl
end LB.K06
set_option Elab.async false
set_option linter.all false
set_option maxRecDepth 100000
set_option maxHeartbeats 4000000
namespace LB.K14
open PySem PySem.Spec PyProof.Rows L2 GL DL LB
open LB.K12 (common_eq)
open LB.K15 (spD norm mul_norm sum_mul pos_some)
def qS : Int := 2 ^ 900
theorem qs_qb : 20 * (qS + 1000) ≤ qB := by unfold qS qB; decide
theorem qs0 : 1000 ≤ qS := by unfold qS; decide
structure Xk (xs : List Int) : Prop where
  l0 : 1 ≤ xs.length
  l1 : xs.length ≤ 10
  nn : ∀ x ∈ xs, 0 ≤ x
  pos : 0 < xs.sum
  hi : xs.sum ≤ qS
theorem Xk.at {xs : List Int} (k : Xk xs) : ∀ x ∈ xs, 0 ≤ x ∧ x ≤ qS := fun x hx => by
  have h1 := k.nn x hx
  have h2 := LB.le_sum k.nn hx
  have h3 := k.hi
  omega
variable {xs : List Int} {a b : Int}
end LB.K14
set_option Elab.async false
set_option linter.all false
set_option maxRecDepth 100000
set_option maxHeartbeats 4000000
namespace LB.K14
open PySem PySem.Spec PyProof.Rows L2 GL DL LB
open LB.K19 (putL put_mem put_len cut_hd cut_tl cat_tt)
open LB.K15 (spD norm)
section
variable {f : Stm} {g : Ev → Option (List D × Oc)} {ρ : Ev} {R : List D → Oc → Prop}
end
end LB.K14
set_option Elab.async false
set_option linter.all false
set_option maxRecDepth 100000
set_option maxHeartbeats 4000000
namespace LB.K14
open PySem PySem.Spec PyProof.Rows L2 GL DL LB
open LB.K19 (putL put_mem put_len cut_hd cut_tl cat_tt)
open LB.K15 (spD norm)
theorem q_mul {k x : Int} (hk : 0 ≤ k ∧ k ≤ 10) (hx : 0 ≤ x ∧ x ≤ qS) : Q (k * x) := by
  have h1 := Int.mul_le_mul hk.2 hx.2 hx.1 (by decide)
  have h2 := Int.mul_nonneg hk.1 hx.1
  have := qs_qb
  have := qs0
  unfold Q
  omega
theorem q_near {x : Int} (hx : -1 ≤ x ∧ x ≤ qS + 1000) : Q x := by
  have := qs_qb
  have := qs0
  unfold Q
  omega
end LB.K14
set_option Elab.async false
set_option linter.all false
set_option maxRecDepth 100000
set_option maxHeartbeats 4000000
namespace LB.K06
open PySem PySem.Spec PyProof.Rows L2 GL DL LB
open LB.K14 (Q qB qS q_w q_near q_sm qs0 qs_qb)
open LB.K08 (PenK draw_eq)
def O6 (d : D) : Prop := ∃ N, Pt N 1 700 d
theorem str6 {x : Int} (h : Q x) : (Str.ofString (toString x)).cps.size ≤ 700 := by
  have e := int_text_length_le10 (k := 320) (a := x) (by decide) (by
    have h1 : qB = ((2 ^ 1000 : Nat) : Int) := by unfold qB; norm_cast
    have h2 : x.natAbs ≤ 2 ^ 1000 := by have := h.1; have := h.2; omega
    exact Nat.lt_of_le_of_lt h2 (by decide))
  have e2 : (Str.ofString (toString x)).length = (Str.ofString (toString x)).cps.size := rfl
  rw [PySem.ofString_length] at e2
  omega
theorem o_bool (b : Bool) : O6 (.bool b) := ⟨true, pt_bool b⟩
theorem at11 (d0 d1 d2 d3 d4 d5 d6 d7 d8 d9 d10 : D) {r : Int} (r0 : 0 ≤ r) (r1 : r < 11) : ∃ d ∈ [d0, d1, d2, d3, d4, d5, d6, d7, d8, d9, d10], uIx (.list [d0, d1, d2, d3, d4, d5, d6, d7, d8, d9, d10]) (.int r) = some d := by
  obtain ⟨k, rfl⟩ : ∃ k : Nat, r = (k : Int) := ⟨r.toNat, by omega⟩
  have hk : k < [d0, d1, d2, d3, d4, d5, d6, d7, d8, d9, d10].length := by show k < 11; omega
  exact ⟨_, List.getElem_mem hk, ix_l (atI_nat (List.getElem?_eq_getElem hk))⟩
theorem odd_eq {cs : List Int} {n : Nat} {c : Oc} (p : PenK cs n c) (hl : cs.length ≤ 63) (hn : n ≤ 90000) {x : Int} (h : Q x) :
    ∃ d c', F__law_odd c [.int x] = some (.ok d, c') ∧ (O6 d ∧ PenK cs (n + 1) c') := by
  obtain ⟨d, c1, e1, r, rfl, r0, r1, p1⟩ := K08.draw_eq p hl hn (m := 11) (by decide) (by decide)
  have es : oStr [.int x] = some (.str (Str.ofString (toString x))) := by
    have f : Fine x := q_w h
    unfold oStr
    simp only
    rw [if_pos (Fine.log f)]
  have p29 : oPow (.int 10) (.int 29) = some (.int (10 ^ 29)) := pow_int (i := 10) (j := 29) ⟨by decide, by decide, by decide⟩
  have eN : oNeg (.int 1) = some (.int (-1)) := rfl
  refine runO_of rfl ?_
  show WS B__law_odd [.ow false c, .da (.int x), .un, .un] _
  unfold B__law_odd
  simp only [LB.dnS, DL.ol, DL.ow, DL.oT, DL.oI, LB.bkF, Nat.reduceAdd, Nat.reduceEqDiff, reduceIte, ol, ow, oT, oI, bkF]
  refine ⟨_, _, e1, ?_⟩
  (rw [then_nx]; simp only [LB.dnS, DL.ol, DL.ow, DL.oT, DL.oI, LB.bkF, Nat.reduceAdd, Nat.reduceEqDiff, reduceIte, ol, ow, oT, oI, bkF, es, p29, sub_int, eN])
  obtain ⟨d, hd, ed⟩ := at11 (.bool true) (.bool false) .none (.str (Str.ofString (toString x))) (.tuple [.int x]) (.list [.int x]) (.dict []) (.int (0 - 10 ^ 29)) (.int (-1)) (.bool (decide (x = 1))) (.str ("" : Str)) r0 r1
  (rw [then_nx]; simp only [LB.dnS, DL.ol, DL.ow, DL.oT, DL.oI, LB.bkF, Nat.reduceAdd, Nat.reduceEqDiff, reduceIte, ol, ow, oT, oI, bkF, ed])
  refine ⟨_, rfl, ?_, p1⟩
  simp only [List.mem_cons, List.not_mem_nil, or_false] at hd
  rcases hd with rfl | rfl | rfl | rfl | rfl | rfl | rfl | rfl | rfl | rfl | rfl
  · exact o_bool _
  · exact o_bool _
  · exact ⟨true, pt_none⟩
  · exact ⟨true, pt_text _ (str6 h)⟩
  · exact ⟨true, pt_tup (k := 0) (b := 0) (fun y hy => by rw [List.mem_singleton.mp hy]; exact pt_int (q_w h)) (by show 1 * 1 ≤ 700; decide)⟩
  · exact ⟨true, pt_lst (k := 0) (b := 0) (fun y hy => by rw [List.mem_singleton.mp hy]; exact pt_int (q_w h)) (by show 1 * 1 ≤ 700; decide)⟩
  · exact ⟨false, pt_dict0⟩
  · exact ⟨true, pt_int (by decide)⟩
  · exact ⟨true, pt_int (by decide)⟩
  · exact o_bool _
  · exact ⟨true, pt_text "" (by decide)⟩
end LB.K06
set_option Elab.async false
set_option linter.all false
set_option maxRecDepth 100000
set_option maxHeartbeats 2000000
namespace DL
open PySem PySem.Spec PyProof.Rows L2 GL
section
variable {prog : Program} {w : World} {A : Around} {E : Value → Shared → Prop} {s : Shared} {t : Addr}
end
section
variable {X : Cx} {Ts : Tbs}
end
end DL
set_option Elab.async false
set_option linter.all false
set_option maxRecDepth 100000
set_option maxHeartbeats 4000000
namespace DL
open PySem PySem.Spec PyProof.Rows L2 GL
section
variable {X : Cx} {Ts : Tbs} {E : EK}
end
end DL
set_option Elab.async false
set_option linter.all false
set_option maxRecDepth 100000
set_option maxHeartbeats 4000000
set_option pp.maxSteps 300
set_option pp.deepTerms false
namespace LB.K77
open PySem PySem.Spec PyProof.Rows L2 GL DL
end LB.K77
set_option Elab.async false
set_option linter.all false
set_option maxRecDepth 100000
set_option maxHeartbeats 4000000
set_option pp.maxSteps 300
set_option pp.deepTerms false
namespace LB.K33
open PySem PySem.Spec PyProof.Rows L2 GL DL
end LB.K33
set_option Elab.async false
set_option linter.all false
set_option maxRecDepth 100000
set_option maxHeartbeats 4000000
set_option pp.maxSteps 300
set_option pp.deepTerms false
namespace LB.K35
open PySem PySem.Spec PyProof.Rows L2 GL DL
end LB.K35
set_option Elab.async false
set_option linter.all false
set_option maxRecDepth 100000
set_option maxHeartbeats 4000000
set_option pp.maxSteps 300
set_option pp.deepTerms false
namespace LB.K37
open PySem PySem.Spec PyProof.Rows L2 GL DL
end LB.K37
set_option Elab.async false
set_option linter.all false
set_option maxRecDepth 100000
set_option maxHeartbeats 4000000
set_option pp.maxSteps 300
set_option pp.deepTerms false
namespace LB.K45
open PySem PySem.Spec PyProof.Rows L2 GL DL
end LB.K45
set_option Elab.async false
set_option linter.all false
set_option maxRecDepth 100000
set_option maxHeartbeats 4000000
set_option pp.maxSteps 300
set_option pp.deepTerms false
namespace LB.K78
open PySem PySem.Spec PyProof.Rows L2 GL DL
end LB.K78
set_option Elab.async false
set_option linter.all false
set_option maxRecDepth 100000
set_option maxHeartbeats 4000000
set_option pp.maxSteps 300
set_option pp.deepTerms false
namespace LB.K44
open PySem PySem.Spec PyProof.Rows L2 GL DL
end LB.K44
set_option Elab.async false
set_option linter.all false
set_option maxRecDepth 100000
set_option maxHeartbeats 4000000
set_option pp.maxSteps 300
set_option pp.deepTerms false
namespace LB.K40
open PySem PySem.Spec PyProof.Rows L2 GL DL
end LB.K40
set_option Elab.async false
set_option linter.all false
set_option maxRecDepth 100000
set_option maxHeartbeats 4000000
set_option pp.maxSteps 300
set_option pp.deepTerms false
namespace LB.K23
open PySem PySem.Spec PyProof.Rows L2 GL DL
end LB.K23
set_option Elab.async false
set_option linter.all false
set_option maxRecDepth 100000
set_option maxHeartbeats 4000000
namespace LB.K28
open PySem PySem.Spec PyProof.Rows L2 GL DL
open LB.K29 (beg beg_fit beg_nn Tm)
open LB.K12 (exL exL_g ex_rs)
open LB.K22 (bigJ GJ)
end LB.K28
set_option Elab.async false
set_option linter.all false
set_option maxRecDepth 100000
set_option maxHeartbeats 4000000
namespace LB.K26
open PySem PySem.Spec PyProof.Rows L2 GL DL
open LB.K29 (gcd_pos topOf botOf fracD negS posS leaps_sum div_abs run_less abs_mem)
open LB.K12 (exL exL_g ex_rs)
open LB.K22 (bigJ bigR GJ)
end LB.K26
set_option Elab.async false
set_option linter.all false
set_option maxRecDepth 100000
set_option maxHeartbeats 4000000
namespace LB.K26
open PySem PySem.Spec PyProof.Rows L2 GL DL
open LB.K29 (gcd_pos topOf botOf fracD negS posS leaps_sum div_abs run_less abs_mem ends_eq)
open LB.K12 (exL exL_g ex_rs)
open LB.K22 (bigJ bigR GJ)
def bigE : Int := 100000000000000000000000000000000000000000000000000000000000000000000000000000000
structure GE (W : Web) (L : Lot) : Prop where
  fit : Fit W L
  g : 1 ≤ L.g ∧ L.g ≤ bigJ
  goings : ∀ x ∈ L.goings, -bigE ≤ x ∧ x ≤ bigE
  sum : absS L.rest ≤ bigE
theorem GE.rest {W : Web} {L : Lot} (p : GE W L) : ∀ x ∈ L.rest, -bigE ≤ x ∧ x ≤ bigE := fun x hx => by
  have := abs_mem hx
  have := p.sum
  omega
theorem abs_rep {K : Int} : ∀ {xs : List Int}, (∀ x ∈ xs, -K ≤ x ∧ x ≤ K) → absS xs ≤ K * (xs.length : Int)
  | [], _ => by simp [absS]
  | x :: xs, h => by
    have ih := abs_rep (xs := xs) fun y hy => h y (List.mem_cons_of_mem _ hy)
    have hx := h x List.mem_cons_self
    unfold absS at ih ⊢
    rw [List.map_cons, List.sum_cons, List.length_cons, Int.natCast_add, Int.mul_add]
    simp only [Int.natCast_one, Int.mul_one]
    omega
theorem GJ.ge {W : Web} {L : Lot} (h : WebOk W) (p : GJ W L) : GE W L := by
  have hM := h.many
  have hl := p.fit.rlen h
  refine ⟨p.fit, p.g, fun x hx => by have := p.goings x hx; unfold bigJ at *; unfold bigE; omega, ?_⟩
  have h1 := abs_rep (p.rest h)
  have h2 : bigR * (L.rest.length : Int) ≤ bigR * 10 := Int.mul_le_mul_of_nonneg_left (by omega) (by decide)
  have h3 : bigR * 10 ≤ bigE := by decide
  omega
theorem GE.nar {W : Web} {L : Lot} (p : GE W L) : Nar L := ⟨lt1900 (B := bigJ) (by decide) (by have := p.g; unfold bigJ at *; omega), fun x hx => lt1900 (B := bigE) (by decide) (p.goings x hx)⟩
theorem GE.bd {W : Web} {L : Lot} (h : WebOk W) (p : GE W L) : Bd bigE L := by
  have hM := h.many
  have h1 := p.fit.len
  have h2 := p.fit.rlen h
  exact ⟨by have := p.g; unfold bigJ at *; unfold bigE; omega, p.goings, p.rest, by omega, by omega⟩
theorem GE.repr {W : Web} {L : Lot} (h : WebOk W) (p : GE W L) : oRepr [lotD L] = some (.str (PyData.shown (lotD L))) := repr_lot (by decide) (p.bd h)
end LB.K26
set_option Elab.async false
set_option linter.all false
set_option maxRecDepth 100000
set_option maxHeartbeats 4000000
namespace LB.K26
open PySem PySem.Spec PyProof.Rows L2 GL DL
open LB.K29 (gcd_pos topOf botOf fracD negS posS leaps_sum div_abs run_less abs_mem ends_eq)
open LB.K12 (exL exL_g ex_rs)
open LB.K22 (bigJ bigR GJ)
end LB.K26
set_option Elab.async false
set_option linter.all false
set_option maxRecDepth 100000
set_option maxHeartbeats 4000000
namespace LB.K26
open PySem PySem.Spec PyProof.Rows L2 GL DL
open LB.K29 (gcd_pos topOf botOf fracD negS posS leaps_sum div_abs run_less abs_mem ends_eq)
open LB.K12 (exL exL_g ex_rs)
open LB.K22 (bigJ bigR GJ)
end LB.K26
set_option Elab.async false
set_option linter.all false
set_option maxRecDepth 100000
set_option maxHeartbeats 4000000
namespace LB.K26
open PySem PySem.Spec PyProof.Rows L2 GL DL
open LB.K29 (div_abs)
open LB.K12 (exL exL_g)
open LB.K22 (bigJ bigR GJ)
end LB.K26
set_option Elab.async false
set_option linter.all false
set_option maxRecDepth 100000
set_option maxHeartbeats 4000000
namespace LB.K27
open PySem PySem.Spec PyProof.Rows L2 GL DL
open LB.K29 (leaps_sum run_less abs_mem)
open LB.K12 (exL)
open LB.K13 (wt wt_rng cf_sum sm_swap leaps_sm)
open LB.K22 (bigJ bigR GJ sm_0)
open LB.K26 (bigE GE)
structure Bg (W : Web) (L : Lot) : Prop where
  fit : Fit W L
  nn : NN W L
  g : 1 ≤ L.g ∧ L.g ≤ 20
  goings : ∀ x ∈ L.goings, -3 ≤ x ∧ x ≤ 0
  sum : L.rest.sum ≤ 6720
theorem abs_nn : ∀ {xs : List Int}, (∀ x ∈ xs, 0 ≤ x) → absS xs = xs.sum
  | [], _ => rfl
  | x :: xs, h => by
    have ih := abs_nn (xs := xs) fun y hy => h y (List.mem_cons_of_mem _ hy)
    have h0 := h x List.mem_cons_self
    unfold absS at ih ⊢
    rw [List.map_cons, List.sum_cons, List.sum_cons, ih]
    omega
section
variable {W : Web} {L0 L : Lot}
theorem nn_rest (h : WebOk W) (f : Fit W L) (n : NN W L) : ∀ x ∈ L.rest, 0 ≤ x := fun x hx => by
  obtain ⟨i, hi, rfl⟩ := mem_gI hx
  rw [f.rlen h] at hi
  rw [f.at h hi]
  exact n i hi
theorem Bg.abs (h : WebOk W) (b : Bg W L) : absS L.rest ≤ 6720 := by rw [abs_nn (nn_rest h b.fit b.nn)]; exact b.sum
structure Go (W : Web) (L0 L : Lot) : Prop where
  bg : Bg W L0
  run : Run W L0 L
variable (h : WebOk W) (t : Go W L0 L)
include h t
theorem Go.fit : Fit W L := t.run.fit t.bg.fit
theorem Go.nn : NN W L := (t.run.nn h t.bg.fit t.bg.nn).1
theorem Go.abs : absS L.rest ≤ 6720 := Int.le_trans (run_less h t.bg.fit t.run).1 (t.bg.abs h)
theorem Go.rest : ∀ x ∈ L.rest, 0 ≤ x ∧ x ≤ 6720 := fun x hx => by
  have h1 := nn_rest h (t.fit h) (t.nn h) x hx
  have h2 := abs_mem hx
  have h3 := t.abs h
  omega
theorem Go.goings : ∀ x ∈ L.goings, -10000 ≤ x ∧ x ≤ 10000 := fun x hx => by
  obtain ⟨i, hi, rfl⟩ := mem_gI hx
  rw [(t.fit h).len] at hi
  have h1 := (run_less h t.bg.fit t.run).2 i hi
  have h2 := t.bg.goings _ (gI_mem (xs := L0.goings) (i := i) (by rw [t.bg.fit.len]; exact hi))
  have h3 := t.bg.abs h
  have h4 := LB.K29.absS_nn L.rest
  omega
theorem Go.gj : GJ W L := ⟨t.fit h, by rw [t.run.g]; have := t.bg.g; unfold bigJ; omega, fun x hx => by have := t.goings h x hx; unfold bigJ; omega⟩
theorem Go.ge : GE W L := LB.K26.GJ.ge h (t.gj h)
theorem Go.repr : oRepr [lotD L] = some (.str (PyData.shown (lotD L))) := (t.ge h).repr h
theorem Go.step {L' : Lot} (r : Run W L L') : Go W L0 L' := ⟨t.bg, t.run.trans r⟩
end
end LB.K27
set_option Elab.async false
set_option linter.all false
set_option maxRecDepth 100000
set_option maxHeartbeats 4000000
namespace LB.K27
open PySem PySem.Spec PyProof.Rows L2 GL DL
open LB.K29 (leaps_sum run_less abs_mem)
open LB.K12 (exL)
open LB.K13 (wt wt_rng cf_sum sm_swap leaps_sm)
open LB.K22 (bigJ bigR GJ sm_0)
open LB.K26 (bigE GE)
end LB.K27
set_option Elab.async false
set_option linter.all false
set_option maxRecDepth 100000
set_option maxHeartbeats 4000000
namespace LB.K27
open PySem PySem.Spec PyProof.Rows L2 GL DL
open LB.K29 (leaps_sum run_less abs_mem)
open LB.K12 (exL)
open LB.K13 (wt wt_rng cf_sum sm_swap leaps_sm)
open LB.K22 (bigJ bigR GJ sm_0)
open LB.K26 (bigE GE)
end LB.K27
set_option Elab.async false
set_option linter.all false
set_option maxRecDepth 100000
set_option maxHeartbeats 4000000
namespace LB.K27
open PySem PySem.Spec PyProof.Rows L2 GL DL
open LB.K29 (leaps_sum run_less abs_mem beg beg_fit beg_nn)
open LB.K13 (wt wt_rng cf_sum sm_swap leaps_sm)
open LB.K22 (bigJ bigR GJ sm_0)
end LB.K27
set_option Elab.async false
set_option linter.all false
set_option maxRecDepth 100000
set_option maxHeartbeats 4000000
namespace LB.K23
open PySem PySem.Spec PyProof.Rows L2 GL DL LB
theorem WS_ins {ρ : Ev} {i : Nat} {f g : Mo D} {Q : Fl → Ev → Prop} (h : (ol ρ i).isSome = true ∧ W f ρ fun j ρ1 => W g ρ1 fun d ρ2 => ∃ l ds, ρ2[i]? = some (.ow l (.lst ds)) ∧ ∃ ds', insL ds j d = some ds' ∧ Q .nx (ρ2.set i (.ow l (.lst ds')))) : WS (insS i f g) ρ Q := by
  obtain ⟨h0, j, ρ1, e1, d, ρ2, e2, l, ds, e3, ds', e4, q⟩ := h
  unfold insS
  rw [WS_isOl, WS_ex1]
  refine ⟨h0, ?_⟩
  have ea : W (args [f, g]) ρ fun es ρ' => es = [j, d] ∧ ρ' = ρ2 := ⟨[j, d], ρ2, by simp only [args, bnd, e1, e2, rt], rfl, rfl⟩
  obtain ⟨es, ρ', e, rfl, rfl⟩ := ea
  refine ⟨_, _, e, ?_⟩
  show WS (fun ρ => (chg i (fun ds => insL ds j d) ρ).map fun ρ1 => (.nx, ρ1)) ρ' Q
  rw [WS_chg]
  exact ⟨l, ds, e3, ds', e4, q⟩
end LB.K23
set_option Elab.async false
set_option linter.all false
set_option maxRecDepth 100000
set_option maxHeartbeats 4000000
namespace LB.K06
open PySem PySem.Spec PyProof.Rows L2 GL DL LB
open LB.K14 (Q qB qS q_w q_near q_sm qs0 qs_qb)
open LB.K08 (PenK)
open LB.K19 (putL put_mem put_len cut_hd cut_tl cat_tt)
structure X6 (xs : List Int) (t : Int) : Prop where
  l0 : 1 ≤ xs.length
  l1 : xs.length ≤ 10
  at_ : ∀ x ∈ xs, 0 ≤ x ∧ x ≤ qS
  t : 0 ≤ t ∧ t ≤ qS
theorem sum_le : ∀ {ys : List Int}, (∀ y ∈ ys, Q y) → -(qB * ys.length) ≤ ys.sum ∧ ys.sum ≤ qB * ys.length
  | [], _ => by simp
  | y :: r, h => by
    have h1 := h y List.mem_cons_self
    have h2 := sum_le fun z hz => h z (List.mem_cons_of_mem _ hz)
    rw [List.sum_cons, List.length_cons]
    have e : qB * ((r.length + 1 : Nat) : Int) = qB * (r.length : Int) + qB := by
      push_cast
      rw [Int.mul_add, Int.mul_one]
    rw [e]
    unfold Q at h1
    omega
theorem sum_w {ys : List Int} (h : ∀ y ∈ ys, Q y) (hl : ys.length ≤ 12) : ys.sum.natAbs < 2 ^ 1900 := by
  have h1 := sum_le h
  have q0 : (0 : Int) ≤ qB := by unfold qB; decide
  have h2 : qB * (ys.length : Int) ≤ qB * 12 := Int.mul_le_mul_of_nonneg_left (by omega) q0
  refine Nat.lt_of_le_of_lt (show ys.sum.natAbs ≤ (qB * 12).natAbs by omega) ?_
  unfold qB
  decide
theorem pt_ints {N : Bool} {ys : List Int} (h : ∀ y ∈ ys, Q y) (hl : ys.length ≤ 12) : Pt N 3 8900 (.tuple (ys.map PyData.int)) :=
  (pt_tup (k := 0) (b := 0) (B := 8900) (fun o ho => by obtain ⟨x, hx, rfl⟩ := List.mem_map.mp ho; exact pt_int (q_w (h x hx))) (by rw [List.length_map]; omega)).mono (by decide) (Nat.le_refl _)
theorem t6_two {N : Bool} {a b : D} (h1 : Pt N 3 8900 a) (h2 : Pt N 3 8900 b) : T6 (.tuple [a, b]) :=
  t6_of ((pt_tup (k := 3) (b := 8900) (B := 20000) (fun x hx => by
    simp only [List.mem_cons, List.not_mem_nil, or_false] at hx
    rcases hx with rfl | rfl
    · exact h1
    · exact h2) (by show 2 * 8901 ≤ 20000; decide)).mono (by decide) (Nat.le_refl _))
theorem t6_ints {ys : List Int} (h : ∀ y ∈ ys, Q y) (hl : ys.length ≤ 12) {s : Int} (hs : s.natAbs < 2 ^ 1900) : T6 (.tuple [.tuple (ys.map PyData.int), .int s]) := t6_two (N := true) (pt_ints h hl) (pt_int hs)
theorem pt_put {N : Bool} {ds : List D} {a : Nat} (ha : a < ds.length) (hl : ds.length ≤ 10) (h : ∀ d ∈ ds, Pt N 1 700 d) {o : D} (ho : Pt N 1 700 o) : Pt N 3 8900 (.tuple (putL ds a o)) := by
  refine (pt_tup (k := 1) (b := 700) (B := 8900) (fun x hx => ?_) ?_).mono (by decide) (Nat.le_refl _)
  · rcases put_mem hx with rfl | z
    · exact ho
    · exact h x z
  · rw [put_len ha]
    have : ds.length * 701 ≤ 10 * 701 := Nat.mul_le_mul_right _ hl
    omega
theorem bentn_eq {cs : List Int} {n : Nat} {c : Oc} (p : PenK cs n c) (hl : cs.length ≤ 63) (hn : n ≤ 80000) {xs : List Int} {t : Int} (k : X6 xs t) {w : Int} (w0 : 0 ≤ w) (w1 : w < 8) :
    ∃ d c', F__law_bent_numbers c [.int w, .tuple (xs.map PyData.int), .int t] = some (.ok d, c') ∧ (T6 d ∧ PenK cs (n + 3) c') := by
  have l0 := k.l0
  have l1 := k.l1
  have kt := k.t
  have kx := k.at_
  have q0 := qs0
  have qx : ∀ x ∈ xs, Q x := fun x hx => q_near (by have := kx x hx; omega)
  have qt : Q t := q_near (by omega)
  obtain ⟨d, c1, e1, a, rfl, a0, a1, p1⟩ := K08.draw_eq p hl (by omega) (m := (xs.length : Int)) (by omega) (small_1900 (by omega))
  obtain ⟨a, rfl⟩ : ∃ b : Nat, a = (b : Int) := ⟨a.toNat, by omega⟩
  have ha : a < xs.length := by omega
  have ham : a < (xs.map PyData.int).length := by rw [List.length_map]; exact ha
  have ia := at_ints (ns := xs) (a := (a : Int)) (by omega) (by omega)
  have va := kx _ (rest_at (xs := xs) (a := (a : Int)) (by omega) (by omega)).2
  have el : uLen [.tuple (xs.map PyData.int)] = some (.int (xs.length : Int)) := by
    show some (PyData.int ((xs.map PyData.int).length : Int)) = _
    rw [List.length_map]
  have eo : oList [.tuple (xs.map PyData.int)] = some (xs.map PyData.int) := rfl
  have et : ∀ zs : List Int, oTup [.list (zs.map PyData.int)] = some (.tuple (zs.map PyData.int)) := fun _ => rfl
  have put : ∀ v : Int, DL.putAt (.int (a : Int)) (.int v) (xs.map PyData.int) = some ((xs.set a v).map PyData.int) := fun v => by
    rw [putAt_int (by omega) (by rw [List.length_map]; omega), List.map_set, Int.toNat_natCast]
  have qset : ∀ {v : Int}, Q v → ∀ y ∈ xs.set a v, Q y := fun {v} hv y hy => by
    rcases List.mem_or_eq_of_mem_set hy with z | z
    · exact qx y z
    · rw [z]; exact hv
  have lset : ∀ v : Int, (xs.set a v).length ≤ 12 := fun v => by rw [List.length_set]; omega
  refine runO_of rfl ?_
  show WS B__law_bent_numbers [.ow false c, .da (.int w), .da (.tuple (xs.map PyData.int)), .da (.int t), .un, .un, .un, .un] _
  unfold B__law_bent_numbers
  simp only [LB.dnS, DL.ol, DL.ow, DL.oT, DL.oI, LB.bkF, Nat.reduceAdd, Nat.reduceEqDiff, reduceIte, ol, ow, oT, oI, bkF, el]
  refine ⟨_, _, e1, ?_⟩
  (rw [then_nx]; simp only [LB.dnS, DL.ol, DL.ow, DL.oT, DL.oI, LB.bkF, Nat.reduceAdd, Nat.reduceEqDiff, reduceIte, ol, ow, oT, oI, bkF, eo])
  have hw : w = 0 ∨ w = 1 ∨ w = 2 ∨ w = 3 ∨ w = 4 ∨ w = 5 ∨ w = 6 ∨ w = 7 := by omega
  rcases hw with rfl | rfl | rfl | rfl | rfl | rfl | rfl | rfl
  · have f0 : decide ((0 : Int) = 0) = true := by decide
    have f1 : decide ((0 : Int) = 1) = false := by decide
    have f2 : decide ((0 : Int) = 2) = false := by decide
    have f3 : decide ((0 : Int) = 3) = false := by decide
    have f4 : decide ((0 : Int) = 4) = false := by decide
    have f5 : decide ((0 : Int) = 5) = false := by decide
    have f6 : decide ((0 : Int) = 6) = false := by decide
    have f7 : decide ((0 : Int) = 7) = false := by decide
    have hcat : ∀ d : D, uAdd (.tuple ((xs.map PyData.int).take a)) (.tuple [d]) = some (.tuple ((xs.map PyData.int).take a ++ [d])) := fun d => cat_tt _ _ (by simp; omega)
    have hcat2 : ∀ d : D, uAdd (.tuple ((xs.map PyData.int).take a ++ [d])) (.tuple ((xs.map PyData.int).drop (a + 1))) = some (.tuple (putL (xs.map PyData.int) a d)) := fun d => by
      rw [cat_tt _ _ (by simp; omega)]
      unfold putL
      rw [List.append_assoc]
      rfl
    obtain ⟨o, c2, e2, ho, p2⟩ := odd_eq p1 hl (by omega) (x := atR xs (a : Int)) (q_near (by omega))
    (rw [then_nx]; simp only [LB.dnS, DL.ol, DL.ow, DL.oT, DL.oI, LB.bkF, Nat.reduceAdd, Nat.reduceEqDiff, reduceIte, ol, ow, oT, oI, bkF, f0, sl_t, cut_hd _ ham, ix_t ia])
    refine ⟨_, _, e2, ?_⟩
    simp only [LB.dnS, DL.ol, DL.ow, DL.oT, DL.oI, LB.bkF, Nat.reduceAdd, Nat.reduceEqDiff, reduceIte, ol, ow, oT, oI, bkF, hcat, add_int, sl_t, cut_tl _ ham, hcat2]
    obtain ⟨N, ho⟩ := ho
    refine ⟨_, rfl, t6_two (pt_put ham (by rw [List.length_map]; exact l1) (fun d hd => by obtain ⟨x, hx, rfl⟩ := List.mem_map.mp hd; exact pt_int (q_w (qx x hx))) ho) (pt_int (q_w qt)), p2.mono (by omega)⟩
  · have f0 : decide ((1 : Int) = 0) = false := by decide
    have f1 : decide ((1 : Int) = 1) = true := by decide
    have f2 : decide ((1 : Int) = 2) = false := by decide
    have f3 : decide ((1 : Int) = 3) = false := by decide
    have f4 : decide ((1 : Int) = 4) = false := by decide
    have f5 : decide ((1 : Int) = 5) = false := by decide
    have f6 : decide ((1 : Int) = 6) = false := by decide
    have f7 : decide ((1 : Int) = 7) = false := by decide
    obtain ⟨d, c2, e2, y, rfl, y0, y1, p2⟩ := K08.draw_eq p1 hl (by omega) (m := 3) (by decide) (by decide)
    have qv : Q (0 - 1 - y) := q_sm (by omega)
    (rw [then_nx]; simp only [LB.dnS, DL.ol, DL.ow, DL.oT, DL.oI, LB.bkF, Nat.reduceAdd, Nat.reduceEqDiff, reduceIte, ol, ow, oT, oI, bkF, f0])
    (rw [then_nx]; simp only [LB.dnS, DL.ol, DL.ow, DL.oT, DL.oI, LB.bkF, Nat.reduceAdd, Nat.reduceEqDiff, reduceIte, ol, ow, oT, oI, bkF, f1, sub_int])
    refine ⟨_, _, e2, ?_⟩
    simp only [LB.dnS, DL.ol, DL.ow, DL.oT, DL.oI, LB.bkF, Nat.reduceAdd, Nat.reduceEqDiff, reduceIte, ol, ow, oT, oI, bkF, sub_int, put]
    (rw [then_nx]; simp only [LB.dnS, DL.ol, DL.ow, DL.oT, DL.oI, LB.bkF, Nat.reduceAdd, Nat.reduceEqDiff, reduceIte, ol, ow, oT, oI, bkF, f2, f3])
    (rw [then_nx]; simp only [LB.dnS, DL.ol, DL.ow, DL.oT, DL.oI, LB.bkF, Nat.reduceAdd, Nat.reduceEqDiff, reduceIte, ol, ow, oT, oI, bkF, f4])
    (rw [then_nx]; simp only [LB.dnS, DL.ol, DL.ow, DL.oT, DL.oI, LB.bkF, Nat.reduceAdd, Nat.reduceEqDiff, reduceIte, ol, ow, oT, oI, bkF, f5])
    (rw [then_nx]; simp only [LB.dnS, DL.ol, DL.ow, DL.oT, DL.oI, LB.bkF, Nat.reduceAdd, Nat.reduceEqDiff, reduceIte, ol, ow, oT, oI, bkF, f6])
    (rw [then_nx]; simp only [LB.dnS, DL.ol, DL.ow, DL.oT, DL.oI, LB.bkF, Nat.reduceAdd, Nat.reduceEqDiff, reduceIte, ol, ow, oT, oI, bkF, f7])
    (rw [then_nx]; simp only [LB.dnS, DL.ol, DL.ow, DL.oT, DL.oI, LB.bkF, Nat.reduceAdd, Nat.reduceEqDiff, reduceIte, ol, ow, oT, oI, bkF, f2])
    (rw [then_nx]; simp only [LB.dnS, DL.ol, DL.ow, DL.oT, DL.oI, LB.bkF, Nat.reduceAdd, Nat.reduceEqDiff, reduceIte, ol, ow, oT, oI, bkF, et, sum_l])
    exact ⟨_, rfl, t6_ints (qset qv) (lset _) (sum_w (qset qv) (lset _)), p2.mono (by omega)⟩
  · have f0 : decide ((2 : Int) = 0) = false := by decide
    have f1 : decide ((2 : Int) = 1) = false := by decide
    have f2 : decide ((2 : Int) = 2) = true := by decide
    have f3 : decide ((2 : Int) = 3) = false := by decide
    have f4 : decide ((2 : Int) = 4) = false := by decide
    have f5 : decide ((2 : Int) = 5) = false := by decide
    have f6 : decide ((2 : Int) = 6) = false := by decide
    have f7 : decide ((2 : Int) = 7) = false := by decide
    obtain ⟨d, c2, e2, y, rfl, y0, y1, p2⟩ := K08.draw_eq p1 hl (by omega) (m := 2) (by decide) (by decide)
    have qv : Q (atR xs (a : Int) + 1 + y) := q_near (by omega)
    (rw [then_nx]; simp only [LB.dnS, DL.ol, DL.ow, DL.oT, DL.oI, LB.bkF, Nat.reduceAdd, Nat.reduceEqDiff, reduceIte, ol, ow, oT, oI, bkF, f0])
    (rw [then_nx]; simp only [LB.dnS, DL.ol, DL.ow, DL.oT, DL.oI, LB.bkF, Nat.reduceAdd, Nat.reduceEqDiff, reduceIte, ol, ow, oT, oI, bkF, f1])
    (rw [then_nx]; simp only [LB.dnS, DL.ol, DL.ow, DL.oT, DL.oI, LB.bkF, Nat.reduceAdd, Nat.reduceEqDiff, reduceIte, ol, ow, oT, oI, bkF, f2, f3, ia, add_int])
    refine ⟨_, _, e2, ?_⟩
    simp only [LB.dnS, DL.ol, DL.ow, DL.oT, DL.oI, LB.bkF, Nat.reduceAdd, Nat.reduceEqDiff, reduceIte, ol, ow, oT, oI, bkF, add_int, put]
    (rw [then_nx]; simp only [LB.dnS, DL.ol, DL.ow, DL.oT, DL.oI, LB.bkF, Nat.reduceAdd, Nat.reduceEqDiff, reduceIte, ol, ow, oT, oI, bkF, f4])
    (rw [then_nx]; simp only [LB.dnS, DL.ol, DL.ow, DL.oT, DL.oI, LB.bkF, Nat.reduceAdd, Nat.reduceEqDiff, reduceIte, ol, ow, oT, oI, bkF, f5])
    (rw [then_nx]; simp only [LB.dnS, DL.ol, DL.ow, DL.oT, DL.oI, LB.bkF, Nat.reduceAdd, Nat.reduceEqDiff, reduceIte, ol, ow, oT, oI, bkF, f6])
    (rw [then_nx]; simp only [LB.dnS, DL.ol, DL.ow, DL.oT, DL.oI, LB.bkF, Nat.reduceAdd, Nat.reduceEqDiff, reduceIte, ol, ow, oT, oI, bkF, f7])
    (rw [then_nx]; simp only [LB.dnS, DL.ol, DL.ow, DL.oT, DL.oI, LB.bkF, Nat.reduceAdd, Nat.reduceEqDiff, reduceIte, ol, ow, oT, oI, bkF, f2, et])
    exact ⟨_, rfl, t6_ints (qset qv) (lset _) (q_w qt), p2.mono (by omega)⟩
  · have f0 : decide ((3 : Int) = 0) = false := by decide
    have f1 : decide ((3 : Int) = 1) = false := by decide
    have f2 : decide ((3 : Int) = 2) = false := by decide
    have f3 : decide ((3 : Int) = 3) = true := by decide
    have f4 : decide ((3 : Int) = 4) = false := by decide
    have f5 : decide ((3 : Int) = 5) = false := by decide
    have f6 : decide ((3 : Int) = 6) = false := by decide
    have f7 : decide ((3 : Int) = 7) = false := by decide
    obtain ⟨d, c2, e2, y, rfl, y0, y1, p2⟩ := K08.draw_eq p1 hl (by omega) (m := 2) (by decide) (by decide)
    have qv : Q (atR xs (a : Int) + 1 + y) := q_near (by omega)
    (rw [then_nx]; simp only [LB.dnS, DL.ol, DL.ow, DL.oT, DL.oI, LB.bkF, Nat.reduceAdd, Nat.reduceEqDiff, reduceIte, ol, ow, oT, oI, bkF, f0])
    (rw [then_nx]; simp only [LB.dnS, DL.ol, DL.ow, DL.oT, DL.oI, LB.bkF, Nat.reduceAdd, Nat.reduceEqDiff, reduceIte, ol, ow, oT, oI, bkF, f1])
    (rw [then_nx]; simp only [LB.dnS, DL.ol, DL.ow, DL.oT, DL.oI, LB.bkF, Nat.reduceAdd, Nat.reduceEqDiff, reduceIte, ol, ow, oT, oI, bkF, f2, f3, ia, add_int])
    refine ⟨_, _, e2, ?_⟩
    simp only [LB.dnS, DL.ol, DL.ow, DL.oT, DL.oI, LB.bkF, Nat.reduceAdd, Nat.reduceEqDiff, reduceIte, ol, ow, oT, oI, bkF, add_int, put]
    (rw [then_nx]; simp only [LB.dnS, DL.ol, DL.ow, DL.oT, DL.oI, LB.bkF, Nat.reduceAdd, Nat.reduceEqDiff, reduceIte, ol, ow, oT, oI, bkF, f4])
    (rw [then_nx]; simp only [LB.dnS, DL.ol, DL.ow, DL.oT, DL.oI, LB.bkF, Nat.reduceAdd, Nat.reduceEqDiff, reduceIte, ol, ow, oT, oI, bkF, f5])
    (rw [then_nx]; simp only [LB.dnS, DL.ol, DL.ow, DL.oT, DL.oI, LB.bkF, Nat.reduceAdd, Nat.reduceEqDiff, reduceIte, ol, ow, oT, oI, bkF, f6])
    (rw [then_nx]; simp only [LB.dnS, DL.ol, DL.ow, DL.oT, DL.oI, LB.bkF, Nat.reduceAdd, Nat.reduceEqDiff, reduceIte, ol, ow, oT, oI, bkF, f7])
    (rw [then_nx]; simp only [LB.dnS, DL.ol, DL.ow, DL.oT, DL.oI, LB.bkF, Nat.reduceAdd, Nat.reduceEqDiff, reduceIte, ol, ow, oT, oI, bkF, f2])
    (rw [then_nx]; simp only [LB.dnS, DL.ol, DL.ow, DL.oT, DL.oI, LB.bkF, Nat.reduceAdd, Nat.reduceEqDiff, reduceIte, ol, ow, oT, oI, bkF, et, sum_l])
    exact ⟨_, rfl, t6_ints (qset qv) (lset _) (sum_w (qset qv) (lset _)), p2.mono (by omega)⟩
  · have f0 : decide ((4 : Int) = 0) = false := by decide
    have f1 : decide ((4 : Int) = 1) = false := by decide
    have f2 : decide ((4 : Int) = 2) = false := by decide
    have f3 : decide ((4 : Int) = 3) = false := by decide
    have f4 : decide ((4 : Int) = 4) = true := by decide
    have f5 : decide ((4 : Int) = 5) = false := by decide
    have f6 : decide ((4 : Int) = 6) = false := by decide
    have f7 : decide ((4 : Int) = 7) = false := by decide
    obtain ⟨d, c2, e2, y, rfl, y0, y1, p2⟩ := K08.draw_eq p1 hl (by omega) (m := 5) (by decide) (by decide)
    have qm : ∀ z ∈ xs.map fun x => (2 + y) * x, Q z := fun z hz => by
      obtain ⟨x, hx, rfl⟩ := List.mem_map.mp hz
      exact LB.K14.q_mul (by omega) (kx x hx)
    have ml : ∀ x ∈ xs, CMulW (2 + y) x := fun x hx => wide_mul (small_1900 (by omega)) (q_w (qx x hx))
    (rw [then_nx]; simp only [LB.dnS, DL.ol, DL.ow, DL.oT, DL.oI, LB.bkF, Nat.reduceAdd, Nat.reduceEqDiff, reduceIte, ol, ow, oT, oI, bkF, f0])
    (rw [then_nx]; simp only [LB.dnS, DL.ol, DL.ow, DL.oT, DL.oI, LB.bkF, Nat.reduceAdd, Nat.reduceEqDiff, reduceIte, ol, ow, oT, oI, bkF, f1])
    (rw [then_nx]; simp only [LB.dnS, DL.ol, DL.ow, DL.oT, DL.oI, LB.bkF, Nat.reduceAdd, Nat.reduceEqDiff, reduceIte, ol, ow, oT, oI, bkF, f2, f3])
    (rw [then_nx]; simp only [LB.dnS, DL.ol, DL.ow, DL.oT, DL.oI, LB.bkF, Nat.reduceAdd, Nat.reduceEqDiff, reduceIte, ol, ow, oT, oI, bkF, f4])
    refine ⟨_, _, e2, ?_⟩
    simp only [LB.dnS, DL.ol, DL.ow, DL.oT, DL.oI, LB.bkF, Nat.reduceAdd, Nat.reduceEqDiff, reduceIte, ol, ow, oT, oI, bkF, add_int]
    (rw [then_nx]; simp only [LB.dnS, DL.ol, DL.ow, DL.oT, DL.oI, LB.bkF, Nat.reduceAdd, Nat.reduceEqDiff, reduceIte, ol, ow, oT, oI, bkF])
    refine ⟨rfl, few10 (by omega), WL_map (K08.byD (2 + y)) (fun d hd => ?_) ?_⟩
    · obtain ⟨x, hx, rfl⟩ := List.mem_map.mp hd
      simp only [LB.dlS, DL.ol, DL.ow, DL.oT, DL.oI, LB.bkF, Nat.reduceAdd, Nat.reduceEqDiff, reduceIte, ol, ow, oT, oI, bkF, mul_int (ml x hx), K08.byD]
    rw [K08.by_map]
    refine ⟨flat_ints _, ?_⟩
    (rw [then_nx]; simp only [LB.dnS, DL.ol, DL.ow, DL.oT, DL.oI, LB.bkF, Nat.reduceAdd, Nat.reduceEqDiff, reduceIte, ol, ow, oT, oI, bkF])
    (rw [then_nx]; simp only [LB.dnS, DL.ol, DL.ow, DL.oT, DL.oI, LB.bkF, Nat.reduceAdd, Nat.reduceEqDiff, reduceIte, ol, ow, oT, oI, bkF, f5])
    (rw [then_nx]; simp only [LB.dnS, DL.ol, DL.ow, DL.oT, DL.oI, LB.bkF, Nat.reduceAdd, Nat.reduceEqDiff, reduceIte, ol, ow, oT, oI, bkF, f6])
    (rw [then_nx]; simp only [LB.dnS, DL.ol, DL.ow, DL.oT, DL.oI, LB.bkF, Nat.reduceAdd, Nat.reduceEqDiff, reduceIte, ol, ow, oT, oI, bkF, f7])
    (rw [then_nx]; simp only [LB.dnS, DL.ol, DL.ow, DL.oT, DL.oI, LB.bkF, Nat.reduceAdd, Nat.reduceEqDiff, reduceIte, ol, ow, oT, oI, bkF, f2])
    (rw [then_nx]; simp only [LB.dnS, DL.ol, DL.ow, DL.oT, DL.oI, LB.bkF, Nat.reduceAdd, Nat.reduceEqDiff, reduceIte, ol, ow, oT, oI, bkF, et, sum_l])
    exact ⟨_, rfl, t6_ints qm (by rw [List.length_map]; omega) (sum_w qm (by rw [List.length_map]; omega)), p2.mono (by omega)⟩
  · have f0 : decide ((5 : Int) = 0) = false := by decide
    have f1 : decide ((5 : Int) = 1) = false := by decide
    have f2 : decide ((5 : Int) = 2) = false := by decide
    have f3 : decide ((5 : Int) = 3) = false := by decide
    have f4 : decide ((5 : Int) = 4) = false := by decide
    have f5 : decide ((5 : Int) = 5) = true := by decide
    have f6 : decide ((5 : Int) = 6) = false := by decide
    have f7 : decide ((5 : Int) = 7) = false := by decide
    (rw [then_nx]; simp only [LB.dnS, DL.ol, DL.ow, DL.oT, DL.oI, LB.bkF, Nat.reduceAdd, Nat.reduceEqDiff, reduceIte, ol, ow, oT, oI, bkF, f0])
    (rw [then_nx]; simp only [LB.dnS, DL.ol, DL.ow, DL.oT, DL.oI, LB.bkF, Nat.reduceAdd, Nat.reduceEqDiff, reduceIte, ol, ow, oT, oI, bkF, f1])
    (rw [then_nx]; simp only [LB.dnS, DL.ol, DL.ow, DL.oT, DL.oI, LB.bkF, Nat.reduceAdd, Nat.reduceEqDiff, reduceIte, ol, ow, oT, oI, bkF, f2, f3])
    (rw [then_nx]; simp only [LB.dnS, DL.ol, DL.ow, DL.oT, DL.oI, LB.bkF, Nat.reduceAdd, Nat.reduceEqDiff, reduceIte, ol, ow, oT, oI, bkF, f4])
    (rw [then_nx]; simp only [LB.dnS, DL.ol, DL.ow, DL.oT, DL.oI, LB.bkF, Nat.reduceAdd, Nat.reduceEqDiff, reduceIte, ol, ow, oT, oI, bkF, f5])
    refine ⟨by omega, by omega, by rw [sizeLine_eq]; omega, ?_⟩
    rw [Int.toNat_natCast, rep_int]
    (rw [then_nx]; simp only [LB.dnS, DL.ol, DL.ow, DL.oT, DL.oI, LB.bkF, Nat.reduceAdd, Nat.reduceEqDiff, reduceIte, ol, ow, oT, oI, bkF, f6])
    (rw [then_nx]; simp only [LB.dnS, DL.ol, DL.ow, DL.oT, DL.oI, LB.bkF, Nat.reduceAdd, Nat.reduceEqDiff, reduceIte, ol, ow, oT, oI, bkF, f7])
    (rw [then_nx]; simp only [LB.dnS, DL.ol, DL.ow, DL.oT, DL.oI, LB.bkF, Nat.reduceAdd, Nat.reduceEqDiff, reduceIte, ol, ow, oT, oI, bkF, f2])
    (rw [then_nx]; simp only [LB.dnS, DL.ol, DL.ow, DL.oT, DL.oI, LB.bkF, Nat.reduceAdd, Nat.reduceEqDiff, reduceIte, ol, ow, oT, oI, bkF, et, sum_l])
    have qz : ∀ z ∈ List.replicate xs.length (0 : Int), Q z := fun z hz => by rw [(List.mem_replicate.mp hz).2]; exact q_sm (by omega)
    have lz : (List.replicate xs.length (0 : Int)).length ≤ 12 := by rw [List.length_replicate]; omega
    exact ⟨_, rfl, t6_ints qz lz (sum_w qz lz), p1.mono (by omega)⟩
  · have f0 : decide ((6 : Int) = 0) = false := by decide
    have f1 : decide ((6 : Int) = 1) = false := by decide
    have f2 : decide ((6 : Int) = 2) = false := by decide
    have f3 : decide ((6 : Int) = 3) = false := by decide
    have f4 : decide ((6 : Int) = 4) = false := by decide
    have f5 : decide ((6 : Int) = 5) = false := by decide
    have f6 : decide ((6 : Int) = 6) = true := by decide
    have f7 : decide ((6 : Int) = 7) = false := by decide
    obtain ⟨d, c2, e2, y, rfl, y0, y1, p2⟩ := K08.draw_eq p1 hl (by omega) (m := 3) (by decide) (by decide)
    (rw [then_nx]; simp only [LB.dnS, DL.ol, DL.ow, DL.oT, DL.oI, LB.bkF, Nat.reduceAdd, Nat.reduceEqDiff, reduceIte, ol, ow, oT, oI, bkF, f0])
    (rw [then_nx]; simp only [LB.dnS, DL.ol, DL.ow, DL.oT, DL.oI, LB.bkF, Nat.reduceAdd, Nat.reduceEqDiff, reduceIte, ol, ow, oT, oI, bkF, f1])
    (rw [then_nx]; simp only [LB.dnS, DL.ol, DL.ow, DL.oT, DL.oI, LB.bkF, Nat.reduceAdd, Nat.reduceEqDiff, reduceIte, ol, ow, oT, oI, bkF, f2, f3])
    (rw [then_nx]; simp only [LB.dnS, DL.ol, DL.ow, DL.oT, DL.oI, LB.bkF, Nat.reduceAdd, Nat.reduceEqDiff, reduceIte, ol, ow, oT, oI, bkF, f4])
    (rw [then_nx]; simp only [LB.dnS, DL.ol, DL.ow, DL.oT, DL.oI, LB.bkF, Nat.reduceAdd, Nat.reduceEqDiff, reduceIte, ol, ow, oT, oI, bkF, f5])
    (rw [then_nx]; simp only [LB.dnS, DL.ol, DL.ow, DL.oT, DL.oI, LB.bkF, Nat.reduceAdd, Nat.reduceEqDiff, reduceIte, ol, ow, oT, oI, bkF, f6])
    refine LB.K23.WS_ins ?_
    obtain ⟨v, ev, hv⟩ : ∃ v : Int, uIx (.list [.int 0, .int 0, .int 1]) (.int y) = some (.int v) ∧ 0 ≤ v ∧ v ≤ 1 := by
      have : y = 0 ∨ y = 1 ∨ y = 2 := by omega
      rcases this with rfl | rfl | rfl
      · exact ⟨0, rfl, by decide, by decide⟩
      · exact ⟨0, rfl, by decide, by decide⟩
      · exact ⟨1, rfl, by decide, by decide⟩
    have ei : insL (xs.map PyData.int) (.int (a : Int)) (.int v) = some ((xs.take a ++ [v] ++ xs.drop a).map PyData.int) := by
      unfold insL
      dsimp only
      rw [if_pos ⟨by omega, by omega, Nat.lt_of_le_of_lt (show (xs.map PyData.int).length ≤ 10 by rw [List.length_map]; exact l1) (by decide)⟩]
      rw [List.map_append, List.map_append, List.map_take, List.map_drop, Int.toNat_natCast]
      rfl
    refine ⟨rfl, ?_⟩
    simp only [LB.dnS, DL.ol, DL.ow, DL.oT, DL.oI, LB.bkF, Nat.reduceAdd, Nat.reduceEqDiff, reduceIte, ol, ow, oT, oI, bkF]
    refine ⟨_, _, e2, ?_⟩
    simp only [LB.dnS, DL.ol, DL.ow, DL.oT, DL.oI, LB.bkF, Nat.reduceAdd, Nat.reduceEqDiff, reduceIte, ol, ow, oT, oI, bkF, ev]
    refine ⟨_, ei, ?_⟩
    have qi : ∀ z ∈ xs.take a ++ [v] ++ xs.drop a, Q z := fun z hz => by
      rcases List.mem_append.mp hz with hz | hz
      · rcases List.mem_append.mp hz with hz | hz
        · exact qx z (List.mem_of_mem_take hz)
        · rw [List.mem_singleton.mp hz]; exact q_sm (by omega)
      · exact qx z (List.mem_of_mem_drop hz)
    have li : (xs.take a ++ [v] ++ xs.drop a).length ≤ 12 := by simp; omega
    (rw [then_nx]; simp only [LB.dnS, DL.ol, DL.ow, DL.oT, DL.oI, LB.bkF, Nat.reduceAdd, Nat.reduceEqDiff, reduceIte, ol, ow, oT, oI, bkF, f7])
    (rw [then_nx]; simp only [LB.dnS, DL.ol, DL.ow, DL.oT, DL.oI, LB.bkF, Nat.reduceAdd, Nat.reduceEqDiff, reduceIte, ol, ow, oT, oI, bkF, f2])
    (rw [then_nx]; simp only [LB.dnS, DL.ol, DL.ow, DL.oT, DL.oI, LB.bkF, Nat.reduceAdd, Nat.reduceEqDiff, reduceIte, ol, ow, oT, oI, bkF, et, sum_l])
    exact ⟨_, rfl, t6_ints qi li (sum_w qi li), p2.mono (by omega)⟩
  · have f0 : decide ((7 : Int) = 0) = false := by decide
    have f1 : decide ((7 : Int) = 1) = false := by decide
    have f2 : decide ((7 : Int) = 2) = false := by decide
    have f3 : decide ((7 : Int) = 3) = false := by decide
    have f4 : decide ((7 : Int) = 4) = false := by decide
    have f5 : decide ((7 : Int) = 5) = false := by decide
    have f6 : decide ((7 : Int) = 6) = false := by decide
    have f7 : decide ((7 : Int) = 7) = true := by decide
    (rw [then_nx]; simp only [LB.dnS, DL.ol, DL.ow, DL.oT, DL.oI, LB.bkF, Nat.reduceAdd, Nat.reduceEqDiff, reduceIte, ol, ow, oT, oI, bkF, f0])
    (rw [then_nx]; simp only [LB.dnS, DL.ol, DL.ow, DL.oT, DL.oI, LB.bkF, Nat.reduceAdd, Nat.reduceEqDiff, reduceIte, ol, ow, oT, oI, bkF, f1])
    (rw [then_nx]; simp only [LB.dnS, DL.ol, DL.ow, DL.oT, DL.oI, LB.bkF, Nat.reduceAdd, Nat.reduceEqDiff, reduceIte, ol, ow, oT, oI, bkF, f2, f3])
    (rw [then_nx]; simp only [LB.dnS, DL.ol, DL.ow, DL.oT, DL.oI, LB.bkF, Nat.reduceAdd, Nat.reduceEqDiff, reduceIte, ol, ow, oT, oI, bkF, f4])
    (rw [then_nx]; simp only [LB.dnS, DL.ol, DL.ow, DL.oT, DL.oI, LB.bkF, Nat.reduceAdd, Nat.reduceEqDiff, reduceIte, ol, ow, oT, oI, bkF, f5])
    (rw [then_nx]; simp only [LB.dnS, DL.ol, DL.ow, DL.oT, DL.oI, LB.bkF, Nat.reduceAdd, Nat.reduceEqDiff, reduceIte, ol, ow, oT, oI, bkF, f6])
    (rw [then_nx]; simp only [LB.dnS, DL.ol, DL.ow, DL.oT, DL.oI, LB.bkF, Nat.reduceAdd, Nat.reduceEqDiff, reduceIte, ol, ow, oT, oI, bkF, f7])
    rw [WS_drop, LB.K09.W_popo]
    have ep : popAt (xs.map PyData.int) (.int (a : Int)) = some (.int (atR xs (a : Int)), (xs.eraseIdx a).map PyData.int) := by
      unfold popAt
      dsimp only
      rw [if_pos ⟨by omega, by omega⟩, Int.toNat_natCast, List.getElem?_map, show xs[a]? = some (atR xs (a : Int)) from (rest_at (xs := xs) (a := (a : Int)) (by omega) (by omega)).1]
      show some (PyData.int (atR xs (a : Int)), (xs.map PyData.int).eraseIdx a) = _
      rw [K09.erase_map]
    refine ⟨rfl, ?_⟩
    simp only [LB.dnS, DL.ol, DL.ow, DL.oT, DL.oI, LB.bkF, Nat.reduceAdd, Nat.reduceEqDiff, reduceIte, ol, ow, oT, oI, bkF]
    refine ⟨_, rfl, _, ep, ?_⟩
    have qi : ∀ z ∈ xs.eraseIdx a, Q z := fun z hz => qx z (List.mem_of_mem_eraseIdx hz)
    have li : (xs.eraseIdx a).length ≤ 12 := by have := List.length_eraseIdx_le xs a; omega
    (rw [then_nx]; simp only [LB.dnS, DL.ol, DL.ow, DL.oT, DL.oI, LB.bkF, Nat.reduceAdd, Nat.reduceEqDiff, reduceIte, ol, ow, oT, oI, bkF, f2])
    (rw [then_nx]; simp only [LB.dnS, DL.ol, DL.ow, DL.oT, DL.oI, LB.bkF, Nat.reduceAdd, Nat.reduceEqDiff, reduceIte, ol, ow, oT, oI, bkF, et, sum_l])
    exact ⟨_, rfl, t6_ints qi li (sum_w qi li), p1.mono (by omega)⟩
end LB.K06
set_option Elab.async false
set_option linter.all false
set_option maxRecDepth 100000
set_option maxHeartbeats 4000000
namespace LB.K06
open PySem PySem.Spec PyProof.Rows L2 GL DL LB
open LB.K14 (Q qB qS q_w q_near q_sm qs0 qs_qb)
open LB.K08 (PenK)
open LB.K15 (spD)
open LB.K01 (NX parts)
open LB.K31 (Rv RvA Rp rp2 it_d rv_i)
theorem rv_num : ∀ (xs : List Int) (i : Int), 0 ≤ i → i + xs.length ≤ 1000 → (∀ x ∈ xs, Q x) → PyData.showableKv (numD i (xs.map PyData.int)) = true ∧ PyData.depthKv (numD i (xs.map PyData.int)) = 0 ∧ PyData.leavesShortKv 600 (numD i (xs.map PyData.int)) = true ∧ PyData.bulkKv (numD i (xs.map PyData.int)) = 2 * xs.length ∧ DL.pairsOk (numD i (xs.map PyData.int)) = true
  | [], _, _, _, _ => ⟨rfl, rfl, rfl, rfl, rfl⟩
  | x :: r, i, i0, i1, h => by
    have hl : (((x :: r).length : Nat) : Int) = (r.length : Int) + 1 := by simp
    obtain ⟨h1, h2, h3, h4, h5⟩ := rv_num r (i + 1) (by omega) (by omega) fun y hy => h y (List.mem_cons_of_mem _ hy)
    have a := rv_i (i := i) (small_1900 (by omega))
    have b := rv_i (i := x) (q_w (h x List.mem_cons_self))
    rw [List.map_cons]
    refine ⟨?_, ?_, ?_, ?_, ?_⟩
    · simp only [numD, PyData.showableKv, a.s, b.s, h1, Bool.and_self]
    · simp only [numD, PyData.depthKv, h2, PyData.depth]
      rfl
    · simp only [numD, PyData.leavesShortKv, a.z, b.z, h3, Bool.and_self]
    · simp only [numD, PyData.bulkKv, h4, PyData.bulk, List.length_cons]
      omega
    · simp only [numD, DL.pairsOk, dictOk, h5, Bool.and_self]
theorem rp_num {xs : List Int} (hl : xs.length ≤ 10) (h : ∀ x ∈ xs, Q x) : Rp (.dict (numD 0 (xs.map PyData.int))) := by
  obtain ⟨h1, h2, h3, h4, h5⟩ := rv_num xs 0 (by decide) (by omega) h
  refine ⟨⟨by simp only [PyData.showable, h1], ?_, by simp only [PyData.leavesShort, h3], ?_⟩, it_d (by simp only [dictOk, h5])⟩
  · simp only [PyData.depth, h2]
    decide
  · simp only [PyData.bulk, h4]
    omega
theorem rp_int {x : Int} (h : Q x) : Rp (.int x) := ⟨(rv_i (q_w h)).mono (by decide) (by decide), rfl⟩
theorem nx_num (xs : List Int) (i : Int) : NX (.dict (numD i (xs.map PyData.int))) := by
  refine ⟨?_, fun x hx => nomatch hx⟩
  cases xs with
  | nil => rfl
  | cons x r => rfl
theorem t6_num {xs : List Int} (hl : xs.length ≤ 10) (h : ∀ x ∈ xs, Q x) {t : Int} (ht : Q t) : T6 (.tuple [.dict (numD 0 (xs.map PyData.int)), .int t]) := by
  have n := nx_num xs 0
  refine ⟨⟨rfl, fun x hx => ?_⟩, fun x hx => ?_, ?_⟩
  · have hx : x ∈ [PyData.dict (numD 0 (xs.map PyData.int)), .int t] := hx
    simp only [List.mem_cons, List.not_mem_nil, or_false] at hx
    rcases hx with rfl | rfl
    · exact n.1
    · rfl
  · have hx : x ∈ [PyData.dict (numD 0 (xs.map PyData.int)), .int t] := hx
    simp only [List.mem_cons, List.not_mem_nil, or_false] at hx
    rcases hx with rfl | rfl
    · exact n
    · exact ⟨rfl, fun x hx => nomatch hx⟩
  · exact rp2 (rp_num hl h) (rp_int ht)
theorem keys_ints : ∀ xs : List Int, dKs (xs.map PyData.int) = some (xs.map Sum.inl) ∧ (xs.map fun x : Int => (Sum.inl x : Key)).map kD = xs.map PyData.int
  | [] => ⟨rfl, rfl⟩
  | x :: r => by
    obtain ⟨h1, h2⟩ := keys_ints r
    refine ⟨?_, ?_⟩
    · rw [List.map_cons]
      unfold dKs
      rw [h1]
      rfl
    · rw [List.map_cons, List.map_cons, h2]
      rfl
theorem t6_key {xs : List Int} (hl : xs.length ≤ 10) (h : ∀ x ∈ xs, Q x) {t : Int} (ht : Q t) : T6 (.dict [(.tuple (xs.map PyData.int), .int t)]) := by
  have r1 : Rv 1 3000 (.tuple (xs.map PyData.int)) := (Rv.tup (RvA.all (k := 0) (n := 0) fun d hd => by obtain ⟨x, hx, rfl⟩ := List.mem_map.mp hd; exact rv_i (q_w (h x hx)))).mono (by decide) (by rw [List.length_map]; omega)
  have r := Rv.one r1 ((rv_i (q_w ht)).mono (k' := 1) (n' := 0) (by decide) (by decide))
  have kb : keysB (xs.map PyData.int) = true := List.all_eq_true.mpr fun d hd => by obtain ⟨x, hx, rfl⟩ := List.mem_map.mp hd; rfl
  have dk : dictOk (.dict [(.tuple (xs.map PyData.int), .int t)]) = true := by
    simp only [dictOk, DL.pairsOk, kb, Bool.and_self]
  have hb := PyData.shown_le_bulk 600 (by decide) _ r.z
  have e : 13000000 ≤ sizeLine := by decide
  have b1 := r.b
  have b2 := r.dp
  refine ⟨⟨rfl, fun x hx => nomatch hx⟩, (fun x hx => nomatch hx), ?_⟩
  have ok : okRD (.dict [(.tuple (xs.map PyData.int), .int t)]) = true := by
    unfold okRD
    rw [dk, r.s, decide_eq_true (by omega), decide_eq_true (by omega)]
    rfl
  exact ⟨_, if_pos ok⟩
end LB.K06
set_option Elab.async false
set_option linter.all false
set_option maxRecDepth 100000
set_option maxHeartbeats 4000000
namespace LB.K06
open PySem PySem.Spec PyProof.Rows L2 GL DL LB
open LB.K14 (Q qB qS q_w q_near q_sm qs0 qs_qb)
open LB.K08 (PenK)
open LB.K15 (spD)
theorem at8 (d0 d1 d2 d3 d4 d5 d6 d7 : D) {r : Int} (r0 : 0 ≤ r) (r1 : r < 8) : ∃ d ∈ [d0, d1, d2, d3, d4, d5, d6, d7], uIx (.list [d0, d1, d2, d3, d4, d5, d6, d7]) (.int r) = some d := by
  obtain ⟨k, rfl⟩ : ∃ k : Nat, r = (k : Int) := ⟨r.toNat, by omega⟩
  have hk : k < [d0, d1, d2, d3, d4, d5, d6, d7].length := by show k < 8; omega
  exact ⟨_, List.getElem_mem hk, ix_l (atI_nat (List.getElem?_eq_getElem hk))⟩
theorem bent_eq {cs : List Int} {n : Nat} {c : Oc} (p : PenK cs n c) (hl : cs.length ≤ 63) (hn : n ≤ 70000) {xs : List Int} (k : X6 xs xs.sum) :
    ∃ d c', F__law_bent c [spD xs] = some (.ok d, c') ∧ (T6 d ∧ PenK cs (n + 5) c') := by
  have l0 := k.l0
  have l1 := k.l1
  have kt := k.t
  have kx := k.at_
  have q0 := qs0
  have qx : ∀ x ∈ xs, Q x := fun x hx => q_near (by have := kx x hx; omega)
  have qt : Q xs.sum := q_near (by omega)
  obtain ⟨d, c1, e1, w, rfl, w0, w1, p1⟩ := K08.draw_eq p hl (by omega) (m := 16) (by decide) (by decide)
  refine runO_of rfl ?_
  show WS B__law_bent [.ow false c, .da (spD xs), .un, .un, .un, .un, .un] _
  unfold B__law_bent
  simp only [LB.dnS, DL.ol, DL.ow, DL.oT, DL.oI, LB.bkF, Nat.reduceAdd, Nat.reduceEqDiff, reduceIte, ol, ow, oT, oI, bkF]
  refine ⟨_, _, e1, ?_⟩
  unfold spD
  (rw [then_nx]; simp only [LB.dnS, DL.ol, DL.ow, DL.oT, DL.oI, LB.bkF, Nat.reduceAdd, Nat.reduceEqDiff, reduceIte, ol, ow, oT, oI, bkF])
  by_cases h8 : w < 8
  · obtain ⟨d, c2, e2, t6, p2⟩ := bentn_eq p1 hl (by omega) k w0 h8
    (rw [then_nx]; simp only [LB.dnS, DL.ol, DL.ow, DL.oT, DL.oI, LB.bkF, Nat.reduceAdd, Nat.reduceEqDiff, reduceIte, ol, ow, oT, oI, bkF, decide_eq_true h8])
    refine ⟨_, _, e2, ?_⟩
    exact ⟨_, rfl, t6, p2.mono (by omega)⟩
  obtain ⟨d, c2, e2, s, rfl, s0, s1, p2⟩ := K08.draw_eq p1 hl (by omega) (m := 8) (by decide) (by decide)
  (rw [then_nx]; simp only [LB.dnS, DL.ol, DL.ow, DL.oT, DL.oI, LB.bkF, Nat.reduceAdd, Nat.reduceEqDiff, reduceIte, ol, ow, oT, oI, bkF, decide_eq_false h8])
  (rw [then_nx]; simp only [LB.dnS, DL.ol, DL.ow, DL.oT, DL.oI, LB.bkF, Nat.reduceAdd, Nat.reduceEqDiff, reduceIte, ol, ow, oT, oI, bkF])
  refine ⟨_, _, e2, ?_⟩
  by_cases h10 : w < 10
  · have m2 := Int.emod_nonneg s (show (2 : Int) ≠ 0 by decide)
    have m3 := Int.emod_lt_of_pos s (show (0 : Int) < 2 by decide)
    (rw [then_nx]; simp only [LB.dnS, DL.ol, DL.ow, DL.oT, DL.oI, LB.bkF, Nat.reduceAdd, Nat.reduceEqDiff, reduceIte, ol, ow, oT, oI, bkF, decide_eq_true h10, add_int, mod_int (show (0 : Int) < 2 by decide), mul_int (small_mul (i := 2) (j := s % 2) (by decide) (by omega)), sub_int])
    exact ⟨_, rfl, t6_ints qx (by omega) (q_w (q_near (by omega))), p2.mono (by omega)⟩
  (rw [then_nx]; simp only [LB.dnS, DL.ol, DL.ow, DL.oT, DL.oI, LB.bkF, Nat.reduceAdd, Nat.reduceEqDiff, reduceIte, ol, ow, oT, oI, bkF, decide_eq_false h10])
  by_cases h12 : w < 12
  · obtain ⟨o, c3, e3, ⟨N, ho⟩, p3⟩ := odd_eq p2 hl (by omega) qt
    (rw [then_nx]; simp only [LB.dnS, DL.ol, DL.ow, DL.oT, DL.oI, LB.bkF, Nat.reduceAdd, Nat.reduceEqDiff, reduceIte, ol, ow, oT, oI, bkF, decide_eq_true h12])
    refine ⟨_, _, e3, ?_⟩
    exact ⟨_, rfl, t6_two (pt_ints qx (by omega)) (ho.mono (by decide) (by decide)), p3.mono (by omega)⟩
  (rw [then_nx]; simp only [LB.dnS, DL.ol, DL.ow, DL.oT, DL.oI, LB.bkF, Nat.reduceAdd, Nat.reduceEqDiff, reduceIte, ol, ow, oT, oI, bkF, decide_eq_false h12])
  have eo : oList [.tuple (xs.map PyData.int)] = some (xs.map PyData.int) := rfl
  have eo2 : oList [.tuple [.tuple (xs.map PyData.int), .int xs.sum]] = some [.tuple (xs.map PyData.int), .int xs.sum] := rfl
  (rw [then_nx]; simp only [LB.dnS, DL.ol, DL.ow, DL.oT, DL.oI, LB.bkF, Nat.reduceAdd, Nat.reduceEqDiff, reduceIte, ol, ow, oT, oI, bkF, eo, eo2])
  have en : oDEn [.tuple (xs.map PyData.int)] = some (.dict (numD 0 (xs.map PyData.int))) := rfl
  obtain ⟨k1, k2⟩ := keys_ints xs
  have tk : tKs (.tuple (xs.map PyData.int)) = some (xs.map Sum.inl) := k1
  (rw [then_nx]; simp only [LB.dnS, DL.ol, DL.ow, DL.oT, DL.oI, LB.bkF, Nat.reduceAdd, Nat.reduceEqDiff, reduceIte, ol, ow, oT, oI, bkF, en, W_dspT, W_kyD, tk, k2])
  refine ⟨_, cat_l _ _ (by simp), ?_⟩
  simp only [List.cons_append, List.nil_append]
  have px : Pt true 3 8900 (.tuple (xs.map PyData.int)) := pt_ints qx (by omega)
  have pt : Pt true 3 8900 (.int xs.sum) := pt_int (q_w qt)
  have pl : Pt true 3 8900 (.list (xs.map PyData.int)) := (pt_lst (k := 0) (b := 0) (B := 8900) (fun o ho => by obtain ⟨x, hx, rfl⟩ := List.mem_map.mp ho; exact pt_int (q_w (qx x hx))) (by rw [List.length_map]; omega)).mono (by decide) (Nat.le_refl _)
  have px0 : Pt true 1 100 (.tuple (xs.map PyData.int)) := pt_tup (k := 0) (b := 0) (B := 100) (fun o ho => by obtain ⟨x, hx, rfl⟩ := List.mem_map.mp ho; exact pt_int (q_w (qx x hx))) (by rw [List.length_map]; omega)
  have pt0 : Pt true 1 100 (.int xs.sum) := pt_int (q_w qt)
  by_cases h14 : w < 14
  · obtain ⟨d, hd, ed⟩ := at8 (.list [.tuple (xs.map PyData.int), .int xs.sum]) (.tuple [.list (xs.map PyData.int), .int xs.sum]) (.tuple [.tuple (xs.map PyData.int)]) (.tuple [.tuple (xs.map PyData.int), .int xs.sum, .int xs.sum]) (.tuple [.int xs.sum, .tuple (xs.map PyData.int)]) (.tuple (xs.map PyData.int)) (.tuple [.dict (numD 0 (xs.map PyData.int)), .int xs.sum]) (.dict [(.tuple (xs.map PyData.int), .int xs.sum)]) s0 s1
    (rw [then_nx]; simp only [LB.dnS, DL.ol, DL.ow, DL.oT, DL.oI, LB.bkF, Nat.reduceAdd, Nat.reduceEqDiff, reduceIte, ol, ow, oT, oI, bkF, decide_eq_true h14, ed])
    refine ⟨_, rfl, ?_, p2.mono (by omega)⟩
    simp only [List.mem_cons, List.not_mem_nil, or_false] at hd
    rcases hd with rfl | rfl | rfl | rfl | rfl | rfl | rfl | rfl
    · exact t6_of ((pt_lst (k := 1) (b := 100) (B := 20000) (fun x hx => by
        simp only [List.mem_cons, List.not_mem_nil, or_false] at hx
        rcases hx with rfl | rfl
        · exact px0
        · exact pt0) (by show 2 * 101 ≤ 20000; decide)).mono (by decide) (Nat.le_refl _))
    · exact t6_two pl pt
    · exact t6_of ((pt_tup (k := 1) (b := 100) (B := 20000) (fun x hx => by rw [List.mem_singleton.mp hx]; exact px0) (by show 1 * 101 ≤ 20000; decide)).mono (by decide) (Nat.le_refl _))
    · exact t6_of ((pt_tup (k := 1) (b := 100) (B := 20000) (fun x hx => by
        simp only [List.mem_cons, List.not_mem_nil, or_false] at hx
        rcases hx with rfl | rfl | rfl
        · exact px0
        · exact pt0
        · exact pt0) (by show 3 * 101 ≤ 20000; decide)).mono (by decide) (Nat.le_refl _))
    · exact t6_two pt px
    · exact t6_of (px.mono (by decide) (by decide))
    · exact t6_num l1 qx qt
    · exact t6_key l1 qx qt
  · obtain ⟨d, hd, ed⟩ := at8 .none (.int 0) (.bool true) (.str ("" : Str)) (.tuple []) (.list []) (.dict []) (.tuple [.tuple [], .int 0]) s0 s1
    (rw [then_nx]; simp only [LB.dnS, DL.ol, DL.ow, DL.oT, DL.oI, LB.bkF, Nat.reduceAdd, Nat.reduceEqDiff, reduceIte, ol, ow, oT, oI, bkF, decide_eq_false h14])
    (rw [then_nx]; simp only [LB.dnS, DL.ol, DL.ow, DL.oT, DL.oI, LB.bkF, Nat.reduceAdd, Nat.reduceEqDiff, reduceIte, ol, ow, oT, oI, bkF, ed])
    refine ⟨_, rfl, ?_, p2.mono (by omega)⟩
    simp only [List.mem_cons, List.not_mem_nil, or_false] at hd
    have pe : Pt true 3 8900 (.tuple []) := (pt_tup (ds := []) (k := 0) (b := 0) (B := 0) (fun x hx => nomatch hx) (by decide)).mono (by decide) (by decide)
    rcases hd with rfl | rfl | rfl | rfl | rfl | rfl | rfl | rfl
    · exact t6_of (N := true) pt_none
    · exact t6_of (N := true) (pt_int (by decide))
    · exact t6_of (N := true) (pt_bool true)
    · exact t6_of (N := true) (pt_text "" (by decide))
    · exact t6_of (pe.mono (by decide) (by decide))
    · exact t6_of ((pt_lst (ds := []) (k := 0) (b := 0) (B := 0) (fun x hx => nomatch hx) (by decide)).mono (by decide) (by decide))
    · exact t6_of pt_dict0
    · exact t6_two pe (pt_int (by decide))
end LB.K06
set_option Elab.async false
set_option linter.all false
set_option maxRecDepth 100000
set_option maxHeartbeats 4000000
namespace LB.K06
open PySem PySem.Spec PyProof.Rows L2 GL DL LB
open LB.K14 (Q qB qS q_w q_near q_sm qs0 qs_qb splB split_anyX)
open LB.K08 (PenK bN)
open LB.K15 (spD issplit_eq)
theorem right_eq {d : D} (t : T6 d) {m : Int} (hm : m ≤ 900) : F__law_right [.int m, d] = some (.ok (.bool true)) := by
  obtain ⟨s, es⟩ := t.r
  have e1 := split_anyX t.x t.p m
  have e2 := lsplit_eq t.x t.p hm
  refine runP_of rfl ?_
  show WS B__law_right [.da (.int m), .da d, .un, .un] _
  unfold B__law_right
  have eb : uEq (.bool (splB m d)) (.bool (splB m d)) = some (.bool true) := by cases splB m d <;> rfl
  simp only [LB.dnS, DL.ol, DL.ow, DL.oT, DL.oI, LB.bkF, Nat.reduceAdd, Nat.reduceEqDiff, reduceIte, ol, ow, oT, oI, bkF, es]
  (rw [then_nx]; simp only [LB.dnS, DL.ol, DL.ow, DL.oT, DL.oI, LB.bkF, Nat.reduceAdd, Nat.reduceEqDiff, reduceIte, ol, ow, oT, oI, bkF, e1])
  (rw [then_nx]; simp only [LB.dnS, DL.ol, DL.ow, DL.oT, DL.oI, LB.bkF, Nat.reduceAdd, Nat.reduceEqDiff, reduceIte, ol, ow, oT, oI, bkF, e2, eb, es, LB.eq_str])
  try rfl
theorem bn33 : bN 33 * 10 ≤ qS := by decide +kernel
theorem c_one : LB.K15.F_is_split [.int 1, .tuple [.tuple [.int 1], .int 1]] = some (.ok (.bool true)) := by
  have t : T6 (.tuple [.tuple [.int 1], .int 1]) := t6_ints (ys := [1]) (fun y hy => by rw [List.mem_singleton.mp hy]; exact q_sm (by omega)) (by decide) (by decide)
  have e : splB 1 (.tuple [.tuple [.int 1], .int 1]) = true := by decide +kernel
  exact (split_anyX t.x t.p 1).trans (by rw [e])
theorem c_two : LB.K15.F_is_split [.int 1, .tuple [.tuple [.int 2], .int 2]] = some (.ok (.bool false)) := by
  have t : T6 (.tuple [.tuple [.int 2], .int 2]) := t6_ints (ys := [2]) (fun y hy => by rw [List.mem_singleton.mp hy]; exact q_sm (by omega)) (by decide) (by decide)
  have e : splB 1 (.tuple [.tuple [.int 2], .int 2]) = false := by decide +kernel
  exact (split_anyX t.x t.p 1).trans (by rw [e])
theorem c_nil : LB.K15.F_is_split [.int 2, .tuple [.tuple [.int 0, .int 0], .int 0]] = some (.ok (.bool false)) := by
  have t : T6 (.tuple [.tuple [.int 0, .int 0], .int 0]) := t6_ints (ys := [0, 0]) (fun y hy => by
    simp only [List.mem_cons, List.not_mem_nil, or_false] at hy
    rcases hy with rfl | rfl <;> exact q_sm (by omega)) (by decide) (by decide)
  have e : splB 2 (.tuple [.tuple [.int 0, .int 0], .int 0]) = false := by decide +kernel
  exact (split_anyX t.x t.p 2).trans (by rw [e])
theorem law_true {ns : List Int} (hl : ns.length ≤ 63) : F_law [.list (ns.map PyData.int)] = some (.ok (.bool true)) := by
  have isT : oNot (.bool true) (.bool true) = some (.bool false) := rfl
  have isI : oIs (.bool true) (.bool true) = some (.bool true) := rfl
  have isF : oIs (.bool false) (.bool false) = some (.bool true) := rfl
  have q0 := qs0
  refine runP_of rfl ?_
  show WS B_law [.da (.list (ns.map PyData.int)), .un, .un, .un, .un, .un, .un, .un, .un] _
  unfold B_law
  simp only [LB.dnS, DL.ol, DL.ow, DL.oT, DL.oI, LB.bkF, Nat.reduceAdd, Nat.reduceEqDiff, reduceIte, ol, ow, oT, oI, bkF, WS_setM, K08.pen_eq]
  (rw [then_nx]; simp only [LB.dnS, DL.ol, DL.ow, DL.oT, DL.oI, LB.bkF, Nat.reduceAdd, Nat.reduceEqDiff, reduceIte, ol, ow, oT, oI, bkF, rng_eqI (m := 4) (by decide) (by decide)])
  refine WS_loop0 (fun i ρ => ∃ (c : Oc) (s2 s3 s4 s5 s6 s7 : Sl), PenK ns (1000 * i) c ∧ ρ = [.da (.list (ns.map PyData.int)), .ow true c, s2, s3, s4, s5, s6, s7, .un]) ⟨_, _, _, _, _, _, _, K08.pen_ok ns, rfl⟩ ?_ ?_
  · rintro i d ρ hd ⟨c, s2, s3, s4, s5, s6, s7, p, rfl⟩
    have hi := (List.getElem?_eq_some_iff.mp hd).1
    rw [List.length_map, List.length_range] at hi
    have hi : i < 4 := hi
    obtain ⟨d1, c1, e1, m, rfl, m1, m10, p1⟩ := K08.many_eq p hl (by omega)
    obtain ⟨d2, c2, e2, xs, rfl, sq, p2⟩ := K08.split_eq p1 hl (by omega) (m := m) (M := 33) m1 m10 (by decide) (by decide)
    have sl := sq.lt
    have sp := sq.pos
    have hlen := sq.len
    have b33 := bn33
    have k : X6 xs xs.sum := ⟨by omega, by omega, fun x hx => ⟨sq.nn x hx, by have := LB.le_sum sq.nn hx; omega⟩, by omega⟩
    have qx : ∀ x ∈ xs, Q x := fun x hx => q_near (by have := k.at_ x hx; omega)
    have t0 : T6 (spD xs) := t6_ints qx (by omega) (q_w (q_near (by omega)))
    have eis := issplit_eq (xs := xs) (by omega) sq.nn sq.one
    rw [hlen] at eis
    rw [tgN_eq]
    refine ⟨_, rfl, ?_⟩
    simp only [LB.dnS, DL.ol, DL.ow, DL.oT, DL.oI, LB.bkF, Nat.reduceAdd, Nat.reduceEqDiff, reduceIte, ol, ow, oT, oI, bkF]
    refine ⟨_, _, e1, ?_⟩
    (rw [then_nx]; simp only [LB.dnS, DL.ol, DL.ow, DL.oT, DL.oI, LB.bkF, Nat.reduceAdd, Nat.reduceEqDiff, reduceIte, ol, ow, oT, oI, bkF])
    refine ⟨_, _, e2, ?_⟩
    (rw [then_nx]; simp only [LB.dnS, DL.ol, DL.ow, DL.oT, DL.oI, LB.bkF, Nat.reduceAdd, Nat.reduceEqDiff, reduceIte, ol, ow, oT, oI, bkF, rng_eqI (m := 8) (by decide) (by decide)])
    refine ⟨rfl, few10 (by simp), WL_inv0 (fun j acc ρ => ∃ c : Oc, acc.length = j ∧ (∀ d ∈ acc, T6 d) ∧ PenK ns (1000 * i + 404 + 5 * j) c ∧ ρ = [.da (.list (ns.map PyData.int)), .ow true c, .da d, .da (.int (m : Int)), .da (spD xs), s5, s6, s7, .un]) ⟨c2, rfl, (fun _ z => nomatch z), p2.mono (by omega), rfl⟩ ?_ ?_⟩
    · rintro j d' acc ρ hd' ⟨c3, ha, ht, p3, rfl⟩
      have hj := (List.getElem?_eq_some_iff.mp hd').1
      rw [List.length_map, List.length_range] at hj
      have hj : j < 8 := hj
      obtain ⟨d4, c4, e4, t4, p4⟩ := bent_eq p3 hl (by omega) k
      rw [tgN_eq]
      refine ⟨_, rfl, ?_⟩
      show DL.W (rt true) _ _
      rw [W_rt, if_pos rfl]
      simp only [LB.dlS, DL.ol, DL.ow, DL.oT, DL.oI, LB.bkF, Nat.reduceAdd, Nat.reduceEqDiff, reduceIte, ol, ow, oT, oI, bkF]
      refine ⟨_, _, e4, ?_⟩
      refine ⟨by rw [List.length_append, ha]; rfl, fun d hd => ?_, c4, p4.mono (by omega), rfl⟩
      rcases List.mem_append.mp hd with z | z
      · exact ht d z
      · rw [List.mem_singleton.mp z]
        exact t4
    · rintro ys ρ ⟨c3, ha, ht, p3, rfl⟩
      rw [List.length_map, List.length_range] at ha p3
      have ha : ys.length = 8 := ha
      refine ⟨_, cat_l [spD xs] ys (by simp; omega), ?_⟩
      have hT : ∀ d ∈ [spD xs] ++ ys, T6 d := fun d hd => by
        rcases List.mem_append.mp hd with z | z
        · rw [List.mem_singleton.mp z]; exact t0
        · exact ht d z
      generalize [spD xs] ++ ys = things at hT
      (rw [then_nx]; simp only [LB.dnS, DL.ol, DL.ow, DL.oT, DL.oI, LB.bkF, Nat.reduceAdd, Nat.reduceEqDiff, reduceIte, ol, ow, oT, oI, bkF])
      refine WS_loop0 (fun j ρ => ∃ (s6 s7 : Sl), ρ = [.da (.list (ns.map PyData.int)), .ow true c3, .da d, .da (.int (m : Int)), .da (spD xs), .da (.list things), s6, s7, .un]) ⟨_, _, rfl⟩ ?_ ?_
      · rintro j d' ρ hd' ⟨s6, s7, rfl⟩
        have td := hT d' (List.mem_of_getElem? hd')
        have emin : oMin2 [.int 10, .int ((m : Int) + 1)] = some (.int (min 10 ((m : Int) + 1))) := rfl
        have emax : oMax2 [.int 1, .int ((m : Int) - 1)] = some (.int (max 1 ((m : Int) - 1))) := rfl
        rw [tgN_eq]
        refine ⟨_, rfl, ?_⟩
        simp only [LB.dnS, DL.ol, DL.ow, DL.oT, DL.oI, LB.bkF, Nat.reduceAdd, Nat.reduceEqDiff, reduceIte, ol, ow, oT, oI, bkF, add_int, sub_int, emin, emax]
        refine WS_loop0 (fun j ρ => ∃ (s7 : Sl), ρ = [.da (.list (ns.map PyData.int)), .ow true c3, .da d, .da (.int (m : Int)), .da (spD xs), .da (.list things), .da d', s7, .un]) ⟨_, rfl⟩ ?_ ?_
        · rintro l e ρ he ⟨s7, rfl⟩
          obtain ⟨z, rfl, hz⟩ : ∃ z : Int, e = .int z ∧ z ≤ 900 := by
            have hm := List.mem_of_getElem? he
            simp only [List.mem_cons, List.not_mem_nil, or_false] at hm
            rcases hm with rfl | rfl | rfl
            · exact ⟨_, rfl, by omega⟩
            · exact ⟨_, rfl, by omega⟩
            · exact ⟨_, rfl, by omega⟩
          rw [tgN_eq]
          refine ⟨_, rfl, ?_⟩
          simp only [LB.dnS, DL.ol, DL.ow, DL.oT, DL.oI, LB.bkF, Nat.reduceAdd, Nat.reduceEqDiff, reduceIte, ol, ow, oT, oI, bkF, right_eq td hz]
          exact ⟨_, rfl⟩
        · rintro ρ ⟨s7, rfl⟩
          exact ⟨_, _, rfl⟩
      · rintro ρ ⟨s6, s7, rfl⟩
        (rw [then_nx]; simp only [LB.dnS, DL.ol, DL.ow, DL.oT, DL.oI, LB.bkF, Nat.reduceAdd, Nat.reduceEqDiff, reduceIte, ol, ow, oT, oI, bkF, eis, isT])
        exact ⟨c3, p3.mono (by omega), _, _, _, _, _, _, rfl⟩
  · rintro ρ ⟨c, s2, s3, s4, s5, s6, s7, p, rfl⟩
    (rw [then_nx]; simp only [LB.dnS, DL.ol, DL.ow, DL.oT, DL.oI, LB.bkF, Nat.reduceAdd, Nat.reduceEqDiff, reduceIte, ol, ow, oT, oI, bkF, c_one, c_two, c_nil, isI, isF])
end LB.K06
set_option Elab.async false
set_option linter.all false
set_option maxRecDepth 100000
set_option maxHeartbeats 2000000
namespace DL
open PySem PySem.Spec PyProof.Rows L2 GL
section
variable {X : Cx} {pins : List (Addr × Obj)} {σ : L2.St} {H : Hp} {s : Shared}
end
def Hears (X : Cx) (Ng : List Str) (x : Str) (sg : Scope) (g : Addr) (cdg : Value) (bg : List Stmt) (a : Str) (q : Str) (TT : (XK → Hp → VK → Prop) → Hp → VK → Prop) : Prop :=
  ∀ (f c' : Addr) (s : Shared) (H : Hp) (Q : VK) (tl : XK → Hp → VK → Prop), Room 0 (X.A.deeper (envOfC x sg s.heap.objs.size g cdg)) →
    (∀ (W : WX) (pn : List (Addr × Obj)) (xe : Value → Shared → Prop) (p1 p2 : Pos), Takes ((cxOf C8.CX0 X.prog X.w X.K X.mg X.base Ng x sg g cdg X.A X.stack s H C8.E0).tr pn xe) W →
      PE ((cxOf C8.CX0 X.prog X.w X.K X.mg X.base Ng x sg g cdg X.A X.stack s H C8.E0).tr pn xe) (.Call (.Name a p1) [] [] p2) (fun τ HZ Q => τ[0]? = some (some (.ref f)) ∧ HZ c' = some (LamX.CodeO c' q) ∧ tl (L2.WE W τ) HZ Q)) →
    H c' = some (LamX.CodeO c' q) → TT tl H Q →
    ∃ t, PSs (cxOf C8.CX0 X.prog X.w X.K X.mg X.base Ng x sg g cdg X.A X.stack s H C8.E0).nox bg t ∧ t { nx := fun _ H' => Q .non H', rt := Q } (L2.start Ng [.ref f]) H
section
variable {X : Cx}
end
end DL
set_option Elab.async false
set_option linter.all false
set_option maxRecDepth 100000
set_option maxHeartbeats 2000000
namespace DL
open PySem PySem.Spec PyProof.Rows L2 GL
section
variable {K : PySem.W.Frag} {Ts : Tbs}
end
def TTh (K : PySem.W.Frag) (Ts : Tbs) (Hf : Except XV D → Option D) : (XK → Hp → VK → Prop) → Hp → VK → Prop := fun tl H Q =>
  ∃ (S : List Addr) (r : Except XV D) (d : D), (∀ a ∈ S, H a ≠ none) ∧ (∀ a ∈ S, Mu H a) ∧ Tabd Ts H ∧
    (∀ (E' : XK) (Q' : VK), (∀ x, r = .error x → ∀ H', Grow Ts H H' → ∀ cls dx, XAt K x cls dx H' → E' cls dx H') → (∀ d', r = .ok d' → ∀ v H', Grow Ts H H' → DR K (hide S H') v d' → Q' v H') → tl E' H Q') ∧
    Hf r = some d ∧ ∀ v H', Grow Ts H H' → DR K (hide S H') v d → Q v H'
section
variable {X : Cx} {Ts : Tbs} {E : EK}
end
section
variable {X : Cx} {Ts : Tbs}
end
structure CalH (P : Program) (w : World) (K : PySem.W.Frag) (mg : Str → Option Value) (base : Heap) (Ts : Tbs) (x : Str) (Hf : Except XV D → Option D) : Prop where
  ex : ∃ (g : Addr) (pg : Arguments) (bg : List Stmt) (sg : Scope) (dV kV doc pm cdv ct oc : Value) (an od : Option Addr) (osl : Array (Option Value)) (Ng : List Str) (a : Str),
    mg x = some (.ref g) ∧ PySem.W.keepIn K (.ref g) = true ∧ K.lookup g = some ⟨oc, od, .func (PySem.W.fnOf x x pg bg sg dV kV doc pm an cdv ct), osl⟩ ∧ PySem.W.codeIn K cdv x = true ∧ L2.Binds K (PySem.W.fnOf x x pg bg sg dV kV doc pm an cdv ct) [a] [] ∧
    FnScope Ng [a] sg ∧ Ng[0]? = some a ∧ Vis sg a ∧ (a == ("__debug__" : Str)) = false ∧ (a == ("__classdict__" : Str)) = false ∧
    ∀ X : Cx, X.prog = P → X.w = w → X.K = K → X.mg = mg → X.base = base → X.A.guards = some [] → ∀ q, Hears X Ng x sg g cdv bg a q (TTh X.K Ts Hf)
def qL (x : Str) : Str := x ++ ".<locals>." ++ "<lambda>"
section
variable {X : Cx} {Ts : Tbs} {E : EK}
end
end DL
set_option Elab.async false
set_option linter.all false
set_option maxRecDepth 100000
set_option maxHeartbeats 2000000
namespace DL
open PySem PySem.Spec PyProof.Rows L2 GL
end DL
set_option Elab.async false
set_option linter.all false
set_option maxRecDepth 100000
set_option maxHeartbeats 2000000
namespace DL
open PySem PySem.Spec PyProof.Rows L2 GL
def LeS (f g : Stm) : Prop := ∀ ρ r, f ρ = some r → g ρ = some r
def LeM {α : Type} (f g : Mo α) : Prop := ∀ ρ r, f ρ = some r → g ρ = some r
def LeF (F G : List D → Option (Except XV D)) : Prop := ∀ ds r, F ds = some r → G ds = some r
theorem LeS.rfl {f : Stm} : LeS f f := fun _ _ h => h
theorem LeM.rfl {α : Type} {f : Mo α} : LeM f f := fun _ _ h => h
theorem LeS.no {g : Stm} : LeS noS g := fun _ _ h => by cases h
theorem LeS.seq {f f' g g' : Stm} (h1 : LeS f f') (h2 : LeS g g') : LeS (seqS f g) (seqS f' g') := fun ρ r h => by
  unfold seqS at h ⊢
  cases e : f ρ with
  | none => rw [e] at h; cases h
  | some p =>
    rw [e] at h
    rw [h1 ρ p e]
    obtain ⟨fl, ρ1⟩ := p
    cases fl with
    | nx => exact h2 ρ1 r h
    | bk => exact h
    | ct => exact h
    | rt d => exact h
    | ex x => exact h
theorem LeS.ex1 {α : Type} {f f' : Mo α} {g g' : α → Stm} (h1 : LeM f f') (h2 : ∀ a, LeS (g a) (g' a)) : LeS (ex1 f g) (ex1 f' g') := fun ρ r h => by
  unfold DL.ex1 at h ⊢
  cases e : f ρ with
  | none => rw [e] at h; cases h
  | some p =>
    rw [e] at h
    rw [h1 ρ p e]
    obtain ⟨x, ρ1⟩ := p
    cases x with
    | error x => exact h
    | ok a => exact h2 a ρ1 r h
theorem LeS.frz {i : Nat} {g g' : Stm} (h : LeS g g') : LeS (DL.frz i g) (DL.frz i g') := fun ρ r e => by
  unfold DL.frz at e ⊢
  split at e
  · exact h _ r e
  · cases e
theorem LeS.set {i : Nat} {f f' : Mo D} (h : LeM f f') : LeS (setS i f) (setS i f') := LeS.ex1 h fun _ => LeS.rfl
theorem LeS.ret {f f' : Mo D} (h : LeM f f') : LeS (retS f) (retS f') := LeS.ex1 h fun _ => LeS.rfl
theorem LeM.bnd {α β : Type} {f f' : Mo α} {g g' : α → Mo β} (h1 : LeM f f') (h2 : ∀ a, LeM (g a) (g' a)) : LeM (DL.bnd f g) (DL.bnd f' g') := fun ρ r h => by
  unfold DL.bnd at h ⊢
  cases e : f ρ with
  | none => rw [e] at h; cases h
  | some p =>
    rw [e] at h
    rw [h1 ρ p e]
    obtain ⟨x, ρ1⟩ := p
    cases x with
    | error x => exact h
    | ok a => exact h2 a ρ1 r h
theorem LeM.call {F F' : List D → Option (Except XV D)} {fs : List (Mo D)} (h : LeF F F') : LeM (callP F fs) (callX F' fs) := by
  refine LeM.bnd LeM.rfl fun ds ρ r e => ?_
  revert e
  show (match F ds with
    | some (.ok d) => some (.ok d, ρ)
    | _ => none) = some r → (match F' ds with
    | some r => some (r, ρ)
    | none => none) = some r
  intro e
  cases e1 : F ds with
  | none => rw [e1] at e; cases e
  | some x =>
    rw [e1] at e
    rw [h ds x e1]
    cases x with
    | error _ => cases e
    | ok d => exact e
end DL
set_option Elab.async false
set_option linter.all false
set_option maxRecDepth 100000
set_option maxHeartbeats 2000000
namespace DL
open PySem PySem.Spec PyProof.Rows L2 GL
def taA (K : PySem.W.Frag) (x : Str) : Addr := (He.cT K (x, none)).2
def apartB (gs ls : List Str) (K : PySem.W.Frag) : Bool := (gs.all fun a => ls.all fun b => decide (taA K a ≠ taA K b)) && ls.all fun a => ls.all fun b => decide (a = b) || decide (taA K a ≠ taA K b)
def tbsOf (K : PySem.W.Frag) (gs ls : List Str) (h : apartB gs ls K = true) : Tbs := ⟨gs.map (taA K), ls.map fun b => (taA K b, qL b), fun a ha p hp e => by
  obtain ⟨x, hx, rfl⟩ := List.mem_map.mp ha
  obtain ⟨y, hy, rfl⟩ := List.mem_map.mp hp
  exact of_decide_eq_true (List.all_eq_true.mp (List.all_eq_true.mp (ba h).1 x hx) y hy) e⟩
theorem mem_gs {K : PySem.W.Frag} {gs ls : List Str} {h : apartB gs ls K = true} {x : Str} (hx : x ∈ gs) : (He.cT K (x, none)).2 ∈ tbsOf K gs ls h := List.mem_map.mpr ⟨x, hx, rfl⟩
theorem tabd_of {K : PySem.W.Frag} {gs ls : List Str} {h : apartB gs ls K = true} {H : Hp} (t : ∀ x ∈ gs ++ ls, H (He.cT K (x, none)).2 = some (.tbl #[])) : Tabd (tbsOf K gs ls h) H := by
  refine ⟨fun T hT => ?_, fun p hp => ?_⟩
  · obtain ⟨x, hx, rfl⟩ := List.mem_map.mp hT
    exact ⟨#[], t x (List.mem_append_left _ hx), True.intro⟩
  · obtain ⟨y, hy, rfl⟩ := List.mem_map.mp hp
    exact LamX.TabS.nil (t y (List.mem_append_right _ hy))
end DL
set_option Elab.async false
set_option linter.all false
set_option maxRecDepth 100000
set_option maxHeartbeats 4000000
set_option pp.maxSteps 300
set_option pp.deepTerms false
namespace K06
open PySem PySem.Spec PyProof.Rows L2 GL DL
def top (i : Nat) : Stmt := PySem.Challenge.pw_leapranks_k06_what_is_a_split.main.body.getD i (.Pass ⟨0, 0, 0, 0⟩)
abbrev FnP (K : PySem.W.Frag) (x : Str) (st : Stmt) (f : Addr) (fd : FuncData) : Prop := FunD K x x (defArgs st) (defBody st) (defScope st) [] [] f fd
abbrev s_is_whole : Stmt := top 1
abbrev N_is_whole : List Str := ["thing"]
theorem sc_is_whole : FnScope N_is_whole ["thing"] (defScope s_is_whole) := ⟨rfl, rfl, rfl, by decide +kernel, rfl, by decide +kernel, by decide +kernel⟩
abbrev s_are_wholes : Stmt := top 2
abbrev N_are_wholes : List Str := ["many", "thing", "one"]
theorem sc_are_wholes : FnScope N_are_wholes ["many", "thing"] (defScope s_are_wholes) := ⟨rfl, rfl, rfl, by decide +kernel, rfl, by decide +kernel, by decide +kernel⟩
abbrev s_common_divisor : Stmt := top 3
abbrev N_common_divisor : List Str := ["one", "other"]
theorem sc_common_divisor : FnScope N_common_divisor ["one", "other"] (defScope s_common_divisor) := ⟨rfl, rfl, rfl, by decide +kernel, rfl, by decide +kernel, by decide +kernel⟩
abbrev s_common_divisor_of_all : Stmt := top 4
abbrev N_common_divisor_of_all : List Str := ["numbers", "divisor", "number"]
theorem sc_common_divisor_of_all : FnScope N_common_divisor_of_all ["numbers"] (defScope s_common_divisor_of_all) := ⟨rfl, rfl, rfl, by decide +kernel, rfl, by decide +kernel, by decide +kernel⟩
abbrev s_is_split : Stmt := top 6
abbrev N_is_split : List Str := ["many", "thing", "numbers", "total", "number"]
theorem sc_is_split : FnScope N_is_split ["many", "thing"] (defScope s_is_split) := ⟨rfl, rfl, rfl, by decide +kernel, rfl, by decide +kernel, by decide +kernel⟩
abbrev s__law_pen : Stmt := top 8
abbrev N__law_pen : List Str := ["_law_script"]
theorem sc__law_pen : FnScope N__law_pen ["_law_script"] (defScope s__law_pen) := ⟨rfl, rfl, rfl, by decide +kernel, rfl, by decide +kernel, by decide +kernel⟩
abbrev s__law_draw : Stmt := top 9
abbrev N__law_draw : List Str := ["_law_pen_here", "_law_many_here", "_law_digit", "_law_script", "_law_at", "_law_cell", "_law_prime", "_law_number"]
theorem sc__law_draw : FnScope N__law_draw ["_law_pen_here", "_law_many_here"] (defScope s__law_draw) := ⟨rfl, rfl, rfl, by decide +kernel, rfl, by decide +kernel, by decide +kernel⟩
abbrev s__law_measure : Stmt := top 10
abbrev N__law_measure : List Str := ["_law_numbers_here", "_law_found", "_law_number"]
theorem sc__law_measure : FnScope N__law_measure ["_law_numbers_here"] (defScope s__law_measure) := ⟨rfl, rfl, rfl, by decide +kernel, rfl, by decide +kernel, by decide +kernel⟩
abbrev s__law_great : Stmt := top 11
abbrev N__law_great : List Str := ["_law_pen_here", "_law_most", "_law_found", "_law_k"]
theorem sc__law_great : FnScope N__law_great ["_law_pen_here", "_law_most"] (defScope s__law_great) := ⟨rfl, rfl, rfl, by decide +kernel, rfl, by decide +kernel, by decide +kernel⟩
abbrev s__law_numbers : Stmt := top 12
abbrev N__law_numbers : List Str := ["_law_pen_here", "_law_many_here", "_law_most", "_law_way", "_law_found", "_law_k", "_law_by", "_law_number"]
theorem sc__law_numbers : FnScope N__law_numbers ["_law_pen_here", "_law_many_here", "_law_most"] (defScope s__law_numbers) := ⟨rfl, rfl, rfl, by decide +kernel, rfl, by decide +kernel, by decide +kernel⟩
abbrev s__law_split : Stmt := top 13
abbrev N__law_split : List Str := ["_law_pen_here", "_law_many_here", "_law_most", "_law_numbers_here", "_law_by", "_law_number"]
theorem sc__law_split : FnScope N__law_split ["_law_pen_here", "_law_many_here", "_law_most"] (defScope s__law_split) := ⟨rfl, rfl, rfl, by decide +kernel, rfl, by decide +kernel, by decide +kernel⟩
abbrev s__law_many : Stmt := top 14
abbrev N__law_many : List Str := ["_law_pen_here", "_law_way"]
theorem sc__law_many : FnScope N__law_many ["_law_pen_here"] (defScope s__law_many) := ⟨rfl, rfl, rfl, by decide +kernel, rfl, by decide +kernel, by decide +kernel⟩
abbrev s__law_odd : Stmt := top 15
abbrev N__law_odd : List Str := ["_law_pen_here", "_law_number", "_law_way", "_law_some"]
theorem sc__law_odd : FnScope N__law_odd ["_law_pen_here", "_law_number"] (defScope s__law_odd) := ⟨rfl, rfl, rfl, by decide +kernel, rfl, by decide +kernel, by decide +kernel⟩
abbrev s__law_bent_numbers : Stmt := top 16
abbrev N__law_bent_numbers : List Str := ["_law_pen_here", "_law_way", "_law_numbers_here", "_law_total", "_law_at", "_law_some", "_law_by", "_law_number"]
theorem sc__law_bent_numbers : FnScope N__law_bent_numbers ["_law_pen_here", "_law_way", "_law_numbers_here", "_law_total"] (defScope s__law_bent_numbers) := ⟨rfl, rfl, rfl, by decide +kernel, rfl, by decide +kernel, by decide +kernel⟩
abbrev s__law_bent : Stmt := top 17
abbrev N__law_bent : List Str := ["_law_pen_here", "_law_split_here", "_law_way", "_law_numbers_here", "_law_total", "_law_spot", "_law_near"]
theorem sc__law_bent : FnScope N__law_bent ["_law_pen_here", "_law_split_here"] (defScope s__law_bent) := ⟨rfl, rfl, rfl, by decide +kernel, rfl, by decide +kernel, by decide +kernel⟩
abbrev s__law_is_split : Stmt := top 18
abbrev N__law_is_split : List Str := ["_law_many_here", "_law_thing", "_law_number"]
theorem sc__law_is_split : FnScope N__law_is_split ["_law_many_here", "_law_thing"] (defScope s__law_is_split) := ⟨rfl, rfl, rfl, by decide +kernel, rfl, by decide +kernel, by decide +kernel⟩
abbrev s__law_right : Stmt := top 19
abbrev N__law_right : List Str := ["_law_many_here", "_law_thing", "_law_kept", "_law_found"]
theorem sc__law_right : FnScope N__law_right ["_law_many_here", "_law_thing"] (defScope s__law_right) := ⟨rfl, rfl, rfl, by decide +kernel, rfl, by decide +kernel, by decide +kernel⟩
abbrev s_law : Stmt := top 20
abbrev N_law : List Str := ["_law_script", "_law_pen_here", "_law_turn", "_law_many_here", "_law_split_here", "_law_some", "_law_thing", "_law_places", "_law_k"]
theorem sc_law : FnScope N_law ["_law_script"] (defScope s_law) := ⟨rfl, rfl, rfl, by decide +kernel, rfl, by decide +kernel, by decide +kernel⟩
section
variable {P : Program} {w : World} {K : PySem.W.Frag} {mg : Str → Option Value} {base : Heap} {Ts : Tbs}
theorem ok__law_pen {f : Addr} {fd : FuncData} (F : FnP K "_law_pen" s__law_pen f fd) :
    FnG P w K mg base CX0 1 f fd ["_law_script"] (spM K Ts LB.K08.F__law_pen) :=
  fnM F sc__law_pen (by decide) fun cdv A outer s H E hcd gd hr =>
    (dm_dsp3 (E := E0x) (by decide) (by decide) (by decide) (ps_ret (pe_disp (pps_cons pe_str (de_var (pv 0)) (pps_cons pe_str pe_int (pps_cons pe_str pe_int pps_nil))) (by rfl) (by rfl) (fun z => by cases z) (by decide))))
theorem ok__law_draw {f : Addr} {fd : FuncData} (F : FnP K "_law_draw" s__law_draw f fd) (m_abs : mg "abs" = none) (m_len : mg "len" = none) :
    FnG P w K mg base CX0 1 f fd ["_law_pen_here", "_law_many_here"] (spO K Ts LB.K08.F__law_draw) :=
  fnO F sc__law_draw (by decide) fun cdv A outer s H E hcd gd hr =>
    (dss_cons (ds_if (ps_if (dt_op2 s_gt (pt_cmpR op_gt (de_getK (pe_dget (hu_of hr) (pv 0) de_str (fun _ _ => rfl))) de_int (nomark _)))
      (dss_cons (ds_set (ps_set (i := 2) sc__law_draw.nd rfl (.inl rfl) (de_op2 s_mod (pe_op op_modN (de_getK (pe_dget (hu_of hr) (pv 0) de_str (fun _ _ => rfl))) (de_var (pv 1))))))
    (dss_cons (ds_putK (ps_dput (hu_of hr) (pv 0) de_str (de_op2 s_div (pe_op op_fdivX (de_getK (pe_dget (hu_of hr) (pv 0) de_str (fun _ _ => rfl))) (de_var (pv 1)))) rfl))
    (dss_one (ds_ret (ps_ret (de_var (pv 2)))))))
      dss_nil))
    (dss_cons (ds_set (ps_set (i := 3) sc__law_draw.nd rfl (.inl rfl) (de_getK (pe_dget (hu_of hr) (pv 0) de_str (fun _ _ => rfl)))))
    (dss_cons (ds_set (ps_set (i := 4) sc__law_draw.nd rfl (.inl rfl) (de_getK (pe_dget (hu_of hr) (pv 0) de_str (fun _ _ => rfl)))))
    (dss_cons (ds_putK (ps_dput (hu_of hr) (pv 0) de_str (de_op2 s_addU (pe_op op_addU (de_var (pv 4)) de_int)) rfl))
    (dss_cons (ds_set (ps_set (i := 5) sc__law_draw.nd rfl (.inl rfl) (de_op2 s_addU (pe_op op_addU (de_op2 s_mulU (pe_op op_mulU de_int (de_var (pv 4)))) de_int))))
    (dss_cons (ds_if (ps_if (dt_op2 s_neU (pt_cmpR (op_neU hr.units) (de_var (pv 3)) (de_lst da_nil) (nomark _)))
      (dss_one (ds_set (ps_set (i := 5) sc__law_draw.nd rfl (.inl rfl) (de_op2 s_ixU (pe_ix ix_U (de_var (pv 3)) (de_op2 s_mod (pe_op op_modN (de_var (pv 4)) (de_opA (s_len.or s_lenS) (pe_callB (DL.CallR.or call_len_seq call_len_str) (by rfl) m_len (by decide +kernel) (da_cons (de_var (pv 3)) da_nil))))) (fun _ _ => rfl))))))
      dss_nil))
    (dss_cons (ds_if (ps_if (PW.pt (dw_and (dt_op2 s_lt (pt_cmpR op_lt (de_var (pv 4)) (de_opA (s_len.or s_lenS) (pe_callB (DL.CallR.or call_len_seq call_len_str) (by rfl) m_len (by decide +kernel) (da_cons (de_var (pv 3)) da_nil))) (nomark _))) (dw_and1 (dt_op2 s_ge (pt_cmpR op_ge (de_opA s_abs (pe_callB call_abs (by rfl) m_abs (by decide +kernel) (da_cons (de_var (pv 5)) da_nil))) (de_op2 s_pow (pe_op op_pow de_int de_int)) (nomark _))))))
      (dss_cons (ds_putK (ps_dput (hu_of hr) (pv 0) de_str (de_op2 s_div (pe_op op_fdivX (de_opA s_abs (pe_callB call_abs (by rfl) m_abs (by decide +kernel) (da_cons (de_var (pv 5)) da_nil))) (de_var (pv 1)))) rfl))
    (dss_one (ds_ret (ps_ret (de_op2 s_mod (pe_op op_modN (de_opA s_abs (pe_callB call_abs (by rfl) m_abs (by decide +kernel) (da_cons (de_var (pv 5)) da_nil))) (de_var (pv 1))))))))
      dss_nil))
    (dss_cons (ds_set (ps_set (i := 6) sc__law_draw.nd rfl (.inl rfl) (de_op2 s_ixU (pe_ix ix_U (de_lst (da_cons de_int (da_cons de_int (da_cons de_int (da_cons de_int (da_cons de_int (da_cons de_int (da_cons de_int da_nil)))))))) (de_op2 s_mod (pe_op op_modN (de_var (pv 4)) de_int)) (fun _ _ => rfl)))))
    (dss_cons (ds_set (ps_set (i := 7) sc__law_draw.nd rfl (.inl rfl) (de_op2 s_mod (pe_op op_modN (de_op2 s_addU (pe_op op_addU (de_op2 s_addU (pe_op op_addU (de_op2 s_mod (pe_op op_modN (de_var (pv 5)) de_int)) (de_op2 s_mulU (pe_op op_mulU (de_op2 s_mulU (pe_op op_mulU de_int (de_var (pv 4)))) (de_var (pv 4)))))) de_int)) (de_var (pv 6))))))
    (dss_cons (ds_set (ps_set (i := 7) sc__law_draw.nd rfl (.inl rfl) (de_op2 s_mod (pe_op op_modN (de_op2 s_addU (pe_op op_addU (de_op2 s_addU (pe_op op_addU (de_op2 s_pow (pe_op op_pow (de_var (pv 7)) de_int)) (de_op2 s_mulU (pe_op op_mulU de_int (de_var (pv 7)))))) (de_var (pv 4)))) de_int))))
    (dss_one (ds_ret (ps_ret (de_op2 s_mod (pe_op op_modN (de_op2 s_div (pe_op op_fdivX (de_op2 s_mod (pe_op op_modN (de_op2 s_mulU (pe_op op_mulU (de_var (pv 7)) (de_op2 s_addU (pe_op op_addU (de_op2 s_addU (pe_op op_addU (de_op2 s_mod (pe_op op_modN (de_var (pv 7)) de_int)) (de_op2 s_mulU (pe_op op_mulU de_int (de_var (pv 4)))))) de_int)))) de_int)) de_int)) (de_var (pv 1)))))))))))))))))
theorem ok__law_many {f : Addr} {fd : FuncData} (F : FnP K "_law_many" s__law_many f fd) (c__law_draw : CalG P w K mg base 1 "_law_draw" (spO K Ts LB.K08.F__law_draw)) :
    FnG P w K mg base CX0 2 f fd ["_law_pen_here"] (spO K Ts LB.K08.F__law_many) :=
  fnO F sc__law_many (by decide) fun cdv A outer s H E hcd gd hr =>
    (dss_cons (ds_set (ps_set (i := 1) sc__law_many.nd rfl (.inl rfl) (de_callO (pe_kG c__law_draw gd (hr.mono (by decide)) (by rfl) (pa_cons (pv 0) (da_cons de_int da_nil))))))
    (dss_one (ds_ret (ps_ret (de_op2 s_ixU (pe_ix ix_U (de_lst (da_cons (de_op2 s_addU (pe_op op_addU de_int (de_callO (pe_kG c__law_draw gd (hr.mono (by decide)) (by rfl) (pa_cons (pv 0) (da_cons de_int da_nil)))))) (da_cons (de_op2 s_addU (pe_op op_addU de_int (de_callO (pe_kG c__law_draw gd (hr.mono (by decide)) (by rfl) (pa_cons (pv 0) (da_cons de_int da_nil)))))) (da_cons (de_op2 s_addU (pe_op op_addU de_int (de_callO (pe_kG c__law_draw gd (hr.mono (by decide)) (by rfl) (pa_cons (pv 0) (da_cons de_int da_nil)))))) (da_cons de_int da_nil))))) (de_var (pv 1)) (fun _ _ => rfl)))))))
theorem ok__law_great {f : Addr} {fd : FuncData} (F : FnP K "_law_great" s__law_great f fd) (m_range : mg "range" = none) (c__law_draw : CalG P w K mg base 1 "_law_draw" (spO K Ts LB.K08.F__law_draw)) :
    FnG P w K mg base CX0 2 f fd ["_law_pen_here", "_law_most"] (spO K Ts LB.K08.F__law_great) :=
  fnO F sc__law_great (by decide) fun cdv A outer s H E hcd gd hr =>
    (dss_cons (ds_set (ps_set (i := 2) sc__law_great.nd rfl (.inl rfl) de_int))
    (dss_cons (ds_for (ps_for PassesOwn.never rfl (di_rng (pi_range1 rfl m_range (da_cons (de_op2 s_addU (pe_op op_addU de_int (de_callO (pe_kG c__law_draw gd (hr.mono (by decide)) (by rfl) (pa_cons (pv 0) (da_cons (de_var (pv 1)) da_nil)))))) da_nil))) (dg_name (pg_name (i := 3) sc__law_great.nd rfl (.inl rfl)))
      (dss_one (ds_set (ps_set (i := 2) sc__law_great.nd rfl (.inl rfl) (de_op2 s_addU (pe_op op_addU (de_op2 s_mulU (pe_op op_mulU (de_var (pv 2)) (de_op2 s_pow (pe_op op_pow de_int de_int)))) (de_callO (pe_kG c__law_draw gd (hr.mono (by decide)) (by rfl) (pa_cons (pv 0) (da_cons (de_op2 s_pow (pe_op op_pow de_int de_int)) da_nil)))))))))))
    (dss_one (ds_ret (ps_ret (de_var (pv 2)))))))
theorem ok__law_numbers {f : Addr} {fd : FuncData} (F : FnP K "_law_numbers" s__law_numbers f fd) (m_int : mg "int" = none) (m_range : mg "range" = none) (m_sum : mg "sum" = none) (c__law_draw : CalG P w K mg base 1 "_law_draw" (spO K Ts LB.K08.F__law_draw)) (c__law_great : CalG P w K mg base 2 "_law_great" (spO K Ts LB.K08.F__law_great)) :
    FnG P w K mg base CX0 3 f fd ["_law_pen_here", "_law_many_here", "_law_most"] (spO K Ts LB.K08.F__law_numbers) :=
  fnO F sc__law_numbers (by decide) fun cdv A outer s H E hcd gd hr =>
    (dss_cons (ds_set (ps_set (i := 3) sc__law_numbers.nd rfl (.inl rfl) (de_callO (pe_kG c__law_draw gd (hr.mono (by decide)) (by rfl) (pa_cons (pv 0) (da_cons de_int da_nil))))))
    (dss_cons (ds_setO (ps_set (i := 4) sc__law_numbers.nd rfl (.inl rfl) (deo_rep (pe_op op_rep (deo_lst (da_cons de_int da_nil)) (de_var (pv 1))))))
    (dss_cons (ds_if (ps_if (dt_op2 s_eqU (pt_cmpR (op_eqU hr.units) (de_var (pv 3)) de_int (nomark _)))
      (dss_one (ds_put (ps_asg (de_op2 s_addU (pe_op op_addU de_int (de_callO (pe_kG c__law_draw gd (hr.mono (by decide)) (by rfl) (pa_cons (pv 0) (da_cons de_int da_nil)))))) (pg_sub (pv 4) (de_callO (pe_kG c__law_draw gd (hr.mono (by decide)) (by rfl) (pa_cons (pv 0) (da_cons (de_var (pv 1)) da_nil)))) set_list))))
      dss_nil))
    (dss_cons (ds_for (ps_for PassesOwn.never rfl (di_rng (pi_range1 rfl m_range (da_cons (de_op2 s_mulU (pe_op op_mulU (de_var (pv 1)) (de_opA s_int (pe_callTy call_int1 (by rfl) m_int (by decide +kernel) (da_cons (de_op2 s_gt (pe_cmpR op_gt (de_var (pv 3)) de_int (nomark _))) da_nil))))) da_nil))) (dg_name (pg_name (i := 5) sc__law_numbers.nd rfl (.inl rfl)))
      (dss_cons (ds_put (ps_asg (de_callO (pe_kG c__law_draw gd (hr.mono (by decide)) (by rfl) (pa_cons (pv 0) (da_cons (de_op2 s_ixU (pe_ix ix_U (de_lst (da_cons de_int (da_cons de_int (da_cons de_int (da_cons de_int (da_cons de_int (da_cons de_int da_nil))))))) (de_var (pv 3)) (fun _ _ => rfl))) da_nil)))) (pg_sub (pv 4) (de_var (pv 5)) set_list)))
    (dss_cons (ds_if (ps_if (dt_op2 s_eqU (pt_cmpR (op_eqU hr.units) (de_var (pv 3)) de_int (nomark _)))
      (dss_one (ds_put (ps_asg (de_callO (pe_kG c__law_great gd (hr.mono (by decide)) (by rfl) (pa_cons (pv 0) (da_cons (de_var (pv 2)) da_nil)))) (pg_sub (pv 4) (de_var (pv 5)) set_list))))
      dss_nil))
    (dss_one (ds_if (ps_if (PW.pt (dw_and (dt_op2 s_eqU (pt_cmpR (op_eqU hr.units) (de_var (pv 3)) de_int (nomark _))) (dw_and1 (dt_op2 s_gt (pt_cmpR op_gt (de_callO (pe_kG c__law_draw gd (hr.mono (by decide)) (by rfl) (pa_cons (pv 0) (da_cons de_int da_nil)))) de_int (nomark _))))))
      (dss_one (ds_put (ps_asg de_int (pg_sub (pv 4) (de_var (pv 5)) set_list))))
      dss_nil)))))))
    (dss_cons (ds_if (ps_if (dt_op2 s_eqU (pt_cmpR (op_eqU hr.units) (de_qt (de_opA s_sum (pe_callB (cr_sumB rfl) (by rfl) m_sum (by decide +kernel) (da_cons (de_var (pv 4)) da_nil)))) de_int (nomark _)))
      (dss_one (ds_put (ps_asg de_int (pg_sub (pv 4) (de_callO (pe_kG c__law_draw gd (hr.mono (by decide)) (by rfl) (pa_cons (pv 0) (da_cons (de_var (pv 1)) da_nil)))) set_list))))
      dss_nil))
    (dss_cons (ds_if (ps_if (dt_op2 s_eqU (pt_cmpR (op_eqU hr.units) (de_var (pv 3)) de_int (nomark _)))
      (dss_cons (ds_set (ps_set (i := 6) sc__law_numbers.nd rfl (.inr rfl) (de_op2 s_addU (pe_op op_addU de_int (de_callO (pe_kG c__law_draw gd (hr.mono (by decide)) (by rfl) (pa_cons (pv 0) (da_cons de_int da_nil))))))))
    (dss_one (ds_setLcQ (by decide) (ps_setLc (i := 4) (own := [("_law_number", 7)]) (g := tG _ Ts [7] (tgN 7)) (by rfl) sc__law_numbers.nd rfl rfl (sw_true rfl rfl rfl (by decide +kernel)) (di_U (di_list (pi_list (de_var (pv 4)))) (di_tup (pi_tup (de_var (pv 4))))) (blkOk_by (own := [("_law_number", 7)]) (N := N__law_numbers) (sc := defScope s__law_numbers) (by decide +kernel)) (fun _ _ _ _ _ => (dg_name (pg_name (i := 7) sc__law_numbers.nd rfl (.inl rfl)))) (fun _ _ _ _ _ => dts_nil) (fun _ _ _ _ _ => (de_op2 s_mulU (pe_op op_mulU (de_var (pv 6)) (de_var (pv 7)))))))))
      dss_nil))
    (dss_frz 4 (dss_one (ds_ret (ps_ret (de_var (pv 4))))))))))))
theorem ok__law_measure {f : Addr} {fd : FuncData} (F : FnP K "_law_measure" s__law_measure f fd) :
    FnG P w K mg base CX0 1 f fd ["_law_numbers_here"] (spP K Ts LB.K08.F__law_measure) :=
  fnP F sc__law_measure (by decide) fun cdv A outer s H E hcd gd hr =>
    (dss_cons (ds_set (ps_set (i := 1) sc__law_measure.nd rfl (.inl rfl) de_int))
    (dss_cons (ds_for (ps_for PassesOwn.never rfl (di_U (di_list (pi_list (de_var (pv 0)))) (di_tup (pi_tup (de_var (pv 0))))) (dg_name (pg_name (i := 2) sc__law_measure.nd rfl (.inl rfl)))
      (dss_one (ds_while (ps_while PassesOwn.never (dt_op2 s_gt (pt_cmpR op_gt (de_var (pv 2)) de_int (nomark _)))
      (dss_one (ds_par (ps_par (i := 1) (j := 2) rfl sc__law_measure.nd rfl rfl (by decide) rfl rfl (da_cons (de_var (pv 2)) (da_cons (de_op2 s_mod (pe_op op_modN (de_var (pv 1)) (de_var (pv 2)))) da_nil)) rfl))))))))
    (dss_one (ds_ret (ps_ret (de_var (pv 1)))))))
theorem ok__law_split {f : Addr} {fd : FuncData} (F : FnP K "_law_split" s__law_split f fd) (m_sum : mg "sum" = none) (m_tuple : mg "tuple" = none) (c__law_measure : CalG P w K mg base 1 "_law_measure" (spP K Ts LB.K08.F__law_measure)) (c__law_numbers : CalG P w K mg base 3 "_law_numbers" (spO K Ts LB.K08.F__law_numbers)) :
    FnG P w K mg base CX0 4 f fd ["_law_pen_here", "_law_many_here", "_law_most"] (spO K Ts LB.K08.F__law_split) :=
  fnO F sc__law_split (by decide) fun cdv A outer s H E hcd gd hr =>
    (dss_cons (ds_set (ps_set (i := 3) sc__law_split.nd rfl (.inl rfl) (de_callO (pe_kG c__law_numbers gd (hr.mono (by decide)) (by rfl) (pa_cons (pv 0) (da_cons (de_var (pv 1)) (da_cons (de_var (pv 2)) da_nil)))))))
    (dss_cons (ds_set (ps_set (i := 4) sc__law_split.nd rfl (.inr rfl) (de_call (pe_kG c__law_measure gd (hr.mono (by decide)) (by rfl) (da_cons (de_var (pv 3)) da_nil)))))
    (dss_one (ds_ret (ps_ret (de_tup (da_cons (de_opA s_tup (pe_callTy call_tuple_of (by rfl) m_tuple (by decide +kernel) (da_cons (de_own (deo_lc (by decide) (pe_lc (own := [("_law_number", 5)]) (g := tG _ Ts [5] (tgN 5)) (by rfl) sc__law_split.nd (di_U (di_list (pi_list (de_var (pv 3)))) (di_tup (pi_tup (de_var (pv 3))))) (blkOk_by (own := [("_law_number", 5)]) (N := N__law_split) (sc := defScope s__law_split) (by decide +kernel)) (fun _ _ _ _ _ => (dg_name (pg_name (i := 5) sc__law_split.nd rfl (.inl rfl)))) (fun _ _ _ _ _ => dts_nil) (fun _ _ _ _ _ => (de_op2 s_div (pe_op op_fdivX (de_var (pv 5)) (de_var (pv 4)))))))) da_nil))) (da_cons (de_op2 s_div (pe_op op_fdivX (de_opA s_sum (pe_callB (cr_sumB rfl) (by rfl) m_sum (by decide +kernel) (da_cons (de_var (pv 3)) da_nil))) (de_var (pv 4)))) da_nil))))))))
theorem ok_common_divisor {f : Addr} {fd : FuncData} (F : FnP K "common_divisor" s_common_divisor f fd) (m_abs : mg "abs" = none) :
    FnG P w K mg base CX0 1 f fd ["one", "other"] (spP K Ts LB.K29.F_common_divisor) :=
  fnP F sc_common_divisor (by decide) fun cdv A outer s H E hcd gd hr =>
    (dss_cons (ds_par (ps_par (i := 0) (j := 1) rfl sc_common_divisor.nd rfl rfl (by decide) rfl rfl (da_cons (de_opA s_abs (pe_callB call_abs (by rfl) m_abs (by decide +kernel) (da_cons (de_var (pv 0)) da_nil))) (da_cons (de_opA s_abs (pe_callB call_abs (by rfl) m_abs (by decide +kernel) (da_cons (de_var (pv 1)) da_nil))) da_nil)) rfl))
    (dss_cons (ds_while (ps_while PassesOwn.never (dt_op2 s_gt (pt_cmpR op_gt (de_var (pv 1)) de_int (nomark _)))
      (dss_one (ds_par (ps_par (i := 0) (j := 1) rfl sc_common_divisor.nd rfl rfl (by decide) rfl rfl (da_cons (de_var (pv 1)) (da_cons (de_op2 s_mod (pe_op op_modN (de_var (pv 0)) (de_var (pv 1)))) da_nil)) rfl)))))
    (dss_one (ds_ret (ps_ret (de_var (pv 0)))))))
theorem ok_common_divisor_of_all {f : Addr} {fd : FuncData} (F : FnP K "common_divisor_of_all" s_common_divisor_of_all f fd) (c_common_divisor : CalG P w K mg base 1 "common_divisor" (spP K Ts LB.K29.F_common_divisor)) :
    FnG P w K mg base CX0 2 f fd ["numbers"] (spP K Ts LB.K12.F_common_divisor_of_all) :=
  fnP F sc_common_divisor_of_all (by decide) fun cdv A outer s H E hcd gd hr =>
    (dss_cons (ds_set (ps_set (i := 1) sc_common_divisor_of_all.nd rfl (.inl rfl) de_int))
    (dss_cons (ds_for (ps_for PassesOwn.never rfl (di_U (di_list (pi_list (de_var (pv 0)))) (di_tup (pi_tup (de_var (pv 0))))) (dg_name (pg_name (i := 2) sc_common_divisor_of_all.nd rfl (.inl rfl)))
      (dss_one (ds_set (ps_set (i := 1) sc_common_divisor_of_all.nd rfl (.inl rfl) (de_call (pe_kG c_common_divisor gd (hr.mono (by decide)) (by rfl) (da_cons (de_var (pv 1)) (da_cons (de_var (pv 2)) da_nil)))))))))
    (dss_one (ds_ret (ps_ret (de_var (pv 1)))))))
theorem ok_is_whole {f : Addr} {fd : FuncData} (F : FnP K "is_whole" s_is_whole f fd) (m_bool : mg "bool" = none) (m_int : mg "int" = none) (m_isinstance : mg "isinstance" = none) :
    FnG P w K mg base CX0 1 f fd ["thing"] (spP K Ts LB.F_is_whole) :=
  fnP F sc_is_whole (by decide) fun cdv A outer s H E hcd gd hr =>
    (dss_one (ds_ret (ps_ret (de_vand (pe_and (de_isi (T := "int") (by intro d; cases d <;> rfl) (pe_callB call_isi (by rfl) m_isinstance (by decide +kernel) (pa_cons (de_var (pv 0)) (pa_cons (pe_bltn (v := .ty "int") (by rfl) m_int (by decide +kernel) rfl) pa_nil)))) (pe_one (de_vnot (pe_not (de_isi (T := "bool") (by intro d; cases d <;> rfl) (pe_callB call_isi (by rfl) m_isinstance (by decide +kernel) (pa_cons (de_var (pv 0)) (pa_cons (pe_bltn (v := .ty "bool") (by rfl) m_bool (by decide +kernel) rfl) pa_nil))))))))))))
theorem ok_are_wholes {f : Addr} {fd : FuncData} (F : FnP K "are_wholes" s_are_wholes f fd) {c T : Addr} (hcf : fd.code = .ref c) (TB : GxR.TabB base mg c T) (hT : T ∈ Ts) (m_all : mg "all" = none) (m_isinstance : mg "isinstance" = none) (m_len : mg "len" = none) (m_tuple : mg "tuple" = none) (c_is_whole : CalG P w K mg base 1 "is_whole" (spP K Ts LB.F_is_whole)) :
    FnG P w K mg base CX0 6 f fd ["many", "thing"] (spP K Ts LB.F_are_wholes) :=
  fnP F sc_are_wholes (by decide) fun cdv A outer s H E hcd gd hr =>
    (dss_one (ds_ret (ps_ret (de_vand (pe_and (de_isi (T := "tuple") (by intro d; cases d <;> rfl) (pe_callB call_isi (by rfl) m_isinstance (by decide +kernel) (pa_cons (de_var (pv 1)) (pa_cons (pe_bltn (v := .ty "tuple") (by rfl) m_tuple (by decide +kernel) rfl) pa_nil)))) (de_vand (pe_and (de_op2 s_eqU (pe_cmpR (op_eqU hr.units) (de_opA (s_len.or s_lenS) (pe_callB (DL.CallR.or call_len_seq call_len_str) (by rfl) m_len (by decide +kernel) (da_cons (de_var (pv 1)) da_nil))) (de_var (pv 0)) (nomark _))) (pe_one (de_allX hT (is := [2]) (by decide) (pe_allX (k := 1) (own := [("one", 2)]) ⟨hr.mono (by decide), gd, by rfl, sc_are_wholes.nd, TB, hcd.symm.trans hcf, by rfl, by decide +kernel, by rfl, blkOk_by (own := [("one", 2)]) (N := N_are_wholes) (sc := defScope s_are_wholes) (by decide +kernel), (di_U (di_list (pi_list (de_var (pv 1)))) (di_tup (pi_tup (de_var (pv 1))))), fun _ _ _ _ _ _ hr gd => (dg_name (pg_name (i := 2) sc_are_wholes.nd rfl (.inl rfl))), fun _ _ _ _ _ _ hr gd => dts_nil, fun _ _ _ _ _ _ hr gd => (de_call (pe_kG c_is_whole gd (hr.mono (by decide)) (by rfl) (da_cons (de_var (pv 2)) da_nil))), fun _ => rfl⟩ (by rfl) m_all))))))))))
theorem ok_is_split {f : Addr} {fd : FuncData} (F : FnP K "is_split" s_is_split f fd) {c T : Addr} (hcf : fd.code = .ref c) (TB : GxR.TabB base mg c T) (hT : T ∈ Ts) (m_any : mg "any" = none) (m_isinstance : mg "isinstance" = none) (m_len : mg "len" = none) (m_sum : mg "sum" = none) (m_tuple : mg "tuple" = none) (c_are_wholes : CalG P w K mg base 6 "are_wholes" (spP K Ts LB.F_are_wholes)) (c_common_divisor_of_all : CalG P w K mg base 2 "common_divisor_of_all" (spP K Ts LB.K12.F_common_divisor_of_all)) (c_is_whole : CalG P w K mg base 1 "is_whole" (spP K Ts LB.F_is_whole)) :
    FnG P w K mg base CX0 7 f fd ["many", "thing"] (spP K Ts LB.K15.F_is_split) :=
  fnP F sc_is_split (by decide) fun cdv A outer s H E hcd gd hr =>
    (dss_cons (ds_if (ps_if (PW.pt (dw_or (dt_not (pt_not (dt_val (pt_val (de_isi (T := "tuple") (by intro d; cases d <;> rfl) (pe_callB call_isi (by rfl) m_isinstance (by decide +kernel) (pa_cons (de_var (pv 1)) (pa_cons (pe_bltn (v := .ty "tuple") (by rfl) m_tuple (by decide +kernel) rfl) pa_nil)))))))) (dw_or1 (dt_op2 s_neU (pt_cmpR (op_neU hr.units) (de_opA (s_len.or s_lenS) (pe_callB (DL.CallR.or call_len_seq call_len_str) (by rfl) m_len (by decide +kernel) (da_cons (de_var (pv 1)) da_nil))) de_int (nomark _))))))
      (dss_one (ds_ret (ps_ret de_bl)))
      dss_nil))
    (dss_cons (ds_asg (ps_asg (de_var (pv 1)) (dg_tup rfl (dgs_cons (dg_name (pg_name (i := 2) sc_is_split.nd rfl (.inl rfl))) (dgs_cons (dg_name (pg_name (i := 3) sc_is_split.nd rfl (.inl rfl))) dgs_nil)))))
    (dss_cons (ds_if (ps_if (PW.pt (dw_or (dt_not (pt_not (dt_val (pt_val (de_call (pe_kG c_are_wholes gd (hr.mono (by decide)) (by rfl) (da_cons (de_var (pv 0)) (da_cons (de_var (pv 2)) da_nil)))))))) (dw_or1 (dt_not (pt_not (dt_val (pt_val (de_call (pe_kG c_is_whole gd (hr.mono (by decide)) (by rfl) (da_cons (de_var (pv 3)) da_nil))))))))))
      (dss_one (ds_ret (ps_ret de_bl)))
      dss_nil))
    (dss_cons (ds_if (ps_if (PW.pt (dw_or (dt_val (pt_val (de_anyX hT (is := [4]) (by decide) (pe_anyX (k := 0) (own := [("number", 4)]) ⟨hr.mono (by decide), gd, by rfl, sc_is_split.nd, TB, hcd.symm.trans hcf, by rfl, by decide +kernel, by rfl, blkOk_by (own := [("number", 4)]) (N := N_is_split) (sc := defScope s_is_split) (by decide +kernel), (di_U (di_list (pi_list (de_var (pv 2)))) (di_tup (pi_tup (de_var (pv 2))))), fun _ _ _ _ _ _ hr gd => (dg_name (pg_name (i := 4) sc_is_split.nd rfl (.inl rfl))), fun _ _ _ _ _ _ hr gd => dts_nil, fun _ _ _ _ _ _ hr gd => (de_op2 s_lt (pe_cmpR op_lt (de_var (pv 4)) de_int (nomark _))), fun _ => rfl⟩ (by rfl) m_any)))) (dw_or1 (dt_op2 s_neU (pt_cmpR (op_neU hr.units) (de_var (pv 3)) (de_opA s_sum (pe_callB (cr_sumB rfl) (by rfl) m_sum (by decide +kernel) (da_cons (de_var (pv 2)) da_nil))) (nomark _))))))
      (dss_one (ds_ret (ps_ret de_bl)))
      dss_nil))
    (dss_one (ds_ret (ps_ret (de_op2 s_eqU (pe_cmpR (op_eqU hr.units) (de_call (pe_kG c_common_divisor_of_all gd (hr.mono (by decide)) (by rfl) (da_cons (de_var (pv 2)) da_nil))) de_int (nomark _))))))))))
theorem ok__law_odd {f : Addr} {fd : FuncData} (F : FnP K "_law_odd" s__law_odd f fd) (m_str : mg "str" = none) (c__law_draw : CalG P w K mg base 1 "_law_draw" (spO K Ts LB.K08.F__law_draw)) :
    FnG P w K mg base CX0 2 f fd ["_law_pen_here", "_law_number"] (spO K Ts LB.K06.F__law_odd) :=
  fnO F sc__law_odd (by decide) fun cdv A outer s H E hcd gd hr =>
    (dss_cons (ds_set (ps_set (i := 2) sc__law_odd.nd rfl (.inl rfl) (de_callO (pe_kG c__law_draw gd (hr.mono (by decide)) (by rfl) (pa_cons (pv 0) (da_cons de_int da_nil))))))
    (dss_cons (ds_set (ps_set (i := 3) sc__law_odd.nd rfl (.inl rfl) (de_lst (da_cons de_bl (da_cons de_bl (da_cons de_non (da_cons (de_opA s_str (pe_callTy call_strU (by rfl) m_str (by decide +kernel) (da_cons (de_var (pv 1)) da_nil))) (da_cons (de_tup (da_cons (de_var (pv 1)) da_nil)) (da_cons (de_lst (da_cons (de_var (pv 1)) da_nil)) (da_cons de_dict0 (da_cons (de_op2 s_sub (pe_op op_sub de_int (de_op2 s_pow (pe_op op_pow de_int de_int)))) (da_cons (de_op1 s_neg (pe_un un_neg de_int)) (da_cons (de_op2 s_eqU (pe_cmpR (op_eqU hr.units) (de_var (pv 1)) de_int (nomark _))) (da_cons de_str da_nil))))))))))))))
    (dss_one (ds_ret (ps_ret (de_op2 s_ixU (pe_ix ix_U (de_var (pv 3)) (de_var (pv 2)) (fun _ _ => rfl))))))))
theorem ok__law_bent_numbers {f : Addr} {fd : FuncData} (F : FnP K "_law_bent_numbers" s__law_bent_numbers f fd) (m_len : mg "len" = none) (m_list : mg "list" = none) (m_sum : mg "sum" = none) (m_tuple : mg "tuple" = none) (c__law_draw : CalG P w K mg base 1 "_law_draw" (spO K Ts LB.K08.F__law_draw)) (c__law_odd : CalG P w K mg base 2 "_law_odd" (spO K Ts LB.K06.F__law_odd)) :
    FnG P w K mg base CX0 3 f fd ["_law_pen_here", "_law_way", "_law_numbers_here", "_law_total"] (spO K Ts LB.K06.F__law_bent_numbers) :=
  fnO F sc__law_bent_numbers (by decide) fun cdv A outer s H E hcd gd hr =>
    (dss_cons (ds_set (ps_set (i := 4) sc__law_bent_numbers.nd rfl (.inl rfl) (de_callO (pe_kG c__law_draw gd (hr.mono (by decide)) (by rfl) (pa_cons (pv 0) (da_cons (de_opA (s_len.or s_lenS) (pe_callB (DL.CallR.or call_len_seq call_len_str) (by rfl) m_len (by decide +kernel) (da_cons (de_var (pv 2)) da_nil))) da_nil))))))
    (dss_cons (ds_setO (ps_set (i := 5) sc__law_bent_numbers.nd rfl (.inl rfl) (deo_opA s_list (pe_callTy call_list_of (by rfl) m_list (by decide +kernel) (da_cons (de_var (pv 2)) da_nil)))))
    (dss_cons (ds_if (ps_if (dt_op2 s_eqU (pt_cmpR (op_eqU hr.units) (de_var (pv 1)) de_int (nomark _)))
      (dss_one (ds_ret (ps_ret (de_tup (da_cons (de_op2 s_addU (pe_op op_addU (de_op2 s_addU (pe_op op_addU (de_slc s_slU (pe_slice sl_U (de_var (pv 2)) do_none (do_some (de_var (pv 4))))) (de_tup (da_cons (de_callO (pe_kG c__law_odd gd (hr.mono (by decide)) (by rfl) (pa_cons (pv 0) (da_cons (de_op2 s_ixU (pe_ix ix_U (de_var (pv 2)) (de_var (pv 4)) (fun _ _ => rfl))) da_nil)))) da_nil)))) (de_slc s_slU (pe_slice sl_U (de_var (pv 2)) (do_some (de_op2 s_addU (pe_op op_addU (de_var (pv 4)) de_int))) do_none)))) (da_cons (de_var (pv 3)) da_nil))))))
      dss_nil))
    (dss_cons (ds_if (ps_if (dt_op2 s_eqU (pt_cmpR (op_eqU hr.units) (de_var (pv 1)) de_int (nomark _)))
      (dss_one (ds_put (ps_asg (de_op2 s_sub (pe_op op_sub (de_op2 s_sub (pe_op op_sub de_int de_int)) (de_callO (pe_kG c__law_draw gd (hr.mono (by decide)) (by rfl) (pa_cons (pv 0) (da_cons de_int da_nil)))))) (pg_sub (pv 5) (de_var (pv 4)) set_list))))
      dss_nil))
    (dss_cons (ds_if (ps_if (PW.pt (dw_or (dt_op2 s_eqU (pt_cmpR (op_eqU hr.units) (de_var (pv 1)) de_int (nomark _))) (dw_or1 (dt_op2 s_eqU (pt_cmpR (op_eqU hr.units) (de_var (pv 1)) de_int (nomark _))))))
      (dss_one (ds_put (ps_asg (de_op2 s_addU (pe_op op_addU (de_op2 s_addU (pe_op op_addU (de_ixo (pe_ix ix_list (pv 5) (de_var (pv 4)) (fun _ _ => rfl))) de_int)) (de_callO (pe_kG c__law_draw gd (hr.mono (by decide)) (by rfl) (pa_cons (pv 0) (da_cons de_int da_nil)))))) (pg_sub (pv 5) (de_var (pv 4)) set_list))))
      dss_nil))
    (dss_cons (ds_if (ps_if (dt_op2 s_eqU (pt_cmpR (op_eqU hr.units) (de_var (pv 1)) de_int (nomark _)))
      (dss_cons (ds_set (ps_set (i := 6) sc__law_bent_numbers.nd rfl (.inr rfl) (de_op2 s_addU (pe_op op_addU de_int (de_callO (pe_kG c__law_draw gd (hr.mono (by decide)) (by rfl) (pa_cons (pv 0) (da_cons de_int da_nil))))))))
    (dss_one (ds_setLcQ (by decide) (ps_setLc (i := 5) (own := [("_law_number", 7)]) (g := tG _ Ts [7] (tgN 7)) (by rfl) sc__law_bent_numbers.nd rfl rfl (sw_true rfl rfl rfl (by decide +kernel)) (di_U (di_list (pi_list (de_var (pv 5)))) (di_tup (pi_tup (de_var (pv 5))))) (blkOk_by (own := [("_law_number", 7)]) (N := N__law_bent_numbers) (sc := defScope s__law_bent_numbers) (by decide +kernel)) (fun _ _ _ _ _ => (dg_name (pg_name (i := 7) sc__law_bent_numbers.nd rfl (.inl rfl)))) (fun _ _ _ _ _ => dts_nil) (fun _ _ _ _ _ => (de_op2 s_mulU (pe_op op_mulU (de_var (pv 6)) (de_var (pv 7)))))))))
      dss_nil))
    (dss_cons (ds_if (ps_if (dt_op2 s_eqU (pt_cmpR (op_eqU hr.units) (de_var (pv 1)) de_int (nomark _)))
      (dss_one (ds_setO (ps_set (i := 5) sc__law_bent_numbers.nd rfl (.inl rfl) (deo_rep (pe_op op_rep (deo_lst (da_cons de_int da_nil)) (de_leno (pe_callB call_len_seq (by rfl) m_len (by decide +kernel) (pa_cons (pv 5) pa_nil))))))))
      dss_nil))
    (dss_cons (ds_if (ps_if (dt_op2 s_eqU (pt_cmpR (op_eqU hr.units) (de_var (pv 1)) de_int (nomark _)))
      (dss_one (ds_ins (ps_expr (pe_bm PySem.F.plainAttrs_list PySem.F.slot_list_insert PySem.F.type_list_insert mt_insert (pv 5) (da_cons (de_var (pv 4)) (da_cons (de_op2 s_ixU (pe_ix ix_U (de_lst (da_cons de_int (da_cons de_int (da_cons de_int da_nil)))) (de_callO (pe_kG c__law_draw gd (hr.mono (by decide)) (by rfl) (pa_cons (pv 0) (da_cons de_int da_nil)))) (fun _ _ => rfl))) da_nil))))))
      dss_nil))
    (dss_cons (ds_if (ps_if (dt_op2 s_eqU (pt_cmpR (op_eqU hr.units) (de_var (pv 1)) de_int (nomark _)))
      (dss_one (ds_expr (ps_expr (de_popo (pe_bm PySem.F.plainAttrs_list PySem.F.slot_list_pop PySem.F.type_list_pop mt_popAt (pv 5) (da_cons (de_var (pv 4)) da_nil))))))
      dss_nil))
    (dss_cons (ds_if (ps_if (dt_op2 s_eqU (pt_cmpR (op_eqU hr.units) (de_var (pv 1)) de_int (nomark _)))
      (dss_frz 5 (dss_one (ds_ret (ps_ret (de_tup (da_cons (de_opA s_tup (pe_callTy call_tuple_of (by rfl) m_tuple (by decide +kernel) (da_cons (de_var (pv 5)) da_nil))) (da_cons (de_var (pv 3)) da_nil)))))))
      dss_nil))
    (dss_frz 5 (dss_one (ds_ret (ps_ret (de_tup (da_cons (de_opA s_tup (pe_callTy call_tuple_of (by rfl) m_tuple (by decide +kernel) (da_cons (de_var (pv 5)) da_nil))) (da_cons (de_opA s_sum (pe_callB (cr_sumB rfl) (by rfl) m_sum (by decide +kernel) (da_cons (de_var (pv 5)) da_nil))) da_nil)))))))))))))))))
theorem ok__law_bent {f : Addr} {fd : FuncData} (F : FnP K "_law_bent" s__law_bent f fd) (m_dict : mg "dict" = none) (m_enumerate : mg "enumerate" = none) (m_list : mg "list" = none) (c__law_bent_numbers : CalG P w K mg base 3 "_law_bent_numbers" (spO K Ts LB.K06.F__law_bent_numbers)) (c__law_draw : CalG P w K mg base 1 "_law_draw" (spO K Ts LB.K08.F__law_draw)) (c__law_odd : CalG P w K mg base 2 "_law_odd" (spO K Ts LB.K06.F__law_odd)) :
    FnG P w K mg base CX0 4 f fd ["_law_pen_here", "_law_split_here"] (spO K Ts LB.K06.F__law_bent) :=
  fnO F sc__law_bent (by decide) fun cdv A outer s H E hcd gd hr =>
    (dss_cons (ds_set (ps_set (i := 2) sc__law_bent.nd rfl (.inl rfl) (de_callO (pe_kG c__law_draw gd (hr.mono (by decide)) (by rfl) (pa_cons (pv 0) (da_cons de_int da_nil))))))
    (dss_cons (ds_asg (ps_asg (de_var (pv 1)) (dg_tup rfl (dgs_cons (dg_name (pg_name (i := 3) sc__law_bent.nd rfl (.inl rfl))) (dgs_cons (dg_name (pg_name (i := 4) sc__law_bent.nd rfl (.inl rfl))) dgs_nil)))))
    (dss_cons (ds_if (ps_if (dt_op2 s_lt (pt_cmpR op_lt (de_var (pv 2)) de_int (nomark _)))
      (dss_one (ds_ret (ps_ret (de_callO (pe_kG c__law_bent_numbers gd (hr.mono (by decide)) (by rfl) (pa_cons (pv 0) (da_cons (de_var (pv 2)) (da_cons (de_var (pv 3)) (da_cons (de_var (pv 4)) da_nil)))))))))
      dss_nil))
    (dss_cons (ds_set (ps_set (i := 5) sc__law_bent.nd rfl (.inl rfl) (de_callO (pe_kG c__law_draw gd (hr.mono (by decide)) (by rfl) (pa_cons (pv 0) (da_cons de_int da_nil))))))
    (dss_cons (ds_if (ps_if (dt_op2 s_lt (pt_cmpR op_lt (de_var (pv 2)) de_int (nomark _)))
      (dss_one (ds_ret (ps_ret (de_tup (da_cons (de_var (pv 3)) (da_cons (de_op2 s_sub (pe_op op_sub (de_op2 s_addU (pe_op op_addU (de_var (pv 4)) de_int)) (de_op2 s_mulU (pe_op op_mulU de_int (de_op2 s_mod (pe_op op_modN (de_var (pv 5)) de_int)))))) da_nil))))))
      dss_nil))
    (dss_cons (ds_if (ps_if (dt_op2 s_lt (pt_cmpR op_lt (de_var (pv 2)) de_int (nomark _)))
      (dss_one (ds_ret (ps_ret (de_tup (da_cons (de_var (pv 3)) (da_cons (de_callO (pe_kG c__law_odd gd (hr.mono (by decide)) (by rfl) (pa_cons (pv 0) (da_cons (de_var (pv 4)) da_nil)))) da_nil))))))
      dss_nil))
    (dss_cons (ds_set (ps_set (i := 6) sc__law_bent.nd rfl (.inl rfl) (de_lst (da_cons (de_own (deo_opA s_list (pe_callTy call_list_of (by rfl) m_list (by decide +kernel) (da_cons (de_var (pv 1)) da_nil)))) (da_cons (de_tup (da_cons (de_own (deo_opA s_list (pe_callTy call_list_of (by rfl) m_list (by decide +kernel) (da_cons (de_var (pv 3)) da_nil)))) (da_cons (de_var (pv 4)) da_nil))) (da_cons (de_tup (da_cons (de_var (pv 3)) da_nil)) (da_cons (de_tup (da_cons (de_var (pv 3)) (da_cons (de_var (pv 4)) (da_cons (de_var (pv 4)) da_nil)))) (da_cons (de_tup (da_cons (de_var (pv 4)) (da_cons (de_var (pv 3)) da_nil))) (da_cons (de_var (pv 3)) da_nil)))))))))
    (dss_cons (ds_set (ps_set (i := 6) sc__law_bent.nd rfl (.inl rfl) (de_op2 s_addU (pe_op op_addU (de_var (pv 6)) (de_lst (da_cons (de_tup (da_cons (de_dictEn (pe_dictEn rfl (by rfl) m_dict (by rfl) m_enumerate (da_cons (de_var (pv 3)) da_nil))) (da_cons (de_var (pv 4)) da_nil))) (da_cons (de_dspT (pe_dispT (hu_of hr) (dk_da (de_var (pv 3))) (de_var (pv 4)))) da_nil)))))))
    (dss_cons (ds_if (ps_if (dt_op2 s_lt (pt_cmpR op_lt (de_var (pv 2)) de_int (nomark _)))
      (dss_one (ds_ret (ps_ret (de_op2 s_ixU (pe_ix ix_U (de_var (pv 6)) (de_var (pv 5)) (fun _ _ => rfl))))))
      dss_nil))
    (dss_one (ds_ret (ps_ret (de_op2 s_ixU (pe_ix ix_U (de_lst (da_cons de_non (da_cons de_int (da_cons de_bl (da_cons de_str (da_cons (de_tup da_nil) (da_cons (de_lst da_nil) (da_cons de_dict0 (da_cons (de_tup (da_cons (de_tup da_nil) (da_cons de_int da_nil))) da_nil))))))))) (de_var (pv 5)) (fun _ _ => rfl)))))))))))))))
theorem ok__law_is_split {f : Addr} {fd : FuncData} (F : FnP K "_law_is_split" s__law_is_split f fd) (m_bool : mg "bool" = none) (m_int : mg "int" = none) (m_isinstance : mg "isinstance" = none) (m_len : mg "len" = none) (m_sum : mg "sum" = none) (m_tuple : mg "tuple" = none) (c__law_measure : CalG P w K mg base 1 "_law_measure" (spP K Ts LB.K08.F__law_measure)) :
    FnG P w K mg base CX0 2 f fd ["_law_many_here", "_law_thing"] (spP K Ts LB.K06.F__law_is_split) :=
  fnP F sc__law_is_split (by decide) fun cdv A outer s H E hcd gd hr =>
    (dss_cons (ds_if (ps_if (PW.pt (dw_or (dt_not (pt_not (dt_val (pt_val (de_isi (T := "tuple") (by intro d; cases d <;> rfl) (pe_callB call_isi (by rfl) m_isinstance (by decide +kernel) (pa_cons (de_var (pv 1)) (pa_cons (pe_bltn (v := .ty "tuple") (by rfl) m_tuple (by decide +kernel) rfl) pa_nil)))))))) (dw_or (dt_op2 s_neU (pt_cmpR (op_neU hr.units) (de_opA (s_len.or s_lenS) (pe_callB (DL.CallR.or call_len_seq call_len_str) (by rfl) m_len (by decide +kernel) (da_cons (de_var (pv 1)) da_nil))) de_int (nomark _))) (dw_or (dt_not (pt_not (dt_val (pt_val (de_isi (T := "tuple") (by intro d; cases d <;> rfl) (pe_callB call_isi (by rfl) m_isinstance (by decide +kernel) (pa_cons (de_op2 s_ixU (pe_ix ix_U (de_var (pv 1)) de_int (fun _ _ => rfl))) (pa_cons (pe_bltn (v := .ty "tuple") (by rfl) m_tuple (by decide +kernel) rfl) pa_nil)))))))) (dw_or1 (dt_op2 s_neU (pt_cmpR (op_neU hr.units) (de_opA (s_len.or s_lenS) (pe_callB (DL.CallR.or call_len_seq call_len_str) (by rfl) m_len (by decide +kernel) (da_cons (de_op2 s_ixU (pe_ix ix_U (de_var (pv 1)) de_int (fun _ _ => rfl))) da_nil))) (de_var (pv 0)) (nomark _))))))))
      (dss_one (ds_ret (ps_ret de_bl)))
      dss_nil))
    (dss_cons (ds_for (ps_for PassesOwn.never rfl (di_U (di_list (pi_list (de_op2 s_addU (pe_op op_addU (de_op2 s_ixU (pe_ix ix_U (de_var (pv 1)) de_int (fun _ _ => rfl))) (de_tup (da_cons (de_op2 s_ixU (pe_ix ix_U (de_var (pv 1)) de_int (fun _ _ => rfl))) da_nil)))))) (di_tup (pi_tup (de_op2 s_addU (pe_op op_addU (de_op2 s_ixU (pe_ix ix_U (de_var (pv 1)) de_int (fun _ _ => rfl))) (de_tup (da_cons (de_op2 s_ixU (pe_ix ix_U (de_var (pv 1)) de_int (fun _ _ => rfl))) da_nil))))))) (dg_name (pg_name (i := 2) sc__law_is_split.nd rfl (.inl rfl)))
      (dss_one (ds_if (ps_if (PW.pt (dw_or (dt_not (pt_not (dt_val (pt_val (de_isi (T := "int") (by intro d; cases d <;> rfl) (pe_callB call_isi (by rfl) m_isinstance (by decide +kernel) (pa_cons (de_var (pv 2)) (pa_cons (pe_bltn (v := .ty "int") (by rfl) m_int (by decide +kernel) rfl) pa_nil)))))))) (dw_or (dt_val (pt_val (de_isi (T := "bool") (by intro d; cases d <;> rfl) (pe_callB call_isi (by rfl) m_isinstance (by decide +kernel) (pa_cons (de_var (pv 2)) (pa_cons (pe_bltn (v := .ty "bool") (by rfl) m_bool (by decide +kernel) rfl) pa_nil)))))) (dw_or1 (dt_op2 s_lt (pt_cmpR op_lt (de_var (pv 2)) de_int (nomark _)))))))
      (dss_one (ds_ret (ps_ret de_bl)))
      dss_nil)))))
    (dss_one (ds_ret (ps_ret (de_vand (pe_and (de_op2 s_eqU (pe_cmpR (op_eqU hr.units) (de_op2 s_ixU (pe_ix ix_U (de_var (pv 1)) de_int (fun _ _ => rfl))) (de_opA s_sum (pe_callB (cr_sumB rfl) (by rfl) m_sum (by decide +kernel) (da_cons (de_op2 s_ixU (pe_ix ix_U (de_var (pv 1)) de_int (fun _ _ => rfl))) da_nil))) (nomark _))) (pe_one (de_op2 s_eqU (pe_cmpR (op_eqU hr.units) (de_call (pe_kG c__law_measure gd (hr.mono (by decide)) (by rfl) (da_cons (de_op2 s_ixU (pe_ix ix_U (de_var (pv 1)) de_int (fun _ _ => rfl))) da_nil))) de_int (nomark _)))))))))))
theorem ok__law_right {f : Addr} {fd : FuncData} (F : FnP K "_law_right" s__law_right f fd) (m_bool : mg "bool" = none) (m_isinstance : mg "isinstance" = none) (m_repr : mg "repr" = none) (c__law_is_split : CalG P w K mg base 2 "_law_is_split" (spP K Ts LB.K06.F__law_is_split)) (c_is_split : CalG P w K mg base 7 "is_split" (spP K Ts LB.K15.F_is_split)) :
    FnG P w K mg base CX0 8 f fd ["_law_many_here", "_law_thing"] (spP K Ts LB.K06.F__law_right) :=
  fnP F sc__law_right (by decide) fun cdv A outer s H E hcd gd hr =>
    (dss_cons (ds_set (ps_set (i := 2) sc__law_right.nd rfl (.inl rfl) (de_opA s_reprY (pe_callB (call_reprY gd hr.units) (by rfl) m_repr (by decide +kernel) (da_cons (de_var (pv 1)) da_nil)))))
    (dss_cons (ds_set (ps_set (i := 3) sc__law_right.nd rfl (.inl rfl) (de_call (pe_kG c_is_split gd (hr.mono (by decide)) (by rfl) (da_cons (de_var (pv 0)) (da_cons (de_var (pv 1)) da_nil))))))
    (dss_one (ds_ret (ps_ret (de_vand (pe_and (de_isi (T := "bool") (by intro d; cases d <;> rfl) (pe_callB call_isi (by rfl) m_isinstance (by decide +kernel) (pa_cons (de_var (pv 3)) (pa_cons (pe_bltn (v := .ty "bool") (by rfl) m_bool (by decide +kernel) rfl) pa_nil)))) (de_vand (pe_and (de_op2 s_eqU (pe_cmpR (op_eqU hr.units) (de_var (pv 3)) (de_call (pe_kG c__law_is_split gd (hr.mono (by decide)) (by rfl) (da_cons (de_var (pv 0)) (da_cons (de_var (pv 1)) da_nil)))) (nomark _))) (pe_one (de_op2 s_eqU (pe_cmpR (op_eqU hr.units) (de_opA s_reprY (pe_callB (call_reprY gd hr.units) (by rfl) m_repr (by decide +kernel) (da_cons (de_var (pv 1)) da_nil))) (de_var (pv 2)) (nomark _)))))))))))))
theorem ok_law {f : Addr} {fd : FuncData} (F : FnP K "law" s_law f fd) (m_max : mg "max" = none) (m_min : mg "min" = none) (m_range : mg "range" = none) (c__law_bent : CalG P w K mg base 4 "_law_bent" (spO K Ts LB.K06.F__law_bent)) (c__law_many : CalG P w K mg base 2 "_law_many" (spO K Ts LB.K08.F__law_many)) (c__law_pen : CalG P w K mg base 1 "_law_pen" (spM K Ts LB.K08.F__law_pen)) (c__law_right : CalG P w K mg base 8 "_law_right" (spP K Ts LB.K06.F__law_right)) (c__law_split : CalG P w K mg base 4 "_law_split" (spO K Ts LB.K08.F__law_split)) (c_is_split : CalG P w K mg base 7 "is_split" (spP K Ts LB.K15.F_is_split)) :
    FnG P w K mg base CX0 9 f fd ["_law_script"] (spP K Ts LB.K06.F_law) :=
  fnP F sc_law (by decide) fun cdv A outer s H E hcd gd hr =>
    (dss_cons (ds_setM (ps_set (i := 1) sc_law.nd rfl (.inr rfl) (pe_kG c__law_pen gd (hr.mono (by decide)) (by rfl) (da_cons (de_var (pv 0)) da_nil))))
    (dss_cons (ds_for (ps_for PassesOwn.never rfl (di_rng (pi_range1 rfl m_range (da_cons de_int da_nil))) (dg_name (pg_name (i := 2) sc_law.nd rfl (.inl rfl)))
      (dss_cons (ds_set (ps_set (i := 3) sc_law.nd rfl (.inl rfl) (de_callO (pe_kG c__law_many gd (hr.mono (by decide)) (by rfl) (pa_cons (pv 1) da_nil)))))
    (dss_cons (ds_set (ps_set (i := 4) sc_law.nd rfl (.inr rfl) (de_callO (pe_kG c__law_split gd (hr.mono (by decide)) (by rfl) (pa_cons (pv 1) (da_cons (de_var (pv 3)) (da_cons de_int da_nil)))))))
    (dss_cons (ds_set (ps_set (i := 5) sc_law.nd rfl (.inl rfl) (de_op2 s_addU (pe_op op_addU (de_lst (da_cons (de_var (pv 4)) da_nil)) (de_own (deo_lc (by decide) (pe_lc (own := [("_law_k", 8)]) (g := tG _ Ts [8] (tgN 8)) (by rfl) sc_law.nd (di_rng (pi_range1 rfl m_range (da_cons de_int da_nil))) (blkOk_by (own := [("_law_k", 8)]) (N := N_law) (sc := defScope s_law) (by decide +kernel)) (fun _ _ _ _ _ => (dg_name (pg_name (i := 8) sc_law.nd rfl (.inl rfl)))) (fun _ _ _ _ _ => dts_nil) (fun _ _ _ _ _ => (de_callO (pe_kG c__law_bent gd (hr.mono (by decide)) (by rfl) (pa_cons (pv 1) (da_cons (de_var (pv 4)) da_nil))))))))))))
    (dss_cons (ds_for (ps_for PassesOwn.never rfl (di_U (di_list (pi_list (de_var (pv 5)))) (di_tup (pi_tup (de_var (pv 5))))) (dg_name (pg_name (i := 6) sc_law.nd rfl (.inl rfl)))
      (dss_one (ds_for (ps_for PassesOwn.never rfl (di_U (di_list (pi_list (de_lst (da_cons (de_var (pv 3)) (da_cons (de_opA s_min2 (pe_callB (call_min2 rfl) (by rfl) m_min (by decide +kernel) (da_cons de_int (da_cons (de_op2 s_addU (pe_op op_addU (de_var (pv 3)) de_int)) da_nil)))) (da_cons (de_opA s_max2 (pe_callB (call_max2 rfl) (by rfl) m_max (by decide +kernel) (da_cons de_int (da_cons (de_op2 s_sub (pe_op op_sub (de_var (pv 3)) de_int)) da_nil)))) da_nil)))))) (di_tup (pi_tup (de_lst (da_cons (de_var (pv 3)) (da_cons (de_opA s_min2 (pe_callB (call_min2 rfl) (by rfl) m_min (by decide +kernel) (da_cons de_int (da_cons (de_op2 s_addU (pe_op op_addU (de_var (pv 3)) de_int)) da_nil)))) (da_cons (de_opA s_max2 (pe_callB (call_max2 rfl) (by rfl) m_max (by decide +kernel) (da_cons de_int (da_cons (de_op2 s_sub (pe_op op_sub (de_var (pv 3)) de_int)) da_nil)))) da_nil))))))) (dg_name (pg_name (i := 7) sc_law.nd rfl (.inl rfl)))
      (dss_one (ds_if (ps_if (dt_not (pt_not (dt_val (pt_val (de_call (pe_kG c__law_right gd (hr.mono (by decide)) (by rfl) (da_cons (de_var (pv 7)) (da_cons (de_var (pv 6)) da_nil))))))))
      (dss_one (ds_ret (ps_ret de_bl)))
      dss_nil))))))))
    (dss_one (ds_if (ps_if (dt_op2 s_isnot (pt_cmpR op_notB (de_call (pe_kG c_is_split gd (hr.mono (by decide)) (by rfl) (da_cons (de_var (pv 3)) (da_cons (de_var (pv 4)) da_nil)))) de_bl (nomark _)))
      (dss_one (ds_ret (ps_ret de_bl)))
      dss_nil)))))))))
    (dss_one (ds_ret (ps_ret (de_vand (pe_and (de_op2 s_is (pe_cmpR op_isB (de_call (pe_kG c_is_split gd (hr.mono (by decide)) (by rfl) (da_cons de_int (da_cons (de_tup (da_cons (de_tup (da_cons de_int da_nil)) (da_cons de_int da_nil))) da_nil)))) de_bl (nomark _))) (de_vand (pe_and (de_op2 s_is (pe_cmpR op_isB (de_call (pe_kG c_is_split gd (hr.mono (by decide)) (by rfl) (da_cons de_int (da_cons (de_tup (da_cons (de_tup (da_cons de_int da_nil)) (da_cons de_int da_nil))) da_nil)))) de_bl (nomark _))) (pe_one (de_op2 s_is (pe_cmpR op_isB (de_call (pe_kG c_is_split gd (hr.mono (by decide)) (by rfl) (da_cons de_int (da_cons (de_tup (da_cons (de_tup (da_cons de_int (da_cons de_int da_nil))) (da_cons de_int da_nil))) da_nil)))) de_bl (nomark _)))))))))))))
end
end K06
set_option Elab.async false
set_option linter.all false
set_option maxRecDepth 100000
set_option maxHeartbeats 0
set_option exponentiation.threshold 10000
namespace K06
open PySem PySem.Spec PyProof.Rows L2 GL DL
def dd (x : Str) (st : Stmt) : He.DefD := ⟨(x, none), x, x, defArgs st, defBody st, defScope st, [], []⟩
def fn : List He.DefD := [dd "_law_pen" s__law_pen, dd "_law_draw" s__law_draw, dd "_law_many" s__law_many, dd "_law_great" s__law_great, dd "_law_numbers" s__law_numbers, dd "_law_measure" s__law_measure, dd "_law_split" s__law_split, dd "common_divisor" s_common_divisor, dd "common_divisor_of_all" s_common_divisor_of_all, dd "is_whole" s_is_whole, dd "are_wholes" s_are_wholes, dd "is_split" s_is_split, dd "_law_odd" s__law_odd, dd "_law_bent_numbers" s__law_bent_numbers, dd "_law_bent" s__law_bent, dd "_law_is_split" s__law_is_split, dd "_law_right" s__law_right, dd "law" s_law]
def fa : List He.Fa := [.glo "_law_pen", .glo "_law_draw", .glo "_law_many", .glo "_law_great", .glo "_law_numbers", .glo "_law_measure", .glo "_law_split", .glo "common_divisor", .glo "common_divisor_of_all", .glo "is_whole", .glo "are_wholes", .glo "is_split", .glo "_law_odd", .glo "_law_bent_numbers", .glo "_law_bent", .glo "_law_is_split", .glo "_law_right", .glo "law",
  .free "abs", .free "len", .free "range", .free "int", .free "sum", .free "tuple", .free "bool", .free "isinstance", .free "all", .free "any", .free "str", .free "list", .free "dict", .free "enumerate", .free "repr", .free "max", .free "min"]
def names : List PySem.Str := "_law_pen" :: "_law_draw" :: "_law_many" :: "_law_great" :: "_law_numbers" :: "_law_measure" :: "_law_split" :: "common_divisor" :: "common_divisor_of_all" :: "is_whole" :: "are_wholes" :: "is_split" :: "_law_odd" :: "_law_bent_numbers" :: "_law_bent" :: "_law_is_split" :: "_law_right" :: []
def gsN : List PySem.Str := "are_wholes" :: "is_split" :: []
def lsN : List PySem.Str := []
abbrev R : PySem.W.OpenRow := PySem.W.OpenLaw.row PySem.Challenge.rw_leapranks_k06_what_is_a_split
abbrev hk : PySem.W.Hook := He.hookX 3 fa fn [] [("are_wholes", none), ("is_split", none)] (fun K => DL.apartB gsN lsN K)
def ob (s : PySem.W.SharedT) : He.AlX := He.obsX 3 fa fn [] [("are_wholes", none), ("is_split", none)] (fun K => DL.apartB gsN lsN K) (HandSHeadRun.getT s)
theorem ob_eq (s : PySem.W.SharedT) : ob s = hk.obs s.abs := He.obsX_eq (HandSHeadRun.getT_eq s)
theorem run (w : World) : HandSHeadRun.RunEq R (PySem.W.view R.prog [20]) hk ob 2000 names w := by
  intro os
  kernel_rfl
end K06
set_option Elab.async false
set_option linter.all false
set_option maxRecDepth 100000
set_option maxHeartbeats 0
set_option exponentiation.threshold 10000
set_option pp.maxSteps 300
set_option pp.deepTerms false
namespace K06
open PySem PySem.Spec PyProof.Rows L2 GL DL
theorem code_of {K : PySem.W.Frag} {x : Str} {st : Stmt} {fd : FuncData} (F : FnP K x st (He.fAd K (x, none)) fd) : fd.code = .ref (He.codeOf K (x, none)) := by
  obtain ⟨oc, od, dV, kV, doc, pm, an, cdv, ct, osl, e, lk, hcd, _, _⟩ := F.ex
  obtain ⟨c, rfl⟩ := He.codeIn_ref hcd
  have e1 : fd.code = .ref c := by rw [e]
  rw [He.codeOf_eq lk e1, e1]
theorem facts {P : Program} {w : World} {K : PySem.W.Frag} {h : Heap} {mg : Str → Option Value} {f : Addr} (X : K.In h) (G : h.Ns mainGlobals mg) (hfa : mg ("law" : Str) = some (.ref f))
    (c : He.SaysX fa fn [] [("are_wholes", none), ("is_split", none)] (fun K => DL.apartB gsN lsN K) w h K) : LawG P w K 9 63 "_law_script" mg f h := by
  have cd := c.t.d
  obtain ⟨d0, F0⟩ := cd.def_ 0 (d := dd "_law_pen" s__law_pen) rfl
  obtain ⟨d1, F1⟩ := cd.def_ 1 (d := dd "_law_draw" s__law_draw) rfl
  obtain ⟨d2, F2⟩ := cd.def_ 2 (d := dd "_law_many" s__law_many) rfl
  obtain ⟨d3, F3⟩ := cd.def_ 3 (d := dd "_law_great" s__law_great) rfl
  obtain ⟨d4, F4⟩ := cd.def_ 4 (d := dd "_law_numbers" s__law_numbers) rfl
  obtain ⟨d5, F5⟩ := cd.def_ 5 (d := dd "_law_measure" s__law_measure) rfl
  obtain ⟨d6, F6⟩ := cd.def_ 6 (d := dd "_law_split" s__law_split) rfl
  obtain ⟨d7, F7⟩ := cd.def_ 7 (d := dd "common_divisor" s_common_divisor) rfl
  obtain ⟨d8, F8⟩ := cd.def_ 8 (d := dd "common_divisor_of_all" s_common_divisor_of_all) rfl
  obtain ⟨d9, F9⟩ := cd.def_ 9 (d := dd "is_whole" s_is_whole) rfl
  obtain ⟨d10, F10⟩ := cd.def_ 10 (d := dd "are_wholes" s_are_wholes) rfl
  obtain ⟨d11, F11⟩ := cd.def_ 11 (d := dd "is_split" s_is_split) rfl
  obtain ⟨d12, F12⟩ := cd.def_ 12 (d := dd "_law_odd" s__law_odd) rfl
  obtain ⟨d13, F13⟩ := cd.def_ 13 (d := dd "_law_bent_numbers" s__law_bent_numbers) rfl
  obtain ⟨d14, F14⟩ := cd.def_ 14 (d := dd "_law_bent" s__law_bent) rfl
  obtain ⟨d15, F15⟩ := cd.def_ 15 (d := dd "_law_is_split" s__law_is_split) rfl
  obtain ⟨d16, F16⟩ := cd.def_ 16 (d := dd "_law_right" s__law_right) rfl
  obtain ⟨d17, F17⟩ := cd.def_ 17 (d := dd "law" s_law) rfl
  have g : ∀ (i : Nat) {x : Str}, fa[i]? = some (.glo x) → mg x = some (.ref (He.ga K x)) := fun i x hi => He.glo_ok X G (cd.fact i (f := .glo x) hi)
  have z : ∀ (i : Nat) {x : Str}, fa[i]? = some (.free x) → mg x = none := fun i x hi => He.free_ok X G (cd.fact i (f := .free x) hi)
  have e := hfa.symm.trans (g 17 (x := "law") rfl)
  cases e
  have b := FunD.bindsA (ps := ["_law_script"]) F17 fun _ _ _ _ _ _ us hl => match us, hl with | [_], _ => rfl
  have mem0 : (("are_wholes", none) : He.Defn) ∈ ([("are_wholes", none), ("is_split", none)] : List He.Defn) := List.mem_cons_self
  have mem1 : (("is_split", none) : He.Defn) ∈ ([("are_wholes", none), ("is_split", none)] : List He.Defn) := (List.mem_cons_of_mem _ List.mem_cons_self)
  refine ⟨d17, [He.cT K ("are_wholes", none), He.cT K ("is_split", none)], (spP K (DL.tbsOf K gsN lsN c.more) LB.K06.F_law), ?_, fun s v => b s [v] rfl, ?_, ?_⟩
  · intro p hp
    rcases List.mem_cons.mp hp with e | hp
    · rw [e]
      exact ⟨c.empty _ mem0, c.out _ mem0, c.hd _ mem0⟩
    · rw [List.mem_singleton.mp hp]
      exact ⟨c.empty _ mem1, c.out _ mem1, c.hd _ mem1⟩
  · intro H a ns hl hT hS
    have tb : DL.Tabd (DL.tbsOf K gsN lsN c.more) H := DL.tabd_of fun x hx => by
      rcases List.mem_cons.mp hx with e | hx
      · rw [e]; exact hT _ (List.mem_cons_self)
      rw [List.mem_singleton.mp hx]; exact hT _ ((List.mem_cons_of_mem _ List.mem_cons_self))
    exact ⟨[], [.list (ns.map PyData.int)], .ok (.bool true), fun _ z => (nomatch z), fun _ z => (nomatch z), tb, .cons (.lst (by rw [DL.hide_nil]; exact hS) (DL.drs_ints ns)) .nil, LB.K06.law_true hl, fun H1 g1 => ⟨fun d e v dr => by cases e; cases dr; rfl, fun x e => by cases e⟩⟩
  · intro base inB nsB TB
    have c0 : CalG P w K mg base 1 "_law_pen" (spM K (DL.tbsOf K gsN lsN c.more) LB.K08.F__law_pen) := ⟨_, _, _, ok__law_pen F0 , g 0 rfl, F0.kp, F0.bindsN fun _ _ _ _ _ _ us hl => match us, hl with | [_], _ => rfl⟩
    have c1 : CalG P w K mg base 1 "_law_draw" (spO K (DL.tbsOf K gsN lsN c.more) LB.K08.F__law_draw) := ⟨_, _, _, ok__law_draw F1 (z 18 rfl) (z 19 rfl), g 1 rfl, F1.kp, F1.bindsN fun _ _ _ _ _ _ us hl => match us, hl with | [_, _], _ => rfl⟩
    have c2 : CalG P w K mg base 2 "_law_many" (spO K (DL.tbsOf K gsN lsN c.more) LB.K08.F__law_many) := ⟨_, _, _, ok__law_many F2 c1, g 2 rfl, F2.kp, F2.bindsN fun _ _ _ _ _ _ us hl => match us, hl with | [_], _ => rfl⟩
    have c3 : CalG P w K mg base 2 "_law_great" (spO K (DL.tbsOf K gsN lsN c.more) LB.K08.F__law_great) := ⟨_, _, _, ok__law_great F3 (z 20 rfl) c1, g 3 rfl, F3.kp, F3.bindsN fun _ _ _ _ _ _ us hl => match us, hl with | [_, _], _ => rfl⟩
    have c4 : CalG P w K mg base 3 "_law_numbers" (spO K (DL.tbsOf K gsN lsN c.more) LB.K08.F__law_numbers) := ⟨_, _, _, ok__law_numbers F4 (z 21 rfl) (z 20 rfl) (z 22 rfl) c1 c3, g 4 rfl, F4.kp, F4.bindsN fun _ _ _ _ _ _ us hl => match us, hl with | [_, _, _], _ => rfl⟩
    have c5 : CalG P w K mg base 1 "_law_measure" (spP K (DL.tbsOf K gsN lsN c.more) LB.K08.F__law_measure) := ⟨_, _, _, ok__law_measure F5 , g 5 rfl, F5.kp, F5.bindsN fun _ _ _ _ _ _ us hl => match us, hl with | [_], _ => rfl⟩
    have c6 : CalG P w K mg base 4 "_law_split" (spO K (DL.tbsOf K gsN lsN c.more) LB.K08.F__law_split) := ⟨_, _, _, ok__law_split F6 (z 22 rfl) (z 23 rfl) c5 c4, g 6 rfl, F6.kp, F6.bindsN fun _ _ _ _ _ _ us hl => match us, hl with | [_, _, _], _ => rfl⟩
    have c7 : CalG P w K mg base 1 "common_divisor" (spP K (DL.tbsOf K gsN lsN c.more) LB.K29.F_common_divisor) := ⟨_, _, _, ok_common_divisor F7 (z 18 rfl), g 7 rfl, F7.kp, F7.bindsN fun _ _ _ _ _ _ us hl => match us, hl with | [_, _], _ => rfl⟩
    have c8 : CalG P w K mg base 2 "common_divisor_of_all" (spP K (DL.tbsOf K gsN lsN c.more) LB.K12.F_common_divisor_of_all) := ⟨_, _, _, ok_common_divisor_of_all F8 c7, g 8 rfl, F8.kp, F8.bindsN fun _ _ _ _ _ _ us hl => match us, hl with | [_], _ => rfl⟩
    have c9 : CalG P w K mg base 1 "is_whole" (spP K (DL.tbsOf K gsN lsN c.more) LB.F_is_whole) := ⟨_, _, _, ok_is_whole F9 (z 24 rfl) (z 21 rfl) (z 25 rfl), g 9 rfl, F9.kp, F9.bindsN fun _ _ _ _ _ _ us hl => match us, hl with | [_], _ => rfl⟩
    have c10 : CalG P w K mg base 6 "are_wholes" (spP K (DL.tbsOf K gsN lsN c.more) LB.F_are_wholes) := ⟨_, _, _, ok_are_wholes F10 (code_of (st := s_are_wholes) F10) (TB _ (List.mem_cons_self)) (DL.mem_gs List.mem_cons_self) (z 26 rfl) (z 25 rfl) (z 19 rfl) (z 23 rfl) c9, g 10 rfl, F10.kp, F10.bindsN fun _ _ _ _ _ _ us hl => match us, hl with | [_, _], _ => rfl⟩
    have c11 : CalG P w K mg base 7 "is_split" (spP K (DL.tbsOf K gsN lsN c.more) LB.K15.F_is_split) := ⟨_, _, _, ok_is_split F11 (code_of (st := s_is_split) F11) (TB _ ((List.mem_cons_of_mem _ List.mem_cons_self))) (DL.mem_gs (List.mem_cons_of_mem _ List.mem_cons_self)) (z 27 rfl) (z 25 rfl) (z 19 rfl) (z 22 rfl) (z 23 rfl) c10 c8 c9, g 11 rfl, F11.kp, F11.bindsN fun _ _ _ _ _ _ us hl => match us, hl with | [_, _], _ => rfl⟩
    have c12 : CalG P w K mg base 2 "_law_odd" (spO K (DL.tbsOf K gsN lsN c.more) LB.K06.F__law_odd) := ⟨_, _, _, ok__law_odd F12 (z 28 rfl) c1, g 12 rfl, F12.kp, F12.bindsN fun _ _ _ _ _ _ us hl => match us, hl with | [_, _], _ => rfl⟩
    have c13 : CalG P w K mg base 3 "_law_bent_numbers" (spO K (DL.tbsOf K gsN lsN c.more) LB.K06.F__law_bent_numbers) := ⟨_, _, _, ok__law_bent_numbers F13 (z 19 rfl) (z 29 rfl) (z 22 rfl) (z 23 rfl) c1 c12, g 13 rfl, F13.kp, F13.bindsN fun _ _ _ _ _ _ us hl => match us, hl with | [_, _, _, _], _ => rfl⟩
    have c14 : CalG P w K mg base 4 "_law_bent" (spO K (DL.tbsOf K gsN lsN c.more) LB.K06.F__law_bent) := ⟨_, _, _, ok__law_bent F14 (z 30 rfl) (z 31 rfl) (z 29 rfl) c13 c1 c12, g 14 rfl, F14.kp, F14.bindsN fun _ _ _ _ _ _ us hl => match us, hl with | [_, _], _ => rfl⟩
    have c15 : CalG P w K mg base 2 "_law_is_split" (spP K (DL.tbsOf K gsN lsN c.more) LB.K06.F__law_is_split) := ⟨_, _, _, ok__law_is_split F15 (z 24 rfl) (z 21 rfl) (z 25 rfl) (z 19 rfl) (z 22 rfl) (z 23 rfl) c5, g 15 rfl, F15.kp, F15.bindsN fun _ _ _ _ _ _ us hl => match us, hl with | [_, _], _ => rfl⟩
    have c16 : CalG P w K mg base 8 "_law_right" (spP K (DL.tbsOf K gsN lsN c.more) LB.K06.F__law_right) := ⟨_, _, _, ok__law_right F16 (z 24 rfl) (z 25 rfl) (z 32 rfl) c15 c11, g 16 rfl, F16.kp, F16.bindsN fun _ _ _ _ _ _ us hl => match us, hl with | [_, _], _ => rfl⟩
    exact ok_law F17 (z 33 rfl) (z 34 rfl) (z 20 rfl) c14 c2 c0 c16 c6 c11
end K06
open PySem PySem.W PySem.Calls PyProof.Rows
theorem PySem.Challenge.cw_leapranks_k06_what_is_a_split_holds : PySem.Challenge.rw_leapranks_k06_what_is_a_split.Holds := by
  w_on; o_law
  refine HandSHeadRun.head_any (r := OpenLaw.row PySem.Challenge.rw_leapranks_k06_what_is_a_split) (q := view (OpenLaw.row PySem.Challenge.rw_leapranks_k06_what_is_a_split).prog [20]) (H := K06.hk) (ob := K06.ob) (M := 2000) (loose := K06.names) (d := HandSHeadRun.topDef (OpenLaw.row PySem.Challenge.rw_leapranks_k06_what_is_a_split).prog 20) (kwd := []) K06.ob_eq
    (by kernel_rfl) (fun s => by kernel_rfl) K06.run (by kernel_rfl) (by kernel_rfl) (by kernel_rfl) (by rfl) (by first | assumption | decide +kernel) (by decide +kernel) ⟨rfl, rfl, rfl, rfl, rfl, by decide +kernel⟩ ?hw ?hc
  case hw => w_witness2
  case hc =>
    refine GL.walk_G (l := PySem.Challenge.rw_leapranks_k06_what_is_a_split) (n := 63) (k := 9) (x := "_law_script") rfl (by decide) (by kernel_rfl) ⟨rfl, by decide, by decide⟩ ?F
    intro w mg fa h Y G hmg0
    obtain ⟨K, KX, c⟩ := Y
    have hmg : mg ("law" : PySem.Str) = some (.ref fa) := by
      have e : (HandSHeadRun.topDef (OpenLaw.row PySem.Challenge.rw_leapranks_k06_what_is_a_split).prog 20).name = ("law" : PySem.Str) := by kernel_rfl
      rw [← e]
      exact hmg0
    exact ⟨K, KX, K06.facts KX G hmg c⟩

