import PyProof.Rows.All
import Wide.All
import OpenK.AllK
import Wide.FinOn
import HandS.ForMost
import HandS.IsInst
import HandS.Rev
import PyProof.ReprRoads
import PyProof.CallFns
import HandS.EndBits
import HandS.Zip0
import HandS.Walk
import PyProof.Draws
import HandS.More
import HandS.WrittenGet
import HandS.Defaults
import HandS.Wide
import HandS.Conv
import HandS.TupAny
import HandS.Codes
import PyProof.ReprBulk
import HandS.Style
import HandS.NoneIn
import HandS.SortInts
import HandS.RaiseMore
import HandS.Dict
import PyProof.Rows.ReprOcc
import HandS.SetFor
import HandS.SetBool
import HandS.Strs
import HandS.Flow
import HandS.Gcd
import HandS.Zip
import KE.KDictZip
import HandS.TupMul
import KE.DataMinMax
import HandS.SortKw
import HandS.FStr
import KE.KxField
import KE.KDictCopyH
import PySem.Challenge.RW_ringorders_k15_whole_rings_and_answers
set_option Elab.async false
set_option linter.all false
set_option maxRecDepth 100000
set_option maxHeartbeats 4000000
/-! Ringorders, the ground: promises of defs around which no repr runs, calls by keywords alone, repr of data. -/
namespace RO
open PySem PySem.Spec PyProof.Rows L2

/-- what a def keeps where nothing guards a repr around it -/
structure GOk (P : Program) (w : World) (K : PySem.W.Frag) (mg : Str → Option Value) (base : Heap) (CX : CXT) (k : Nat) (f : Addr) (fd : FuncData) (ps : List Str) (sp : Sp) : Prop where
  many : ∀ vs H Q E, sp vs H Q E → vs.length = ps.length
  runs : ∀ (A : Around) (out : List Env) (s : Shared) (H : Hp) (as : Args) (us : List Value) (vs : List V) (Q : VK) (E : XK),
    Room k A → A.guards = some [] → Env0 P w K mg base A out s H → BindsTo s fd as (ps.zip us) → Vals vs us → sp vs H Q E →
      codeAny (model P w) A (.call (.ref f) as) (CR CX out P w H s Q E) s

section
variable {P : Program} {w : World} {K : PySem.W.Frag} {mg : Str → Option Value} {base : Heap}

theorem GOk.of {CX : CXT} {k : Nat} {f : Addr} {fd : FuncData} {ps : List Str} {sp : Sp} (F : FnOk P w K mg base CX k f fd ps sp) : GOk P w K mg base CX k f fd ps sp :=
  { many := F.len
    runs := fun A out s H as us vs Q E hr _ => F.run A out s H as us vs Q E hr }
theorem GOk.up {CX : CXT} {j k : Nat} {f : Addr} {fd : FuncData} {ps : List Str} {sp : Sp} (F : GOk P w K mg base CX j f fd ps sp) (h : j ≤ k) : GOk P w K mg base CX k f fd ps sp :=
  { many := F.many
    runs := fun A out s H as us vs Q E hr => F.runs A out s H as us vs Q E (Room.mono hr h) }

/-- a def by its body, nothing guarding a repr -/
theorem GOk.body {x qual : Str} {st : Stmt} {f : Addr} {fd : FuncData} {N ps : List Str} {k : Nat} {sp : Sp} (F : Fun K x qual st f fd) (S : FnScope N ps (defScope st))
    (many : ∀ vs H Q E, sp vs H Q E → vs.length = ps.length)
    (hb : ∀ (cdv : Value) (A : Around) (out : List Env) (s : Shared) (H : Hp) (vs : List V) (Q : VK) (E : XK),
      Room k (A.deeper (envOfC qual (defScope st) s.heap.objs.size f cdv)) → A.guards = some [] → sp vs H Q E →
        ∃ t, PSs (cxOf CX0 P w K mg base N qual (defScope st) f cdv A out s H E).nox (defBody st) t ∧ t { nx := fun _ H' => Q .non H', rt := Q } (start N vs) H) :
    GOk P w K mg base CX0 (k + 1) f fd ps sp := by
  obtain ⟨oc, od, kV, doc, pm, an, cdv, ct, osl, e, lk, hcd⟩ := F.ex
  subst e
  constructor
  · exact many
  · intro A out s H as us vs Q E hr hG e0 hbd r hsp
    have h0 := many _ _ _ _ hsp
    have old : ∀ b o, base.get? b = some o → s.heap.get? b = some o := fun b o z => (e0.bs b o z).1
    have hK : K.In s.heap := e0.mod.kin.keeps old
    have hL : s.heap.NoLimit := e0.mod.nolimit.keeps old
    have kinds : ∀ y ∈ ps.zip us, (defScope st).names.lookup y.1 = some .local ∨
        ((defScope st).names.lookup y.1 = some .cell ∧ ((cellsFrom (s.heap.objs.size + 1) (defScope st).names []).lookup y.1).isSome = true) := by
      intro y hy
      cases S.par y.1 (List.of_mem_zip (show (y.1, y.2) ∈ ps.zip us from hy)).1 with
      | inl z => exact Or.inl z
      | inr z => exact Or.inr ⟨z, PySem.W.cellsFrom_some _ _ _ (Or.inl z)⟩
    apply codeAny_call_function hr.depth (hK _ _ lk) rfl S.co S.gen rfl (PySem.W.codeRec_of hK hcd)
    apply hbd
    apply wpAny_newFunctionEnv_cells S.kind kinds
    intro env he s1 x
    subst he
    refine ⟨hL.keeps x.toInCall.keep, codeAny_func ?_⟩
    obtain ⟨t, ht, hq⟩ := hb cdv A out s H vs Q E (hr.deeper _) hG hsp
    have J0 := inv_start (E := E) S hr.hd e0 h0 r x (CX := CX0)
    have done : ∀ {σ' : L2.St} {H' : Hp} {v : V} {u : Value} {s' : Shared}, Inv (cxOf CX0 P w K mg base N qual (defScope st) f cdv A out s H E) [] σ' H' s' → RelV v u → Q v H' → CE out P w H s Q u s' :=
      fun {σ' H' v u s'} J rv q => ⟨v, H', J.os, J.bare, J.base, J.hok, rv, q⟩
    apply wpAny_mono (ht.nox.run [] s1 (start N vs) H _ J0 hq)
    · intro fl s' hs
      match fl, hs with
      | .ret u, ⟨v, σ', H', J, rv, q⟩ => exact done J rv q
      | .next, ⟨σ', H', J, q⟩ => exact done (v := V.non) (u := Value.none) J rfl q
      | .brk, ⟨_, _, _, q⟩ => exact q.elim
      | .cont, ⟨_, _, _, q⟩ => exact q.elim
    · exact fun _ _ hs => hs
end

section
variable {X : Cx} {CX : CXT} {k : Nat} {f C : Addr} {fd : FuncData} {ps ks : List Str} {sp : Sp} {dvs : List V} {ds : List Value} {E : XK} {x m : Str} {p pos : Pos} {e o : Expr} {es : List Expr} {kws : List Keyword} {te ta : TE} {t tk : TA}

theorem GOk.goes {pins : List (Addr × Obj)} {σ : L2.St} {H : Hp} {s : Shared} {Q : VK} {as : Args} {us : List Value} {vs : List V} (F : GOk X.prog X.w X.K X.mg X.base CX k f fd ps sp) (hr : Room k X.A) (hG : X.A.guards = some []) (hx : Passes CX X E)
    (hb : BindsTo s fd as (ps.zip us)) (I : Inv X pins σ H s) (r : Vals vs us) (h : sp vs H Q E) : codeAny (model X.prog X.w) X.A (.call (.ref f) as) (fun r s' => match r with | .ok (.ret u) => EP X pins σ Q u s' | .ok _ => False | .error e => X.xe e s') s := by
  apply codeAny_mono (F.runs X.A X.stack s H as us vs Q E hr hG I.env0 hb r h)
  intro r s' hq
  match r, hq with
  | .error e, hq => exact hx pins σ H s e s' I hq
  | .ok (.ret u), hq => exact I.after hq
  | .ok .next, hq => exact hq.elim
  | .ok .brk, hq => exact hq.elim
  | .ok .cont, hq => exact hq.elim

/-- f(e, ..) where f keeps its promise if no repr is guarded -/
theorem pe_callG (F : GOk X.prog X.w X.K X.mg X.base CX k f fd ps sp) (hr : Room k X.A) (hG : X.A.guards = some []) (hg : Gl X x) (hm : X.mg x = some (.ref f)) (hk : PySem.W.keepIn X.K (.ref f) = true) (hb : Binds X.K fd ps ds) (hd : Vals dvs ds) (hx : Passes CX X E)
    (ha : PA X (e :: es) t) (hdb : (x == ("__debug__" : Str)) = false := by decide) (he : starEach (e :: es) X.env = (false, eval e X.env) :: starEach es X.env := by rfl)
    (hpl : (backTo pos (starEach es X.env)).any (·.1) = false := by rfl) : PE X (.Call (.Name x p) (e :: es) [] pos) (tCall sp dvs E t) := by
  constructor
  intro pins s σ H Q I h
  apply wpAny_Call_Name_kw
  apply ld_glob I hg hm _ hdb
  apply PySem.W.callWith_K (h₀ := X.base) I.ok.mod.kin hk _ he hpl
  apply thn (ha.run pos pins s σ H _ I h)
  rintro us s1 ⟨vs, H1, I1, r, q⟩
  refine ⟨I1.kIn, ?_⟩
  have r2 : Vals (vs ++ dvs) (us ++ ds) := r.append hd
  have hl : (us ++ ds).length = ps.length := r2.length.symm.trans (F.many _ _ _ _ q)
  show wpAny _ _ (call (.ref f) us) _ _ s1
  exact wpAny_call (codeAny_mono (F.goes hr hG hx (hb s1 us I1.kIn hl) I1 r2 q) fun r s' hq => by
    match r, hq with
    | .error e, hq => exact hq
    | .ok (.ret u), hq => exact hq)

/-- f(k = v, ..), nothing by place -/
theorem pe_callK0 {g : List Value → List Value → List Value} {gV : List V → List V → List V} (F : FnOk X.prog X.w X.K X.mg X.base CX k f fd ps sp) (hr : Room k X.A) (hg : Gl X x) (hm : X.mg x = some (.ref f)) (hk : PySem.W.keepIn X.K (.ref f) = true)
    (hb : KBinds X.K fd ps ks g gV) (hx : Passes CX X E) (hkw : PK X kws tk) (hall : (backToKw pos (keywordEach kws X.env)).all (·.1.isSome) = true := by rfl) (hks : (backToKw pos (keywordEach kws X.env)).filterMap (·.1) = ks := by rfl)
    (hdb : (x == ("__debug__" : Str)) = false := by decide)
    (hpl : ((backTo pos (starEach [] X.env)).any (·.1) || (backToKw pos (keywordEach kws X.env)).any (·.1.isNone)) = false := by rfl) :
    PE X (.Call (.Name x p) [] kws pos) (tCallK sp gV E tNil tk) := by
  constructor
  intro pins s σ H Q I h
  apply wpAny_Call_Name_kw
  apply ld_glob I hg hm _ hdb
  apply PySem.W.callWith_KW0 (h₀ := X.base) I.ok.mod.kin hk hall _ hpl
  apply thn (hkw.run pos pins s σ H _ I h)
  rintro ws s1 ⟨zs, H1, I1, rz, q⟩
  refine ⟨I1.kIn, ?_⟩
  rw [hks]
  exact run_fnk (us := []) F hr hb hx I1 .nil rz q

/-! ### repr -/
/-- repr of data -/
def rRepr (K : PySem.W.Frag) : List V → Hp → VK → Prop := fun xs H Q => ∃ v d, xs = [v] ∧ Dp K H v d ∧ PyData.showable d = true ∧ d.hasDict = false ∧ d.depth ≤ 40 ∧ d.shown.length ≤ sizeLine ∧ Q (.str d.shown) H
theorem call_repr (hG : X.A.guards = some []) (hu : X.A.units + 64 < cLine) : CallR X (.builtin "repr") (rRepr X.K) := by
  intro pins s σ H xs us Q I r h
  obtain ⟨v, d, rfl, hd, hs, hn, h40, hz, q⟩ := h
  obtain ⟨u, rfl, ru⟩ := vals1 r
  have fin : ∀ (h' : Heap) (tk : Nat) (u : Tok), (∀ b o, s.heap.get? b = some o → h'.get? b = some o) → EP X pins σ Q (.str d.shown u) { s with heap := h', toks := tk } :=
    fun h' tk u hk => ⟨.str d.shown, H, I.un (Un.kept hk) (I.hok.kept hk), ⟨u, rfl⟩, q⟩
  obtain ⟨as, rd⟩ := Dp.reads I d v u hd ru
  cases hd with
  | non =>
    cases ru
    exact P.repr_of_none (fin s.heap _ _ fun _ _ z => z)
  | bl b =>
    cases ru
    refine P.repr_of_bool ?_
    have z := fin s.heap (s.toks + 1) s.toks fun _ _ z => z
    cases b <;> exact z
  | int i =>
    obtain ⟨t, rfl⟩ := ru
    refine P.repr_of_int ?_ ?_
    · simpa [PyData.showable] using hs
    · have z := fin s.heap (s.toks + 1) s.toks fun _ _ z => z
      simpa [PyData.shown] using z
  | str x =>
    obtain ⟨t, rfl⟩ := ru
    have z := fin s.heap (s.toks + 1) s.toks fun _ _ z => z
    simp only [PyData.shown_str] at z hz
    exact P.repr_of_str z hz
  | lst h1 h2 =>
    cases ru
    exact repr_of_reads' rd hs (PyData.noDict_hsm hn) hG (by omega) (fun _ _ z => z) (fun h' u tk hk => fin h' tk u hk) hz
  | tup h1 h2 =>
    cases ru
    exact repr_of_reads' rd hs (PyData.noDict_hsm hn) hG (by omega) (fun _ _ z => z) (fun h' u tk hk => fin h' tk u hk) hz
end
end RO

namespace RO
open PySem PySem.Spec PyProof.Rows L2

/-- the abstract heap at the law's entry: the script alone, locked, where the text itself doesn't hold it -/
def scriptH (K : PySem.W.Frag) (a : Addr) (o : Obj) (ns : List Int) : Hp := fun b => if b = a ∧ K.lookup a = none then some (.frz o (.lst (ns.map V.int))) else none

/-- the law's def is called as TURN's statement calls it -/
theorem law_runs {P : Program} {w : World} {K : PySem.W.Frag} {mg mb : Str → Option Value} {k : Nat} {fa a : Addr} {fd : FuncData} {x : Str} {sp : Sp} {s1 : Shared} {vs : List Value} {ns : List Int}
    (hK : K.In s1.heap) (hm : s1.heap.Ns mainGlobals mg) (hb : s1.heap.Ns builtinsNs mb) (hbb : ∀ y : Str, y ≠ "__name__" → mb y = bootBuiltins y) (hL : s1.heap.NoLimit) (hgn : s1.gens = #[])
    (ha : s1.heap.get? a = some { cls := .type "list", data := .seq vs.toArray }) (hi : IntsAre vs ns) (hn : ns.length ≤ sizeLine) (hr : Room k callerA)
    (F : ∀ base : Heap, K.In base → base.Ns mainGlobals mg → GOk P w K mg base CX0 k fa fd [x] sp) (hbd : ∀ (s : Shared) (u : Value), BindsTo s fd ⟨[u], []⟩ [(x, u)])
    (hsp : ∀ H : Hp, Only H → SqL K H a (ns.map V.int) → sp [.ref a] H (fun v _ => v = .bl true) fun _ _ _ => False) :
    codeAny (model P w) callerA (.call (.ref fa) ⟨[.ref a], []⟩) (fun r s' => r = .ok (.ret (.bool true)) ∧ OldK s1.heap s'.heap ∧ s'.os = s1.os ∧ AllBare s'.gens) s1 := by
  let ob : Obj := { cls := .type "list", data := .seq vs.toArray }
  let H : Hp := scriptH K a ob ns
  have hH : ∀ b u, H b = some u → b = a ∧ K.lookup a = none ∧ u = .frz ob (.lst (ns.map V.int)) := by
    intro b u z
    by_cases c : b = a ∧ K.lookup a = none
    · have z2 : (if b = a ∧ K.lookup a = none then some (HO.frz ob (.lst (ns.map V.int))) else none) = some u := z
      rw [if_pos c] at z2
      cases z2
      exact ⟨c.1, c.2, rfl⟩
    · have z2 : (if b = a ∧ K.lookup a = none then some (HO.frz ob (.lst (ns.map V.int))) else none) = some u := z
      rw [if_neg c] at z2
      cases z2
  have hOnly : Only H := fun b => by
    cases z : H b with
    | none => exact .inl rfl
    | some u => exact .inr ⟨ob, _, congrArg some (hH b u z).2.2⟩
  have rv := vals_ints hi
  have sizes : vs.length = ns.length := hi.length
  have hS : SqL K H a (ns.map V.int) := by
    cases z : K.lookup a with
    | some o =>
      have e := hK a o z
      rw [ha] at e
      cases e
      exact Or.inr ⟨_, vs.toArray, _, z, rfl, rfl, rfl, by rw [List.size_toArray, sizes]; exact hn, by simpa using rv⟩
    | none => exact Or.inl (Or.inr ⟨ob, if_pos ⟨rfl, z⟩⟩)
  have hOk : HOk P w H s1.heap := fun b u z => by
    obtain ⟨e1, _, e3⟩ := hH b u z
    subst e1
    subst e3
    exact ⟨ha, by rw [List.length_map]; exact hn, vs, _, rv, ha⟩
  have stays : ∀ {b : Addr} {o : Obj}, s1.heap.get? b = some o → H b = none → (hidT s1.heap H).get? b = some o := fun e n => hidT_get e n
  have keptK : K.In (hidT s1.heap H) := by
    intro b o z
    refine stays (hK b o z) ?_
    cases q : H b with
    | none => rfl
    | some u =>
      obtain ⟨e1, e2, _⟩ := hH b u q
      rw [e1, e2] at z
      cases z
  have keptN : ∀ {b : Addr} {m : Str → Option Value}, s1.heap.Ns b m → (hidT s1.heap H).Ns b m := by
    rintro b m ⟨o, es, ep, e, d, r⟩
    refine ⟨o, es, ep, stays e ?_, d, r⟩
    cases q : H b with
    | none => rfl
    | some u =>
      obtain ⟨e1, _, _⟩ := hH b u q
      rw [e1, ha] at e
      cases e
      exact nomatch (show Data.seq vs.toArray _ = Data.dict es ep from d)
  obtain ⟨mc, l1, l2⟩ := hL
  have start0 : Env0 P w K mg (hidT s1.heap H) callerA [] s1 H :=
    { frames := rfl
      mod := ⟨keptK, keptN hm, ⟨mb, keptN hb, hbb⟩, ⟨mc, keptN l1, l2⟩⟩
      bs := fun _ _ z => of_hidT z
      bsz := Nat.le_of_eq (hidT_size _ _)
      funs := trivial
      frf := fun b z => absurd (show b ∈ ([] : List Addr) from z) (by simp)
      hok := hOk
      bare := .of_eq hgn }
  apply codeAny_mono ((F _ keptK (keptN hm)).runs callerA [] s1 H ⟨[.ref a], []⟩ [.ref a] [.ref a] _ _ hr rfl start0 (hbd s1 (.ref a)) (.cons rfl .nil) (hsp H hOnly hS))
  intro r s' h
  match r, h with
  | .error _, h => exact h.elim
  | .ok .next, h => exact h.elim
  | .ok .brk, h => exact h.elim
  | .ok .cont, h => exact h.elim
  | .ok (.ret u), ⟨v, H', os, bare, un, hok', r', q⟩ =>
    have q' : v = .bl true := q
    subst q'
    have r2 : u = Value.bool true := r'
    subst r2
    refine ⟨rfl, OldK.of_keep fun b o e => ?_, os, bare⟩
    cases q : H b with
    | none => exact un.keep b o e q (by intro z; exact absurd (show b ∈ ([] : List Addr) from z) (by simp)) (by simp)
    | some t =>
      have q2 := q
      rw [(hH b t q).2.2] at q2
      have f1 := (hOk b _ q2).1
      have f2 := (hok' b _ (un.frzs b ob _ q2)).1
      rw [e] at f1
      rw [f2, f1]

/-- the goal behind the head, from the law's promise; the script's bits told -/
theorem walk_G {l : PySem.W.OpenLaw} {n k : Nat} {q : Program} {loose : List Str} {XP : (Str → Option Value) → Heap → Prop} {YP : World → Heap → Prop} {d : DefRec} {K : Params → PySem.W.Frag} {sp : PySem.W.Frag → Sp} {x : Str}
    (hn : l.most = some n) (hn2 : n ≤ sizeLine) (hdf : d.params.defaults = []) (hr : Room k callerA) (hY : ∀ (w : World) (h : Heap), YP w h → (K w.params).In h)
    (F : ∀ (w : World) (mg : Str → Option Value) (fa : Addr) (h : Heap), (K w.params).In h → h.Ns mainGlobals mg → mg d.name = some (.ref fa) →
      ∃ fd : FuncData, (∀ (s : Shared) (u : Value), BindsTo s fd ⟨[u], []⟩ [(x, u)]) ∧ ∀ base : Heap, (K w.params).In base → base.Ns mainGlobals mg → GOk l.prog w (K w.params) mg base CX0 k fa fd [x] (sp (K w.params)))
    (hsp : ∀ (K : PySem.W.Frag) (H : Hp) (a : Addr) (ns : List Int), ns.length ≤ n → (∀ k ∈ ns, Builtin.Int.intBits k ≤ 1048576) → Only H → SqL K H a (ns.map V.int) → sp K [.ref a] H (fun v _ => v = .bl true) fun _ _ _ => False) :
    PySem.W.WalkO q loose XP YP l.row.toRowW d [] (fun f vs => PySem.call f vs) := by
  apply Att.attach_callB hn hdf
  intro w s0 s1 mg mb fa o pm cd doc a vs ns G Y ho hd hcd hmg hobj hints hlen hbits hg
  have hK := hY w _ Y
  obtain ⟨fd, hb, hF⟩ := F w mg fa _ hK G.T.g hmg
  exact law_runs hK G.T.g G.T.b G.T.builtins G.T.nolimit hg hobj hints (Nat.le_trans hlen hn2) hr hF hb fun H hO hS => hsp (K w.params) H a ns hlen hbits hO hS
end RO

namespace RO
open PySem PySem.Spec PyProof.Rows L2

/-! ### enumerate of a tuple -/
theorem drawsT {prog : Program} {w : World} {A : Around} (hh : A.handled = none) (it t : Addr) (hne : t ≠ it) (items : Array Value) :
    Draws prog w A it [it, t] items.size (fun i v => items[i]? = some v) (fun i h => h.IsTupleIter it t i ∧ h.IsTuple t items) where
  live := fun _ _ st => by
    obtain ⟨⟨o, ho, _⟩, _⟩ := st
    exact ⟨o, ho⟩
  frame := fun i h h' st hk => ⟨Heap.IsTupleIter.at st.1 (hk it (List.mem_cons_self ..)), by
    obtain ⟨o, e, r⟩ := st.2
    exact ⟨o, hk t (by simp) o e, r⟩⟩
  item := fun i s Q E hi st hQ => RZ.nextOf_tuple_item st.1 st.2 (x := items[i]) (by simp [hi]) fun h' hit' sb =>
    hQ _ h' s.toks (by simp [hi]) ⟨hit', by
      obtain ⟨o, e, r⟩ := st.2
      exact ⟨o, (sb.2 t hne).trans e, r⟩⟩ sb
  done := fun s Q E st hE => RZ.nextOf_tuple_end hh st.1 st.2 (by simp) hE

open Sem (wp) in
open AutoSeq1 (wpAny_loadPart') in
theorem meets_enum_newT (l : Addr) (items : Array Value) (n : Nat) (dct : Option Addr) (sl : Array (Option Value)) :
    Meets (Builtin.«enumerate.__new__» ⟨[.type "enumerate", .ref l], []⟩) (fun _ R s => s.heap.get? l = some { cls := .type "tuple", dict := dct, data := .seq items n, slots := sl } ∧
      R (.ok (.ret (.ref (s.heap.push { cls := .type "tuple_iterator", data := .fields #[.ref l, .int 0 0] }).objs.size)))
        { s with heap := (s.heap.push { cls := .type "tuple_iterator", data := .fields #[.ref l, .int 0 0] }).push { cls := .type "enumerate", data := .fields #[.none, .bool false, .ref s.heap.objs.size, rawInt 0, .none, .none] } }) := by
  refine Meets.of_wp fun prog w A R s h => ?_
  obtain ⟨hp, g, d, tk, os⟩ := s
  obtain ⟨hl, h⟩ := h
  have hsub := sub_enumerate
  have hT : Heap.IsTuple (Shared.heap ⟨hp, g, d, tk, os⟩) l items := ⟨_, hl, rfl, n, rfl⟩
  wp_walk using wpAny_loadPart' hl
  refine wpAny_stack_any fun st => wpAny_pure ?_
  split
  · rename_i c _ _ _ _ _
    cases (c == Value.type "enumerate") <;>
      (wp_walk using wpAny_loadPart' hl, wpAny_pyIter_tuple hT; exact ⟨_, rfl, h⟩)
  · wp_walk using wpAny_loadPart' hl, wpAny_pyIter_tuple hT
    exact ⟨_, rfl, h⟩

theorem call_enumT {prog : Program} {w : World} {A : Around} {E : Value → Shared → Prop} {s : Shared} {l : Addr} {items : Array Value} {Q : Value → Shared → Prop} (hT : s.heap.IsTuple l items)
    (h : ∀ h', IsEnum h' (s.heap.objs.size + 1) s.heap.objs.size 0 .none → h'.IsTupleIter s.heap.objs.size l 0 → h'.objs.size = s.heap.objs.size + 2 → (∀ b o, s.heap.get? b = some o → h'.get? b = some o) →
      Q (.ref (s.heap.objs.size + 1)) { s with heap := h' }) : wpAny (model prog w) A (call (.type "enumerate") [.ref l]) Q E s := by
  obtain ⟨⟨c, dct, dt, sl⟩, hl, hc, n, hd⟩ := hT
  have hc' : c = .type "tuple" := hc
  have hd' : dt = .seq items n := hd
  subst hc' hd'
  apply callType_new F.called_enumerate (by decide) (F.typeCall_enumerate_1 _) (F.newCall_enumerate_1 _) (fun obj => F.args_object_init_2 obj _) F.entry_enumerate_new (meets_enum_newT l items n dct sl)
  refine ⟨hl, ?_⟩
  let h1 := s.heap.push { cls := .type "tuple_iterator", data := .fields #[.ref l, .int 0 0] }
  have hz : h1.objs.size = s.heap.objs.size + 1 := Heap.size_push ..
  show _ ∧ _
  rw [show (s.heap.push { cls := .type "tuple_iterator", data := .fields #[.ref l, .int 0 0] }).objs.size = s.heap.objs.size + 1 from hz]
  have he : IsEnum (h1.push { cls := .type "enumerate", data := .fields #[.none, .bool false, .ref s.heap.objs.size, rawInt 0, .none, .none] }) (s.heap.objs.size + 1) s.heap.objs.size 0 .none := by
    have z := Heap.get?_push_size h1 (o := { cls := .type "enumerate", data := .fields #[.none, .bool false, .ref s.heap.objs.size, rawInt 0, .none, .none] }) rfl
    rw [hz] at z
    exact z
  exact ⟨⟨_, he, rfl⟩, h _ he ⟨_, Heap.get?_push_of_some _ (Heap.get?_push_size _ rfl), rfl, rfl⟩ ((Heap.size_push ..).trans (congrArg (· + 1) hz)) fun b o x => Heap.get?_push_of_some _ (Heap.get?_push_of_some _ x)⟩

/-- the tuple at a, each item in a new pair with its number -/
def IteT (K : PySem.W.Frag) (a : Addr) : It where
  go := fun i H => ∃ (xs : List V) (x : V), SqT K H a xs ∧ xs[i]? = some x
  yld := fun i H v H' => ∃ T x, v = .ref T ∧ H T = none ∧ H' = upd H T (.tup [.int (i : Nat), x]) ∧ ∀ xs, SqT K H a xs → xs[i]? = some x
  stop := fun i H => ∃ xs : List V, SqT K H a xs ∧ xs.length = i

theorem turn_enumT {P : Program} {w : World} {K : PySem.W.Frag} {elts : List Expr} {kk : Nat} {tpos : Pos} (a e it : Addr) (hae : a ≠ e) (hai : a ≠ it) (hne : e ≠ it) :
    Turn P w K (.Tuple elts kk tpos) (IteT K a) [e, it] e (fun i h => (∃ old, IsEnum h e it ((i : Nat) : Int) old) ∧ h.IsTupleIter it a i) where
  mem := List.mem_cons_self ..
  obj := fun i h st b hb => by
    obtain ⟨⟨old, he⟩, ⟨o, ho, hc, hd⟩⟩ := st
    rcases List.mem_cons.mp hb with z | z
    · rw [z]
      exact ⟨_, he, fun v q => nomatch q⟩
    · have z' : b = it := by simpa using z
      exact ⟨o, z' ▸ ho, fun v q => by rw [hd] at q; cases q⟩
  keep := fun i h h' st k => by
    obtain ⟨⟨old, he⟩, hi⟩ := st
    exact ⟨⟨old, k e (by simp) _ he⟩, Heap.IsTupleIter.at hi (k it (by simp))⟩
  item := by
    intro X hP hw hK hc i pins s σ H E I hf st hg
    subst hP hw hK
    obtain ⟨⟨old, he⟩, hit⟩ := st
    obtain ⟨xs, x, hq, hx⟩ := hg
    obtain ⟨its, rv, p, hz⟩ := I.tuple hq
    obtain ⟨u, hu, ru⟩ := rv.get hx
    have hlt : i < its.toArray.size := by
      obtain ⟨z, _⟩ := List.getElem?_eq_some_iff.mp hu
      simpa using z
    have hel : e < s.heap.objs.size := Heap.lt_size he
    have hil : it < s.heap.objs.size := by
      obtain ⟨_, q, _⟩ := hit
      exact Heap.lt_size q
    refine wpAny_pyNext_enum_itemD (drawsT (A := X.A.in1) (I.ok.hd hc) it a hai its.toArray) he ⟨hit, p⟩ hlt hne (by simp [hne, Ne.symm hae]) fun y h' tk hy ho hst hT hsz hk => ?_
    have ey : y = u := by
      have z : its.toArray[i]? = some u := by simpa using hu
      exact Option.some.inj (hy.symm.trans z)
    subst ey
    refine ⟨_, rfl, wpAny_letOwnedTupleGo_enum (s := { s with heap := h', toks := tk + 1 }) ho fun h2 he2 sb => ?_⟩
    have hT2 : h2.get? s.heap.objs.size = some { cls := .type "tuple", data := .seq #[.int i tk, y] } := (sb.2 _ (Nat.ne_of_gt hel)).trans hT
    have new : ObjOk X.prog X.w (upd H s.heap.objs.size (.tup [.int (i : Nat), x])) h2 s.heap.objs.size (.tup [.int (i : Nat), x]) := by
      refine ⟨by show 2 ≤ sizeLine; decide, [.int i tk, y], .cons ⟨_, rfl⟩ (.cons ru .nil), ⟨_, hT2, rfl, _, rfl⟩⟩
    have I1 : Inv X pins σ (upd H s.heap.objs.size (.tup [.int (i : Nat), x])) { s with heap := h2, toks := tk + 1 } := by
      refine I.turnedNew (ch := [e, it]) (fun b ob hb q => ?_) hf (Nat.le_refl _) new
      have n1 : b ≠ e := fun z => hb (by simp [z])
      have n2 : b ≠ it := fun z => hb (by simp [z])
      exact (sb.2 b n1).trans (hk b ob n1 n2 q)
    refine ⟨.ref s.heap.objs.size, _, I1, rfl, ⟨_, x, rfl, I.hok.fresh (Nat.le_refl _), rfl, fun ys hy => (I.tuple_inj hy hq).symm ▸ hx⟩, ⟨⟨y, ?_⟩, Heap.IsTupleIter.at hst.1 fun o q => (sb.2 it (Ne.symm hne)).trans q⟩, fun b hb => ?_⟩
    · rw [show ((i + 1 : Nat) : Int) = (i : Int) + 1 from by omega]
      exact he2
    · have hb2 : b = e ∨ b = it := by simpa using hb
      have lt : b < s.heap.objs.size := hb2.elim (fun z => z ▸ hel) fun z => z ▸ hil
      exact (upd_ne (Nat.ne_of_lt lt)).trans (hf b hb).1
  done := by
    intro X hP hw hK hc i pins s σ H E I hf st hg
    subst hP hw hK
    obtain ⟨⟨old, he⟩, hit⟩ := st
    obtain ⟨xs, hq, hx⟩ := hg
    obtain ⟨its, rv, p, hz⟩ := I.tuple hq
    obtain ⟨f0, f1, f2, f3, f4, f5⟩ := hf it (by simp)
    have hl : its.toArray.size = i := by
      rw [List.size_toArray, ← rv.length, hx]
    rw [← hl] at hit
    exact wpAny_pyNext_enum_endD (drawsT (A := X.A.in1) (I.ok.hd hc) it a hai its.toArray) he ⟨hit, p⟩ fun h' eb => ⟨rfl, I.turned (t' := s.toks) (fun b o hb q => eb b o hb q) f0 f1 f3 f4 f5⟩
  self := fun A i s Q E st h => by
    obtain ⟨⟨_, he⟩, _⟩ := st
    exact wpAny_pyIter_enum he h

/-- enumerate(x), x a list or a tuple -/
def iEnumA (K : PySem.W.Frag) (ta : TA) : TI := fun σ H R => ta σ H fun vs H1 => ∃ a xs, vs = [.ref a] ∧ ((SqL K H1 a xs ∧ R (Ite K a) H1) ∨ (SqT K H1 a xs ∧ R (IteT K a) H1))
theorem pi_enumA {X : Cx} {e : Expr} {ta : TA} {p pos tpos : Pos} {elts : List Expr} {kk : Nat} (hg : Gl X "enumerate") (hm : X.mg "enumerate" = none) (ha : PA X [e] ta) (hs : starEach [e] X.env = [(false, eval e X.env)] := by rfl) :
    PI X (.Tuple elts kk tpos) (.Call (.Name "enumerate" p) [e] [] pos) (iEnumA X.K ta) := by
  constructor
  intro pins s σ H R I h
  refine Call_ ?_
  apply ld_blt I hg hm boot_enumerate
  apply PyProof.Rows.callWith_type1 _ hs rfl
  apply thn (ha.run pos pins s σ H _ I h)
  rintro us s1 ⟨vs, H1, I1, r1, a, xs, ex, q⟩
  subst ex
  obtain ⟨u, rfl, ru⟩ := vals1 r1
  obtain rfl : u = Value.ref a := ru
  have hle : ∀ b, b ∈ [s1.heap.objs.size + 1, s1.heap.objs.size] → FpOk X pins H1 b := fun b hb => by
    have z : b = s1.heap.objs.size + 1 ∨ b = s1.heap.objs.size := by simpa using hb
    have l : s1.heap.objs.size ≤ b := by omega
    exact I1.fpOk l (I1.hok.fresh l)
  rcases q with ⟨hq, q⟩ | ⟨hq, q⟩
  · obtain ⟨its, rv, p', hz⟩ := I1.list hq
    refine call_enumerate_list p'.isList fun h' he hit hsz hk => wpAny_pyIter_enum he ?_
    exact ⟨s1.heap.objs.size + 1, [s1.heap.objs.size + 1, s1.heap.objs.size], _, _, H1, rfl, I1.kept (t' := s1.toks) hk, turn_enum a (s1.heap.objs.size + 1) s1.heap.objs.size, ⟨⟨.none, he⟩, hit, Nat.succ_ne_self _⟩, hle, q⟩
  · obtain ⟨its, rv, p', hz⟩ := I1.tuple hq
    obtain ⟨o, ho, _⟩ := id p'
    have hal : a < s1.heap.objs.size := Heap.lt_size ho
    refine call_enumT p' fun h' he hit hsz hk => wpAny_pyIter_enum he ?_
    exact ⟨s1.heap.objs.size + 1, [s1.heap.objs.size + 1, s1.heap.objs.size], _, _, H1, rfl, I1.kept (t' := s1.toks) hk, turn_enumT a (s1.heap.objs.size + 1) s1.heap.objs.size (Nat.ne_of_lt (Nat.lt_succ_of_lt hal)) (Nat.ne_of_lt hal) (Nat.succ_ne_self _), ⟨⟨.none, he⟩, hit⟩, hle, q⟩

section
variable {K : PySem.W.Frag} {a : Addr} {xs : List V}
theorem walk_enumT : Walk (IteT K a) xs.length (fun H => SqT K H a xs) (YPair (fun i => some (.int (i : Nat))) (fun i => xs[i]?)) where
  goes := fun i _ hi q => ⟨xs, xs[i], q, by simp [hi]⟩
  stops := fun _ q => ⟨xs, q, rfl⟩
  yields := fun i H v H' _ q y => by
    obtain ⟨T, x, h1, h2, h3, h4⟩ := y
    exact ⟨T, _, x, h1, h2, h3, rfl, h4 xs q⟩
theorem walk_revT : Walk (RT.ItvT K a xs.length) xs.length (fun H => SqT K H a xs) (fun i H x H' => H' = H ∧ xs[xs.length - 1 - i]? = some x) where
  goes := fun i _ hi q => ⟨hi, xs, xs[xs.length - 1 - i], q, by
    have : xs.length - 1 - i < xs.length := by omega
    simp [this]⟩
  stops := fun _ _ => Nat.le_refl _
  yields := fun i H v H' _ q y => ⟨y.1, y.2 xs q⟩
end
end RO

namespace RO
open PySem PySem.Spec PyProof.Rows L2

/-! ### heaps -/
/-- what is tracked, but at p, is kept -/
def But (p : Addr) (H H' : Hp) : Prop := ∀ b o, b ≠ p → H b = some o → H' b = some o
section
variable {K : PySem.W.Frag} {H H0 H1 H2 : Hp} {p q a c l : Addr} {o : HO} {xs : List V} {n m : Nat}
theorem But.refl : But p H H := fun _ _ _ h => h
theorem But.trans (h : But p H H1) (h2 : But p H1 H2) : But p H H2 := fun b u n e => h2 b u n (h b u n e)
theorem But.of_same (h : Same H H1) : But p H H1 := fun b u _ e => h b u e
theorem But.put : But p H (upd H p o) := fun b u n e => (upd_ne n).trans e
theorem But.new (h : But p H0 H) (hq : H q = none) : But p H0 (upd H q o) := fun b u n e => (upd_ne (ne_of_none (h b u n e) hq)).trans (h b u n e)
/-- a place that was free at the beginning may be written -/
theorem But.own (h : But p H0 H) (hl : H0 l = none) : But p H0 (upd H l o) := fun b u n e => (upd_ne (ne_of_none e hl)).trans (h b u n e)
theorem But.rd {u : HO} (h : But p H H1) (n : a ≠ p) (r : Rd H a u) : Rd H1 a u := by
  rcases r with r | ⟨o, r⟩
  · exact .inl (h _ _ n r)
  · exact .inr ⟨o, h _ _ n r⟩
theorem But.seqL (h : But p H H1) (n : a ≠ p) (r : SqL K H a xs) : SqL K H1 a xs := r.imp (h.rd n) id
theorem But.seqT (h : But p H H1) (n : a ≠ p) (r : SqT K H a xs) : SqT K H1 a xs := r.imp (h.rd n) id
theorem same_rd {u : HO} (h : Same H H1) (r : Rd H a u) : Rd H1 a u := by
  rcases r with r | ⟨o, r⟩
  · exact .inl (h _ _ r)
  · exact .inr ⟨o, h _ _ r⟩
theorem same_seqL (h : Same H H1) (r : SqL K H a xs) : SqL K H1 a xs := r.imp (same_rd h) id
theorem same_seqT (h : Same H H1) (r : SqT K H a xs) : SqT K H1 a xs := r.imp (same_rd h) id
theorem same_new (h : Same H0 H) (hq : H q = none) : Same H0 (upd H q o) := fun b u e => (upd_ne (ne_of_none (h b u e) hq)).trans (h b u e)
theorem same_own (h : Same H0 H) (hl : H0 l = none) : Same H0 (upd H l o) := fun b u e => (upd_ne (ne_of_none e hl)).trans (h b u e)

theorem alloc (hl : H l = none) (e : upd H l o = H1) : Same H H1 ∧ H1 l = some o := by
  subst e
  exact ⟨same_new (Same.refl _) hl, upd_same⟩

theorem owned (S : Same H0 H) (hl : H0 l = none) (e : upd H l o = H1) : Same H0 H1 ∧ H1 l = some o := by
  subst e
  exact ⟨same_own S hl, upd_same⟩

/-! ### the law's pen: a list of the script's cells, a place, a rest -/
def PenAt (H : Hp) (p c : Addr) (n : Nat) : Prop := ∃ at_ cy : Int, H p = some (.lst [.ref c, .int at_, .int cy]) ∧ 0 ≤ at_ ∧ at_ ≤ n ∧ 0 ≤ cy
def Cells (K : PySem.W.Frag) (H : Hp) (p c : Addr) : Prop := c ≠ p ∧ ∃ ns : List Int, SqL K H c (ns.map V.int) ∧ ns.length ≤ 63
/-- from H0 to H: the pen at p has gone on to n draws at most, all else is kept -/
structure Go (K : PySem.W.Frag) (p c : Addr) (H0 : Hp) (n : Nat) (H : Hp) : Prop where
  but : But p H0 H
  pen : PenAt H p c n
  cel : Cells K H p c
theorem Cells.but (h : Cells K H p c) (b : But p H H1) : Cells K H1 p c := by
  obtain ⟨ne, ns, r, l⟩ := h
  exact ⟨ne, ns, b.seqL ne r, l⟩
theorem PenAt.mono (h : PenAt H p c n) (hm : n ≤ m) : PenAt H p c m := by
  obtain ⟨i, j, e, h1, h2, h3⟩ := h
  exact ⟨i, j, e, h1, by omega, h3⟩
theorem Go.refl (h : PenAt H p c n) (hc : Cells K H p c) : Go K p c H n H := ⟨But.refl, h, hc⟩
theorem Go.self (g : Go K p c H0 n H) : Go K p c H n H := ⟨But.refl, g.pen, g.cel⟩
theorem Go.mono (g : Go K p c H0 n H) (hm : n ≤ m) : Go K p c H0 m H := ⟨g.but, g.pen.mono hm, g.cel⟩
theorem Go.trans (g : Go K p c H0 n H1) (g2 : Go K p c H1 m H2) : Go K p c H0 m H2 := ⟨g.but.trans g2.but, g2.pen, g2.cel⟩
theorem Go.tracked (g : Go K p c H0 n H) : ∃ o, H p = some o := by
  obtain ⟨_, _, e, _⟩ := g.pen
  exact ⟨_, e⟩
theorem Go.ne_new (g : Go K p c H0 n H) (hq : H q = none) : p ≠ q := by
  obtain ⟨o, e⟩ := g.tracked
  exact ne_of_none e hq
theorem Go.make {i j : Int} (hc : Cells K H0 p c) (b : But p H0 H) (e : H p = some (.lst [.ref c, .int i, .int j])) (h1 : 0 ≤ i) (h2 : i ≤ (n : Nat)) (h3 : 0 ≤ j) : Go K p c H0 n H := ⟨b, ⟨i, j, e, h1, h2, h3⟩, hc.but b⟩
theorem Go.free (g : Go K p c H0 n H) (hq : H q = none) : H0 q = none := by
  cases z : H0 q with
  | none => rfl
  | some o => exact absurd (g.but q o (Ne.symm (g.ne_new hq)) z) (by rw [hq]; exact nofun)
/-- a new object -/
theorem Go.new (g : Go K p c H0 n H) (hq : H q = none) : Go K p c H0 n (upd H q o) := by
  have hp := g.ne_new hq
  obtain ⟨i, j, e, r⟩ := id g.pen
  have b1 : But p H (upd H q o) := But.refl.new hq
  exact ⟨g.but.new hq, ⟨i, j, (upd_ne hp).trans e, r⟩, g.cel.but b1⟩
/-- an own object is written: it was free at the beginning; the cells aren't it -/
theorem Go.own (g : Go K p c H0 n H) (hl : H0 l = none) (hp : l ≠ p) (hc : Cells K H0 p c) : Go K p c H0 n (upd H l o) := by
  obtain ⟨i, j, e, r⟩ := id g.pen
  exact ⟨g.but.own hl, ⟨i, j, (upd_ne (Ne.symm hp)).trans e, r⟩, hc.but (g.but.own hl)⟩
theorem Go.same (g : Go K p c H0 n H) (h : Same H H1) : Go K p c H0 n H1 := by
  obtain ⟨i, j, e, r⟩ := id g.pen
  exact ⟨g.but.trans (But.of_same h), ⟨i, j, h _ _ e, r⟩, g.cel.but (But.of_same h)⟩
end

/-! ### numbers -/
theorem fmod_lt {a b : Int} (h : 0 < b) : Int.fmod a b < b := Int.fmod_lt_of_pos a h
theorem fmod_ge {a b : Int} (h : 0 < b) : 0 ≤ Int.fmod a b := Int.fmod_nonneg_of_pos a h
theorem fdiv_ge {a b : Int} (h : 0 ≤ a) (h2 : 0 ≤ b) : 0 ≤ Int.fdiv a b := Int.fdiv_nonneg h h2

theorem atI_fmod {α : Type} {xs : List α} {i : Int} (h : 0 < xs.length) : ∃ v, v ∈ xs ∧ atI xs (Int.fmod i xs.length) = some v := by
  have h0 : (0 : Int) < xs.length := by omega
  have g := fmod_ge (a := i) h0
  have l := fmod_lt (a := i) h0
  obtain ⟨j, e⟩ := Int.eq_ofNat_of_zero_le g
  rw [e] at l ⊢
  have hj : j < xs.length := by omega
  exact ⟨xs[j], List.getElem_mem hj, atI_nat (List.getElem?_eq_getElem hj)⟩
theorem atI_lt {α : Type} {xs : List α} {i : Int} (h0 : 0 ≤ i) (h : i < xs.length) : ∃ v, v ∈ xs ∧ atI xs i = some v := by
  obtain ⟨j, rfl⟩ := Int.eq_ofNat_of_zero_le h0
  have hj : j < xs.length := by omega
  exact ⟨xs[j], List.getElem_mem hj, atI_nat (List.getElem?_eq_getElem hj)⟩

/-! ### data whose repr is short -/
structure RepOk (d : PyData) (k n : Nat) : Prop where
  sh : d.showable = true
  nd : d.hasDict = false
  dp : d.depth ≤ k
  lv : d.leavesShort 400 = true
  cl : d.canLay0 = true
  bk : d.bulk ≤ n
theorem RepOk.mono {d : PyData} {k n k' n' : Nat} (h : RepOk d k n) (hk : k ≤ k') (hn : n ≤ n') : RepOk d k' n' := ⟨h.sh, h.nd, Nat.le_trans h.dp hk, h.lv, h.cl, Nat.le_trans h.bk hn⟩
theorem RepOk.fits {d : PyData} {k n : Nat} (h : RepOk d k n) (hn : n ≤ 40000) : d.shown.length ≤ sizeLine := by
  have e := PyData.shown_le_bulk 400 (by decide) d h.lv
  have b := h.bk
  have : (400 + 2) * d.bulk ≤ 402 * 40000 := Nat.mul_le_mul (by decide) (by omega)
  rw [sizeLine_eq]
  omega
theorem RepOk.none : RepOk .none 0 0 := ⟨rfl, rfl, Nat.le_refl _, by decide +kernel, rfl, Nat.le_refl _⟩
theorem RepOk.bool (b : Bool) : RepOk (.bool b) 0 0 := ⟨rfl, rfl, Nat.le_refl _, by cases b <;> decide +kernel, rfl, Nat.le_refl _⟩
theorem log2_small {i : Int} (h : i.natAbs < 2 ^ 398) : i.natAbs.log2 < 398 := by
  by_cases z : i.natAbs = 0
  · rw [z]
    decide
  · exact (Nat.log2_lt z).mpr h
theorem RepOk.int {i : Int} (h : i.natAbs < 2 ^ 398) : RepOk (.int i) 0 0 := by
  have l := log2_small h
  refine ⟨?_, rfl, Nat.le_refl _, ?_, rfl, Nat.le_refl _⟩
  · simp only [PyData.showable, decide_eq_true_eq]
    omega
  · have e := int_text_length_le (a := i) (k := 398) (by decide) l
    have e2 : (Str.ofString (toString i)).length = (toString i).length := PySem.ofString_length _
    have e3 : (PyData.int i).shown.length ≤ 400 := by
      show (Str.ofString (toString i)).length ≤ 400
      rw [e2]
      exact Nat.le_trans e (by decide)
    unfold PyData.leavesShort
    exact decide_eq_true e3
theorem RepOk.str {x : Str} {n : Nat} (h : x.length ≤ n) (hc : ∀ c ∈ x.cps.toList, c < 16 ^ 8) (ho : (PyData.str x).canLay0 = true) : RepOk (.str x) 0 n := by
  refine ⟨rfl, rfl, Nat.le_refl _, ?_, ho, h⟩
  simp only [PyData.leavesShort, List.all_eq_true, decide_eq_true_eq]
  exact hc
theorem rep_all {ds : List PyData} {k n : Nat} : (∀ d ∈ ds, RepOk d k n) → PyData.showableAll ds = true ∧ PyData.hasDictAll ds = false ∧ PyData.depthAll ds ≤ k ∧ PyData.leavesShortAll 400 ds = true ∧ PyData.canLayAll0 ds = true ∧ PyData.bulkAll ds ≤ ds.length * (n + 1) := by
  induction ds with
  | nil => intro _; exact ⟨rfl, rfl, Nat.zero_le _, rfl, rfl, Nat.zero_le _⟩
  | cons d r ih =>
    intro h
    obtain ⟨h1, h2, h3, h4, h6, h5⟩ := ih fun x hx => h x (List.mem_cons_of_mem _ hx)
    have q := h d (List.mem_cons_self ..)
    refine ⟨?_, ?_, ?_, ?_, ?_, ?_⟩
    · simp only [PyData.showableAll, q.sh, h1, Bool.and_self]
    · simp only [PyData.hasDictAll, q.nd, h2, Bool.or_self]
    · simp only [PyData.depthAll]
      exact Nat.max_le.mpr ⟨q.dp, h3⟩
    · simp only [PyData.leavesShortAll, q.lv, h4, Bool.and_self]
    · simp only [PyData.canLayAll0, q.cl, h6, Bool.and_self]
    · simp only [PyData.bulkAll, List.length_cons]
      have b := q.bk
      have e : (r.length + 1) * (n + 1) = r.length * (n + 1) + (n + 1) := Nat.succ_mul _ _
      omega
theorem RepOk.list {ds : List PyData} {k n : Nat} (h : ∀ d ∈ ds, RepOk d k n) : RepOk (.list ds) (k + 1) (ds.length * (n + 1)) := by
  obtain ⟨h1, h2, h3, h4, h6, h5⟩ := rep_all h
  exact ⟨by simpa only [PyData.showable] using h1, by simpa only [PyData.hasDict] using h2, by simp only [PyData.depth]; omega, by simpa only [PyData.leavesShort] using h4, by simpa only [PyData.canLay0] using h6, by simpa only [PyData.bulk] using h5⟩
theorem RepOk.tuple {ds : List PyData} {k n : Nat} (h : ∀ d ∈ ds, RepOk d k n) : RepOk (.tuple ds) (k + 1) (ds.length * (n + 1)) := by
  obtain ⟨h1, h2, h3, h4, h6, h5⟩ := rep_all h
  exact ⟨by simpa only [PyData.showable] using h1, by simpa only [PyData.hasDict] using h2, by simp only [PyData.depth]; omega, by simpa only [PyData.leavesShort] using h4, by simpa only [PyData.canLay0] using h6, by simpa only [PyData.bulk] using h5⟩

theorem RepOk.shaped {d : PyData} {k n : Nat} (h : RepOk d k n) (hk : k ≤ 64) : SeqAt.shaped d = true := by
  unfold SeqAt.shaped
  rw [h.cl, Bool.true_and]
  exact decide_eq_true (Nat.le_trans h.dp hk)
/-- repr(x): its text, by the data alone -/
def rRepr2 (K : PySem.W.Frag) : List V → Hp → VK → Prop := fun xs H Q => ∃ v d k n, xs = [v] ∧ Dp K H v d ∧ RepOk d k n ∧ k ≤ 40 ∧ n ≤ 40000 ∧ Q (.str d.shown) H
theorem call_reprD {X : Cx} (hG : X.A.guards = some []) (hu : X.A.units + 64 < cLine) : CallR X (.builtin "repr") (rRepr2 X.K) := by
  intro pins s σ H xs us Q I r h
  obtain ⟨v, d, k, n, e, hd, ok, hk, hn, q⟩ := h
  exact call_repr hG hu pins s σ H xs us Q I r ⟨v, d, e, hd, ok.sh, ok.nd, Nat.le_trans ok.dp hk, ok.fits hn, q⟩

/-! data that is read at one heap is read at each that keeps what is tracked -/
section
variable {K : PySem.W.Frag} {H H1 : Hp}
mutual
theorem dp_same (h : Same H H1) : ∀ (d : PyData) (v : V), Dp K H v d → Dp K H1 v d
  | .none, _, q => by
    cases q
    exact .non
  | .bool b, _, q => by
    cases q
    exact .bl b
  | .int i, _, q => by
    cases q
    exact .int i
  | .str x, _, q => by
    cases q
    exact .str x
  | .list ds, _, q => by
    cases q with
    | lst h1 h2 => exact .lst (same_seqL h h1) (dpAll_same h ds _ h2)
  | .tuple ds, _, q => by
    cases q with
    | tup h1 h2 => exact .tup (same_seqT h h1) (dpAll_same h ds _ h2)
  | .dict _, _, q => nomatch q
theorem dpAll_same (h : Same H H1) : ∀ (ds : List PyData) (vs : List V), DpAll K H vs ds → DpAll K H1 vs ds
  | [], _, q => by
    cases q
    exact .nil
  | d :: ds, _, q => by
    cases q with
    | cons h1 h2 => exact .cons (dp_same h d _ h1) (dpAll_same h ds _ h2)
end
/-- flat things as data -/
theorem dpAll_ints : ∀ ns : List Int, DpAll K H (ns.map V.int) (ns.map PyData.int)
  | [] => .nil
  | n :: r => .cons (.int n) (dpAll_ints r)
theorem dpAll_strs : ∀ ns : List Str, DpAll K H (ns.map V.str) (ns.map PyData.str)
  | [] => .nil
  | n :: r => .cons (.str n) (dpAll_strs r)
theorem DpAll.map {α : Type} {f : α → V} {g : α → PyData} : ∀ {l : List α}, (∀ x ∈ l, Dp K H (f x) (g x)) → DpAll K H (l.map f) (l.map g)
  | [], _ => .nil
  | x :: r, h => .cons (h x (List.mem_cons_self ..)) (DpAll.map fun y hy => h y (List.mem_cons_of_mem _ hy))
end
end RO

namespace RO
open PySem PySem.Spec PyProof.Rows L2

/-! ### short texts -/
def TOk (k : Nat) (t : Str) : Prop := t.length ≤ k ∧ ∀ c ∈ t.cps.toList, c < 128
theorem TOk.mono {k j : Nat} {t : Str} (h : TOk k t) (l : k ≤ j) : TOk j t := ⟨Nat.le_trans h.1 l, h.2⟩
theorem str_len (t : Str) : t.length = t.cps.toList.length := by
  show t.cps.size = _
  simp
theorem cut_ok {k : Nat} {t : Str} (h : TOk k t) (lo hi : Option Int) : TOk k (cutS t lo hi) := by
  refine ⟨?_, fun c hc => ?_⟩
  · have e := str_len (cutS t lo hi)
    have e2 := str_len t
    have l := h.1
    rw [e]
    unfold cutS
    simp only [List.length_take, List.length_drop]
    omega
  · unfold cutS at hc
    simp only at hc
    exact h.2 c (List.mem_of_mem_drop (List.mem_of_mem_take hc))
theorem codes_app (a b : Str) : (a ++ b).cps.toList = a.cps.toList ++ b.cps.toList := by
  show (a.cps ++ b.cps).toList = _
  simp
theorem codes_join0 : ∀ l : List Str, (Str.join (Str.ofString "") l).cps.toList = l.flatMap (·.cps.toList)
  | [] => rfl
  | [x] => by
    show x.cps.toList = _
    simp
  | x :: y :: r => by
    show (x ++ Str.ofString "" ++ Str.join (Str.ofString "") (y :: r)).cps.toList = _
    rw [codes_app, codes_app, codes_join0 (y :: r)]
    have : (Str.ofString "").cps.toList = [] := by decide +kernel
    rw [this, List.append_nil]
    simp only [List.flatMap_cons]
/-- signs put together -/
theorem join_ok {l : List Str} (h : ∀ x ∈ l, TOk 1 x) : TOk l.length (Str.join (Str.ofString "") l) := by
  refine ⟨?_, fun c hc => ?_⟩
  · rw [str_len, codes_join0]
    induction l with
    | nil => exact Nat.le_refl _
    | cons x r ih =>
      have a := (h x (List.mem_cons_self ..)).1
      rw [str_len] at a
      have b := ih fun y hy => h y (List.mem_cons_of_mem _ hy)
      rw [List.flatMap_cons, List.length_append, List.length_cons]
      omega
  · rw [codes_join0] at hc
    obtain ⟨x, hx, hc⟩ := List.mem_flatMap.mp hc
    exact (h x hx).2 c hc
theorem RepOk.tok {k : Nat} {t : Str} (h : TOk k t) : RepOk (.str t) 0 k := by
  refine RepOk.str h.1 (fun c hc => Nat.lt_of_lt_of_le (h.2 c hc) (by decide)) ?_
  simp only [PyData.canLay0, PyData.strOk, ← Array.all_toList, List.all_eq_true, decide_eq_true_eq]
  exact fun c hc => Nat.lt_of_lt_of_le (h.2 c hc) (by decide)

/-! ### rows -/
/-- what a row bears -/
inductive What where
  | order (i : Int)
  | name (t : Str)
  deriving DecidableEq
def What.v : What → V
  | .order i => .int i
  | .name t => .str t
def What.d : What → PyData
  | .order i => .int i
  | .name t => .str t
theorem What.v_inj {a b : What} (h : a.v = b.v) : a = b := by
  cases a <;> cases b <;> simp_all [What.v]
theorem What.dp {K : PySem.W.Frag} {H : Hp} (x : What) : Dp K H x.v x.d := by
  cases x with
  | order i => exact .int i
  | name t => exact .str t
theorem What.rep {x : What} (h : (∃ i : Int, x = .order i ∧ -4 ≤ i ∧ i ≤ 4) ∨ ∃ t, x = .name t ∧ TOk 8 t) : RepOk x.d 0 8 := by
  rcases h with ⟨i, rfl, h1, h2⟩ | ⟨t, rfl, h⟩
  · exact (RepOk.int (by omega)).mono (Nat.le_refl _) (by omega)
  · exact RepOk.tok h
theorem scal_what (x y : What) : scal x.v y.v = true := by cases x <;> cases y <;> rfl
theorem What.flat (x : What) : flatV x.v = true := by cases x <;> rfl
structure Row where
  m : Int
  l : Str
  w : What
def lines6 : List Str := ["port", "star", "down", "aport", "astar", "up"]
def tubes : List Str := ["down", "up"]
/-- a row as DOC asks -/
structure Row.Ok (r : Row) : Prop where
  m0 : 0 ≤ r.m
  m1 : r.m ≤ 99999
  ln : r.l ∈ lines6
  wh : (r.l ∈ tubes ∧ ∃ t, r.w = .name t ∧ TOk 8 t) ∨ (r.l ∉ tubes ∧ ∃ i, r.w = .order i ∧ -4 ≤ i ∧ i ≤ 4)
theorem lines6_ok : ∀ l ∈ lines6, TOk 8 l := by
  intro l h
  have h2 : l = "port" ∨ l = "star" ∨ l = "down" ∨ l = "aport" ∨ l = "astar" ∨ l = "up" := by simpa [lines6] using h
  rcases h2 with rfl | rfl | rfl | rfl | rfl | rfl <;> exact ⟨by decide +kernel, by decide +kernel⟩
def Row.d (r : Row) : PyData := .tuple [.int r.m, .str r.l, r.w.d]
theorem Row.Ok.rep {r : Row} (h : r.Ok) : RepOk r.d 1 27 := by
  refine (RepOk.tuple (k := 0) (n := 8) fun d hd => ?_).mono (Nat.le_refl _) (by show 3 * 9 ≤ 27; omega)
  have z : d = .int r.m ∨ d = .str r.l ∨ d = r.w.d := by simpa using hd
  rcases z with rfl | rfl | rfl
  · exact (RepOk.int (by have := h.m0; have := h.m1; omega)).mono (Nat.le_refl _) (by omega)
  · exact RepOk.tok (lines6_ok _ h.ln)
  · refine What.rep ?_
    rcases h.wh with ⟨_, t, e, q⟩ | ⟨_, i, e, q1, q2⟩
    · exact .inr ⟨t, e, q⟩
    · exact .inl ⟨i, e, q1, q2⟩

/-- the row r stands at a -/
def RowAt (K : PySem.W.Frag) (H : Hp) (a : Addr) (r : Row) : Prop := SqT K H a [.int r.m, .str r.l, r.w.v]
/-- rows at places -/
inductive RowsAt (K : PySem.W.Frag) (H : Hp) : List Addr → List Row → Prop
  | nil : RowsAt K H [] []
  | cons {a : Addr} {r : Row} {as : List Addr} {rs : List Row} : RowAt K H a r → RowsAt K H as rs → RowsAt K H (a :: as) (r :: rs)
/-- the log rs stands at t -/
def LogAt (K : PySem.W.Frag) (H : Hp) (t : Addr) (rs : List Row) : Prop := ∃ as : List Addr, SqT K H t (as.map V.ref) ∧ RowsAt K H as rs
section
variable {K : PySem.W.Frag} {H H1 : Hp} {t a : Addr} {as : List Addr} {rs : List Row} {r : Row}
theorem RowsAt.length (h : RowsAt K H as rs) : as.length = rs.length := by
  induction h with
  | nil => rfl
  | cons _ _ ih => exact congrArg (· + 1) ih
theorem RowsAt.get (h : RowsAt K H as rs) : ∀ {i : Nat} {r : Row}, rs[i]? = some r → ∃ a, as[i]? = some a ∧ RowAt K H a r := by
  induction h with
  | nil => intro i r e; simp at e
  | cons h1 _ ih =>
    intro i r e
    cases i with
    | zero =>
      simp at e
      subst e
      exact ⟨_, rfl, h1⟩
    | succ i => exact ih (by simpa using e)
theorem RowsAt.get' (h : RowsAt K H as rs) : ∀ {i : Nat} {a : Addr}, as[i]? = some a → ∃ r, rs[i]? = some r ∧ RowAt K H a r := by
  induction h with
  | nil => intro i r e; simp at e
  | cons h1 _ ih =>
    intro i r e
    cases i with
    | zero =>
      simp at e
      subst e
      exact ⟨_, rfl, h1⟩
    | succ i => exact ih (by simpa using e)
theorem RowsAt.snoc (h : RowsAt K H as rs) (h1 : RowAt K H a r) : RowsAt K H (as ++ [a]) (rs ++ [r]) := by
  induction h with
  | nil => exact .cons h1 .nil
  | cons h2 _ ih => exact .cons h2 ih
theorem RowsAt.imp (h : RowsAt K H as rs) (f : ∀ a r, RowAt K H a r → RowAt K H1 a r) : RowsAt K H1 as rs := by
  induction h with
  | nil => exact .nil
  | cons h2 _ ih => exact .cons (f _ _ h2) ih
theorem RowsAt.same (h : RowsAt K H as rs) (s : Same H H1) : RowsAt K H1 as rs := h.imp fun _ _ q => same_seqT s q
theorem seqT_lst {p : Addr} {xs ys : List V} (h : SqT K H a xs) (hp : H p = some (.lst ys)) (b : But p H H1) : SqT K H1 a xs := by
  rcases h with h | h
  · have n : a ≠ p := by
      rcases h with h | ⟨o, h⟩
      · exact ne_of h hp (by intro z; cases z)
      · exact ne_of h hp (by intro z; cases z)
    exact .inl (b.rd n h)
  · exact .inr h
theorem seqT_go {p c : Addr} {n : Nat} {xs : List V} (h : SqT K H a xs) (hp : PenAt H p c n) (b : But p H H1) : SqT K H1 a xs := by
  obtain ⟨_, _, e, _⟩ := hp
  exact seqT_lst h e b
theorem RowsAt.lst {p : Addr} {ys : List V} (h : RowsAt K H as rs) (hp : H p = some (.lst ys)) (b : But p H H1) : RowsAt K H1 as rs := h.imp fun _ _ q => seqT_lst q hp b
theorem RowsAt.go {p c : Addr} {n : Nat} (h : RowsAt K H as rs) (hp : PenAt H p c n) (b : But p H H1) : RowsAt K H1 as rs := by
  obtain ⟨_, _, e, _⟩ := hp
  exact h.lst e b
theorem LogAt.go {p c : Addr} {n : Nat} (h : LogAt K H t rs) (hp : PenAt H p c n) (b : But p H H1) : LogAt K H1 t rs := by
  obtain ⟨as, h1, h2⟩ := h
  obtain ⟨_, _, e, _⟩ := id hp
  exact ⟨as, seqT_lst h1 e b, h2.go hp b⟩
theorem RowsAt.take (h : RowsAt K H as rs) (n : Nat) : RowsAt K H (as.take n) (rs.take n) := by
  induction h generalizing n with
  | nil => simp; exact .nil
  | cons h2 _ ih =>
    cases n with
    | zero => exact .nil
    | succ n => exact .cons h2 (ih n)
theorem RowsAt.drop (h : RowsAt K H as rs) (n : Nat) : RowsAt K H (as.drop n) (rs.drop n) := by
  induction h generalizing n with
  | nil => simp; exact .nil
  | cons h2 h3 ih =>
    cases n with
    | zero => exact .cons h2 h3
    | succ n => exact ih n
theorem LogAt.same (h : LogAt K H t rs) (s : Same H H1) : LogAt K H1 t rs := by
  obtain ⟨as, h1, h2⟩ := h
  exact ⟨as, same_seqT s h1, h2.same s⟩
theorem RowAt.dp (h : RowAt K H a r) : Dp K H (.ref a) r.d := .tup h (.cons (.int _) (.cons (.str _) (.cons r.w.dp .nil)))
theorem RowsAt.dp (h : RowsAt K H as rs) : DpAll K H (as.map V.ref) (rs.map Row.d) := by
  induction h with
  | nil => exact .nil
  | cons h2 _ ih => exact .cons h2.dp ih
theorem LogAt.dp (h : LogAt K H t rs) : Dp K H (.ref t) (.tuple (rs.map Row.d)) := by
  obtain ⟨as, h1, h2⟩ := h
  exact .tup h1 h2.dp
theorem log_rep (h : ∀ r ∈ rs, r.Ok) (l : rs.length ≤ 41) : RepOk (.tuple (rs.map Row.d)) 2 1148 := by
  refine (RepOk.tuple (k := 1) (n := 27) fun d hd => ?_).mono (Nat.le_refl _) ?_
  · obtain ⟨r, hr, rfl⟩ := List.mem_map.mp hd
    exact (h r hr).rep
  · rw [List.length_map]
    omega
end
theorem ints_rep {ns : List Int} {k : Nat} (h : ∀ n ∈ ns, n.natAbs < 2 ^ 398) (l : ns.length ≤ k) : RepOk (.list (ns.map PyData.int)) 1 k := by
  refine (RepOk.list (k := 0) (n := 0) fun d hd => ?_).mono (Nat.le_refl _) ?_
  · obtain ⟨r, hr, rfl⟩ := List.mem_map.mp hd
    exact RepOk.int (h r hr)
  · rw [List.length_map]
    omega
theorem cut_take (xs : List V) (i : Nat) (h : i ≤ xs.length) : cutV xs none (some (i : Int)) = xs.take i := by
  unfold cutV
  rw [HT.sIx_none, HT.sIx_nat, List.drop_zero, Nat.min_eq_left h, Nat.sub_zero]
theorem cut_drop (xs : List V) (i : Nat) : cutV xs (some (i : Int)) none = xs.drop i := by
  unfold cutV
  rw [HT.sIx_none, HT.sIx_nat]
  by_cases h : i ≤ xs.length
  · rw [Nat.min_eq_left h, List.take_of_length_le (by rw [List.length_drop]; exact Nat.le_refl _)]
  · rw [Nat.min_eq_right (by omega), List.drop_length, List.drop_eq_nil_of_le (by omega)]
    simp
theorem cut_not (xs : List V) (i : Nat) (h : i < xs.length) : ¬(HT.sIx xs.length 0 none = 0 ∧ HT.sIx xs.length xs.length (some (i : Int)) = xs.length) := fun z => by
  rw [HT.sIx_nat] at z
  omega
/-! ### the rules that name the written part, with it said: they stand within comprehensions, too -/
section
variable (K : PySem.W.Frag) {X : Cx}
theorem kx_seq (h : X.K = K := by rfl) : IxR X (rIx K) := by
  subst h
  exact ix_seq
theorem kx_list (h : X.K = K := by rfl) : IxR X (rIxL K) := by
  subst h
  exact ix_list
theorem kx_tup (h : X.K = K := by rfl) : IxR X (rIxT K) := by
  subst h
  exact ix_tup
theorem k_slL (h : X.K = K := by rfl) : SlR X (rSlL K) := by
  subst h
  exact sl_list
theorem k_slT (h : X.K = K := by rfl) : SlR X (rSlT K) := by
  subst h
  exact sl_tup
theorem k_slA (h : X.K = K := by rfl) : SlR X (rSlA K) := by
  subst h
  exact sl_tupA
theorem k_in (h : X.K = K := by rfl) : OpR X (compareOp .In) (rIn K false) := by
  subst h
  exact op_in_seq
theorem k_notin (h : X.K = K := by rfl) : OpR X (compareOp .NotIn) (rIn K true) := by
  subst h
  exact op_notIn_seq
def rLen (K : PySem.W.Frag) : List V → Hp → VK → Prop := fun xs H Q => ∃ p ys, xs = [.ref p] ∧ (SqL K H p ys ∨ SqT K H p ys) ∧ Q (.int ys.length) H
theorem k_len (h : X.K = K := by rfl) : CallR X (.builtin "len") (rLen K) := by
  subst h
  exact call_len_seq
theorem k_isi (h : X.K = K := by rfl) : CallR X (.builtin "isinstance") (rIsi K) := by
  subst h
  exact call_isi
theorem k_eqD (hu : X.A.units + 64 < cLine) (h : X.K = K := by rfl) : OpR X (compareOp .Eq) (rEqD K) := by
  subst h
  exact op_eqD hu
theorem k_neD (hu : X.A.units + 64 < cLine) (h : X.K = K := by rfl) : OpR X (compareOp .NotEq) (rNeD K) := by
  subst h
  exact op_neD hu
theorem k_repr (hG : X.A.guards = some []) (hu : X.A.units + 64 < cLine) (h : X.K = K := by rfl) : CallR X (.builtin "repr") (rRepr2 K) := by
  subst h
  exact call_reprD hG hu
def rTupOf (K : PySem.W.Frag) : List V → Hp → VK → Prop := fun xs H Q => ∃ p ys, xs = [.ref p] ∧ ((SqL K H p ys ∧ ∀ l, H l = none → Q (.ref l) (upd H l (.tup ys))) ∨ (SqT K H p ys ∧ Q (.ref p) H))
theorem k_tupOf (h : X.K = K := by rfl) : CallR X (.type "tuple") (rTupOf K) := by
  subst h
  exact call_tuple_of
def rListOf (K : PySem.W.Frag) : List V → Hp → VK → Prop := fun xs H Q => ∃ p ys, xs = [.ref p] ∧ (SqL K H p ys ∨ SqT K H p ys) ∧ ∀ l, H l = none → Q (.ref l) (upd H l (.lst ys))
theorem k_listOf (h : X.K = K := by rfl) : CallR X (.type "list") (rListOf K) := by
  subst h
  exact call_list_of
theorem k_isiT (h : X.K = K := by rfl) : CallR X (.builtin "isinstance") (rIsiT K) := by
  subst h
  exact call_isiT
theorem k_all (hc : X.calm = true) (h : X.K = K := by rfl) : CallR X (.builtin "all") (rAll K) := by
  subst h
  exact cr_all hc
theorem k_any (hc : X.calm = true) (h : X.K = K := by rfl) : CallR X (.builtin "any") (rAny K) := by
  subst h
  exact cr_any hc
theorem k_sorted (h : X.K = K := by rfl) : CallR X (.builtin "sorted") (rSortedI K) := by
  subst h
  exact cr_sortedI
theorem k_catT (h : X.K = K := by rfl) : OpR X (binaryOp .Add) (rCatT K) := by
  subst h
  exact op_catT
theorem k_pgT {es : List Expr} {k : Nat} {t : TGs} {n : Nat} {pos : Pos} (hc : X.calm = true) (h : PGs X es t) (hn : (assignEach es X.env).length = n := by rfl) (hs : (assignEach es X.env).findIdx? (fun p => p.1) = none := by rfl) (hK : X.K = K := by rfl) : PG X (.Tuple es k pos) (gTup K n t) := by
  subst hK
  exact pg_tup hc h hn hs
theorem k_piL {tg l : Expr} {tl : TE} (hl : PE X l tl) (h : X.K = K := by rfl) : PI X tg l (iList K tl) := by
  subst h
  exact pi_list hl
theorem k_piT {tg l : Expr} {tl : TE} (hl : PE X l tl) (h : X.K = K := by rfl) : PI X tg l (iTup K tl) := by
  subst h
  exact pi_tup hl
end
/-! ### lists and tuples alike -/
/-- a list or a tuple is read -/
def SqE (K : PySem.W.Frag) (H : Hp) (a : Addr) (xs : List V) : Prop := SqL K H a xs ∨ SqT K H a xs
def gEither (K : PySem.W.Frag) (n : Nat) (t : TGs) : TG := fun v σ H Q => ∃ a xs, v = .ref a ∧ SqE K H a xs ∧ xs.length = n ∧ t xs σ H Q
/-- x[i], x a list or a tuple -/
def rIxE (K : PySem.W.Frag) : R2 := fun x y H Q => ∃ p xs i v, x = .ref p ∧ y = .int i ∧ SqE K H p xs ∧ atI xs i = some v ∧ Q v H
theorem kx_E (K : PySem.W.Frag) {X : Cx} (hK : X.K = K := by rfl) : IxR X (rIxE K) := by
  subst hK
  rintro value slice pins s σ H x y v u Q I rx ry ⟨p, xs, i, z, e1, e2, hq | hq, e3, q⟩ hs
  · exact ix_list value slice pins s σ H x y v u Q I rx ry ⟨p, xs, i, z, e1, e2, hq, e3, q⟩ hs
  · exact ix_tup value slice pins s σ H x y v u Q I rx ry ⟨p, xs, i, z, e1, e2, hq, e3, q⟩ hs
/-- for x in v, v a name of a list or of a tuple -/
def iEither (K : PySem.W.Frag) (i : Nat) : TI := fun σ H R => ∃ a, σ[i]? = some (some (V.ref a)) ∧ (((∃ xs, SqL K H a xs) ∧ R (Itl K a) H) ∨ ((∃ xs, SqT K H a xs) ∧ R (Itt K a) H))
theorem k_piV (K : PySem.W.Frag) {X : Cx} {tg l : Expr} {i : Nat} (hl : PE X l (tVar i)) (hK : X.K = K := by rfl) : PI X tg l (iEither K i) := by
  subst hK
  constructor
  rintro pins s σ H R I ⟨a, e, ⟨hq, q⟩ | ⟨hq, q⟩⟩
  · exact (pi_list hl).run pins s σ H R I ⟨_, e, a, rfl, hq, q⟩
  · exact (pi_tup hl).run pins s σ H R I ⟨_, e, a, rfl, hq, q⟩
section
variable {X : Cx} {K : PySem.W.Frag} {H H1 : Hp} {a p : Addr} {xs : List V}
theorem SqE.same (h : SqE K H a xs) (s : Same H H1) : SqE K H1 a xs := h.imp (same_seqL s) (same_seqT s)
theorem k_pgE (K : PySem.W.Frag) {es : List Expr} {k : Nat} {t : TGs} {n : Nat} {pos : Pos} (hc : X.calm = true) (h : PGs X es t) (hn : (assignEach es X.env).length = n := by rfl) (hs : (assignEach es X.env).findIdx? (fun p => p.1) = none := by rfl)
    (hK : X.K = K := by rfl) : PG X (.Tuple es k pos) (gEither K n t) := by
  subst hK
  constructor
  rintro pins s σ H v u Q I r ⟨a, xs, e1, hq | hq, hl, hw⟩
  · exact (pg_unl hc h hn hs).run pins s σ H v u Q I r ⟨a, xs, e1, hq, hl, hw⟩
  · exact (pg_tup hc h hn hs).run pins s σ H v u Q I r ⟨a, xs, e1, hq, hl, hw⟩
theorem seqT_ty (h : SqT K H a xs) : TyX K H (.ref a) (.type "tuple") := by
  rcases h with (h | ⟨o, h⟩) | ⟨o, its, n, e, c, _⟩
  · exact .base (.tup h)
  · exact .fTuple h
  · exact .kTuple e c
theorem seqL_ty (h : SqL K H a xs) : TyX K H (.ref a) (.type "list") := by
  rcases h with (h | ⟨o, h⟩) | ⟨o, its, n, e, c, _⟩
  · exact .base (.lst h)
  · exact .base (.frz h)
  · exact .kList e c
end
/-! ### defs with defaults -/
section
variable {P : Program} {w : World} {K : PySem.W.Frag} {mg : Str → Option Value} {base : Heap} {x qual : Str} {params : Arguments} {body : List Stmt} {scope : Scope} {dvs : List V} {f : Addr} {fd : FuncData} {ps : List Str}
theorem FunD_okN {N : List Str} {k : Nat} {sp : Sp} (F : FunD K x qual params body scope dvs [] f fd) (S : FnScope N ps scope) (len : ∀ vs H Q E, sp vs H Q E → vs.length = ps.length)
    (hb : ∀ (cdv : Value) (A : Around) (outer : List Env) (s : Shared) (H : Hp) (vs : List V) (Q : VK) (E : XK), Room k (A.deeper (envOfC qual scope s.heap.objs.size f cdv)) → sp vs H Q E →
      ∃ t, PSs (cxOf CX0 P w K mg base N qual scope f cdv A outer s H E).nox body t ∧ t { nx := fun _ H' => Q .non H', rt := Q } (start N vs) H) : FnOk P w K mg base CX0 (k + 1) f fd ps sp :=
  F.ok S len fun cdv A outer s H vs Q E hr h => by
    obtain ⟨t, h1, h2⟩ := hb cdv A outer s H vs Q E hr h
    exact ⟨t, h1.nox, h2⟩
theorem FunD_mk {oc : Value} {od an : Option Addr} {T : Addr} {kV doc pm cdv ct : Value} {osl : Array (Option Value)} {tc : Value} {td : Option Addr} {its : Array Value} {n : Nat} {tsl : Array (Option Value)}
    (l : K.lookup f = some ⟨oc, od, .func (PySem.W.fnOf x qual params body scope (.ref T) kV doc pm an cdv ct), osl⟩) (c : PySem.W.codeIn K cdv qual = true) (k : PySem.W.keepIn K (.ref f) = true)
    (lt : K.lookup T = some ⟨tc, td, .seq its n, tsl⟩) (v : Vals dvs its.toList) (hd : dvs ≠ []) : FunD K x qual params body scope dvs [] f (PySem.W.fnOf x qual params body scope (.ref T) kV doc pm an cdv ct) :=
  ⟨⟨oc, od, _, kV, doc, pm, an, cdv, ct, osl, rfl, l, c, .inr ⟨hd, T, _, its.toList, n, rfl, lt, by simp, v⟩, .inl rfl⟩, k⟩
/-- keywords, the defaults filling up what lacks -/
theorem FunD_kb (F : FunD K x qual params body scope dvs [] f fd) (hd : dvs ≠ []) (ks : List Str) (g : List Value → List Value → List Value → List Value) (gV : List V → List V → List V → List V)
    (rel : ∀ {vs ds zs : List V} {us its ws : List Value}, Vals vs us → Vals ds its → Vals zs ws → Vals (gV vs ds zs) (g us its ws))
    (h : ∀ (T : Addr) (kV doc pm : Value) (an : Option Addr) (cdv ct : Value) (us its ws : List Value), its.length = dvs.length → (g us its ws).length = ps.length →
      ∃ k, bindArgs (PySem.W.fnOf x qual params body scope (.ref T) kV doc pm an cdv ct) ⟨us, ks.zip ws⟩ = seqItems? (.ref T) >>= k ∧ k (some its.toArray) = pure (ps.zip (g us its ws))) :
    ∃ its : List Value, KBinds K fd ps ks (fun us ws => g us its ws) (fun vs zs => gV vs dvs zs) := by
  obtain ⟨oc, od, dV, kV, doc, pm, an, cdv, ct, osl, e, lk, hcd, hD, _⟩ := F.ex
  subst e
  rcases hD with ⟨e, _⟩ | ⟨_, T, o, its, m, rfl, lT, oT, rT⟩
  · exact absurd e hd
  · refine ⟨its, fun s us ws X hl => ?_, fun r1 r2 => rel r1 rT r2⟩
    obtain ⟨k, e1, e2⟩ := h T kV doc pm an cdv ct us its ws rT.length.symm hl
    refine BindsTo.of_looks fun M => ?_
    rw [e1]
    exact looks_items X lT oT (.of_pure e2)
end
end RO

namespace RO
open PySem PySem.Spec PyProof.Rows L2

/-! ### dicts of at most one pair, as data -/
/-- a number or a text, as data -/
inductive Sc : V → PyData → Prop
  | int (i : Int) : Sc (.int i) (.int i)
  | str (t : Str) : Sc (.str t) (.str t)
/-- data, or a small dict -/
inductive Dq (K : PySem.W.Frag) (H : Hp) : V → PyData → Prop
  | dp {v : V} {d : PyData} {k n : Nat} : Dp K H v d → RepOk d k n → k ≤ 40 → n ≤ 40000 → Dq K H v d
  | d0 {a : Addr} : H a = some (.dK []) → Dq K H (.ref a) (.dict [])
  | d1 {a : Addr} {t : Str} {x : V} {e : PyData} {n : Nat} : H a = some (.dK [(.inr t, x)]) → Sc x e → RepOk e 0 n → n ≤ 1000 → TOk 8 t → Dq K H (.ref a) (.dict [(.str t, e)])
theorem Dq.same {K : PySem.W.Frag} {H H1 : Hp} {v : V} {d : PyData} (h : Dq K H v d) (s : Same H H1) : Dq K H1 v d := by
  cases h with
  | dp h1 h2 h3 h4 => exact .dp (dp_same s _ _ h1) h2 h3 h4
  | d0 e => exact .d0 (s _ _ e)
  | d1 e a b c l => exact .d1 (s _ _ e) a b c l
theorem shown_short {d : PyData} {k n : Nat} (h : RepOk d k n) (hn : n ≤ 1000) : d.shown.length ≤ 402 * 1001 := by
  have e := PyData.shown_le_bulk 400 (by decide) d h.lv
  have b := h.bk
  have : (400 + 2) * d.bulk ≤ 402 * 1000 := Nat.mul_le_mul (by decide) (by omega)
  omega
theorem str_app (a b : Str) : (a ++ b).length = a.length + b.length := by
  rw [str_len, str_len, str_len, codes_app, List.length_append]
/-- repr(x), x data or a small dict -/
def rRepr4 (K : PySem.W.Frag) : List V → Hp → VK → Prop := fun xs H Q => ∃ v d, xs = [v] ∧ Dq K H v d ∧ Q (.str d.shown) H
theorem sys_ne {a : Addr} (h : (a == sysModules) = false) : a ≠ sysModules := fun z => by
  rw [z] at h
  simp at h
theorem call_repr4 {X : Cx} (hG : X.A.guards = some []) (hu : X.A.units + 64 < cLine) : CallR X (.builtin "repr") (rRepr4 X.K) := by
  intro pins s σ H xs us Q I r h
  obtain ⟨v, d, e, hd, q⟩ := h
  cases hd with
  | dp h1 h2 h3 h4 => exact call_reprD hG hu pins s σ H xs us Q I r ⟨v, d, _, _, e, h1, h2, h3, h4, q⟩
  | @d0 a ha =>
    subst e
    rw [Vals.ref1 r]
    have fin : ∀ (h' : Heap) (u : Tok) (tk : Nat), (∀ b o, s.heap.get? b = some o → h'.get? b = some o) → EP X pins σ Q (.str (PyData.dict []).shown u) { s with heap := h', toks := tk } :=
      fun h' u tk hk => ⟨.str (PyData.dict []).shown, H, I.un (Un.kept hk) (I.hok.kept hk), ⟨u, rfl⟩, q⟩
    obtain ⟨_, hs, vs, rel, o, es, ep, ho, hx, hdat, hk, hp, _⟩ := dk_of I.hok ha
    cases rel
    have he : es.toList = [] := by
      have := hp.length
      exact List.eq_nil_of_length_eq_zero this
    have rd : Reads s.heap (.ref a) (.dict []) (a :: [] ++ []) := Reads.dict ho hx.1 hdat (by rw [he]; exact .nil) (by rw [he]; exact .nil)
    exact repr_of_reads' rd (by decide) (fun _ => by simpa using Ne.symm (sys_ne hs)) hG (by show _ + (1 + 1) < _; omega) (fun _ _ z => z) fin (by decide +kernel)
  | @d1 a t x e' n ha hsc hr hn ht =>
    subst e
    rw [Vals.ref1 r]
    have hts := RepOk.tok ht
    have hsh : (PyData.dict [(.str t, e')]).showable = true := by
      simp [PyData.showable, PyData.showableKv, hr.sh]
    have hdp : (PyData.dict [(.str t, e')]).depth ≤ 1 := by
      have := hr.dp
      simp [PyData.depth, PyData.depthKv]
      omega
    have hlen : (PyData.dict [(.str t, e')]).shown.length ≤ sizeLine := by
      have l1 := shown_short hr hn
      have l2 := shown_short hts (by decide)
      rw [PyData.shown_dict]
      simp only [PyData.shownKv, Str.join]
      simp only [str_app]
      have c1 : ("{" : Str).length = 1 := by decide +kernel
      have c2 : ("}" : Str).length = 1 := by decide +kernel
      have c3 : (": " : Str).length = 2 := by decide +kernel
      rw [c1, c2, c3, sizeLine_eq]
      omega
    have fin : ∀ (h' : Heap) (u : Tok) (tk : Nat), (∀ b o, s.heap.get? b = some o → h'.get? b = some o) → EP X pins σ Q (.str (PyData.dict [(.str t, e')]).shown u) { s with heap := h', toks := tk } :=
      fun h' u tk hk => ⟨.str (PyData.dict [(.str t, e')]).shown, H, I.un (Un.kept hk) (I.hok.kept hk), ⟨u, rfl⟩, q⟩
    obtain ⟨_, hs, vs, rel, o, es, ep, ho, hx, hdat, hk, hp, _⟩ := dk_of I.hok ha
    cases rel with
    | @cons _ qv _ _ r1 r2 =>
      cases r2
      obtain ⟨er, rx⟩ := r1
      generalize hes : es.toList = el at hp
      cases hp with
      | @cons en _ _ _ p1 p2 p3 =>
        cases p3
        obtain ⟨_, _, z, _⟩ | ⟨y, tk, z, ek⟩ := keyIs_shape p1
        · rw [← er] at z
          cases z
        · rw [← er] at z
          cases z
          have rv : Reads s.heap en.val e' [] := by
            rw [p2]
            cases hsc with
            | int i =>
              obtain ⟨tt, ee⟩ := (show ∃ tt, qv.2 = Value.int i tt from rx)
              rw [ee]
              exact .int i tt
            | str y =>
              obtain ⟨tt, ee⟩ := (show ∃ tt, qv.2 = Value.str y tt from rx)
              rw [ee]
              exact .str y tt
          have rk : Reads s.heap en.key (.str t) [] := by
            rw [ek]
            exact .str t tk
          have rd : Reads s.heap (.ref a) (.dict [(.str t, e')]) (a :: ([] ++ []) ++ ([] ++ [])) := Reads.dict ho hx.1 hdat (by rw [hes]; exact .cons rk .nil) (by rw [hes]; exact .cons rv .nil)
          exact repr_of_reads' rd hsh (fun _ => by simpa using Ne.symm (sys_ne hs)) hG (by omega) (fun _ _ z => z) fin hlen
/-! ### texts of numbers, letters -/
theorem int_tok {i : Int} {k : Nat} (h : i.natAbs < 2 ^ k) (hk : 0 < k) : TOk (k + 1) (toString i : String) := by
  refine ⟨?_, fun c hc => ?_⟩
  · have l : i.natAbs.log2 < k := by
      by_cases z : i.natAbs = 0
      · rw [z]
        have : Nat.log2 0 = 0 := by decide
        omega
      · exact (Nat.log2_lt z).mpr h
    have e := int_text_length_le (a := i) hk l
    have e2 : (Str.ofString (toString i)).length = (toString i).length := PySem.ofString_length _
    show (Str.ofString (toString i)).length ≤ k + 1
    omega
  · by_cases z : c ≠ 45 ∧ (c < 48 ∨ 57 < c)
    · exact absurd hc (int_text_free' c z i)
    · omega
def rStrOf : List V → Hp → VK → Prop := fun xs H Q => (∃ i, xs = [.int i] ∧ i.natAbs.log2 < 1920 ∧ Q (.str (toString i : String)) H) ∨ ∃ a, xs = [.str a] ∧ Q (.str a) H
theorem k_strOf {X : Cx} : CallR X (.type "str") rStrOf := by
  rintro pins s σ H xs us Q I r (h | h)
  · exact call_str_int pins s σ H xs us Q I r h
  · exact SkE.call_str_str pins s σ H xs us Q I r h
theorem k_repr4 (K : PySem.W.Frag) {X : Cx} (hG : X.A.guards = some []) (hu : X.A.units + 64 < cLine) (h : X.K = K := by rfl) : CallR X (.builtin "repr") (rRepr4 K) := by
  subst h
  exact call_repr4 hG hu
def CPowW (i j : Int) : Prop := 0 ≤ j ∧ ((Builtin.Int.intBits i : Nat) : Int) * j ≤ 134217728
theorem op_powW {X : Cx} : OpR X (binaryOp .Pow) (rI CPowW fun i j => .int (i ^ j.toNat)) := opI fun _ _ _ _ _ _ _ hc q => pow_int hc.1 hc.2 q
def letter (c : Nat) : Bool := decide (97 ≤ c) && decide (c ≤ 122)
theorem letter_not : ∀ c, c < 128 → (!(!(Builtin.Str.occurrences (Str.ofString "abcdefghijklmnopqrstuvwxyz") ⟨#[c]⟩ 0 (Str.ofString "abcdefghijklmnopqrstuvwxyz").length 1).isEmpty)) = !letter c := by decide +kernel
end RO

namespace RO
open PySem PySem.Spec PyProof.Rows L2

/-! ### set(xs), xs a list of numbers -/
/-- an empty set's object -/
def emptySet (w : World) : Obj := { cls := .type "set", dict := none, data := .set #[] 0 (.fresh 0 0 (!w.params.followText "set-order")) }
section
variable {P : Program} {w : World} {A : Around} {E : Value → Shared → Prop} {s : Shared}
/-- set(v): the empty set, and what its start makes of it -/
theorem set_call {v : Value} {Q : Value → Shared → Prop} {G : Shared → Prop}
    (start : wpAny (model P w) A.in1.in1 (Builtin.«set.__init__» ⟨[.ref s.heap.objs.size, v], []⟩)
      (fun fin s' => match fin with
        | .done f => wants (fun r s₂ => r = .none ∧ G s₂) E (.ok f) s'
        | .again c' => c'.quiet = true ∧ codeAny (model P w) A.in1 c' (wants (fun r s₂ => r = .none ∧ G s₂) E) s')
      (fun e s' => wants (fun r s₂ => r = .none ∧ G s₂) E (.error e) s') { s with heap := s.heap.push (emptySet w) })
    (fin : ∀ s', G s' → Q (.ref s.heap.objs.size) s') : wpAny (model P w) A (call (.type "set") [v]) Q E s := by
  have lk := F.called_set.init.lookup
  have bd := F.called_set.init.bind (.ref s.heap.objs.size)
  have nt := F.called_set.notType
  have cc := F.called_set.canCreate
  have tc := F.typeCall_set_1 v
  have md := F.called_set.made
  have sb := F.called_set.sub
  obtain ⟨c, tl, mro⟩ := F.called_set.mro
  refine wpAny_call (codeAny_of_tree ?_)
  show wpAny _ _ (callAny (.type "set") _) _ _ _
  refine wpAny_pure ⟨Code.quiet_builtin _ (by decide +kernel), codeAny_builtin F.entry_type_call ?_⟩
  rw [Around.under_plain (weight_type_call_type "set" [v] []) rfl]
  repeat (any_goals (first | assumption | wp_step))
  refine codeAny_mono (code_set_led1 v (E := E) (Q₁ := fun obj t => obj = .ref s.heap.objs.size ∧ t = { s with heap := s.heap.push (emptySet w) }) ⟨rfl, rfl⟩) fun r t hr => ?_
  cases r with
  | error e => exact hr
  | ok fl =>
    cases fl with
    | ret obj =>
      obtain ⟨rfl, rfl⟩ := hr
      have ty : Shared.TypeIs { s with heap := s.heap.push (emptySet w) } (.ref s.heap.objs.size) "set" := ⟨_, Heap.get?_push_size _ rfl, rfl⟩
      repeat (any_goals (first | assumption | wp_step))
      refine codeAny_mono (codeAny_call_builtin F.called_set.init.plain F.entry_set_init (check_set_init_1 ty start)) fun r2 t2 h2 => ?_
      cases r2 with
      | error e => exact h2
      | ok fl2 =>
        cases fl2 with
        | ret z =>
          obtain ⟨rfl, g⟩ := h2
          have q := fin _ g
          repeat (any_goals (first | assumption | wp_step))
        | _ => exact h2.elim
    | _ => exact hr.elim
/-- of a list of numbers -/
theorem set_ints {l : Addr} {items : Array Value} {ns : List Int} {Q : Value → Shared → Prop} (hh : A.handled = none) (hl : s.heap.IsList l items) (hit : IntsAre items.toList ns) (hb : ns.length + 1 < scanBound)
    (h : ∀ (h' : Heap) (tk n : Nat), SetR w h' s.heap.objs.size (fun j => decide (j ∈ ns)) n → n ≤ ns.length → (∀ b o, s.heap.get? b = some o → h'.get? b = some o) → Q (.ref s.heap.objs.size) { s with heap := h', toks := tk }) :
    wpAny (model P w) A (call (.type "set") [.ref l]) Q E s := by
  have size : items.size = ns.length := by
    rw [← Array.length_toList]
    exact IntsAre.length hit
  have vals : ∀ (i : Nat) (v : Value), items[i]? = some v → ∃ k t, ns[i]? = some k ∧ v = .int k t := fun i v hv => by
    have lt : i < ns.length := size ▸ (Array.getElem?_eq_some_iff.mp hv).1
    obtain ⟨t, e⟩ := IntsAre.int_at hit i v (by rw [Array.getElem?_toList]; exact hv)
    refine ⟨ns[i], t, List.getElem?_eq_getElem lt, ?_⟩
    rw [e, List.getD_eq_getElem?_getD, List.getElem?_eq_getElem lt]
    rfl
  refine set_call (G := fun s2 => ∃ h' tk n, s2 = { s with heap := h', toks := tk } ∧ SetR w h' s.heap.objs.size (fun j => decide (j ∈ ns)) n ∧ n ≤ ns.length ∧ ∀ b o, s.heap.get? b = some o → h'.get? b = some o) ?_ ?_
  · have l1 : (s.heap.push (emptySet w)).IsList l items := hl.push _
    have lS : l < s.heap.objs.size := by
      obtain ⟨_, e, _⟩ := hl
      exact Heap.lt_size e
    have z1 : (s.heap.push (emptySet w)).objs.size = s.heap.objs.size + 1 := Heap.size_push ..
    obtain ⟨⟨oc, od, odt, osl⟩, hol, hcl, nl, hdl⟩ := id l1
    simp only at hcl hdl
    subst hcl hdl
    have n1 := F.sub_list_set
    have n2 := F.sub_list_frozenset
    have n3 : (Value.type "list" == Value.type "dict") = false := by decide
    unfold Builtin.«set.__init__» noKeywords Builtin.Frozenset.updateFrom
    generalize hPI : pyIter = PI
    wp_walk
    subst hPI
    refine wpAny_pyIter_list l1 ?_
    refine wpAny_bind (wpAny_runValue ?_)
    have apart : l ≠ (s.heap.push (emptySet w)).objs.size := by
      rw [z1]
      exact Nat.ne_of_lt (Nat.lt_succ_of_lt lS)
    have S0 : (s.heap.push (emptySet w)).get? s.heap.objs.size = some (emptySet w) := Heap.get?_push_size _ rfl
    have out : s.heap.objs.size ∉ [(s.heap.push (emptySet w)).objs.size, l] := by
      simp only [List.mem_cons, List.not_mem_nil, or_false, not_or]
      exact ⟨by rw [z1]; exact Nat.ne_of_lt (Nat.lt_succ_self _), Nat.ne_of_gt lS⟩
    refine set_update_ints ((Walks.list (by simp [hh]) _ l apart items).toS) s.heap.objs.size out ns size hb vals (items.size - 0) 0 _ (by omega) (Nat.zero_le _)
      ⟨⟨_, Heap.get?_push_size _ rfl, rfl, rfl⟩, l1.push _⟩ ⟨0, Nat.le_refl 0, setR_new_at (Heap.get?_push_of_some _ S0)⟩ fun s3 n mv hn R => ?_
    obtain ⟨h', g', d', tk', o'⟩ := s3
    have e1 : g' = s.gens := mv.gens
    have e2 : d' = s.drawn := mv.drawn
    have e3 : o' = s.os := mv.os
    subst e1 e2 e3
    refine wpAny_pure (wpAny_pure ⟨rfl, h', tk', n, rfl, R, by omega, fun b o e => ?_⟩)
    have lt := Heap.lt_size e
    exact mv.heap b o (by simp only [List.mem_cons, List.not_mem_nil, or_false, not_or]; exact ⟨Nat.ne_of_lt lt, by rw [z1]; exact Nat.ne_of_lt (Nat.lt_succ_of_lt lt)⟩) (Heap.get?_push_of_some _ (Heap.get?_push_of_some _ e))
  · rintro s2 ⟨h', tk, n, rfl, R, hn, keep⟩
    exact h h' tk n R hn keep
end
section
variable {X : Cx}
/-- set(xs) by values -/
def rSetI (K : PySem.W.Frag) (w : World) : List V → Hp → VK → Prop := fun vs H Q => ∃ (a : Addr) (ns : List Int), vs = [V.ref a] ∧ SqL K H a (ns.map V.int) ∧ ns.length ≤ 1000 ∧
  ∀ p n, H p = none → n ≤ ns.length → Q (.ref p) (upd H p (SetO w p (fun j => decide (j ∈ ns)) n))
theorem cr_setI (hc : X.calm = true) : CallR X (.type "set") (rSetI X.K X.w) := by
  intro pins s σ H vs us Q I r h
  obtain ⟨a, ns, rfl, hs, hl, q⟩ := h
  obtain ⟨its, rv, p, hz⟩ := I.list hs
  rw [Vals.ref1 r]
  have lim : ns.length + 1 < scanBound := Nat.lt_of_le_of_lt (Nat.succ_le_succ hl) (by decide)
  refine set_ints (I.ok.hd hc) p.isList rv.ints lim fun h' tk n R hn keep => ?_
  have fresh : H s.heap.objs.size = none := I.hok.fresh (Nat.le_refl _)
  exact ⟨.ref _, _, I.laid (t' := tk) keep (Nat.le_refl _) (setO_new R), rfl, q _ n fresh hn⟩
end
end RO

namespace RO
open PySem PySem.Spec PyProof.Rows L2 PpSet

/-! ### {k for x in xs if ..}, k a number -/
section
variable {X : Cx}
/-- one turn's end: k joins the set at D -/
def Joins (w : World) (D : Addr) (Nx : Hp → Prop) : VK := fun y H => ∃ (k : Int) (S : Int → Bool) (n : Nat), y = .int k ∧ H D = some (SetO w D S n) ∧ n + 1 < scanBound ∧ Nx (upd H D (SetO w D (fun j => S j || decide (j = k)) (if S k = true then n else n + 1)))
def tScI (w : World) (wi : TI) (g : TG) (tt : TT) (te : TE) (vs : List Nat) : TE := fun σ H Q => wi σ H fun J H1 => ∀ D, H1 D = none → ∃ W : Nat → Nat → Hp → Prop, (∃ m, W 0 m (upd H1 D (SetO w D (fun _ => false) 0))) ∧ ∀ i m H, W i m H →
  (J.stop i H ∧ Q (.ref D) H) ∨ (J.go i H ∧ ∃ Nx : Hp → Prop, (∀ H', Nx H' → ∃ m', m' < m ∧ W (i + 1) m' H') ∧ ∀ x H', J.yld i H x H' → g x (wipe σ vs) H' fun σ2 H2 => wipe σ2 vs = wipe σ vs ∧ tt σ2 H2 fun b H3 =>
    if b = true then te σ2 H3 (Joins w D Nx) else Nx H3)
theorem pe_scI {elt tg iter : Expr} {ifs : List Expr} {scope : Scope} {own : List (PySem.Str × Nat)} {pos : Pos} {wi : TI} {g : TG} {tt : TT} {te : TE} (hc : X.calm = true) (hN : X.N.Nodup) (hi : PI X tg iter wi) (ok : BlkOk X.N X.env.scope scope own)
    (hg : ∀ (s : Shared) (H : Hp) (C : Addr) (cl : List (PySem.Str × Addr)) (fp : List Addr), PG (X.blk s H scope (compEnvC scope cl C X.env) fp) tg g)
    (ht : ∀ (s : Shared) (H : Hp) (C : Addr) (cl : List (PySem.Str × Addr)) (fp : List Addr), PTs (X.blk s H scope (compEnvC scope cl C X.env) fp) ifs tt)
    (he : ∀ (s : Shared) (H : Hp) (C : Addr) (cl : List (PySem.Str × Addr)) (fp : List Addr), PE (X.blk s H scope (compEnvC scope cl C X.env) fp) elt te) (hs : ∀ x, foldedSetIterable iter X.env x = pure x := by intro _; rfl) :
    PE X (.SetComp elt [⟨tg, iter, ifs, 0⟩] scope pos) (tScI X.w wi g tt te (own.map (·.2))) := by
  constructor
  intro pins s σ H Q I h
  rw [eval_SetComp]
  have cells : ∀ y ∈ scope.names, y.2 = .free → ∃ c, X.env.cells.lookup y.1 = some c := fun y hy e =>
    (ok.free y hy e).elim (fun k => I.ok.has _ (.inl k)) fun k => I.ok.has _ (.inr k)
  apply wpAny_comprehension_free (use := none) rfl hs (closure_ok cells) ok.kind (fun y hy e => by rw [ok.uniq y hy, e])
  apply thn (hi.run pins s σ H _ I h)
  intro xv s1 hx
  apply thn hx
  rintro _ s2 ⟨it, fp, tn, J, H2, rfl, I2, T, at2, free2, q⟩
  apply newSet_ok
  apply newEnv_comp
  have below : ∀ b ∈ fp, b < s2.heap.objs.size := fun b hb => (T.obj _ _ at2 b hb).elim fun o e => Heap.lt_size e.1
  have fresh : H2 s2.heap.objs.size = none := I2.hok.fresh (Nat.le_refl _)
  obtain ⟨W, ⟨m0, start⟩, turn⟩ := q _ fresh
  have I3 : Inv X pins σ (upd H2 s2.heap.objs.size (SetO X.w s2.heap.objs.size (fun _ => false) 0)) { s2 with heap := s2.heap.push (emptySet X.w) } :=
    I2.laid (t' := s2.toks) (fun _ _ e => Heap.get?_push_of_some _ e) (Nat.le_refl _) (setO_new (setR_fresh X.w))
  have at3 : tn 0 (s2.heap.push (emptySet X.w)) := T.keep _ _ _ at2 fun _ _ _ e => Heap.get?_push_of_some _ e
  have ok3 : ∀ b ∈ fp, FpOk X pins (upd H2 s2.heap.objs.size (SetO X.w s2.heap.objs.size (fun _ => false) 0)) b ∧ b < (s2.heap.push (emptySet X.w)).objs.size := fun b hb =>
    ⟨⟨by rw [upd_ne (Nat.ne_of_lt (below b hb))]; exact (free2 b hb).1, (free2 b hb).2⟩, by rw [Heap.size_push]; exact Nat.lt_succ_of_lt (below b hb)⟩
  generalize s2.heap.objs.size = D at *
  generalize upd H2 D (SetO X.w D (fun _ => false) 0) = H3 at *
  suffices key : ∀ s3 : Shared, s3 = { s2 with heap := s2.heap.push (emptySet X.w) } →
      codeAny (model X.prog X.w) X.A (.compStart (.SetComp elt [⟨tg, iter, ifs, 0⟩] scope pos) 0 (.ref it) (.ref D) (compEnvC scope (cellsFrom (s3.heap.objs.size + 1) scope.names (cloFrom X.env.cells scope.names [])) s3.heap.objs.size X.env))
        (compPost (model X.prog X.w) X.A X.xe none (EP X pins σ Q) (.ref D) s3.heap.objs.size) { s3 with heap := pushCells (s3.heap.push { cls := .type "dict", data := .dict #[] }) scope.names } from key _ rfl
  intro s3 es3
  have eh : s3.heap = s2.heap.push (emptySet X.w) := by rw [es3]
  rw [← eh] at at3 ok3
  rw [← es3] at I3
  have I4 := block_start I3 ok hN ok3
  have pg := hg s3 H3 s3.heap.objs.size (cellsFrom (s3.heap.objs.size + 1) scope.names (cloFrom X.env.cells scope.names [])) fp
  have pt := ht s3 H3 s3.heap.objs.size (cellsFrom (s3.heap.objs.size + 1) scope.names (cloFrom X.env.cells scope.names [])) fp
  have pe := he s3 H3 s3.heap.objs.size (cellsFrom (s3.heap.objs.size + 1) scope.names (cloFrom X.env.cells scope.names [])) fp
  have locals : (compEnvC scope (cellsFrom (s3.heap.objs.size + 1) scope.names (cloFrom X.env.cells scope.names [])) s3.heap.objs.size X.env).locals = s3.heap.objs.size := rfl
  generalize compEnvC scope (cellsFrom (s3.heap.objs.size + 1) scope.names (cloFrom X.env.cells scope.names [])) s3.heap.objs.size X.env = ce at *
  have at4 : tn 0 ({ s3 with heap := pushCells (s3.heap.push { cls := .type "dict", data := .dict #[] }) scope.names } : Shared).heap := T.keep _ _ _ at3 fun b _ o e => pushCells_keeps _ _ _ _ (Heap.get?_push_of_some _ e)
  generalize ({ s3 with heap := pushCells (s3.heap.push { cls := .type "dict", data := .dict #[] }) scope.names } : Shared) = s4 at *
  let B := X.blk s3 H3 scope ce fp
  have stay : ∀ (σ' : L2.St) (H' : Hp) (s' : Shared), Inv B [] σ' H' s' → (∀ b ∈ fp, H' b = none) → ∀ b ∈ fp, FpOk B [] H' b := fun σ' H' s' J' free b hb =>
    ⟨free b hb, (J'.ok.exf b hb).1, J'.ok.exfs b hb, .inl hb, (J'.ok.exf b hb).2, fun p hp => nomatch (show p ∈ ([] : List (Addr × Obj)) from hp)⟩
  have loop : codeAny (model X.prog X.w) X.A (.compLoop (.SetComp elt [⟨tg, iter, ifs, 0⟩] scope pos) 0 (.ref it) (.ref D) ce) (compPost (model X.prog X.w) X.A X.xe none (EP X pins σ Q) (.ref D) s3.heap.objs.size) s4 := by
    refine compLoopS_any (fun n s' => ∃ i H', Inv B [] (wipe σ (own.map (·.2))) H' s' ∧ tn i s'.heap ∧ (∀ b ∈ fp, H' b = none) ∧ W i n H') ?_ m0 ⟨0, H3, I4, at4, fun b hb => (ok3 b hb).1.1, start⟩
    rintro n s5 ⟨i, H5, I5, at5, free5, w5⟩
    rcases turn i n H5 w5 with ⟨stop, fin⟩ | ⟨go, Nx, less, step⟩
    · apply thnF (T.done B rfl rfl rfl hc i [] s5 _ H5 (fun _ _ => False) I5 (stay _ _ _ I5 free5) at5 stop)
      rintro r s6 ⟨rfl, I6⟩
      have back : Inv X pins σ H5 s6 := I3.call' (ch := fp) I6.os I6.base I6.hok I6.bare fun b hb => ⟨(ok3 b hb).1.2.2.2.1, (ok3 b hb).1.2.1, (ok3 b hb).1.2.2.2.2.1, (ok3 b hb).1.2.2.2.2.2⟩
      have free : H5 s3.heap.objs.size = none := locals ▸ (show H5 ce.locals = none from I6.free)
      obtain ⟨m, hn, _⟩ := I6.loc
      have hn : s6.heap.Ns s3.heap.objs.size m := locals ▸ (show s6.heap.Ns ce.locals m from hn)
      obtain ⟨f0, f1, f2, f3, f4, f5⟩ := I3.fpOk (Nat.le_refl _) free
      exact ⟨m, hn, fun h'' sb => ⟨.ref D, H5, back.turned (t' := s6.toks) (fun b o hb e => (sb.2 b hb).trans e) f0 f1 f3 f4 f5, rfl, fin⟩⟩
    · apply thnF (T.item B rfl rfl rfl hc i [] s5 _ H5 (fun _ _ => False) I5 (stay _ _ _ I5 free5) at5 go)
      rintro r s6 ⟨u, rfl, h6⟩
      apply thnF h6
      rintro _ s7 ⟨x, H7, I7, r7, y7, at7, free7⟩
      apply thnF (pg.run _ s7 _ H7 x u _ (I7.pinned (stay _ _ _ I7 free7) (T.obj _ _ at7)) r7 (step x H7 y7))
      rintro _ s8 ⟨σ8, H8, I8, wiped, q8⟩
      apply thnF (pt.run _ s8 σ8 H8 _ I8 q8)
      rintro b s9 ⟨H9, I9, q9⟩
      have next : ∀ (s' : Shared) (H' : Hp), Inv B ([] ++ pinsAt fp s7.heap) σ8 H' s' → Nx H' → ∃ m, m < n ∧ ∃ i H', Inv B [] (wipe σ (own.map (·.2))) H' s' ∧ tn i s'.heap ∧ (∀ b ∈ fp, H' b = none) ∧ W i m H' := fun s' H' J' nx => by
        obtain ⟨m', lt, w'⟩ := less H' nx
        have pin : ∀ b ∈ fp, ∀ o, s7.heap.get? b = some o → s'.heap.get? b = some o ∧ H' b = none := fun b hb o e =>
          have z := J'.pin (b, o) (List.mem_append_right _ (List.mem_append_right _ (mem_pinsAt hb e)))
          ⟨z.1, z.2.1⟩
        refine ⟨m', lt, i + 1, H', (J'.unpinned (pins := [])).weak (by rw [← wiped, wipe_length]) (fun j v e => ?_), T.keep _ _ _ at7 fun b hb o e => (pin b hb o e).1, fun b hb => ?_, w'⟩
        · rw [← wiped] at e
          exact (wipe_some e).1
        · obtain ⟨o, e, _⟩ := T.obj _ _ at7 b hb
          exact (pin b hb o e).2
      cases b with
      | false => exact next s9 H9 I9 q9
      | true =>
        apply thnF (pe.run _ s9 σ8 H9 _ I9 q9)
        rintro z s10 ⟨yv, H10, I10, r10, k, S, c, rfl, hD, room, nx⟩
        apply thnF (mt_sadd (X := B) _ s10 σ8 H10 (.ref D) [.int k] (.ref D) [z] (fun _ H' => Nx H') I10 rfl (.cons r10 .nil) ⟨D, k, S, c, rfl, rfl, hD, room, nx⟩)
        rintro _ s11 ⟨_, H11, I11, _, nx⟩
        exact next s11 H11 I11 nx
  exact codeAny_compStart_set loop (T.self X.A 0 _ _ _ at4 loop)
end
end RO

namespace RO
open PySem PySem.Spec PyProof.Rows L2
section
variable {J : It} {n : Nat} {G : Hp → Prop} {Y : Nat → Hp → V → Hp → Prop}
/-- a set's comprehension over what is walked: Pv by the turn and the heap -/
theorem sc_it {ww : World} (wk : Walk J n G Y) {g : TG} {tt : TT} {te : TE} {vs : List Nat} {σ : L2.St} {H1 : Hp} {D : Addr} {Qd : Hp → Prop} (Pv : Nat → Hp → Prop) (h0 : Pv 0 (upd H1 D (SetO ww D (fun _ => false) 0))) (hG : ∀ i H, i ≤ n → Pv i H → G H)
    (hs : ∀ i x H H', i < n → Pv i H → Y i H x H' → g x (wipe σ vs) H' fun σ2 H2 => wipe σ2 vs = wipe σ vs ∧ tt σ2 H2 fun b H3 => if b = true then te σ2 H3 (Joins ww D (Pv (i + 1))) else Pv (i + 1) H3) (hd : ∀ H, Pv n H → Qd H) :
    ∃ W : Nat → Nat → Hp → Prop, (∃ m, W 0 m (upd H1 D (SetO ww D (fun _ => false) 0))) ∧ ∀ i m H, W i m H →
      (J.stop i H ∧ Qd H) ∨ (J.go i H ∧ ∃ Nx : Hp → Prop, (∀ H', Nx H' → ∃ m', m' < m ∧ W (i + 1) m' H') ∧ ∀ x H', J.yld i H x H' → g x (wipe σ vs) H' fun σ2 H2 => wipe σ2 vs = wipe σ vs ∧ tt σ2 H2 fun b H3 =>
        if b = true then te σ2 H3 (Joins ww D Nx) else Nx H3) := by
  refine ⟨fun i m H => m = n - i ∧ i ≤ n ∧ Pv i H, ⟨n, by simp, Nat.zero_le _, h0⟩, ?_⟩
  rintro i m H ⟨rfl, le, p⟩
  have q := hG i H le p
  rcases Nat.lt_or_ge i n with lt | ge
  · exact .inr ⟨wk.goes i H lt q, Pv (i + 1), fun H' p' => ⟨n - (i + 1), by omega, rfl, lt, p'⟩, fun x H' y => hs i x H H' lt p (wk.yields i H x H' lt q y)⟩
  · obtain rfl : i = n := by omega
    exact .inl ⟨wk.stops H q, hd H p⟩
end
theorem k_setI (K : PySem.W.Frag) (ww : World) {X : Cx} (hc : X.calm = true) (h : X.K = K := by rfl) (h2 : X.w = ww := by rfl) : CallR X (.type "set") (rSetI K ww) := by
  subst h h2
  exact cr_setI hc
theorem k_sortedSet (ww : World) {X : Cx} (hc : X.calm = true) (h2 : X.w = ww := by rfl) : CallR X (.builtin "sorted") (rSortedSet ww) := by
  subst h2
  exact cr_sortedSet hc
theorem asc_ext : ∀ {a b : List Int}, a.Pairwise (· < ·) → b.Pairwise (· < ·) → (∀ k, k ∈ a ↔ k ∈ b) → a = b
  | [], [], _, _, _ => rfl
  | [], y :: b, _, _, h => nomatch (h y).mpr (List.mem_cons_self ..)
  | x :: a, [], _, _, h => nomatch (h x).mp (List.mem_cons_self ..)
  | x :: a, y :: b, ha, hb, h => by
    obtain ⟨a1, a2⟩ := List.pairwise_cons.mp ha
    obtain ⟨b1, b2⟩ := List.pairwise_cons.mp hb
    have e : x = y := by
      rcases List.mem_cons.mp ((h x).mp (List.mem_cons_self ..)) with q | q
      · exact q
      · rcases List.mem_cons.mp ((h y).mpr (List.mem_cons_self ..)) with z | z
        · exact z.symm
        · have := b1 x q
          have := a1 y z
          omega
    subst e
    refine congrArg (x :: ·) (asc_ext a2 b2 fun k => ⟨fun hk => ?_, fun hk => ?_⟩)
    · rcases List.mem_cons.mp ((h k).mp (List.mem_cons_of_mem _ hk)) with q | q
      · have := a1 k hk
        omega
      · exact q
    · rcases List.mem_cons.mp ((h k).mpr (List.mem_cons_of_mem _ hk)) with q | q
      · have := b1 k hk
        omega
      · exact q
end RO

namespace RO
open PySem PySem.Spec PyProof.Rows L2
/-! ### tuples put together and cut, whatever their lengths -/
/-- x + y, two tuples: a tuple of both, new or one of them -/
def rCatU (K : PySem.W.Frag) : R2 := fun x y H Q => ∃ a b xs ys, x = .ref a ∧ y = .ref b ∧ SqT K H a xs ∧ SqT K H b ys ∧ xs.length + ys.length ≤ sizeLine ∧ ∀ q H', Same H H' → SqT K H' q (xs ++ ys) → Q (.ref q) H'
theorem k_catU (K : PySem.W.Frag) {X : Cx} (h : X.K = K := by rfl) : OpR X (binaryOp .Add) (rCatU K) := by
  subst h
  rintro pins s σ H x y v u Q I rx ry ⟨a, b, xs, ys, rfl, rfl, ha, hb, hz, q⟩
  by_cases hx : xs = []
  · subst hx
    cases rx
    cases ry
    obtain ⟨its, r1, p1, _⟩ := I.tuple ha
    obtain ⟨its2, r2, p2, _⟩ := I.tuple hb
    cases r1
    exact cat_tup0 p1 p2 ⟨.ref b, H, I, rfl, q b H (Same.refl _) hb⟩
  · refine op_catT pins s σ H (.ref a) (.ref b) v u Q I rx ry ⟨a, b, xs, ys, rfl, rfl, ha, hb, hx, hz, fun e => ?_, fun _ p hp => ?_⟩
    · subst e
      exact q a H (Same.refl _) (by rw [List.append_nil]; exact ha)
    · exact q p _ (same_new (Same.refl _) hp) (SqT.of upd_same)
/-- x[lo:hi], x a tuple: a tuple, new or itself -/
def rSlU (K : PySem.W.Frag) : V → Option Int → Option Int → Hp → VK → Prop := fun x lo hi H Q => ∃ a xs, x = .ref a ∧ SqT K H a xs ∧ ∀ q H', Same H H' → SqT K H' q (cutV xs lo hi) → Q (.ref q) H'
theorem k_slU (K : PySem.W.Frag) {X : Cx} (h : X.K = K := by rfl) : SlR X (rSlU K) := by
  subst h
  rintro pins s σ H x v vl vu lo hi sl Q I rx hs pl pu ⟨a, xs, rfl, ha, q⟩
  refine sl_tupA pins s σ H (.ref a) v vl vu lo hi sl Q I rx hs pl pu ⟨a, xs, rfl, ha, fun z => ?_, fun z p hp => ?_⟩
  · refine q a H (Same.refl _) ?_
    have e : cutV xs lo hi = xs := by
      unfold cutV
      rw [z.1, z.2, List.drop_zero, Nat.sub_zero, List.take_length]
    rw [e]
    exact ha
  · exact q p _ (same_new (Same.refl _) hp) (SqT.of upd_same)
theorem k_max (K : PySem.W.Frag) {X : Cx} (hc : X.calm = true) (h : X.K = K := by rfl) : CallR X (.builtin "max") (rMax K) := by
  subst h
  exact cr_max hc
end RO

namespace RO
/-! ### sums over stretches of whole numbers, forward and back -/
def nsum (f : Int → Int) : Nat → Int
  | 0 => 0
  | n + 1 => nsum f n + f n
def zsum (f : Int → Int) : Int → Int
  | .ofNat n => nsum f n
  | .negSucc n => - nsum (fun i => f (-i - 1)) (n + 1)
theorem zsum_nat (f : Int → Int) (n : Nat) : zsum f (n : Int) = nsum f n := rfl
theorem zsum_0 (f : Int → Int) : zsum f 0 = 0 := rfl
theorem zsum_succ (f : Int → Int) (n : Int) : zsum f (n + 1) = zsum f n + f n := by
  cases n with
  | ofNat n => rfl
  | negSucc n =>
    cases n with
    | zero =>
      show (0 : Int) = - (0 + f (-((0 : Nat) : Int) - 1)) + f (-1)
      have e : (-((0 : Nat) : Int) - 1) = -1 := rfl
      rw [e]
      omega
    | succ k =>
      show - nsum (fun i => f (-i - 1)) (k + 1) = - (nsum (fun i => f (-i - 1)) (k + 1) + f (-((k + 1 : Nat) : Int) - 1)) + f (Int.negSucc (k + 1))
      have e : (-((k + 1 : Nat) : Int) - 1) = Int.negSucc (k + 1) := by omega
      rw [e]
      omega
theorem zsum_uniq {f g : Int → Int} (h0 : g 0 = 0) (h : ∀ n, g (n + 1) = g n + f n) (n : Int) : g n = zsum f n := by
  have up : ∀ k : Nat, g (k : Int) = zsum f (k : Int) := by
    intro k
    induction k with
    | zero => exact h0
    | succ i ih => rw [show ((i + 1 : Nat) : Int) = (i : Int) + 1 from rfl, h, ih, zsum_succ]
  have down : ∀ k : Nat, g (-(k : Int)) = zsum f (-(k : Int)) := by
    intro k
    induction k with
    | zero => exact h0
    | succ i ih =>
      have a := h (-(i : Int) - 1)
      have b := zsum_succ f (-(i : Int) - 1)
      have e : -(i : Int) - 1 + 1 = -(i : Int) := by omega
      have e2 : -((i + 1 : Nat) : Int) = -(i : Int) - 1 := by omega
      rw [e] at a b
      rw [e2]
      omega
  rcases Int.natAbs_eq n with e | e
  · rw [e]; exact up _
  · rw [e]; exact down _
theorem zsum_congr {f g : Int → Int} (h : ∀ i, f i = g i) (n : Int) : zsum f n = zsum g n :=
  zsum_uniq (zsum_0 f) (fun i => by rw [zsum_succ, h]) n
theorem zsum_add (f : Int → Int) (a b : Int) : zsum f (a + b) = zsum f a + zsum (fun i => f (a + i)) b := by
  have h := zsum_uniq (f := fun i => f (a + i)) (g := fun i => zsum f (a + i) - zsum f a) (by show zsum f (a + 0) - _ = _; rw [Int.add_zero]; omega)
    (fun n => by show zsum f (a + (n + 1)) - _ = zsum f (a + n) - _ + f (a + n); rw [← Int.add_assoc, zsum_succ]; omega) b
  have h : zsum f (a + b) - zsum f a = _ := h
  omega
theorem zsum_neg (f : Int → Int) (n : Int) : zsum (fun i => - f i) n = - zsum f n :=
  (zsum_uniq (f := fun i => - f i) (g := fun i => - zsum f i) (by show - zsum f 0 = 0; rw [zsum_0]; rfl) (fun i => by show - zsum f (i + 1) = - zsum f i + - f i; rw [zsum_succ]; omega) n).symm
theorem zsum_const (c n : Int) : zsum (fun _ => c) n = n * c :=
  (zsum_uniq (f := fun _ => c) (g := fun i => i * c) (Int.zero_mul c) (fun i => by show (i + 1) * c = i * c + c; rw [Int.add_mul, Int.one_mul]) n).symm
/-- what is told by rounds is the sum -/
theorem rounds_sum {f : Int → Int} {m : Int} (hm : 0 < m) (per : ∀ i, f (i + m) = f i) (n : Int) : n / m * nsum f m.toNat + nsum f (n % m).toNat = zsum f n := by
  have perk : ∀ (k : Nat) (i : Int), f (i + m * k) = f i := by
    intro k
    induction k with
    | zero => intro i; rw [show i + m * ((0 : Nat) : Int) = i by rw [Int.natCast_zero, Int.mul_zero, Int.add_zero]]
    | succ k ih => intro i; rw [show i + m * ((k + 1 : Nat) : Int) = (i + m * (k : Int)) + m by rw [Int.natCast_add, Int.mul_add]; omega, per, ih]
  have perz : ∀ (q i : Int), f (i + m * q) = f i := by
    intro q i
    cases q with
    | ofNat k => exact perk k i
    | negSucc k =>
      have h := perk (k + 1) (i + m * Int.negSucc k)
      have e : i + m * Int.negSucc k + m * ((k + 1 : Nat) : Int) = i := by
        rw [Int.add_assoc, ← Int.mul_add, show Int.negSucc k + ((k + 1 : Nat) : Int) = 0 by omega, Int.mul_zero, Int.add_zero]
      rw [e] at h
      exact h.symm
  refine zsum_uniq (f := f) (g := fun n => n / m * nsum f m.toNat + nsum f (n % m).toNat) ?_ (fun n => ?_) n
  · show 0 / m * _ + nsum f (0 % m).toNat = 0
    rw [Int.zero_ediv, Int.zero_emod, Int.zero_mul]
    rfl
  · show (n + 1) / m * nsum f m.toNat + nsum f ((n + 1) % m).toNat = n / m * nsum f m.toNat + nsum f (n % m).toNat + f n
    have r0 := Int.emod_nonneg n (show m ≠ 0 by omega)
    have r1 := Int.emod_lt_of_pos n hm
    have dm := Int.emod_add_mul_ediv n m
    have fn : f n = f (n % m) := by
      have h := perz (n / m) (n % m)
      rw [dm] at h
      exact h
    obtain ⟨k, hk⟩ := Int.eq_ofNat_of_zero_le r0
    by_cases c : n % m + 1 < m
    · have e1 : (n + 1) / m = n / m ∧ (n + 1) % m = n % m + 1 := by
        rw [Int.ediv_emod_unique hm]
        refine ⟨?_, by omega, c⟩
        omega
      rw [e1.1, e1.2, fn, hk]
      show _ + (nsum f k + f k) = _ + nsum f k + f k
      omega
    · have e1 : (n + 1) / m = n / m + 1 ∧ (n + 1) % m = 0 := by
        rw [Int.ediv_emod_unique hm]
        refine ⟨?_, by omega, hm⟩
        rw [Int.mul_add]
        omega
      have em : m.toNat = k + 1 := by omega
      rw [e1.1, e1.2, fn, hk, em]
      show (n / m + 1) * (nsum f k + f k) + 0 = n / m * (nsum f k + f k) + nsum f k + f k
      rw [Int.add_mul, Int.one_mul]
      omega
/-- a whole round is added as often as it is gone -/
theorem zsum_rounds {f : Int → Int} {m : Int} (per : ∀ i, f (i + m) = f i) (a q : Int) : zsum f (a + q * m) = zsum f a + q * (zsum f (a + m) - zsum f a) := by
  have shift : ∀ n, zsum f (n + m) - zsum f n = zsum f m := by
    intro n
    have h := zsum_uniq (f := f) (g := fun n => zsum f (n + m) - zsum f m) (by show zsum f (0 + m) - _ = 0; rw [Int.zero_add]; omega)
      (fun n => by show zsum f (n + 1 + m) - _ = zsum f (n + m) - _ + f n; rw [show n + 1 + m = n + m + 1 by omega, zsum_succ, per]; omega) n
    have h : zsum f (n + m) - zsum f m = zsum f n := h
    omega
  have h : ∀ q : Int, zsum f (a + q * m) - zsum f a = zsum (fun _ => zsum f m) q := by
    intro q
    refine zsum_uniq (f := fun _ => zsum f m) (g := fun q => zsum f (a + q * m) - zsum f a) ?_ (fun q => ?_) q
    · show zsum f (a + 0 * m) - _ = 0
      rw [Int.zero_mul, Int.add_zero]
      omega
    · show zsum f (a + (q + 1) * m) - _ = zsum f (a + q * m) - _ + zsum f m
      have e : a + (q + 1) * m = a + q * m + m := by rw [Int.add_mul, Int.one_mul]; omega
      have := shift (a + q * m)
      rw [e]
      omega
  have h1 := h q
  rw [zsum_const] at h1
  rw [shift a]
  omega
/-! ### headings -/
/-- the number of the heading of a swing -/
def hdg (s p : Int) : Int := s / p % 8
def hxs : List Int := [0, 1, 1, 1, 0, -1, -1, -1]
def hys : List Int := [1, 1, 0, -1, -1, -1, 0, 1]
def dx (s p : Int) : Int := hxs.getD (hdg s p).toNat 0
def dy (s p : Int) : Int := hys.getD (hdg s p).toNat 0
theorem hdg_range (s p : Int) : 0 ≤ hdg s p ∧ hdg s p < 8 := ⟨Int.emod_nonneg _ (by decide), Int.emod_lt_of_pos _ (by decide)⟩
theorem hdg_per {p : Int} (hp : 0 < p) (s k : Int) : hdg (s + 8 * p * k) p = hdg s p := by
  unfold hdg
  rw [show s + 8 * p * k = s + p * (8 * k) by rw [Int.mul_comm 8 p, Int.mul_assoc], Int.add_mul_ediv_left _ _ (by omega), Int.add_mul_emod_self_left]
theorem dx_per {p : Int} (hp : 0 < p) (s k : Int) : dx (s + 8 * p * k) p = dx s p := by unfold dx; rw [hdg_per hp]
theorem dy_per {p : Int} (hp : 0 < p) (s k : Int) : dy (s + 8 * p * k) p = dy s p := by unfold dy; rw [hdg_per hp]
/-- the minutes of a round -/
def roundOf (v p : Int) : Int := 8 * p / ((Nat.gcd v.natAbs (8 * p).natAbs : Nat) : Int)
theorem roundOf_spec {p : Int} (hp : 0 < p) (v : Int) : 0 < roundOf v p ∧ roundOf v p ≤ 8 * p ∧ ∃ k, roundOf v p * v = 8 * p * k := by
  have hc : 0 < 8 * p := by omega
  have g0 : 0 < Nat.gcd v.natAbs (8 * p).natAbs := Nat.gcd_pos_of_pos_right _ (by omega)
  obtain ⟨a, ha⟩ := Nat.gcd_dvd_left v.natAbs (8 * p).natAbs
  obtain ⟨b, hb⟩ := Nat.gcd_dvd_right v.natAbs (8 * p).natAbs
  unfold roundOf
  generalize Nat.gcd v.natAbs (8 * p).natAbs = g at *
  have eb : 8 * p = (g : Int) * (b : Int) := by rw [← Int.natCast_mul, ← hb]; omega
  have er : 8 * p / (g : Int) = (b : Int) := by rw [eb, Int.mul_ediv_cancel_left _ (by omega)]
  rw [er]
  have b0 : b ≠ 0 := fun z => by rw [z, Int.natCast_zero, Int.mul_zero] at eb; omega
  refine ⟨by omega, ?_, ?_⟩
  · rw [eb]
    have : b ≤ g * b := Nat.le_mul_of_pos_left b g0
    rw [← Int.natCast_mul]
    omega
  · obtain ⟨va, hva⟩ : ∃ va : Int, v = (g : Int) * va := by
      rcases Int.natAbs_eq v with z | z
      · exact ⟨a, by rw [z, ha, Int.natCast_mul]⟩
      · exact ⟨-a, by rw [z, ha, Int.natCast_mul, Int.mul_neg]⟩
    refine ⟨va, ?_⟩
    rw [eb, hva, ← Int.mul_assoc, Int.mul_comm (b : Int) (g : Int)]
theorem round_per {h : Int → Int → Int} {p : Int} (hp : 0 < p) (per : ∀ s k, h (s + 8 * p * k) p = h s p) (s v i : Int) : h (s + (i + roundOf v p) * v) p = h (s + i * v) p := by
  obtain ⟨k, hk⟩ := (roundOf_spec hp v).2.2
  rw [show s + (i + roundOf v p) * v = s + i * v + 8 * p * k by rw [Int.add_mul, hk]; omega, per]
/-- where she is: x, y, swing -/
structure Boat where
  x : Int
  y : Int
  s : Int
def sailed (b : Boat) (port star n p : Int) : Boat :=
  ⟨b.x + (port + star) * zsum (fun i => dx (b.s + i * (port - star)) p) n, b.y + (port + star) * zsum (fun i => dy (b.s + i * (port - star)) p) n, b.s + n * (port - star)⟩
theorem sailed_0 (b : Boat) (port star p : Int) : sailed b port star 0 p = b := by
  unfold sailed
  rw [zsum_0, zsum_0, Int.mul_zero, Int.zero_mul, Int.add_zero, Int.add_zero, Int.add_zero]
/-- in pieces -/
theorem sailed_add (b : Boat) (port star m n p : Int) : sailed (sailed b port star m p) port star n p = sailed b port star (m + n) p := by
  unfold sailed
  have e : ∀ i : Int, b.s + m * (port - star) + i * (port - star) = b.s + (m + i) * (port - star) := fun i => by rw [Int.add_mul]; omega
  simp only [e]
  rw [zsum_add _ m n, zsum_add _ m n, Int.mul_add, Int.mul_add, Int.add_assoc, Int.add_assoc]
end RO

namespace RO
open PySem PySem.Spec PyProof.Rows L2 RZ
/-! ### zip of two lists or two tuples, K said -/
theorem k_piZip (K : PySem.W.Frag) {X : Cx} {e e2 : Expr} {ta : TA} {p pos tpos : Pos} {elts : List Expr} {kk : Nat} (hg : Gl X "zip") (hm : X.mg "zip" = none) (ha : PA X [e, e2] ta)
    (hs : starEach [e, e2] X.env = (false, eval e X.env) :: starEach [e2] X.env := by rfl) (hpl : (backTo pos (starEach [e2] X.env)).any (·.1) = false := by rfl) (hK : X.K = K := by rfl) :
    PI X (.Tuple elts kk tpos) (.Call (.Name "zip" p) [e, e2] [] pos) (iZipA K ta) := by
  subst hK
  exact pi_zipA hg hm ha hs hpl
theorem walk_zipT {K : PySem.W.Frag} {a b : Addr} {xs ys : List V} {n : Nat} (hn : n = min xs.length ys.length) : Walk (ItzT K a b) n (fun H => SqT K H a xs ∧ SqT K H b ys) (YPair (fun i => xs[i]?) (fun i => ys[i]?)) := by
  subst hn
  refine ⟨fun i _ hi q => ?_, fun _ q => ⟨xs, ys, q.1, q.2, by omega⟩, fun i H v H' _ q y => ?_⟩
  · have h1 : i < xs.length := by omega
    have h2 : i < ys.length := by omega
    exact ⟨xs, ys, xs[i], ys[i], q.1, q.2, by simp [h1], by simp [h2]⟩
  · obtain ⟨T, x, z, h1, h2, h3, h4, h5⟩ := y
    exact ⟨T, x, z, h1, h2, h3, h4 xs q.1, h5 ys q.2⟩
end RO

namespace PySem.F
theorem zip_no_len : typeLookup (.type "zip") "__len__" = pure none := am_miss_of_fast (by decide +kernel)
theorem zip_no_hint : typeLookup (.type "zip") "__length_hint__" = pure none := am_miss_of_fast (by decide +kernel)
end PySem.F
namespace RO
open PySem PySem.Spec PyProof.Rows L2
/-! ### list(zip(xs, ys)), two lists -/
/-- zip at its turn i, as list(..) walks it; S the list that is made -/
def ZAt (l1 l2 z TI TO i1 i2 S : Addr) (i : Nat) (h : Heap) : Prop :=
  (∀ c ∈ [z, TI, TO, i1, i2], c < h.objs.size) ∧ IsPair h TI (.ref i1) (.ref i2) ∧ h.IsListIter i1 l1 i ∧ h.IsListIter i2 l2 i ∧
  ((IsZip h z TI TO .none ∧ ∃ a b, IsPair h TO a b) ∨ ∃ T f oT, IsZipHeld h z TI TO T f ∧ h.get? T = some oT ∧ T ≠ z ∧ T ≠ i1 ∧ T ≠ i2 ∧ T ≠ S)
def Pairs (H : Hp) (xs ys : List V) (S : Addr) (ps : List Addr) : Prop := ∀ (j : Nat) (p : Addr), ps[j]? = some p → p ≠ S ∧ ∃ x y, xs[j]? = some x ∧ ys[j]? = some y ∧ H p = some (.tup [x, y])
theorem fp_stat {X : Cx} {pins : List (Addr × Obj)} {H H' : Hp} {b : Addr} (h : FpOk X pins H b) (hn : H' b = none) : FpOk X pins H' b := ⟨hn, h.2⟩
section
variable {X : Cx} {pins : List (Addr × Obj)} {σ : L2.St} {l1 l2 z TI TO i1 i2 S : Addr} {xs ys : List V} {R : Result → Shared → Prop} {res : Value} {A : Around}
theorem zip_loop (hA : A.handled = none) (D : ZipApart z TI TO i1 i2 l1 l2) (hS : S ∉ [z, TI, TO, i1, i2]) (H0 : Hp) (hl : min xs.length ys.length ≤ sizeLine) :
    ∀ (k i : Nat) (s : Shared) (H : Hp) (ps : List Addr), min xs.length ys.length - i = k → i ≤ min xs.length ys.length → Inv X pins σ H s → (∀ b ∈ [z, TI, TO, i1, i2], FpOk X pins H b) → ZAt l1 l2 z TI TO i1 i2 S i s.heap →
    SqL X.K H l1 xs → SqL X.K H l2 ys → l1 ≠ S → l2 ≠ S → But S H0 H → H S = some (.lst (ps.map V.ref)) → ps.length = i → Pairs H xs ys S ps →
    (∀ H' s' ps', Inv X pins σ H' s' → But S H0 H' → H' S = some (.lst (ps'.map V.ref)) → ps'.length = min xs.length ys.length → Pairs H' xs ys S ps' → R (.ok (.ret res)) s') →
    codeAny (model X.prog X.w) A (.builtin "list.extend.loop" ⟨[.ref S, .ref z, res], []⟩) R s := by
  intro k
  induction k with
  | zero =>
    intro i s H ps hk hi I hf st hq1 hq2 n1 n2 b0 eS lp hp hR
    have hin : i = min xs.length ys.length := by omega
    refine codeAny_builtin F.entry_extend_loop ?_
    rw [Around.under_plainId F.plain_extend_loop _]
    show wpAny _ A.in1 (pyNext (.ref z) >>= _) _ _ s
    obtain ⟨szs, hTI, h1, h2, hz⟩ := st
    obtain ⟨its, rv, p, _⟩ := I.list hq1
    obtain ⟨its2, rv2, p2, _⟩ := I.list hq2
    have e1 := rv.length
    have e2 := rv2.length
    have he : its.toArray[i]? = none ∨ its2.toArray[i]? = none := by
      rcases Nat.le_total xs.length ys.length with h | h
      · exact .inl (by simp; omega)
      · exact .inr (by simp; omega)
    have fin : ∀ h', (∀ c o, c ≠ z → c ≠ TO → c ≠ i1 → c ≠ i2 → s.heap.get? c = some o → h'.get? c = some o) → Inv X pins σ H { s with heap := h' } := fun h' hk =>
      I.turnedL (t' := s.toks) (ch := [z, TI, TO, i1, i2]) (fun c o hb q => hk c o (fun q' => hb (by simp [q'])) (fun q' => hb (by simp [q'])) (fun q' => hb (by simp [q'])) (fun q' => hb (by simp [q'])) q) hf
    rcases hz with ⟨hz, a, b, hTO⟩ | ⟨T, f, oT, hz, hT, r1, r2, r3, r4⟩
    · refine wpAny_bind (wpAny_pyNext_zip_end (A := A.in1) hA D hz hTI hTO h1 h2 p.isList p2.isList he fun h' hk => ?_)
      exact wpAny_pure (hR H _ ps (fin h' hk) b0 eS (by omega) hp)
    · refine wpAny_bind (wpAny_pyNext_zip_end_held (A := A.in1) hA D hz hT hTI h1 h2 p.isList p2.isList he fun h' hk => ?_)
      exact wpAny_pure (hR H _ ps (fin h' fun c o q1 q2 q3 q4 => hk c o q1 q3 q4) b0 eS (by omega) hp)
  | succ k ih =>
    intro i s H ps hk hi I hf st hq1 hq2 n1 n2 b0 eS lp hp hR
    have hlt : i < min xs.length ys.length := by omega
    refine codeAny_builtin F.entry_extend_loop ?_
    rw [Around.under_plainId F.plain_extend_loop _]
    show wpAny _ A.in1 (pyNext (.ref z) >>= _) _ _ s
    obtain ⟨szs, hTI, h1, h2, hz⟩ := st
    obtain ⟨its, rv, p, _⟩ := I.list hq1
    obtain ⟨its2, rv2, p2, _⟩ := I.list hq2
    obtain ⟨x, hx⟩ : ∃ x, xs[i]? = some x := ⟨_, List.getElem?_eq_getElem (by omega)⟩
    obtain ⟨y, hy⟩ : ∃ y, ys[i]? = some y := ⟨_, List.getElem?_eq_getElem (by omega)⟩
    obtain ⟨u, hu, ru⟩ := rv.get hx
    obtain ⟨u2, hu2, ru2⟩ := rv2.get hy
    have hzl : z < s.heap.objs.size := by
      rcases hz with ⟨hz, _⟩ | ⟨_, _, _, hz, _⟩ <;> exact Heap.lt_size hz
    have lt : ∀ {c o}, s.heap.get? c = some o → s.heap.objs.size ≠ c := fun e => Nat.ne_of_gt (Heap.lt_size e)
    have m1 : s.heap.objs.size ≠ i1 := let ⟨_, e, _⟩ := h1; lt e
    have m2 : s.heap.objs.size ≠ i2 := let ⟨_, e, _⟩ := h2; lt e
    have mz : s.heap.objs.size ≠ z := Nat.ne_of_gt hzl
    have hSs : s.heap.objs.size ≠ S := fun e => by
      have := I.hok.fresh (Nat.le_refl s.heap.objs.size)
      rw [e, eS] at this
      cases this
    have hlz : s.heap.objs.size ≠ TI := lt hTI
    have fpT : ∀ c ∈ [z, TI, TO, i1, i2], c ≠ s.heap.objs.size := fun c hc => Nat.ne_of_lt (szs c hc)
    -- what is put behind
    have put : ∀ (h' : Heap), h'.objs.size = s.heap.objs.size + 1 → (∀ c o, c ≠ z → c ≠ TO → c ≠ i1 → c ≠ i2 → s.heap.get? c = some o → h'.get? c = some o) → IsPair h' s.heap.objs.size u u2 → h'.IsListIter i1 l1 (i + 1) → h'.IsListIter i2 l2 (i + 1) →
        ((IsZip h' z TI TO .none ∧ ∃ a b, IsPair h' TO a b) ∨ ∃ T f oT, IsZipHeld h' z TI TO T f ∧ h'.get? T = some oT ∧ T ≠ z ∧ T ≠ i1 ∧ T ≠ i2 ∧ T ≠ S) →
        wpAny (model X.prog X.w) A.in1 (updateSeq S (·.push (.ref s.heap.objs.size)) >>= fun _ => again (.builtin "list.extend.loop" ⟨[.ref S, .ref z, res], []⟩))
          (fun fin s' => match fin with | .done f => R (.ok f) s' | .again c' => c'.quiet = true ∧ codeAny (model X.prog X.w) A c' R s') (fun e s' => R (.error e) s') { s with heap := h' } := by
      intro h' hsz hk hT a3 a4 hz'
      have new : ObjOk X.prog X.w (upd H s.heap.objs.size (.tup [x, y])) h' s.heap.objs.size (.tup [x, y]) :=
        ⟨by show 2 ≤ sizeLine; decide, [u, u2], .cons ru (.cons ru2 .nil), ⟨_, hT, rfl, _, rfl⟩⟩
      have I1 : Inv X pins σ (upd H s.heap.objs.size (.tup [x, y])) { s with heap := h' } :=
        I.turnedNew (t' := s.toks) (ch := [z, TI, TO, i1, i2]) (fun c o hb q => hk c o (fun q' => hb (by simp [q'])) (fun q' => hb (by simp [q'])) (fun q' => hb (by simp [q'])) (fun q' => hb (by simp [q'])) q) hf (Nat.le_refl _) new
      have eS1 : (upd H s.heap.objs.size (.tup [x, y])) S = some (.lst (ps.map V.ref)) := (upd_ne (Ne.symm hSs)).trans eS
      obtain ⟨lz, its3, n3, rv3, _, hS3⟩ := I1.lstM eS1
      have e3 := rv3.length
      rw [List.length_map, lp] at e3
      have I2 := I1.lset (its' := its3 ++ [.ref s.heap.objs.size]) (f := fun a => a.push (.ref s.heap.objs.size)) (ys := ps.map V.ref ++ [V.ref s.heap.objs.size]) (t' := s.toks) eS1 hS3 (by simp) (rv3.append (.cons (show L2.RelV (V.ref s.heap.objs.size) (.ref s.heap.objs.size) from rfl) .nil)) (by rw [List.length_append, List.length_map, lp]; show i + 1 ≤ _; omega)
      have same1 : Same H (upd H s.heap.objs.size (.tup [x, y])) := same_new (Same.refl _) (I.hok.fresh (Nat.le_refl _))
      refine wpAny_bind ?_
      refine wpAny_updateSeq hS3 rfl (wpAny_pure ⟨plainId_quiet F.plain_extend_loop _, ih (i + 1) _ _ (ps ++ [s.heap.objs.size]) (by omega) hlt I2 (fun c hc => ?_) ⟨fun c hc => ?_, ?_, ?_, ?_, ?_⟩ ?_ ?_ n1 n2 ?_ ?_ ?_ ?_ hR⟩) ?_ ?_
      · have nS : c ≠ S := fun e => hS (e ▸ hc)
        exact fp_stat (hf c hc) (by rw [upd_ne nS, upd_ne (fpT c hc)]; exact (hf c hc).1)
      · rw [Heap.size_update, hsz]
        exact Nat.lt_succ_of_lt (szs c hc)
      · have nS : TI ≠ S := fun e => hS (by simp [← e])
        exact (Heap.get?_update_other _ _ (Ne.symm nS)).trans (hk _ _ D.TIz D.TITO D.TIi1 D.TIi2 hTI)
      · exact a3.at fun o q => (Heap.get?_update_other _ _ (fun e => hS (by simp [e]))).trans q
      · exact a4.at fun o q => (Heap.get?_update_other _ _ (fun e => hS (by simp [e]))).trans q
      · rcases hz' with ⟨hz, a, b, hTO⟩ | ⟨T, f, oT, hz, hT, r1, r2, r3, r4⟩
        · exact .inl ⟨(Heap.get?_update_other _ _ (fun e => hS (by simp [e]))).trans hz, a, b, (Heap.get?_update_other _ _ (fun e => hS (by simp [e]))).trans hTO⟩
        · exact .inr ⟨T, f, oT, (Heap.get?_update_other _ _ (fun e => hS (by simp [e]))).trans hz, (Heap.get?_update_other _ _ (Ne.symm r4)).trans hT, r1, r2, r3, r4⟩
      · exact But.put.seqL n1 (same_seqL same1 hq1)
      · exact But.put.seqL n2 (same_seqL same1 hq2)
      · exact (b0.trans (But.of_same same1)).trans But.put
      · rw [upd_same, List.map_append]
        rfl
      · rw [List.length_append, lp]
        rfl
      · intro j p' hj
        by_cases cc : j < ps.length
        · rw [List.getElem?_append_left cc] at hj
          obtain ⟨q1, x', y', q2, q3, q4⟩ := hp j p' hj
          exact ⟨q1, x', y', q2, q3, (upd_ne q1).trans (same1 _ _ q4)⟩
        · have ej : j = i := by
            obtain ⟨z3, _⟩ := List.getElem?_eq_some_iff.mp hj
            rw [List.length_append] at z3
            have z3 : j < ps.length + 1 := z3
            omega
          subst ej
          rw [List.getElem?_append_right (by omega), lp, Nat.sub_self] at hj
          obtain rfl : s.heap.objs.size = p' := Option.some.inj hj
          exact ⟨hSs, x, y, hx, hy, (upd_ne hSs).trans upd_same⟩
      · rw [List.size_toArray]
        omega
      · show (its3.toArray.push _).size ≤ _
        rw [Array.size_push, List.size_toArray]
        omega
    rcases hz with ⟨hz, a, b, hTO⟩ | ⟨T, f, oT, hz, hT, r1, r2, r3, r4⟩
    · refine wpAny_bind (wpAny_pyNext_zip_item D hz hTI hTO h1 h2 p.isList p2.isList (x := u) (y := u2) (by simpa using hu) (by simpa using hu2) fun h' a1 a2 a3 a4 a5 a6 hk => ?_)
      exact put h' a6 hk a5 a3 a4 (.inr ⟨s.heap.objs.size, false, _, a1, a5, mz, m1, m2, hSs⟩)
    · refine wpAny_bind (wpAny_pyNext_zip_item_held D hz hT hTI h1 h2 p.isList p2.isList (x := u) (y := u2) (by simpa using hu) (by simpa using hu2) fun h' a1 a3 a4 a5 a6 hk => ?_)
      exact put h' a6 (fun c o q1 q2 q3 q4 => hk c o q1 q3 q4) a5 a3 a4 (.inr ⟨T, true, oT, a1, hk _ _ r1 r2 r3 hT, r1, r2, r3, r4⟩)
theorem zip_extend (hA : A.handled = none) (D : ZipApart z TI TO i1 i2 l1 l2) (hS : S ∉ [z, TI, TO, i1, i2]) (H0 : Hp) (hl : min xs.length ys.length ≤ sizeLine) (s : Shared) (H : Hp) (I : Inv X pins σ H s) (hf : ∀ b ∈ [z, TI, TO, i1, i2], FpOk X pins H b)
    (st : ZAt l1 l2 z TI TO i1 i2 S 0 s.heap) (hz : IsZip s.heap z TI TO .none) (hq1 : SqL X.K H l1 xs) (hq2 : SqL X.K H l2 ys) (n1 : l1 ≠ S) (n2 : l2 ≠ S) (b0 : But S H0 H) (eS : H S = some (.lst []))
    (hR : ∀ H' s' ps', Inv X pins σ H' s' → But S H0 H' → H' S = some (.lst (ps'.map V.ref)) → ps'.length = min xs.length ys.length → Pairs H' xs ys S ps' → R (.ok (.ret res)) s') :
    wpAny (model X.prog X.w) A.in1 (Builtin.List.listExtendWith (.ref S) (.ref z) res)
      (fun fin s' => match fin with | .done f => R (.ok f) s' | .again c' => c'.quiet = true ∧ codeAny (model X.prog X.w) A c' R s') (fun e s' => R (.error e) s') s := by
  have hT : s.TypeIs (.ref z) "zip" := ⟨_, hz, rfl⟩
  have hSz : S ≠ z := fun e => hS (by simp [e])
  obtain ⟨_, its0, n0, rv0, e0, hS0⟩ := I.lstM eS
  have e0 : its0 = [] := by
    cases its0 with
    | nil => rfl
    | cons a b => simp at e0
  subst e0
  unfold Builtin.List.listExtendWith
  refine wpAny_bind (wpAny_typeOf hT ?_)
  have h1 : Builtin.List.listSameRef (.ref S) (.ref z) = false := by simp [Builtin.List.listSameRef, hSz]
  have h2 : (Value.type "zip" == Value.type "list") = false := by decide
  have h3 : (Value.type "zip" == Value.type "tuple") = false := by decide
  simp only [h1, h2, h3, Bool.or_false, Bool.false_eq_true, if_false]
  refine wpAny_bind (wpAny_pyIter_zip hz ?_)
  refine wpAny_bind (wpAny_holding ?_)
  unfold Builtin.List.listLengthHint
  refine wpAny_bind (wpAny_specialOf hT F.zip_no_len ?_)
  show wpAny _ A.in1 (specialOf (Value.ref z) (Str.ofString "__length_hint__") >>= _) _ _ _
  refine wpAny_bind (wpAny_specialOf hT F.zip_no_hint ?_)
  refine wpAny_pure ?_
  show wpAny _ A.in1 (rule "list.extend.makes-room" >>= fun _ => Builtin.List.listTouch (.ref S) >>= fun _ =>
    again (.builtin "list.extend.loop" ⟨[.ref S, .ref z, res], []⟩)) _ _ _
  refine wpAny_bind (wpAny_rule ?_)
  refine wpAny_bind ?_
  show wpAny _ A.in1 (updateSeq S (·.push .none) >>= fun _ => updateSeq S (·.pop)) _ _ _
  refine wpAny_bind (wpAny_updateSeq hS0 rfl ?_)
  have hS2 := Heap.get?_update_self (Obj.mapSeq (·.push Value.none)) hS0 rfl
  refine wpAny_updateSeq (hz := by seq_fits) hS2 rfl ?_
  have hS3 := Heap.get?_update_self (Obj.mapSeq (·.pop)) hS2 rfl
  have oth : ∀ b o, b ≠ S → s.heap.get? b = some o → ((s.heap.update S (Obj.mapSeq (·.push Value.none))).update S (Obj.mapSeq (·.pop))).get? b = some o :=
    fun b o hb e => (Heap.get?_update_other _ _ (Ne.symm hb)).trans ((Heap.get?_update_other _ _ (Ne.symm hb)).trans e)
  have I3 : Inv X pins σ (upd H S (.lst [])) { s with heap := (s.heap.update S (Obj.mapSeq (·.push Value.none))).update S (Obj.mapSeq (·.pop)), toks := s.toks } :=
    I.write (x := S) (e := S) (by rw [eS]; exact trivial) (.inl rfl) oth ⟨_, hS3⟩ ⟨Nat.zero_le _, [], _, .nil, hS3⟩
  have hcell : ∀ c ∈ [z, TI, TO, i1, i2], c ≠ S := fun c hc e => hS (e ▸ hc)
  obtain ⟨szs, hTI, q1, q2, q3⟩ := st
  refine wpAny_pure ⟨plainId_quiet F.plain_extend_loop _, zip_loop hA D hS H0 hl _ 0 _ _ [] rfl (Nat.zero_le _) I3 (fun c hc' => fp_stat (hf c hc') (by rw [upd_ne (hcell c hc')]; exact (hf c hc').1)) ⟨fun c hc' => ?_, ?_, ?_, ?_, ?_⟩ (But.put.seqL n1 hq1) (But.put.seqL n2 hq2) n1 n2 (b0.trans But.put) upd_same rfl (fun j p hj => by simp at hj) hR⟩
  · rw [Heap.size_update, Heap.size_update]
    exact szs c hc'
  · exact oth _ _ (hcell _ (by simp)) hTI
  · exact q1.at fun o q => oth _ _ (hcell _ (by simp)) q
  · exact q2.at fun o q => oth _ _ (hcell _ (by simp)) q
  · rcases q3 with ⟨hz, a, b, hTO⟩ | ⟨T, f, oT, hz, hT, r1, r2, r3, r4⟩
    · exact .inl ⟨oth _ _ (hcell _ (by simp)) hz, a, b, oth _ _ (hcell _ (by simp)) hTO⟩
    · exact .inr ⟨T, f, oT, oth _ _ (hcell _ (by simp)) hz, oth _ _ r4 hT, r1, r2, r3, r4⟩
theorem call_list_zip {Q : VK} (hc : X.calm = true) (D : ZipApart z TI TO i1 i2 l1 l2) {s : Shared} {H : Hp} (I : Inv X pins σ H s) (hf : ∀ b ∈ [z, TI, TO, i1, i2], FpOk X pins H b)
    (szs : ∀ c ∈ [z, TI, TO, i1, i2], c < s.heap.objs.size) (hz : IsZip s.heap z TI TO .none) (hTI : IsPair s.heap TI (.ref i1) (.ref i2)) (hTO : ∃ a b, IsPair s.heap TO a b) (h1 : s.heap.IsListIter i1 l1 0) (h2 : s.heap.IsListIter i2 l2 0)
    (hq1 : SqL X.K H l1 xs) (hq2 : SqL X.K H l2 ys)
    (hQ : ∀ H' q ps, Same H H' → H q = none → H' q = some (.lst (ps.map V.ref)) → ps.length = min xs.length ys.length → Pairs H' xs ys q ps → Q (.ref q) H') :
    wpAny (model X.prog X.w) X.A (call (.type "list") [.ref z]) (EP X pins σ Q) X.xe s := by
  obtain ⟨its, rv, p1, zz1⟩ := I.list hq1
  obtain ⟨its2, rv2, p2, zz2⟩ := I.list hq2
  have hl : min xs.length ys.length ≤ sizeLine := Nat.le_trans (Nat.min_le_left ..) zz1
  have fr : H s.heap.objs.size = none := I.hok.fresh (Nat.le_refl _)
  have hS : s.heap.objs.size ∉ [z, TI, TO, i1, i2] := fun hm => Nat.lt_irrefl _ (szs _ hm)
  refine callType_codes (Q₁ := fun obj s₁ => obj = .ref s.heap.objs.size ∧ s₁ = { s with heap := s.heap.push { cls := .type "list", data := .seq #[] } }) F.called_list (F.typeCall_list_1 _) F.entry_list_init
    (code_list_new _ ⟨rfl, rfl⟩) fun obj s₁ h₁ => ?_
  obtain ⟨rfl, rfl⟩ := h₁
  have hSS : (s.heap.push { cls := .type "list", data := .seq #[] }).get? s.heap.objs.size = some { cls := .type "list", data := .seq #[] } := Heap.get?_push_size _ rfl
  refine ⟨⟨_, hSS, rfl⟩, F.args_list_init_2 _ _, ?_⟩
  have I1 : Inv X pins σ (upd H s.heap.objs.size (.lst [])) { s with heap := s.heap.push { cls := .type "list", data := .seq #[] }, toks := s.toks } := I.lnew (its := []) (ys := []) .nil (Nat.zero_le _)
  show wpAny _ X.A.in1.in1 (do let old ← Builtin.List.listItems (.ref s.heap.objs.size); Builtin.List.listUpdate (.ref s.heap.objs.size) (fun _ => #[]); letGo old.toList.reverse; Builtin.List.listExtendWith (.ref s.heap.objs.size) (.ref z) .none) _ _ _
  refine wpAny_bind ?_
  unfold Builtin.List.listItems
  refine wpAny_bind (wpAny_seqItems hSS rfl (wpAny_pure ?_))
  show wpAny _ X.A.in1.in1 (updateSeq s.heap.objs.size (fun _ => #[]) >>= fun _ => letGo (#[] : Array Value).toList.reverse >>= fun _ => Builtin.List.listExtendWith (.ref s.heap.objs.size) (.ref z) .none) _ _ _
  refine wpAny_bind (wpAny_updateSeq hSS rfl ?_)
  have hS2 := Heap.get?_update_self (Obj.mapSeq (fun _ => (#[] : Array Value))) hSS rfl
  have oth : ∀ b o, b ≠ s.heap.objs.size → s.heap.get? b = some o → ((s.heap.push { cls := .type "list", data := .seq #[] }).update s.heap.objs.size (Obj.mapSeq (fun _ => (#[] : Array Value)))).get? b = some o :=
    fun b o hb e => (Heap.get?_update_other _ _ (Ne.symm hb)).trans (Heap.get?_push_of_some _ e)
  refine wpAny_bind (wpAny_letGo ?_)
  have I2 : Inv X pins σ (upd (upd H s.heap.objs.size (.lst [])) s.heap.objs.size (.lst [])) { s with heap := (s.heap.push { cls := .type "list", data := .seq #[] }).update s.heap.objs.size (Obj.mapSeq (fun _ => (#[] : Array Value))), toks := s.toks } :=
    I1.write (x := s.heap.objs.size) (e := s.heap.objs.size) (by rw [upd_same]; exact trivial) (.inl rfl) (fun b u hb hu => (Heap.get?_update_other _ _ (Ne.symm hb)).trans hu) ⟨_, hS2⟩ ⟨Nat.zero_le _, [], _, .nil, hS2⟩
  have n1 : l1 ≠ s.heap.objs.size := Nat.ne_of_lt p1.lt
  have n2 : l2 ≠ s.heap.objs.size := Nat.ne_of_lt p2.lt
  have same2 : Same H (upd (upd H s.heap.objs.size (.lst [])) s.heap.objs.size (.lst [])) := fun b o e => by
    have n := ne_of_none e fr
    rw [upd_ne n, upd_ne n]
    exact e
  have ncell : ∀ c ∈ [z, TI, TO, i1, i2], c ≠ s.heap.objs.size := fun c hc e => hS (e ▸ hc)
  refine zip_extend (S := s.heap.objs.size) (A := X.A.in1) (I.ok.hd hc) D hS H hl _ _ I2 (fun c hc' => fp_stat (hf c hc') (by rw [upd_ne (ncell c hc'), upd_ne (ncell c hc')]; exact (hf c hc').1)) ⟨fun c hc' => ?_, ?_, ?_, ?_, .inl ⟨?_, ?_⟩⟩ ?_
    (same_seqL same2 hq1) (same_seqL same2 hq2) n1 n2 (But.of_same same2) upd_same fun H' s' ps I' b' e' lp pr => ⟨rfl, .ref s.heap.objs.size, H', I', rfl, hQ H' s.heap.objs.size ps (fun b o e => b' b o (ne_of_none e fr) e) fr e' lp pr⟩
  · rw [Heap.size_update, Heap.size_push]
    exact Nat.lt_succ_of_lt (szs c hc')
  · exact oth _ _ (ncell _ (by simp)) hTI
  · exact h1.at fun o q => oth _ _ (ncell _ (by simp)) q
  · exact h2.at fun o q => oth _ _ (ncell _ (by simp)) q
  · exact oth _ _ (ncell _ (by simp)) hz
  · obtain ⟨a, b, hTO⟩ := hTO
    exact ⟨a, b, oth _ _ (ncell _ (by simp)) hTO⟩
  · exact oth _ _ (ncell _ (by simp)) hz
def tLstZip (K : PySem.W.Frag) (ta : TA) : TE := fun σ H Q => ta σ H fun vs H1 => ∃ a b xs ys, vs = [.ref a, .ref b] ∧ SqL K H1 a xs ∧ SqL K H1 b ys ∧
  ∀ H' q ps, Same H1 H' → H1 q = none → H' q = some (.lst (ps.map V.ref)) → ps.length = min xs.length ys.length → Pairs H' xs ys q ps → Q (.ref q) H'
theorem pe_listZip (K : PySem.W.Frag) {e e2 : Expr} {ta : TA} {p pos p' pos' : Pos} (hc : X.calm = true) (hg : Gl X "list") (hm : X.mg "list" = none) (hg2 : Gl X "zip") (hm2 : X.mg "zip" = none) (ha : PA X [e, e2] ta)
    (hs : starEach [e, e2] X.env = (false, eval e X.env) :: starEach [e2] X.env := by rfl) (hpl : (backTo pos' (starEach [e2] X.env)).any (·.1) = false := by rfl)
    (na : starEach [.Call (.Name "zip" p') [e, e2] [] pos'] X.env = (false, eval (.Call (.Name "zip" p') [e, e2] [] pos') X.env) :: starEach [] X.env := by rfl) (hK : X.K = K := by rfl) :
    PE X (.Call (.Name "list" p) [.Call (.Name "zip" p') [e, e2] [] pos'] [] pos) (tLstZip K ta) := by
  subst hK
  refine ⟨fun pins s σ H Q I h => ?_⟩
  refine Call_ (ld_blt I hg hm boot_list (PyProof.Rows.callWith_type1 (args_cons ?_ na) na))
  refine Call_ (ld_blt I hg2 hm2 PyProof.Rows.boot_zip (PyProof.Rows.callWith_type1 (thn (ha.run pos' pins s σ H _ I h) fun us s1 ⟨vs, H1, I1, r1, q1⟩ => ?_) hs hpl))
  obtain ⟨a, b, xs, ys, ex, hqx, hqy, q⟩ := q1
  subst ex
  cases r1 with
  | cons r rr =>
    cases rr with
    | cons r' rr =>
      cases rr
      cases r
      cases r'
      obtain ⟨its, rv, p1, _⟩ := I1.list hqx
      obtain ⟨its2, rv2, p2, _⟩ := I1.list hqy
      refine call_zip_2 p1.isList p2.isList fun h' hz hTI hTO h1 h2 hsz hk => args_nil ?_
      have I2 : Inv X pins σ H1 { s1 with heap := h' } := I1.kept (t' := s1.toks) hk
      have cs : ∀ c, c ∈ [s1.heap.objs.size + 4, s1.heap.objs.size + 2, s1.heap.objs.size + 3, s1.heap.objs.size, s1.heap.objs.size + 1] → s1.heap.objs.size ≤ c ∧ c < s1.heap.objs.size + 5 := fun c hcm => by
        have e' : c = s1.heap.objs.size + 4 ∨ c = s1.heap.objs.size + 2 ∨ c = s1.heap.objs.size + 3 ∨ c = s1.heap.objs.size ∨ c = s1.heap.objs.size + 1 := by simpa using hcm
        omega
      exact call_list_zip hc (PySem.W.ktu_apart s1.heap.objs.size a b p1.lt p2.lt) I2 (fun c hcm => I1.fpOk (cs c hcm).1 (I1.hok.fresh (cs c hcm).1)) (fun c hcm => by show c < h'.objs.size; rw [hsz]; exact (cs c hcm).2) hz hTI ⟨_, _, hTO⟩ h1 h2 hqx hqy q
end
end RO

namespace RO
open PySem PySem.Spec PyProof.Rows L2
/-! ### xs[::2], a list of three -/
def tStep2 (K : PySem.W.Frag) (te : TE) : TE := fun σ H Q => te σ H fun v H1 => ∃ a x y z, v = .ref a ∧ SqL K H1 a [x, y, z] ∧ ∀ p, H1 p = none → Q (.ref p) (upd H1 p (.lst [x, z]))
theorem pick3 (u1 u2 u3 : Value) : slicePick [u1, u2, u3].toArray none none (some 2) = [u1, u3].toArray := by
  have b : sliceBounds none none (some 2) [u1, u2, u3].toArray.size = (0, 3, 2) := by rfl
  have r : sliceRange 0 3 2 = [0, 2] := by decide
  unfold slicePick
  rw [b]
  show ((sliceRange 0 3 2).filterMap _).toArray = _
  rw [r]
  rfl
theorem pe_step2 (K : PySem.W.Frag) {X : Cx} {e : Expr} {te : TE} {k : Nat} {p1 p3 pos : Pos} (he : PE X e te) (hK : X.K = K := by rfl) : PE X (.Subscript e (.Slice none none (some (.Constant (.int 2) k p1)) p3) pos) (tStep2 K te) := by
  subst hK
  refine ⟨fun pins s σ H Q I h => ?_⟩
  refine Subscript_ (thn (he.run pins s σ H _ I h) fun v s1 ⟨x0, H1, I1, r1, q1⟩ => ?_)
  obtain ⟨a, x, y, z, ex, hx, q⟩ := q1
  subst ex
  cases r1
  have hst : PO X (some (.Constant (.int 2) k p1)) (tPart (tC (.int 2))) := po_some pe_int
  refine wpAny_Slice (thn (po_none.run pins s1 σ H1 (fun o H2 => o = none ∧ H2 = H1) I1 ⟨rfl, rfl⟩) fun vl s2 ⟨l, H2, I2, pl, el, e2⟩ => ?_)
  subst el e2
  refine thn (po_none.run pins s2 σ H2 (fun o H3 => o = none ∧ H3 = H2) I2 ⟨rfl, rfl⟩) fun vu s3 ⟨u, H3, I3, pu, eu, e3⟩ => ?_
  subst eu e3
  refine thn (hst.run pins s3 σ H3 (fun o H4 => o = some 2 ∧ H4 = H3) I3 ⟨2, rfl, rfl, rfl⟩) fun vs s4 ⟨o, H4, I4, ps, eo, e4⟩ => ?_
  subst eo e4
  have I5 : Inv X pins σ H4 { s4 with heap := s4.heap.push { cls := .type "slice", data := .fields #[vl, vu, vs] } } := I4.kept (t' := s4.toks) fun b ob q => Heap.get?_push_of_some _ q
  obtain ⟨its, r, ht, hz⟩ := I5.list hx
  have hlen := r.length
  obtain ⟨u1, u2, u3, rfl, q1, q2, q3⟩ : ∃ u1 u2 u3, its = [u1, u2, u3] ∧ RelV x u1 ∧ RelV y u2 ∧ RelV z u3 := by
    cases r with
    | cons p q =>
      cases q with
      | cons p' q' =>
        cases q' with
        | cons p'' q'' =>
          cases q''
          exact ⟨_, _, _, rfl, p, p', p''⟩
  show wpAny (model X.prog X.w) X.A (subscriptTail e (.Slice none none (some (.Constant (.int 2) k p1)) p3) (.ref a) (.ref s4.heap.objs.size)) (EP X pins σ Q) X.xe { s4 with heap := s4.heap.push { cls := .type "slice", data := .fields #[vl, vu, vs] } }
  refine tail_any (ops := [.ref a, .ref s4.heap.objs.size]) ht.isList.typeIs (PySem.slot_list_getitem.lookup) ?_ (by with_unfolding_all rfl)
  refine wpAny_getItem_list_slice ht.isList (Heap.IsSliceOf.new _ vl vu vs) pl pu ps (by decide) ?_ (by rw [List.size_toArray]; omega)
  rw [pick3]
  refine ⟨.ref _, _, I5.laid (t' := s4.toks) (o := .lst [x, z]) (fun b ob q => Heap.get?_push_of_some _ q) (Nat.le_refl _) ?_, rfl, q _ (I5.hok.fresh (Nat.le_refl _))⟩
  exact ⟨by show 2 ≤ sizeLine; decide, _, 0, .cons q1 (.cons q3 .nil), Heap.get?_push_size _ rfl⟩
end RO

namespace RO
open PySem PySem.Spec PyProof.Rows L2 PySem.W
/-! ### min, max of a list of numbers, default= -/
theorem reads_ints {h : Heap} : ∀ {vs : List Value} {ns : List Int}, IntsAre vs ns → ReadsAll h vs (ns.map PyData.int) []
  | _, _, .nil => .nil
  | _, _, .cons n t r => .cons (as := []) (bs := []) (.int n t) (reads_ints r)
theorem alike_ints (ns : List Int) : AlikeAll (ns.map PyData.int) := by
  refine ⟨fun x hx y hy => ?_, fun x hx => ?_⟩
  · obtain ⟨a, _, rfl⟩ := List.mem_map.mp hx
    obtain ⟨b, _, rfl⟩ := List.mem_map.mp hy
    rfl
  · obtain ⟨a, _, rfl⟩ := List.mem_map.mp hx
    intro z
    cases z
theorem depth_ints : ∀ ns : List Int, PyData.depthAll (ns.map PyData.int) ≤ 1
  | [] => Nat.zero_le _
  | n :: r => Nat.max_le.mpr ⟨Nat.zero_le _, depth_ints r⟩
theorem min_fold (n : Int) (ns : List Int) : ns.foldl min n ∈ n :: ns ∧ ∀ y ∈ n :: ns, ns.foldl min n ≤ y := by
  induction ns generalizing n with
  | nil => exact ⟨by simp, fun y hy => by simp at hy; rw [hy]; exact Int.le_refl _⟩
  | cons k r ih =>
    obtain ⟨h1, h2⟩ := ih (min n k)
    show r.foldl min (min n k) ∈ _ ∧ _
    refine ⟨?_, fun y hy => ?_⟩
    · rcases List.mem_cons.mp h1 with z | z
      · rw [z]
        by_cases c : n ≤ k
        · rw [Int.min_eq_left c]; simp
        · rw [Int.min_eq_right (by omega)]; simp
      · exact List.mem_cons_of_mem _ (List.mem_cons_of_mem _ z)
    · have m := h2 (min n k) (List.mem_cons_self ..)
      show r.foldl min (min n k) ≤ y
      rcases List.mem_cons.mp hy with rfl | hy
      · omega
      · rcases List.mem_cons.mp hy with rfl | hy
        · omega
        · exact h2 y (List.mem_cons_of_mem _ hy)
theorem max_fold (n : Int) (ns : List Int) : ns.foldl max n ∈ n :: ns ∧ ∀ y ∈ n :: ns, y ≤ ns.foldl max n := by
  induction ns generalizing n with
  | nil => exact ⟨by simp, fun y hy => by simp at hy; rw [hy]; exact Int.le_refl _⟩
  | cons k r ih =>
    obtain ⟨h1, h2⟩ := ih (max n k)
    show r.foldl max (max n k) ∈ _ ∧ _
    refine ⟨?_, fun y hy => ?_⟩
    · rcases List.mem_cons.mp h1 with z | z
      · rw [z]
        by_cases c : n ≤ k
        · rw [Int.max_eq_right c]; simp
        · rw [Int.max_eq_left (by omega)]; simp
      · exact List.mem_cons_of_mem _ (List.mem_cons_of_mem _ z)
    · have m := h2 (max n k) (List.mem_cons_self ..)
      show y ≤ r.foldl max (max n k)
      rcases List.mem_cons.mp hy with rfl | hy
      · omega
      · rcases List.mem_cons.mp hy with rfl | hy
        · omega
        · exact h2 y (List.mem_cons_of_mem _ hy)
def rMinDef (K : PySem.W.Frag) (lt : Int → Int → Prop) : List V → List V → Hp → VK → Prop := fun vs zs H Q => ∃ (a : Addr) (ns : List Int) (d : Int), vs = [V.ref a] ∧ zs = [V.int d] ∧ SqL K H a (ns.map V.int) ∧ ∀ m, (ns = [] ∧ m = d ∨ m ∈ ns ∧ ∀ y ∈ ns, lt m y) → Q (.int m) H
theorem k_minDef (K : PySem.W.Frag) {X : Cx} (hc : X.calm = true) (hu : X.A.units + 64 < cLine) (hK : X.K = K := by rfl) : CallRK X (.builtin "min") [Str.ofString "default"] (rMinDef K fun m y => m ≤ y) := by
  subst hK
  intro pins s σ H vs zs us ws Q I r rz h
  obtain ⟨a, ns, d, rfl, rfl, hs, q⟩ := h
  obtain ⟨its, rv, hl, _⟩ := I.list hs
  rw [Vals.ref1 r]
  obtain ⟨w1, rfl, td, rfl⟩ := vals1 rz
  have dl := depth_ints ns
  refine min_list_default (I.ok.hd hc) hl.isList (reads_ints rv.ints) (alike_ints ns) (by omega) (fun e h' tk hk => ?_) fun y ys i v h' tk bs e hv rd hk => ?_
  · exact ⟨.int d, H, I.kept hk, ⟨_, rfl⟩, q d (.inl ⟨(by cases ns with | nil => rfl | cons a b => cases e), rfl⟩)⟩
  · cases ns with
    | nil => cases e
    | cons n r =>
      cases e
      rw [minD_ints] at rd
      obtain ⟨m1, m2⟩ := min_fold n r
      generalize r.foldl min n = m at *
      cases rd
      exact ⟨.int m, H, I.kept hk, ⟨_, rfl⟩, q m (.inr ⟨m1, m2⟩)⟩
theorem k_maxDef (K : PySem.W.Frag) {X : Cx} (hc : X.calm = true) (hu : X.A.units + 64 < cLine) (hK : X.K = K := by rfl) : CallRK X (.builtin "max") [Str.ofString "default"] (rMinDef K fun m y => y ≤ m) := by
  subst hK
  intro pins s σ H vs zs us ws Q I r rz h
  obtain ⟨a, ns, d, rfl, rfl, hs, q⟩ := h
  obtain ⟨its, rv, hl, _⟩ := I.list hs
  rw [Vals.ref1 r]
  obtain ⟨w1, rfl, td, rfl⟩ := vals1 rz
  have dl := depth_ints ns
  refine max_list_default (I.ok.hd hc) hl.isList (reads_ints rv.ints) (alike_ints ns) (by omega) (fun e h' tk hk => ?_) fun y ys i v h' tk bs e hv rd hk => ?_
  · exact ⟨.int d, H, I.kept hk, ⟨_, rfl⟩, q d (.inl ⟨(by cases ns with | nil => rfl | cons a b => cases e), rfl⟩)⟩
  · cases ns with
    | nil => cases e
    | cons n r =>
      cases e
      rw [maxD_ints] at rd
      obtain ⟨m1, m2⟩ := max_fold n r
      generalize r.foldl max n = m at *
      cases rd
      exact ⟨.int m, H, I.kept hk, ⟨_, rfl⟩, q m (.inr ⟨m1, m2⟩)⟩
end RO

namespace RO
open PySem PySem.Spec PyProof.Rows L2

/-! ### len of a set of numbers -/
def rLenSet (ww : World) : List V → Hp → VK → Prop := fun vs H Q => ∃ (p : Addr) (S : Int → Bool) (n : Nat) (ns : List Int), vs = [V.ref p] ∧ H p = some (SetO ww p S n) ∧ ns.Nodup ∧ (∀ k, S k = true ↔ k ∈ ns) ∧ Q (.int ns.length) H
theorem k_lenSet (ww : World) {X : Cx} (h2 : X.w = ww := by rfl) : CallR X (.builtin "len") (rLenSet ww) := by
  subst h2
  intro pins s σ H vs us Q I r h
  obtain ⟨p, S, n, ns, rfl, ha, nd, mem, q⟩ := h
  rw [Vals.ref1 r]
  obtain ⟨o, es, ep, t, ho, hx, hd, g, nk, hm, hb, hf, hn, _⟩ := setO_get I ha
  have pm : (es.toList.map keyOf).Perm ns := (List.perm_ext_iff_of_nodup nk nd).mpr fun k => (hm k).symm.trans (mem k)
  have le : es.size = ns.length := by
    rw [← pm.length_eq, List.length_map, Array.length_toList]
  have sb : scanBound ≤ 2 ^ 62 := by decide
  refine PySem.call_len_set ho hx hd hf (by omega) ⟨.int ns.length, H, I.tok _, ⟨_, by rw [le]⟩, q⟩
end RO

namespace RO
open PySem PySem.Spec PyProof.Rows L2

/-! ### a text taken once, or not at all -/
theorem op_str1 {X : Cx} : OpR X (binaryOp .Mult) (fun x y H Q => ∃ z n, x = .str z ∧ y = .int n ∧ -1000 ≤ n ∧ n ≤ 1 ∧ z.length ≤ sizeLine ∧ Q (.str (if n < 1 then Str.empty else z)) H) := by
  intro pins s σ H x y v u Q I rx ry h
  obtain ⟨z, n, rfl, rfl, h1, h2, hz, q⟩ := h
  obtain ⟨t, rfl⟩ := rx
  obtain ⟨t', rfl⟩ := ry
  have one : ¬ n < 1 → (n == 1 || z.length == 0) = true := fun g => by
    have : n = 1 := by omega
    subst this
    rfl
  refine PySem.P.mul_str ?_ (fun g e => ?_) (fun g e => ?_) ?_
  · rw [decide_eq_false (by omega), decide_eq_false (by omega)]
    rfl
  · rw [one g] at e
    cases e
  · rw [one g] at e
    cases e
  · by_cases c : n < 1
    · rw [if_pos c] at q ⊢
      exact ⟨by decide, .str Str.empty, H, I.tok _, ⟨_, rfl⟩, q⟩
    · rw [if_neg c] at q ⊢
      rw [if_pos (one c)]
      exact ⟨.str z, H, I, ⟨_, rfl⟩, q⟩

/-! ### a number's figures, two at least -/
def pad2 (i : Int) : Str := if i < 10 then Str.ofString "0" ++ Str.ofString (toString i) else Str.ofString (toString i)
theorem figs {i : Int} (h : 0 ≤ i) : Str.ofString (toString i) = ⟨((Nat.toDigits 10 i.toNat).map Char.toNat).toArray⟩ := by
  obtain ⟨m, rfl⟩ := Int.eq_ofNat_of_zero_le h
  exact text_ofNat m
theorem figs_len {i : Int} (h : 0 ≤ i) : (Str.ofString (toString i)).length = (Nat.toDigits 10 i.toNat).length := by
  rw [figs h]
  show (((Nat.toDigits 10 i.toNat).map Char.toNat).toArray).size = _
  simp
theorem figs_fits {i : Int} (h0 : 0 ≤ i) (h1 : i < 1000000) : (Str.ofString (toString i)).length ≤ 6 := by
  rw [figs_len h0]
  exact digits10_le (by decide) (by omega)
theorem len_app (a b : Str) : (a ++ b).length = a.length + b.length := strLen_append a b
theorem pad2_fits {i : Int} (h0 : 0 ≤ i) (h1 : i < 1000000) : (pad2 i).length ≤ 7 := by
  have l := figs_fits h0 h1
  unfold pad2
  split
  · rw [len_app]
    have : (Str.ofString "0").length = 1 := by decide +kernel
    omega
  · omega
def f02 : Builtin.Float.FormatSpec := { fill := 48, align := 61, width := some 2, type := some 100 }
theorem parse02 : Builtin.Float.parseFormatSpec (⟨#[48, 50, 100]⟩ : Str).cps.toList "int" 62 = .ok f02 := by kernel_rfl
theorem lg_small {i : Int} (h : i.natAbs < 1048576) : i.natAbs.log2 < 1920 := by
  by_cases z : i.natAbs = 0
  · rw [z]
    decide +kernel
  · exact (Nat.log2_lt z).mpr (Nat.lt_of_lt_of_le (show i.natAbs < 2 ^ 20 by omega) (Nat.pow_le_pow_right (by decide) (show 20 ≤ 1920 by decide)))
theorem meets02 {a : Int} {t : Tok} (h0 : 0 ≤ a) (h1 : a < 1000000) : ∀ u, Meets (Builtin.«int.__format__» ⟨[.int a t, .str ⟨#[48, 50, 100]⟩ u], []⟩) (fun _ R s => ∀ t' k, R (.ok (.ret (.str (pad2 a) t'))) { s with toks := k }) := by
  intro _
  apply PySem.W.KPc.meets_of
  intro _ _ _ _ _ _ _
  unfold Builtin.«int.__format__»
  refine wpAny_bind (wpAny_of_eq (a := (_, _)) rfl ?_)
  refine wpAny_bind (wpAny_of_eq (a := _) rfl ?_)
  kxf_if
  refine wpAny_bind (wpAny_typeNameOf (T := "str") (typeIs_str _ _ _) (by decide) fun _ => ?_)
  refine wpAny_bind (wpAny_of_eq (a := some _) rfl ?_)
  kxf_if
  kxf_if
  refine wpAny_bind (wpAny_typeNameOfCut_int ?_)
  rw [parse02]
  kxf_if
  (repeat kxf_if)
  have small : a.natAbs.log2 < 1920 := by
    by_cases z : a.natAbs = 0
    · rw [z]
      decide +kernel
    · exact (Nat.log2_lt z).mpr (Nat.lt_of_lt_of_le (show a.natAbs < 2 ^ 20 by omega) (Nat.pow_le_pow_right (by decide) (show 20 ≤ 1920 by decide)))
  refine wpAny_bind (wpAny_of_eq (PySem.overDigitLimit_small small) ?_)
  (repeat kxf_if)
  refine (fun e => PySem.W.KXf.ret_text (T := pad2 a) e (by rw [e]; exact Nat.le_trans (pad2_fits h0 h1) (by decide)) ?_) ?_
  · assumption
  · refine Eq.trans (b := intSpecText f02 a) (by with_unfolding_all rfl) ?_
    rw [intSpecText_zero rfl rfl rfl rfl h0]
    show (⟨(List.replicate (2 - (Nat.toDigits 10 a.natAbs).length) 48).toArray⟩ : Str) ++ Str.ofString (toString a) = pad2 a
    have D := digitsFacts10 a.natAbs
    have l1 := D.ge1
    unfold pad2
    by_cases c : a < 10
    · rw [if_pos c, D.lt10 (by omega)]
      rfl
    · have l2 := D.ge10 (by omega)
      rw [if_neg c, show 2 - (Nat.toDigits 10 a.natAbs).length = 0 by omega]
      exact Str.empty_append _
section
variable {X : Cx}
/-- {x:02d} -/
def tFmt02 (te : TE) : TE := fun σ H Q => te σ H fun x H1 => ∃ i : Int, x = .int i ∧ 0 ≤ i ∧ i < 1000000 ∧ Q (.str (pad2 i)) H1
theorem pe_fmt02 {e sp : Expr} {te : TE} {pos : Pos} (he : PE X e te) (hs : PE X sp (tC (.str (Str.ofString "02d")))) : PE X (.FormattedValue e (-1) (some sp) pos) (tFmt02 te) := by
  refine ⟨fun pins s σ H Q I h => ?_⟩
  refine wpAny_FormattedValue_spec (thn (he.run pins s σ H _ I h) fun v s1 hv => ?_)
  obtain ⟨x, H1, I1, r1, i, rfl, i0, i1, q⟩ := hv
  obtain ⟨t, rfl⟩ := r1
  refine thn (hs.run pins s1 σ H1 (fun x H2 => x = .str (Str.ofString "02d") ∧ H2 = H1) I1 ⟨rfl, rfl⟩) fun r s2 hr => ?_
  obtain ⟨x2, H2, I2, r2, rfl, rfl⟩ := hr
  obtain ⟨t2, rfl⟩ := r2
  exact ⟨_, t2, rfl, PySem.W.KXf.field_int (spec' := ⟨#[48, 50, 100]⟩) (by decide +kernel) rfl (by decide) (meets02 i0 i1) fun t' k => ⟨.str (pad2 i), _, I2.tok k, ⟨_, rfl⟩, q⟩⟩
/-- the parts of an f-string, named -/
def tJd (ts : List TE) : TE := fun σ H Q => tJs ts Str.empty σ H fun out H1 => Q (.str out) H1
theorem pe_joinedN {v1 v2 : Expr} {rest : List Expr} {ts : List TE} {pos : Pos} (h : PJ X (v1 :: v2 :: rest) ts) : PE X (.JoinedStr (v1 :: v2 :: rest) pos) (tJd ts) := pe_joined h
end
end RO

namespace RO
open PySem PySem.Spec PyProof.Rows L2

/-! ### d.get(k), k a number, a text or None -/
theorem leaf_of {prog : Program} {w : World} {h : Heap} {a : Addr} {vs : List (Key × Value)} (dd : h.DictOf (mixKind prog w) a vs) : ∃ f : Leaf → Option Value, h.MapOf (leafKind prog w) a f ∧ f .none = none := by
  obtain ⟨o, es, ep, h1, h2, h3, h4, h5, h6⟩ := dd
  refine ⟨fun k => findBy (leafKind prog w).is es k, ⟨o, es, ep, h1, h2, h3, fun e he => ?_, fun _ => rfl⟩, ?_⟩
  · obtain ⟨k, k1, k2⟩ := h4 e he
    rcases keyIs_shape k1 with ⟨i, t, rfl, z⟩ | ⟨x, t, rfl, z⟩
    · refine ⟨.num i, by rw [z]; exact decide_eq_true rfl, k2⟩
    · refine ⟨.text x, by rw [z] at k1 ⊢; exact k1, k2⟩
  · show (es.find? fun e => (leafKind prog w).is Leaf.none e.key).map _ = none
    rw [Array.find?_eq_none.mpr fun e he => ?_]
    · rfl
    · obtain ⟨k, k1, _⟩ := h4 e he
      rcases keyIs_shape k1 with ⟨i, t, rfl, z⟩ | ⟨x, t, rfl, z⟩
      · rw [z]
        exact Bool.false_ne_true
      · rw [z]
        exact Bool.false_ne_true
section
variable {X : Cx} {o e : Expr} {apos cpos : Pos} {td ty : TE}
/-- what a dict tells for a key, or for None -/
def tDGetN (td ty : TE) : TE := fun σ H Q => td σ H fun x H1 => ∃ a, x = .ref a ∧ IsD H1 a ∧ ty σ H1 fun y H2 => ∃ kvs, H2 a = some (.dK kvs) ∧ ((∃ k, y = kV k ∧ Q ((valV kvs k).getD .non) H2) ∨ y = .non ∧ Q .non H2)
theorem pe_dgetN (hu : X.A.units + 1 < cLine) (ho : PE X o td) (he : PE X e ty) (m : M1 X o "get" apos e cpos) : PE X (.Call (.Attribute o "get" apos) [e] [] cpos) (tDGetN td ty) := by
  refine ⟨fun pins s σ H Q I h => ?_⟩
  refine wpAny_Call_method m.base m.few m.line PySem.F.plainAttrs_dict PySem.F.slot_dict_get PySem.F.type_dict_get (thn (ho.run pins s σ H _ I h) fun u s1 ⟨x, H1, I1, rx, a, ex, d, q1⟩ => ?_)
  subst ex
  obtain rfl : u = Value.ref a := rx
  obtain ⟨t1, t2, _⟩ := isD_at I1 d
  refine ⟨t1, t2, ?_⟩
  rw [m.trees]
  refine Calls.callWith_builtin rfl (Calls.evalArgs_plain (Calls.spliced_cons (thn (he.run pins s1 σ H1 _ I1 q1) fun iv s2 ⟨y, H2, I2, ry, kvs, e2, q2⟩ => Calls.spliced_nil ?_)))
  rcases q2 with ⟨k, rfl, q2⟩ | ⟨rfl, q2⟩
  · exact d_get1 hu I2 (DGet.k e2) ry fun w' s3 I3 rw' => ⟨_, H2, I3, rw', q2⟩
  · obtain rfl : iv = Value.none := ry
    obtain ⟨z, hd, vs, rel, dd⟩ := dk_of I2.hok e2
    obtain ⟨f, fm, fn⟩ := leaf_of dd
    refine call_meetsIn PySem.F.slot_dict_get dd.typeIs PySem.F.entry_dict_get (PySem.F.args_dict_get_2 _ _) (meets_dict_get (leafKind X.prog X.w) (k := Leaf.none) a rfl hd) ⟨f, fm, .non, H2, I2.tok _, ?_, q2⟩
    rw [fn]
    rfl
end
/-! ### dict(xs) of pairs -/
theorem k_dictP (K : PySem.W.Frag) {X : Cx} (hc : X.calm = true) (h : X.K = K := by rfl) : CallR X (.type "dict") (fun xs H Q => ∃ (a : Addr) (ps : List Addr) (kvs : List (Key × V)), xs = [.ref a] ∧ SqL K H a (ps.map V.ref) ∧ Paired (fun p kv => SqT K H p [kV kv.1, kv.2]) ps kvs ∧
    ∀ p, H p = none → Q (.ref p) (upd H p (.dK (mergeK [] kvs)))) := by
  subst h
  exact call_dictP hc
end RO

namespace RO
open PySem PySem.Spec PyProof.Rows L2
def top (i : Nat) : Stmt := PySem.Challenge.pw_ringorders_k15_whole_rings_and_answers.main.body.getD i (.Pass ⟨0, 0, 0, 0⟩)
abbrev s_dial_of : Stmt := top 2
theorem sc_dial_of : FnScope ["engine"] ["engine"] (defScope s_dial_of) := ⟨rfl, rfl, rfl, by decide +kernel, rfl, by decide +kernel, by decide +kernel⟩
abbrev s_rows_on : Stmt := top 4
theorem sc_rows_on : FnScope ["log", "line", "number", "row"] ["log", "line"] (defScope s_rows_on) := ⟨rfl, rfl, rfl, by decide +kernel, rfl, by decide +kernel, by decide +kernel⟩
abbrev s_answers : Stmt := top 6
theorem sc_answers : FnScope ["log", "engine", "number"] ["log", "engine"] (defScope s_answers) := ⟨rfl, rfl, rfl, by decide +kernel, rfl, by decide +kernel, by decide +kernel⟩
abbrev s_what_became : Stmt := top 7
theorem sc_what_became : FnScope ["log", "engine", "number", "dial", "order", "later", "_", "line", "what"] ["log", "engine", "number"] (defScope s_what_became) := ⟨rfl, rfl, rfl, by decide +kernel, rfl, by decide +kernel, by decide +kernel⟩
abbrev s_wrong_answers : Stmt := top 8
theorem sc_wrong_answers : FnScope ["log", "engine", "dial", "rung", "wrong", "number", "row"] ["log", "engine"] (defScope s_wrong_answers) := ⟨rfl, rfl, rfl, by decide +kernel, rfl, by decide +kernel, by decide +kernel⟩
abbrev s_pen : Stmt := top 10
theorem sc_pen : FnScope ["_law_script"] ["_law_script"] (defScope s_pen) := ⟨rfl, rfl, rfl, by decide +kernel, rfl, by decide +kernel, by decide +kernel⟩
abbrev s_draw : Stmt := top 11
theorem sc_draw : FnScope ["_law_pen_here", "_law_many", "_law_found", "_law_at", "_law_cell", "_law_mixed"] ["_law_pen_here", "_law_many"] (defScope s_draw) := ⟨rfl, rfl, rfl, by decide +kernel, rfl, by decide +kernel, by decide +kernel⟩
abbrev s_pick : Stmt := top 12
theorem sc_pick : FnScope ["_law_pen_here", "_law_some"] ["_law_pen_here", "_law_some"] (defScope s_pick) := ⟨rfl, rfl, rfl, by decide +kernel, rfl, by decide +kernel, by decide +kernel⟩
abbrev s_word : Stmt := top 13
theorem sc_word : FnScope ["_law_pen_here", "_law_letters", "_law_some", "_law_k"] ["_law_pen_here"] (defScope s_word) := ⟨rfl, rfl, rfl, by decide +kernel, rfl, by decide +kernel, by decide +kernel⟩
abbrev s_log : Stmt := top 14
theorem sc_log : FnScope ["_law_pen_here", "_law_most", "_law_many", "_law_every", "_law_lines", "_law_words", "_law_orders", "_law_minute", "_law_rows", "_law_k", "_law_line", "_law_what"] ["_law_pen_here", "_law_most"] (defScope s_log) := ⟨rfl, rfl, rfl, by decide +kernel, rfl, by decide +kernel, by decide +kernel⟩
abbrev s_hang_right : Stmt := top 15
theorem sc_hang_right : FnScope ["_law_log_here", "_law_engine", "_law_rings", "_law_dials", "_law_wrong", "_law_found", "_law_used", "_law_at", "_law_row", "_law_number", "_law_ring", "_law_k"] ["_law_log_here", "_law_engine"] (defScope s_hang_right) := ⟨rfl, rfl, rfl, by decide +kernel, rfl, by decide +kernel, by decide +kernel⟩
abbrev s_less_right : Stmt := top 16
theorem sc_less_right : FnScope ["_law_log_here", "_law_engine", "_law_own", "_law_bare", "_law_spots", "_law_due", "_law_number", "_law_word_here", "_law_other", "_law_k", "_law_at"] ["_law_log_here", "_law_engine"] (defScope s_less_right) := ⟨rfl, rfl, rfl, by decide +kernel, rfl, by decide +kernel, by decide +kernel⟩
abbrev s_more_right : Stmt := top 17
theorem sc_more_right : FnScope ["_law_pen_here", "_law_log_here", "_law_engine", "_law_line", "_law_order", "_law_more", "_law_due", "_law_wrong"] ["_law_pen_here", "_law_log_here", "_law_engine"] (defScope s_more_right) := ⟨rfl, rfl, rfl, by decide +kernel, rfl, by decide +kernel, by decide +kernel⟩
abbrev s_law : Stmt := top 18
theorem sc_law : FnScope ["_law_script", "_law_pen_here", "_law_turn", "_law_log_here", "_law_engine"] ["_law_script"] (defScope s_law) := ⟨rfl, rfl, rfl, by decide +kernel, rfl, by decide +kernel, by decide +kernel⟩
structure Txt (w : World) (K : PySem.W.Frag) (mg : Str → Option Value) where
  a_dial_of : Addr
  d_dial_of : FuncData
  F_dial_of : Fun K "dial_of" "dial_of" s_dial_of a_dial_of d_dial_of
  b_dial_of : Binds K d_dial_of ["engine"] []
  g_dial_of : mg "dial_of" = some (.ref a_dial_of)
  a_rows_on : Addr
  d_rows_on : FuncData
  F_rows_on : Fun K "rows_on" "rows_on" s_rows_on a_rows_on d_rows_on
  b_rows_on : Binds K d_rows_on ["log", "line"] []
  g_rows_on : mg "rows_on" = some (.ref a_rows_on)
  a_answers : Addr
  d_answers : FuncData
  F_answers : Fun K "answers" "answers" s_answers a_answers d_answers
  b_answers : Binds K d_answers ["log", "engine"] []
  g_answers : mg "answers" = some (.ref a_answers)
  a_what_became : Addr
  d_what_became : FuncData
  F_what_became : Fun K "what_became" "what_became" s_what_became a_what_became d_what_became
  b_what_became : Binds K d_what_became ["log", "engine", "number"] []
  g_what_became : mg "what_became" = some (.ref a_what_became)
  a_wrong_answers : Addr
  d_wrong_answers : FuncData
  F_wrong_answers : Fun K "wrong_answers" "wrong_answers" s_wrong_answers a_wrong_answers d_wrong_answers
  b_wrong_answers : Binds K d_wrong_answers ["log", "engine"] []
  g_wrong_answers : mg "wrong_answers" = some (.ref a_wrong_answers)
  a_pen : Addr
  d_pen : FuncData
  F_pen : Fun K "_law_pen" "_law_pen" s_pen a_pen d_pen
  b_pen : Binds K d_pen ["_law_script"] []
  g_pen : mg "_law_pen" = some (.ref a_pen)
  a_draw : Addr
  d_draw : FuncData
  F_draw : Fun K "_law_draw" "_law_draw" s_draw a_draw d_draw
  b_draw : Binds K d_draw ["_law_pen_here", "_law_many"] []
  g_draw : mg "_law_draw" = some (.ref a_draw)
  a_pick : Addr
  d_pick : FuncData
  F_pick : Fun K "_law_pick" "_law_pick" s_pick a_pick d_pick
  b_pick : Binds K d_pick ["_law_pen_here", "_law_some"] []
  g_pick : mg "_law_pick" = some (.ref a_pick)
  a_word : Addr
  d_word : FuncData
  F_word : Fun K "_law_word" "_law_word" s_word a_word d_word
  b_word : Binds K d_word ["_law_pen_here"] []
  g_word : mg "_law_word" = some (.ref a_word)
  a_log : Addr
  d_log : FuncData
  F_log : Fun K "_law_log" "_law_log" s_log a_log d_log
  b_log : Binds K d_log ["_law_pen_here", "_law_most"] []
  g_log : mg "_law_log" = some (.ref a_log)
  a_hang_right : Addr
  d_hang_right : FuncData
  F_hang_right : Fun K "_law_hang_right" "_law_hang_right" s_hang_right a_hang_right d_hang_right
  b_hang_right : Binds K d_hang_right ["_law_log_here", "_law_engine"] []
  g_hang_right : mg "_law_hang_right" = some (.ref a_hang_right)
  a_less_right : Addr
  d_less_right : FuncData
  F_less_right : Fun K "_law_less_right" "_law_less_right" s_less_right a_less_right d_less_right
  b_less_right : Binds K d_less_right ["_law_log_here", "_law_engine"] []
  g_less_right : mg "_law_less_right" = some (.ref a_less_right)
  a_more_right : Addr
  d_more_right : FuncData
  F_more_right : Fun K "_law_more_right" "_law_more_right" s_more_right a_more_right d_more_right
  b_more_right : Binds K d_more_right ["_law_pen_here", "_law_log_here", "_law_engine"] []
  g_more_right : mg "_law_more_right" = some (.ref a_more_right)
  a_law : Addr
  d_law : FuncData
  F_law : Fun K "law" "law" s_law a_law d_law
  b_law : Binds K d_law ["_law_script"] []
  g_law : mg "law" = some (.ref a_law)
  z_abs : mg "abs" = none
  z_dict : mg "dict" = none
  z_enumerate : mg "enumerate" = none
  z_int : mg "int" = none
  z_len : mg "len" = none
  z_max : mg "max" = none
  z_min : mg "min" = none
  z_range : mg "range" = none
  z_set : mg "set" = none
  z_tuple : mg "tuple" = none
  D_DIALS : Addr
  c_DIALS : mg "DIALS" = some (.ref D_DIALS)
  es_DIALS : Array DictEntry
  n_DIALS : Nat
  kD_DIALS : KDict K w D_DIALS es_DIALS n_DIALS
  ki_DIALS : ∀ p ∈ ([("port", V.str "aport"), ("star", V.str "astar")] : List (Str × V)), ∃ u, PySem.W.nsIn K D_DIALS p.1 = some (some u) ∧ RelV p.2 u
  kd_DIALS : ∀ p ∈ ([("port", V.str "aport"), ("star", V.str "astar")] : List (Str × V)), KDct K w D_DIALS p.1 p.2
/-! a step of a reading whose answer is fixed: a name, a number's operation -/
local macro_rules | `(tactic| walk_at "rd") => `(tactic| (first
  | refine ⟨_, rfl, ?_⟩
  | refine ⟨_, _, rfl, rfl, ?_⟩
  | (refine And.intro ?rdc ?_; (case rdc => first | decide | omega | exact ⟨by omega, by omega⟩ | exact ⟨by decide, by decide, by omega⟩ | exact .inl ⟨by omega, by omega⟩ | exact .inr ⟨by omega, by omega⟩))))
section
variable {P : Program} {w : World} {K : PySem.W.Frag} {mg : Str → Option Value} {base : Heap}
/-! ### the pen -/
def spDraw (K : PySem.W.Frag) : Sp := fun vs H Q _ => ∃ (p c : Addr) (n : Nat) (m : Int), vs = [.ref p, .int m] ∧ PenAt H p c n ∧ Cells K H p c ∧ n ≤ 1000000 ∧ 1 ≤ m ∧ m < 1073741824 ∧
  ∀ H' r, Go K p c H (n + 1) H' → 0 ≤ r → r < m → Q (.int r) H'
theorem ok_draw (T : Txt w K mg) : FnOk P w K mg base CX0 1 T.a_draw T.d_draw ["_law_pen_here", "_law_many"] (spDraw K) := by
  refine T.F_draw.ok sc_draw (fun vs H Q E h => ?_) (fun cdv A outer s H vs Q E hr h => ?_)
  · obtain ⟨p, c, n, m, rfl, _⟩ := h
    rfl
  · obtain ⟨p, c, n, m, rfl, hp, hc, hn, hm1, hm2, q⟩ := h
    obtain ⟨at_, cy, e, h0, h1, h2⟩ := id hp
    obtain ⟨ne, ns, hS, hl⟩ := id hc
    refine ⟨_, (pss_cons (ps_if (pt_cmpR op_gt (pe_ix (kx_list K) (pv 0) pe_int (fun _ _ => rfl)) pe_int (nomark _)) (pss_cons (ps_set (i := 2) sc_draw.nd rfl (by first | exact Or.inl rfl | exact Or.inr rfl) (pe_op op_modN (pe_ix (kx_list K) (pv 0) pe_int (fun _ _ => rfl)) (pv 1)))
  (pss_cons (ps_asg (pe_op op_fdivN (pe_ix (kx_list K) (pv 0) pe_int (fun _ _ => rfl)) (pv 1)) (pg_sub (pv 0) pe_int set_list))
  (pss_one (ps_ret (pv 2))))) pss_nil)
  (pss_cons (ps_set (i := 3) sc_draw.nd rfl (by first | exact Or.inl rfl | exact Or.inr rfl) (pe_ix (kx_list K) (pv 0) pe_int (fun _ _ => rfl)))
  (pss_cons (ps_asg (pe_op op_add (pv 3) pe_int) (pg_sub (pv 0) pe_int set_list))
  (pss_cons (ps_set (i := 4) sc_draw.nd rfl (by first | exact Or.inl rfl | exact Or.inr rfl) (pe_op op_add (pe_op op_mul pe_int (pv 3)) pe_int))
  (C8.pss_cut (ps_if (pt_cmpR op_gt (pe_callB (k_len K) (by rfl) T.z_len (by decide +kernel) (pa_cons (pe_ix (kx_list K) (pv 0) pe_int (fun _ _ => rfl)) pa_nil)) pe_int (nomark _)) (pss_one (ps_set (i := 4) sc_draw.nd rfl (by first | exact Or.inl rfl | exact Or.inr rfl) (pe_ix (kx_list K) (pe_ix (kx_list K) (pv 0) pe_int (fun _ _ => rfl)) (pe_op op_modN (pv 3) (pe_callB (k_len K) (by rfl) T.z_len (by decide +kernel) (pa_cons (pe_ix (kx_list K) (pv 0) pe_int (fun _ _ => rfl)) pa_nil))) (fun _ _ => rfl)))) pss_nil)
  (C8.pss_cut (ps_if (PW.pt (pw_and (pt_cmpR op_lt (pv 3) (pe_callB (k_len K) (by rfl) T.z_len (by decide +kernel) (pa_cons (pe_ix (kx_list K) (pv 0) pe_int (fun _ _ => rfl)) pa_nil)) (nomark _)) (pw_and1 (pt_cmpR op_ge (pe_callB call_abs (by rfl) T.z_abs (by decide +kernel) (pa_cons (pv 4) pa_nil)) (pe_op op_pow pe_int pe_int) (nomark _))))) (pss_cons (ps_asg (pe_op op_fdivN (pe_callB call_abs (by rfl) T.z_abs (by decide +kernel) (pa_cons (pv 4) pa_nil)) (pv 1)) (pg_sub (pv 0) pe_int set_list))
  (pss_one (ps_ret (pe_op op_modN (pe_callB call_abs (by rfl) T.z_abs (by decide +kernel) (pa_cons (pv 4) pa_nil)) (pv 1))))) pss_nil)
  (pss_cons (ps_set (i := 5) sc_draw.nd rfl (by first | exact Or.inl rfl | exact Or.inr rfl) (pe_op op_modN (pe_op op_pow (pe_op op_add (pe_op op_add (pe_op op_add (pe_op op_modN (pv 4) pe_int) (pe_op op_mul (pe_op op_mul pe_int (pv 3)) (pv 3))) (pe_op op_mul pe_int (pv 3))) pe_int) pe_int) pe_int))
  (pss_cons (ps_set (i := 5) sc_draw.nd rfl (by first | exact Or.inl rfl | exact Or.inr rfl) (pe_op op_modN (pe_op op_mul (pe_op op_pow (pe_op op_add (pe_op op_add (pv 5) (pe_op op_mul pe_int (pv 3))) pe_int) pe_int) (pe_op op_add (pe_op op_modN (pv 5) pe_int) pe_int)) pe_int))
  (pss_one (ps_ret (pe_op op_modN (pe_op op_fdivN (pv 5) pe_int) (pv 1)))))))))))), ?_⟩
    refine ⟨_, rfl, p, _, 2, _, rfl, rfl, SqL.of e, rfl, _, _, rfl, rfl, _, rfl, ite2 (fun t => ?_) (fun t => ?_)⟩
    · -- a rest is left
      have t' : 0 < cy := of_decide_eq_true t
      refine ⟨_, rfl, p, _, 2, _, rfl, rfl, SqL.of e, rfl, _, rfl, _, _, rfl, rfl, (by omega), ?_⟩
      refine ⟨_, rfl, p, _, 2, _, rfl, rfl, SqL.of e, rfl, _, rfl, _, _, rfl, rfl, ⟨by omega, by omega⟩, ?_⟩
      refine ⟨_, rfl, p, _, 2, 2, rfl, rfl, e, rfl, ?_⟩
      refine ⟨_, rfl, q _ _ (Go.make hc But.put upd_same h0 (by omega) (fdiv_ge h2 (by omega))) (fmod_ge (by omega)) (fmod_lt (by omega))⟩
    · refine ⟨_, rfl, p, _, 1, _, rfl, rfl, SqL.of e, rfl, ?_⟩
      refine ⟨_, rfl, _, _, rfl, rfl, _, rfl, p, _, 1, 1, rfl, rfl, e, rfl, ?_⟩
      -- the place goes on
      have e1 : upd H p (.lst ([V.ref c, V.int at_, V.int cy].set 1 (V.int (at_ + 1)))) p = some (.lst [V.ref c, V.int (at_ + 1), V.int cy]) := upd_same
      have b1 : But p H (upd H p (.lst ([V.ref c, V.int at_, V.int cy].set 1 (V.int (at_ + 1))))) := But.put
      generalize upd H p (.lst ([V.ref c, V.int at_, V.int cy].set 1 (V.int (at_ + 1)))) = H1 at e1 b1 ⊢
      have hS1 := b1.seqL ne hS
      refine ⟨_, rfl, _, _, rfl, rfl, .inl ⟨by omega, by omega⟩, _, _, rfl, rfl, ?_⟩
      refine ⟨fun σ' H' => ∃ cell : Int, σ' = [some (.ref p), some (.int m), none, some (.int at_), some (.int cell), none] ∧ H' = H1, ?_, ?_⟩
      · refine ⟨_, rfl, p, _, 0, _, rfl, rfl, SqL.of e1, rfl, c, _, rfl, .inl hS1, _, _, rfl, rfl, _, rfl, ite2 (fun t2 => ?_) (fun t2 => ⟨_, rfl, rfl⟩)⟩
        have l0 : (0 : Int) < ((ns.map V.int).length : Int) := of_decide_eq_true t2
        obtain ⟨v, hv, ev⟩ := atI_fmod (xs := ns.map V.int) (i := at_) (by omega)
        obtain ⟨z, _, rfl⟩ := List.mem_map.mp hv
        exact ⟨_, rfl, p, _, 0, _, rfl, rfl, SqL.of e1, rfl, _, rfl, _, rfl, p, _, 0, _, rfl, rfl, SqL.of e1, rfl, c, _, rfl, .inl hS1, _, _, rfl, rfl, (by omega), c, _, _, _, rfl, rfl, hS1, ev, z, rfl, rfl⟩
      · rintro σ' H' ⟨cell, rfl, rfl⟩
        refine ⟨fun σ2 H2 => σ2 = [some (.ref p), some (.int m), none, some (.int at_), some (.int cell), none] ∧ H2 = H', ?_, ?_⟩
        · refine ⟨_, rfl, _, rfl, p, _, 0, _, rfl, rfl, SqL.of e1, rfl, c, _, rfl, .inl hS1, _, _, rfl, rfl, _, rfl, ite2 (fun t3 => ?_) (fun t3 => iteF ⟨rfl, rfl⟩)⟩
          refine ⟨_, rfl, _, rfl, _, _, rfl, rfl, ⟨by decide, by decide, by decide⟩, _, _, rfl, rfl, _, rfl, ite2 (fun t4 => ?_) (fun t4 => ⟨rfl, rfl⟩)⟩
          have habs : (0 : Int) ≤ if cell < 0 then -cell else cell := by
            split <;> omega
          refine ⟨_, rfl, _, rfl, _, rfl, _, _, rfl, rfl, ⟨by omega, by omega⟩, _, rfl, p, _, 2, 2, rfl, rfl, e1, rfl, ?_⟩
          exact ⟨_, rfl, _, rfl, _, rfl, _, _, rfl, rfl, (by omega), q _ _ (Go.make hc (b1.trans But.put) upd_same (by omega) (by omega) (fdiv_ge habs (by omega))) (fmod_ge (by omega)) (fmod_lt (by omega))⟩
        · rintro σ2 H2 ⟨rfl, rfl⟩
          have a1 := fmod_ge (a := cell) (b := 2147483549) (by decide)
          have a2 := fmod_lt (a := cell) (b := 2147483549) (by decide)
          have a3 : 0 ≤ 50023 * at_ * at_ := Int.mul_nonneg (by omega) h0
          have a4 : 50023 * at_ * at_ ≤ 50023000000 * 1000000 := Int.mul_le_mul (by omega) (by omega) h0 (by decide)
          have z1 := fmod_ge (a := (cell.fmod 2147483549 + 50023 * at_ * at_ + 40063 * at_ + 11) ^ Int.toNat 3) (b := 2147483629) (by decide)
          have z2 := fmod_lt (a := (cell.fmod 2147483549 + 50023 * at_ * at_ + 40063 * at_ + 11) ^ Int.toNat 3) (b := 2147483629) (by decide)
          have z3 := fmod_ge (a := ((cell.fmod 2147483549 + 50023 * at_ * at_ + 40063 * at_ + 11) ^ Int.toNat 3).fmod 2147483629) (b := 60013) (by decide)
          have z4 := fmod_lt (a := ((cell.fmod 2147483549 + 50023 * at_ * at_ + 40063 * at_ + 11) ^ Int.toNat 3).fmod 2147483629) (b := 60013) (by decide)
          repeat (walk_at "rd")
          exact q _ _ (Go.make hc b1 e1 (by omega) (by omega) h2) (fmod_ge (by omega)) (fmod_lt (by omega))
/-! ### one of some -/
def spPick (K : PySem.W.Frag) : Sp := fun vs H Q _ => ∃ (p c q : Addr) (n : Nat) (xs : List V), vs = [.ref p, .ref q] ∧ PenAt H p c n ∧ Cells K H p c ∧ n ≤ 1000000 ∧ (SqL K H q xs ∧ q ≠ p ∨ SqT K H q xs) ∧ xs ≠ [] ∧ xs.length ≤ 1000000 ∧
  ∀ H' v, Go K p c H (n + 1) H' → v ∈ xs → Q v H'
theorem ok_pick (T : Txt w K mg) : FnOk P w K mg base CX0 2 T.a_pick T.d_pick ["_law_pen_here", "_law_some"] (spPick K) := by
  have G_draw := ok_draw (P := P) (base := base) T
  refine T.F_pick.ok sc_pick (fun vs H Q E h => ?_) (fun cdv A outer s H vs Q E hr h => ?_)
  · obtain ⟨p, c, q, n, xs, rfl, _⟩ := h
    rfl
  · obtain ⟨p, c, q, n, xs, rfl, hp, hc, hn, hq, hx, hl, k⟩ := h
    have hr_draw := hr
    have l0 : 0 < xs.length := List.length_pos_iff.mpr hx
    refine ⟨_, (pss_one (ps_ret (pe_ix (kx_seq K) (pv 1) (pe_call G_draw hr_draw (by rfl) T.g_draw T.F_draw.kp T.b_draw .nil pass0 (pa_cons (pv 0) (pa_cons (pe_callB (k_len K) (by rfl) T.z_len (by decide +kernel) (pa_cons (pv 1) pa_nil)) pa_nil))) (fun _ _ => rfl)))), ?_⟩
    refine ⟨_, rfl, _, rfl, _, rfl, q, xs, rfl, hq.imp And.left id, p, c, n, _, rfl, hp, hc, hn, by omega, by omega, fun H' r g r0 r1 => ?_⟩
    obtain ⟨v, hv, ev⟩ := atI_lt r0 r1
    rcases hq with ⟨hq, nq⟩ | hq
    · exact .inl ⟨q, xs, r, v, rfl, rfl, g.but.seqL nq hq, ev, k _ _ g hv⟩
    · exact .inr (.inl ⟨q, xs, r, v, rfl, rfl, seqT_go hq hp g.but, ev, k _ _ g hv⟩)

/-! ### a word -/
theorem letter_ok {c : Nat} (h : c ∈ ("abcdefghijklmnopqrstuvwxyz" : Str).cps.toList) : TOk 1 ⟨#[c]⟩ := by
  refine ⟨Nat.le_refl _, fun d hd => ?_⟩
  have e : d = c := by simpa using hd
  subst e
  exact (show ∀ c ∈ ("abcdefghijklmnopqrstuvwxyz" : Str).cps.toList, c < 128 by decide +kernel) d h
def spWord (K : PySem.W.Frag) : Sp := fun vs H Q _ => ∃ (p c : Addr) (n : Nat), vs = [.ref p] ∧ PenAt H p c n ∧ Cells K H p c ∧ n ≤ 900000 ∧
  ∀ H' t, Go K p c H (n + 10) H' → TOk 8 t → Q (.str t) H'
theorem ok_word (T : Txt w K mg) : FnOk P w K mg base CX0 3 T.a_word T.d_word ["_law_pen_here"] (spWord K) := by
  have G_draw := ok_draw (P := P) (base := base) T
  have G_pick := ok_pick (P := P) (base := base) T
  refine T.F_word.ok sc_word (fun vs H Q E h => ?_) (fun cdv A outer s H vs Q E hr h => ?_)
  · obtain ⟨p, c, n, rfl, _⟩ := h
    rfl
  · obtain ⟨p, c, n, rfl, hp, hc, hn, k⟩ := h
    have hr_pick := hr
    have hr_draw := hr.mono (show 1 ≤ 2 by decide)
    refine ⟨_, (pss_cons (ps_set (i := 1) sc_word.nd rfl (by first | exact Or.inl rfl | exact Or.inr rfl) pe_str)
  (pss_cons (ps_set (i := 2) sc_word.nd rfl (by first | exact Or.inl rfl | exact Or.inr rfl) (pe_join pe_str (pe_lc (own := [("_law_k", 3)]) rfl sc_word.nd (pi_range1 (by rfl) T.z_range (pa_cons (pe_op op_add pe_int (pe_call G_draw hr_draw (by rfl) T.g_draw T.F_draw.kp T.b_draw .nil pass0 (pa_cons (pv 0) (pa_cons pe_int pa_nil)))) pa_nil)) (blkOk_by (own := [("_law_k", 3)]) (N := ["_law_pen_here", "_law_letters", "_law_some", "_law_k"]) (sc := defScope s_word) (by decide +kernel)) (fun _ _ _ _ _ => (pg_name (i := 3) sc_word.nd rfl (by first | exact Or.inl rfl | exact Or.inr rfl))) (fun _ _ _ _ _ => pts_nil) (fun _ _ _ _ _ => (pe_ix ix_str (pv 1) (pe_call G_draw hr_draw (by rfl) T.g_draw T.F_draw.kp T.b_draw .nil pass0 (pa_cons (pv 0) (pa_cons pe_int pa_nil))) (fun _ _ => rfl))))))
  (pss_one (ps_ret (pe_call G_pick hr_pick (by rfl) T.g_pick T.F_pick.kp T.b_pick .nil pass0 (pa_cons (pv 0) (pa_cons (pe_lst (pa_cons pe_str (pa_cons pe_str (pa_cons pe_str (pa_cons pe_str (pa_cons (pv 2) (pa_cons (pv 2) (pa_cons (pe_slice sl_str (pv 2) po_none (po_some pe_int)) pa_nil)))))))) pa_nil))))))), ?_⟩
    refine ⟨⟨_, rfl⟩, ?_⟩
    refine ⟨_, rfl, p, c, n, _, rfl, hp, hc, by omega, by decide, by decide, fun H1 r g1 r0 r1 => ?_⟩
    refine ⟨_, _, rfl, rfl, _, rfl, by omega, by omega, fun D hD => ?_⟩
    have hD0 := g1.free hD
    have nD : D ≠ p := Ne.symm (g1.ne_new hD)
    refine lc_it walk_range (fun i H' => Go K p c H (n + 1 + i) H' ∧ ∃ ws : List Str, H' D = some (.lst (ws.map V.str)) ∧ ws.length = i ∧ ∀ x ∈ ws, TOk 1 x)
      ⟨g1.new hD, [], upd_same, rfl, fun x hx => nomatch hx⟩ (fun _ _ _ _ => trivial) ?_ ?_
    · rintro i x H2 H3 hi ⟨g2, ws, e2, l2, o2⟩ ⟨rfl, rfl⟩
      refine ⟨rfl, _, rfl, _, rfl, p, c, n + 1 + i, 26, rfl, g2.pen, g2.cel, by omega, by decide, by decide, fun H4 r4 g4 q0 q1 => ?_⟩
      have e4 := g4.but D _ nD e2
      obtain ⟨c4, hc4, ec4⟩ := atI_lt (xs := ("abcdefghijklmnopqrstuvwxyz" : Str).cps.toList) q0 (show r4 < ((26 : Nat) : Int) from q1)
      refine ⟨_, r4, c4, rfl, rfl, by decide +kernel, ec4, _, e4, ?_, ?_⟩
      · rw [List.length_map]
        exact small1000 (by omega)
      · refine ⟨((g2.trans g4).own hD0 nD hc).mono (by omega), ws ++ [⟨#[c4]⟩], ?_, by rw [List.length_append, l2]; rfl, fun x hx => ?_⟩
        · rw [upd_same, List.map_append]
          rfl
        · rcases List.mem_append.mp hx with hx | hx
          · exact o2 x hx
          · have : x = ⟨#[c4]⟩ := by simpa using hx
            subst this
            exact letter_ok hc4
    · rintro H2 ⟨g2, ws, e2, l2, o2⟩
      have j1 := join_ok o2
      have sum1 : (ws.map (·.length)).sum ≤ ws.length := by
        clear e2 l2 j1
        induction ws with
        | nil => exact Nat.le_refl _
        | cons x r ih =>
          have a := (o2 x (List.mem_cons_self ..)).1
          have b := ih fun y hy => o2 y (List.mem_cons_of_mem _ hy)
          simp only [List.map_cons, List.sum_cons, List.length_cons]
          omega
      have j2 : TOk 8 (Txt.join (Str.ofString "") ws) := by
        rw [TL.join_eq]
        exact j1.mono (by omega)
      refine ⟨_, D, ws, rfl, rfl, .inl (SqL.of e2), ?_, ?_⟩
      · have : (Str.ofString "").length = 0 := by decide +kernel
        rw [this]
        omega
      generalize Txt.join (Str.ofString "") ws = t1 at j2 ⊢
      refine ⟨_, rfl, _, rfl, _, rfl, _, rfl, 1, rfl, t1, rfl, Nat.le_trans j2.1 (by decide), (by show 7 ≤ sizeLine; decide), fun l hl => ?_⟩
      have g3 := g2.new hl (o := .lst [V.str (Str.ofString "port"), V.str (Str.ofString "stop"), V.str (Str.ofString "up"), V.str (Str.ofString "zzzzzzzz"), V.str t1, V.str t1, V.str (cutS t1 none (some 1))])
      refine ⟨p, c, l, _, _, rfl, g3.pen, g3.cel, by omega, .inl ⟨SqL.of upd_same, Ne.symm (g2.ne_new hl)⟩, by simp, (by show 7 ≤ 1000000; decide), fun H4 v g4 hv => ?_⟩
      have hv2 : ∃ t, v = V.str t ∧ TOk 8 t := by
        have z : v = V.str (Str.ofString "port") ∨ v = V.str (Str.ofString "stop") ∨ v = V.str (Str.ofString "up") ∨ v = V.str (Str.ofString "zzzzzzzz") ∨ v = V.str t1 ∨ v = V.str (cutS t1 none (some 1)) := by
          have z0 := hv
          simp only [List.mem_cons, List.not_mem_nil, or_false] at z0
          rcases z0 with z | z | z | z | z | z | z <;> simp [z]
        rcases z with z | z | z | z | z | z
        · exact ⟨_, z, by decide +kernel, by decide +kernel⟩
        · exact ⟨_, z, by decide +kernel, by decide +kernel⟩
        · exact ⟨_, z, by decide +kernel, by decide +kernel⟩
        · exact ⟨_, z, by decide +kernel, by decide +kernel⟩
        · exact ⟨_, z, j2⟩
        · exact ⟨_, z, cut_ok j2 _ _⟩
      obtain ⟨t2, rfl, o3⟩ := hv2
      exact k _ _ ((g3.trans g4).mono (by omega)) o3

/-! ### a log -/
/-- minutes that go up -/
def Rising : List Row → Prop := List.Pairwise fun r r2 => r.m ≤ r2.m
theorem rising_snoc {rs : List Row} {r : Row} (h : Rising rs) (l : ∀ q ∈ rs, q.m ≤ r.m) : Rising (rs ++ [r]) := by
  refine List.pairwise_append.mpr ⟨h, List.pairwise_singleton .., fun q hq y hy => ?_⟩
  have : y = r := by simpa using hy
  subst this
  exact l q hq
def spLog (K : PySem.W.Frag) : Sp := fun vs H Q _ => ∃ (p c : Addr) (n : Nat) (m : Int), vs = [.ref p, .int m] ∧ PenAt H p c n ∧ Cells K H p c ∧ n ≤ 800000 ∧ 4 ≤ m ∧ m ≤ 40 ∧
  ∀ H' t rs, Go K p c H (n + 1000) H' → H t = none → LogAt K H' t rs → rs.length ≤ 40 → (∀ r ∈ rs, r.Ok) → Rising rs → Q (.ref t) H'
theorem ok_log (T : Txt w K mg) : FnOk P w K mg base CX0 4 T.a_log T.d_log ["_law_pen_here", "_law_most"] (spLog K) := by
  have G_draw := ok_draw (P := P) (base := base) T
  have G_pick := ok_pick (P := P) (base := base) T
  have G_word := ok_word (P := P) (base := base) T
  refine T.F_log.ok sc_log (fun vs H Q E h => ?_) (fun cdv A outer s H vs Q E hr h => ?_)
  · obtain ⟨p, c, n, m, rfl, _⟩ := h
    rfl
  · obtain ⟨p, c, n, m, rfl, hp, hc, hn, m1, m2, k⟩ := h
    have hr_word := hr
    have hr_pick := hr.mono (show 2 ≤ 3 by decide)
    have hr_draw := hr.mono (show 1 ≤ 3 by decide)
    refine ⟨_, (pss_cons (ps_set (i := 2) sc_log.nd rfl (by first | exact Or.inl rfl | exact Or.inr rfl) (pe_ix (kx_list K) (pe_lst (pa_cons (pe_call G_draw hr_draw (by rfl) T.g_draw T.F_draw.kp T.b_draw .nil pass0 (pa_cons (pv 0) (pa_cons (pe_op op_add (pv 1) pe_int) pa_nil))) (pa_cons (pe_call G_draw hr_draw (by rfl) T.g_draw T.F_draw.kp T.b_draw .nil pass0 (pa_cons (pv 0) (pa_cons pe_int pa_nil))) (pa_cons (pv 1) pa_nil)))) (pe_op op_fdivN (pe_call G_draw hr_draw (by rfl) T.g_draw T.F_draw.kp T.b_draw .nil pass0 (pa_cons (pv 0) (pa_cons pe_int pa_nil))) pe_int) (fun _ _ => rfl)))
  (pss_cons (ps_set (i := 3) sc_log.nd rfl (by first | exact Or.inl rfl | exact Or.inr rfl) (pe_tup (pa_cons pe_str (pa_cons pe_str (pa_cons pe_str (pa_cons pe_str (pa_cons pe_str (pa_cons pe_str pa_nil))))))))
  (pss_cons (ps_set (i := 4) sc_log.nd rfl (by first | exact Or.inl rfl | exact Or.inr rfl) (pe_call G_pick hr_pick (by rfl) T.g_pick T.F_pick.kp T.b_pick .nil pass0 (pa_cons (pv 0) (pa_cons (pe_lst (pa_cons (pv 3) (pa_cons (pe_tup (pa_cons pe_str (pa_cons pe_str pa_nil))) (pa_cons (pe_tup (pa_cons pe_str (pa_cons pe_str pa_nil))) (pa_cons (pe_tup (pa_cons pe_str (pa_cons pe_str (pa_cons pe_str (pa_cons pe_str pa_nil))))) pa_nil))))) pa_nil))))
  (pss_cons (ps_setLc (i := 5) (own := [("_law_k", 9)]) rfl sc_log.nd rfl rfl (sw_true rfl rfl rfl (by decide +kernel)) (pi_range1 (by rfl) T.z_range (pa_cons pe_int pa_nil)) (blkOk_by (own := [("_law_k", 9)]) (N := ["_law_pen_here", "_law_most", "_law_many", "_law_every", "_law_lines", "_law_words", "_law_orders", "_law_minute", "_law_rows", "_law_k", "_law_line", "_law_what"]) (sc := defScope s_log) (by decide +kernel)) (fun _ _ _ _ _ => (pg_name (i := 9) sc_log.nd rfl (by first | exact Or.inl rfl | exact Or.inr rfl))) (fun _ _ _ _ _ => pts_nil) (fun _ _ _ _ _ => (pe_call G_word hr_word (by rfl) T.g_word T.F_word.kp T.b_word .nil pass0 (pa_cons (pv 0) pa_nil))))
  (pss_cons (ps_setLc (i := 6) (own := [("_law_k", 9)]) rfl sc_log.nd rfl rfl (sw_true rfl rfl rfl (by decide +kernel)) (pi_range1 (by rfl) T.z_range (pa_cons (pe_op op_add pe_int (pe_call G_draw hr_draw (by rfl) T.g_draw T.F_draw.kp T.b_draw .nil pass0 (pa_cons (pv 0) (pa_cons pe_int pa_nil)))) pa_nil)) (blkOk_by (own := [("_law_k", 9)]) (N := ["_law_pen_here", "_law_most", "_law_many", "_law_every", "_law_lines", "_law_words", "_law_orders", "_law_minute", "_law_rows", "_law_k", "_law_line", "_law_what"]) (sc := defScope s_log) (by decide +kernel)) (fun _ _ _ _ _ => (pg_name (i := 9) sc_log.nd rfl (by first | exact Or.inl rfl | exact Or.inr rfl))) (fun _ _ _ _ _ => pts_nil) (fun _ _ _ _ _ => (pe_op op_sub (pe_call G_draw hr_draw (by rfl) T.g_draw T.F_draw.kp T.b_draw .nil pass0 (pa_cons (pv 0) (pa_cons pe_int pa_nil))) pe_int)))
  (pss_cons (ps_set (i := 7) sc_log.nd rfl (by first | exact Or.inl rfl | exact Or.inr rfl) (pe_call G_pick hr_pick (by rfl) T.g_pick T.F_pick.kp T.b_pick .nil pass0 (pa_cons (pv 0) (pa_cons (pe_lst (pa_cons pe_int (pa_cons pe_int (pa_cons (pe_call G_draw hr_draw (by rfl) T.g_draw T.F_draw.kp T.b_draw .nil pass0 (pa_cons (pv 0) (pa_cons pe_int pa_nil))) (pa_cons (pe_op op_sub pe_int (pe_call G_draw hr_draw (by rfl) T.g_draw T.F_draw.kp T.b_draw .nil pass0 (pa_cons (pv 0) (pa_cons pe_int pa_nil)))) pa_nil))))) pa_nil))))
  (pss_cons (ps_set (i := 8) sc_log.nd rfl (by first | exact Or.inl rfl | exact Or.inr rfl) (pe_lst pa_nil))
  (pss_cons (ps_for PassesOwn.never rfl (pi_range1 (by rfl) T.z_range (pa_cons (pv 2) pa_nil)) (pg_name (i := 9) sc_log.nd rfl (by first | exact Or.inl rfl | exact Or.inr rfl)) (pss_cons (ps_set (i := 7) sc_log.nd rfl (by first | exact Or.inl rfl | exact Or.inr rfl) (pe_callB (call_min2 rfl) (by rfl) T.z_min (by decide +kernel) (pa_cons pe_int (pa_cons (pe_op op_add (pv 7) (pe_ix (kx_list K) (pe_lst (pa_cons pe_int (pa_cons pe_int (pa_cons pe_int (pa_cons (pe_call G_draw hr_draw (by rfl) T.g_draw T.F_draw.kp T.b_draw .nil pass0 (pa_cons (pv 0) (pa_cons pe_int pa_nil))) (pa_cons (pe_call G_draw hr_draw (by rfl) T.g_draw T.F_draw.kp T.b_draw .nil pass0 (pa_cons (pv 0) (pa_cons pe_int pa_nil))) (pa_cons pe_int pa_nil))))))) (pe_call G_draw hr_draw (by rfl) T.g_draw T.F_draw.kp T.b_draw .nil pass0 (pa_cons (pv 0) (pa_cons pe_int pa_nil))) (fun _ _ => rfl))) pa_nil))))
  (pss_cons (ps_set (i := 10) sc_log.nd rfl (by first | exact Or.inl rfl | exact Or.inr rfl) (pe_call G_pick hr_pick (by rfl) T.g_pick T.F_pick.kp T.b_pick .nil pass0 (pa_cons (pv 0) (pa_cons (pv 4) pa_nil))))
  (pss_cons (ps_set (i := 11) sc_log.nd rfl (by first | exact Or.inl rfl | exact Or.inr rfl) (pe_call G_pick hr_pick (by rfl) T.g_pick T.F_pick.kp T.b_pick .nil pass0 (pa_cons (pv 0) (pa_cons (pv 6) pa_nil))))
  (C8.pss_cut (ps_if (pt_cmpR (k_in K) (pv 10) (pe_tup (pa_cons pe_str (pa_cons pe_str pa_nil))) (by rfl)) (pss_one (ps_set (i := 11) sc_log.nd rfl (by first | exact Or.inl rfl | exact Or.inr rfl) (pe_call G_pick hr_pick (by rfl) T.g_pick T.F_pick.kp T.b_pick .nil pass0 (pa_cons (pv 0) (pa_cons (pv 5) pa_nil))))) pss_nil)
  (pss_one (ps_expr (pe_bm PySem.F.plainAttrs_list PySem.F.slot_list_append PySem.F.type_list_append mt_append (pv 8) (pa_cons (pe_tup (pa_cons (pv 7) (pa_cons (pv 10) (pa_cons (pv 11) pa_nil)))) pa_nil)))))))))
  (pss_one (ps_ret (pe_callTy (k_tupOf K) (by rfl) T.z_tuple (by decide +kernel) (pa_cons (pv 8) pa_nil)))))))))))), ?_⟩
    have g0 := Go.refl hp hc
    -- how many
    refine ⟨_, rfl, _, rfl, _, _, rfl, rfl, p, c, n, _, rfl, hp, hc, by omega, by omega, by omega, fun H1 r1 g1 a1 b1 => ?_⟩
    refine ⟨_, rfl, p, c, n + 1, _, rfl, g1.pen, g1.cel, by omega, by decide, by decide, fun H2 r2 g2 a2 b2 => ?_⟩
    refine ⟨_, rfl, (by show 3 ≤ sizeLine; decide), fun l1 hl1 => ?_⟩
    have G2 := (g1.trans g2).new hl1 (o := .lst [V.int r1, V.int r2, V.int m])
    have f2 : (upd H2 l1 (.lst [V.int r1, V.int r2, V.int m])) l1 = some (.lst [V.int r1, V.int r2, V.int m]) := upd_same
    generalize upd H2 l1 (.lst [V.int r1, V.int r2, V.int m]) = H3 at G2 f2 ⊢
    have nl1 : l1 ≠ p := Ne.symm ((g1.trans g2).ne_new hl1)
    refine ⟨_, rfl, p, c, n + 1 + 1, _, rfl, G2.pen, G2.cel, by omega, by decide, by decide, fun H4 r4 g4 a4 b4 => ?_⟩
    have q0 : 0 ≤ Int.fdiv r4 4 := fdiv_ge a4 (by decide)
    have q1 : Int.fdiv r4 4 < 3 := by
      rw [Int.fdiv_eq_ediv_of_nonneg _ (by decide)]
      omega
    obtain ⟨v0, hv0, ev0⟩ := atI_lt (xs := [V.int r1, V.int r2, V.int m]) q0 (by show Int.fdiv r4 4 < ((3 : Nat) : Int); exact q1)
    obtain ⟨many, rfl, mn0, mn1⟩ : ∃ many : Int, v0 = .int many ∧ 0 ≤ many ∧ many ≤ 40 := by
      have z : v0 = V.int r1 ∨ v0 = V.int r2 ∨ v0 = V.int m := by simpa using hv0
      rcases z with z | z | z <;> exact ⟨_, z, by omega, by omega⟩
    refine ⟨_, _, rfl, rfl, ⟨by omega, by omega⟩, l1, _, _, _, rfl, rfl, g4.but.seqL nl1 (SqL.of f2), ev0, ?_⟩
    have G4 := G2.trans g4
    clear ev0 hv0 f2 G2 g4 g1 g2
    -- the lines
    refine ⟨(by show 6 ≤ sizeLine; decide), fun e0 he0 => ?_⟩
    generalize hX : upd H4 e0 _ = H5
    obtain ⟨S5, f5⟩ := alloc he0 hX
    have G5 := G4.same S5
    clear hX
    refine ⟨_, rfl, _, rfl, (by show 2 ≤ sizeLine; decide), fun t1 ht1 => ?_⟩
    generalize hX : upd H5 t1 _ = H6
    obtain ⟨S6, f6⟩ := alloc ht1 hX
    have G6 := G5.same S6
    clear hX
    refine ⟨(by show 2 ≤ sizeLine; decide), fun t2 ht2 => ?_⟩
    generalize hX : upd H6 t2 _ = H7
    obtain ⟨S7, f7⟩ := alloc ht2 hX
    have G7 := G6.same S7
    clear hX
    refine ⟨(by show 4 ≤ sizeLine; decide), fun t3 ht3 => ?_⟩
    generalize hX : upd H7 t3 _ = H8
    obtain ⟨S8, f8⟩ := alloc ht3 hX
    have G8 := G7.same S8
    clear hX
    refine ⟨(by show 4 ≤ sizeLine; decide), fun l2 hl2 => ?_⟩
    generalize hX : upd H8 l2 _ = H9
    obtain ⟨S9, f9⟩ := alloc hl2 hX
    have G9 := G8.same S9
    have nl2 := Ne.symm (G8.ne_new hl2)
    clear hX
    have S69 := (S7.trans S8).trans S9
    refine ⟨p, c, l2, _, _, rfl, G9.pen, G9.cel, by omega, .inl ⟨SqL.of f9, nl2⟩, by simp, (by show 4 ≤ 1000000; decide), fun H10 v10 g10 hv10 => ?_⟩
    have G10 := G9.trans g10
    obtain ⟨ql, lns, rfl, hql, hlne, hllen, hlsub⟩ : ∃ (ql : Addr) (lns : List Str), v10 = .ref ql ∧ SqT K H10 ql (lns.map V.str) ∧ lns ≠ [] ∧ lns.length ≤ 6 ∧ ∀ l ∈ lns, l ∈ lines6 := by
      obtain ⟨_, _, ep, _⟩ := id G9.pen
      have z : v10 = V.ref e0 ∨ v10 = V.ref t1 ∨ v10 = V.ref t2 ∨ v10 = V.ref t3 := by simpa using hv10
      rcases z with z | z | z | z
      · exact ⟨e0, ["port", "star", "down", "aport", "astar", "up"], z, seqT_lst (SqT.of (S69 _ _ (S6 _ _ f5))) ep g10.but, by simp, by decide, by simp [lines6]⟩
      · exact ⟨t1, ["port", "aport"], z, seqT_lst (SqT.of (S69 _ _ f6)) ep g10.but, by simp, by decide, by simp [lines6]⟩
      · exact ⟨t2, ["port", "star"], z, seqT_lst (SqT.of (S9 _ _ (S8 _ _ f7))) ep g10.but, by simp, by decide, by simp [lines6]⟩
      · exact ⟨t3, ["star", "astar", "aport", "port"], z, seqT_lst (SqT.of (S9 _ _ f8)) ep g10.but, by simp, by decide, by simp [lines6]⟩
    clear hv10 f5 f6 f7 f8 f9 S5 S6 S7 S8 S9 S69 g10 G4 G5 G6 G7 G8 G9
    -- the words
    refine ⟨2, rfl, by decide, by decide, fun W hW => ?_⟩
    have hW0 := G10.free hW
    have nW : W ≠ p := Ne.symm (G10.ne_new hW)
    refine lc_it walk_range (fun i H' => Go K p c H (n + 4 + 10 * i) H' ∧ SqT K H' ql (lns.map V.str) ∧ ∃ ws : List Str, H' W = some (.lst (ws.map V.str)) ∧ ws.length = i ∧ ∀ x ∈ ws, TOk 8 x)
      ⟨G10.new hW, same_seqT (same_new (Same.refl _) hW) hql, [], upd_same, rfl, fun x hx => nomatch hx⟩ (fun _ _ _ _ => trivial) ?_ ?_
    · rintro i x Ha Hb hi ⟨g2, hs2, ws, e2, l2', o2⟩ ⟨rfl, rfl⟩
      refine ⟨rfl, _, rfl, p, c, n + 4 + 10 * i, rfl, g2.pen, g2.cel, by omega, fun Hc t gc ot => ?_⟩
      have ec := gc.but W _ nW e2
      refine ⟨_, ec, ?_, ((g2.trans gc).own hW0 nW hc).mono (by omega), seqT_lst (seqT_go hs2 g2.pen gc.but) ec But.put, ws ++ [t], ?_, by rw [List.length_append, l2']; rfl, fun x hx => ?_⟩
      · rw [List.length_map]
        exact small1000 (by omega)
      · rw [upd_same, List.map_append]
        rfl
      · rcases List.mem_append.mp hx with hx | hx
        · exact o2 x hx
        · have : x = t := by simpa using hx
          subst this
          exact ot
    rintro H11 ⟨G11, hs11, ws, e11, lws, ows⟩
    -- the orders
    refine ⟨_, rfl, p, c, n + 24, _, rfl, G11.pen, G11.cel, by omega, by decide, by decide, fun H12 r12 g12 a12 b12 => ?_⟩
    refine ⟨_, _, rfl, rfl, _, rfl, by omega, by omega, fun O hO => ?_⟩
    have G12 := G11.trans g12
    have hO0 := G12.free hO
    have nO : O ≠ p := Ne.symm (G12.ne_new hO)
    have nWO : W ≠ O := ne_of_none (g12.but W _ nW e11) hO
    refine lc_it walk_range (fun i H' => Go K p c H (n + 25 + i) H' ∧ SqT K H' ql (lns.map V.str) ∧ H' W = some (.lst (ws.map V.str)) ∧ ∃ os : List Int, H' O = some (.lst (os.map V.int)) ∧ os.length = i ∧ ∀ x ∈ os, -4 ≤ x ∧ x ≤ 4)
      ⟨G12.new hO, same_seqT (same_new (Same.refl _) hO) (seqT_go hs11 G11.pen g12.but), (upd_ne nWO).trans (g12.but W _ nW e11), [], upd_same, rfl, fun x hx => nomatch hx⟩ (fun _ _ _ _ => trivial) ?_ ?_
    · rintro i x Ha Hb hi ⟨g2, hs2, w2, os, e2, l2', o2⟩ ⟨rfl, rfl⟩
      refine ⟨rfl, _, rfl, p, c, n + 25 + i, _, rfl, g2.pen, g2.cel, by omega, by decide, by decide, fun Hc rc gc ac bc => ?_⟩
      have ec := gc.but O _ nO e2
      have wc := gc.but W _ nW w2
      refine ⟨_, _, rfl, rfl, _, ec, ?_, ((g2.trans gc).own hO0 nO hc).mono (by omega), seqT_lst (seqT_go hs2 g2.pen gc.but) ec But.put, (upd_ne nWO).trans wc, os ++ [rc - 4], ?_, by rw [List.length_append, l2']; rfl, fun x hx => ?_⟩
      · rw [List.length_map]
        exact small1000 (by omega)
      · rw [upd_same, List.map_append]
        rfl
      · rcases List.mem_append.mp hx with hx | hx
        · exact o2 x hx
        · have : x = rc - 4 := by simpa using hx
          omega
    rintro H13 ⟨G13, hs13, w13, os, e13, los, oos⟩
    have hos : os ≠ [] := fun z => by
      rw [z] at los
      have : ([] : List Int).length = 0 := rfl
      omega
    have hws : ws ≠ [] := fun z => by
      rw [z] at lws
      have : ([] : List Str).length = 0 := rfl
      omega
    -- the first minute
    refine ⟨_, rfl, _, rfl, p, c, _, _, rfl, G13.pen, G13.cel, by omega, by decide, by decide, fun H14 r14 g14 a14 b14 => ?_⟩
    refine ⟨_, rfl, p, c, _, _, rfl, g14.pen, g14.cel, by omega, by decide, by decide, fun H15 r15 g15 a15 b15 => ?_⟩
    refine ⟨_, _, rfl, rfl, (by show 4 ≤ sizeLine; decide), fun l3 hl3 => ?_⟩
    have G15 := G13.trans (g14.trans g15)
    have b15' := g14.but.trans g15.but
    generalize hX : upd H15 l3 _ = H16
    obtain ⟨S16, f16⟩ := alloc hl3 hX
    have G16 := G15.same S16
    have nl3 := Ne.symm (G15.ne_new hl3)
    clear hX
    refine ⟨p, c, l3, _, _, rfl, G16.pen, G16.cel, by omega, .inl ⟨SqL.of f16, nl3⟩, by simp, (by show 4 ≤ 1000000; decide), fun H17 v17 g17 hv17 => ?_⟩
    obtain ⟨time, rfl, tm0, tm1⟩ : ∃ time : Int, v17 = .int time ∧ 0 ≤ time ∧ time ≤ 99999 := by
      have z : v17 = V.int 0 ∨ v17 = V.int r14 ∨ v17 = V.int (99999 - r15) := by
        have z0 := hv17
        simp only [List.mem_cons, List.not_mem_nil, or_false] at z0
        rcases z0 with z | z | z | z <;> simp [z]
      rcases z with z | z | z <;> exact ⟨_, z, by omega, by omega⟩
    have G17 := G16.trans g17
    have hs17 : SqT K H17 ql (lns.map V.str) := seqT_go (same_seqT S16 (seqT_go hs13 G13.pen b15')) G16.pen g17.but
    have w17 : H17 W = some (.lst (ws.map V.str)) := g17.but _ _ nW (S16 _ _ (b15' _ _ nW w13))
    have o17 : H17 O = some (.lst (os.map V.int)) := g17.but _ _ nO (S16 _ _ (b15' _ _ nO e13))
    -- the rows
    refine ⟨(by show 0 ≤ sizeLine; decide), fun R hR => ?_⟩
    have nR := Ne.symm (G17.ne_new hR)
    generalize hX : upd H17 R _ = H18
    obtain ⟨S18, f18⟩ := alloc hR hX
    have G18 := G17.same S18
    clear hX
    refine ⟨_, rfl, _, rfl, by omega, by omega, ?_⟩
    refine for_it walk_range (fun i σ H' => ∃ (tm : Int) (x9 x10 x11 : Option V) (as : List Addr) (rs : List Row), σ = [some (.ref p), some (.int m), some (.int many), some (.ref e0), some (.ref ql), some (.ref W), some (.ref O), some (.int tm), some (.ref R), x9, x10, x11] ∧
        Go K p c H17 (n + 40 + 6 * i) H' ∧ SqT K H' ql (lns.map V.str) ∧ H' W = some (.lst (ws.map V.str)) ∧ H' O = some (.lst (os.map V.int)) ∧ H' R = some (.lst (as.map V.ref)) ∧ RowsAt K H' as rs ∧ rs.length = i ∧ (∀ r ∈ rs, r.Ok) ∧ (Rising rs ∧ ∀ r ∈ rs, r.m ≤ tm) ∧ 0 ≤ tm ∧ tm ≤ 99999)
      ⟨time, none, none, none, [], [], rfl, (G17.self.same S18).mono (by omega), same_seqT S18 hs17, S18 _ _ w17, S18 _ _ o17, f18, .nil, rfl, (fun r hr => nomatch hr), ⟨.nil, fun r hr => nomatch hr⟩, tm0, tm1⟩ (fun _ _ _ _ _ => trivial) ?_ ?_
    · rintro i x σ Ha Hb hi ⟨tm, x9, x10, x11, as, rs, rfl, ga, sa, wa, oa, ra, rowsa, lrs, oks, ⟨ris, rlt⟩, h70, h71⟩ ⟨rfl, rfl⟩
      have ei : i < 40 := by omega
      -- the minute
      refine ⟨_, rfl, _, rfl, p, c, _, _, rfl, ga.pen, ga.cel, by omega, by decide, by decide, fun Hc rc gc ac bc => ?_⟩
      refine ⟨_, rfl, p, c, _, _, rfl, gc.pen, gc.cel, by omega, by decide, by decide, fun Hd rd gd ad bd => ⟨(by show 6 ≤ sizeLine; decide), fun l4 hl4 => ?_⟩⟩
      have nl4 := Ne.symm ((gc.trans gd).ne_new hl4)
      generalize hX : upd Hd l4 _ = He
      obtain ⟨Se, fe⟩ := alloc hl4 hX
      have ge := (gc.trans gd).same Se
      clear hX
      refine ⟨_, rfl, p, c, _, _, rfl, ge.pen, ge.cel, by omega, by decide, by decide, fun Hf rf gf af bf => ?_⟩
      obtain ⟨v4, hv4, ev4⟩ := atI_lt (xs := [V.int 0, V.int 0, V.int 1, V.int rc, V.int rd, V.int 20000]) af (by show rf < ((6 : Nat) : Int); exact bf)
      obtain ⟨more, rfl, mo0⟩ : ∃ more : Int, v4 = .int more ∧ 0 ≤ more := by
        have z : v4 = V.int 0 ∨ v4 = V.int 1 ∨ v4 = V.int rc ∨ v4 = V.int rd ∨ v4 = V.int 20000 := by simpa using hv4
        rcases z with z | z | z | z | z <;> exact ⟨_, z, by omega⟩
      refine ⟨l4, _, _, _, rfl, rfl, gf.but.seqL nl4 (SqL.of fe), ev4, _, _, rfl, rfl, _, _, rfl, ?_⟩
      have gF := ge.trans gf
      obtain ⟨tm2, etm2, tm20, tm21⟩ : ∃ tm2 : Int, tm2 = (if tm + more < 99999 then tm + more else 99999) ∧ 0 ≤ tm2 ∧ tm2 ≤ 99999 := ⟨_, rfl, by split <;> omega, by split <;> omega⟩
      have tmle : tm ≤ tm2 := by rw [etm2]; split <;> omega
      have bF := gF.but
      have sF := seqT_go sa ga.pen bF
      have wF := bF _ _ nW wa
      have oF := bF _ _ nO oa
      have rF := bF _ _ nR ra
      have rowsF := rowsa.go ga.pen bF
      have GF := ga.trans gF
      -- the line
      refine ⟨_, rfl, _, rfl, p, c, ql, _, _, rfl, gF.pen, gF.cel, by omega, .inr sF, (by simpa using hlne), (by rw [List.length_map]; omega), fun Hg v5 gg hv5 => ?_⟩
      obtain ⟨wire, hwire, rfl⟩ := List.mem_map.mp hv5
      -- what it bears
      refine ⟨_, rfl, _, rfl, p, c, O, _, _, rfl, gg.pen, gg.cel, by omega, .inl ⟨SqL.of (gg.but _ _ nO oF), nO⟩, (by simpa using hos), (by rw [List.length_map]; omega), fun Hh v6 gh hv6 => ?_⟩
      obtain ⟨ord, hord, rfl⟩ := List.mem_map.mp hv6
      have gH := gg.trans gh
      have GH := GF.trans gH
      have wH := gH.but _ _ nW wF
      have rH := gH.but _ _ nR rF
      have sH := seqT_go sF gF.pen gH.but
      have oH := gH.but _ _ nO oF
      have rowsH := rowsF.go gF.pen gH.but
      have l6 := hlsub _ hwire
      have o9 := oos _ hord
      -- on a tube
      refine ⟨fun σ2 H2 => ∃ what : What, σ2 = [some (.ref p), some (.int m), some (.int many), some (.ref e0), some (.ref ql), some (.ref W), some (.ref O), some (.int tm2), some (.ref R), some (.int (0 + (i : Nat))), some (.str wire), some what.v] ∧
        Go K p c H17 (n + 40 + 6 * (i + 1)) H2 ∧ SqT K H2 ql (lns.map V.str) ∧ H2 W = some (.lst (ws.map V.str)) ∧ H2 O = some (.lst (os.map V.int)) ∧ H2 R = some (.lst (as.map V.ref)) ∧ RowsAt K H2 as rs ∧
        ((wire ∈ tubes ∧ ∃ t, what = .name t ∧ TOk 8 t) ∨ (wire ∉ tubes ∧ ∃ i, what = .order i ∧ -4 ≤ i ∧ i ≤ 4)), ?_, ?_⟩
      · refine ⟨_, rfl, (by show 2 ≤ sizeLine; decide), fun t4 ht4 => ?_⟩
        generalize hX : upd Hh t4 _ = Hi
        obtain ⟨Si, fi⟩ := alloc ht4 hX
        clear hX
        have gi := gH.same Si
        have GI := GH.same Si
        refine ⟨t4, _, rfl, .inr (SqT.of fi), rfl, rfl, _, rfl, ?_⟩
        have inT : inV (V.str wire) [V.str (Str.ofString "down"), V.str (Str.ofString "up")] = decide (wire ∈ tubes) := by
          rw [Bool.eq_iff_iff]
          simp only [inV, List.any_cons, List.any_nil, Bool.or_false, eqV, Bool.or_eq_true, beq_iff_eq, decide_eq_true_eq, tubes, List.mem_cons, List.not_mem_nil, or_false]
          constructor
          · rintro (z | z)
            · exact .inl z.symm
            · exact .inr z.symm
          · rintro (z | z)
            · exact .inl z.symm
            · exact .inr z.symm
        show if inV (V.str wire) [V.str (Str.ofString "down"), V.str (Str.ofString "up")] = true then _ else _
        rw [inT]
        refine ite2 (fun z => ?_) (fun z => ?_)
        · have z' : wire ∈ tubes := of_decide_eq_true z
          have wI := Si _ _ wH
          refine ⟨_, rfl, _, rfl, p, c, W, _, _, rfl, GI.pen, GI.cel, by omega, .inl ⟨SqL.of wI, nW⟩, (by simpa using hws), (by rw [List.length_map, lws]; decide), fun Hj v7 gj hv7 => ?_⟩
          obtain ⟨nm, hnm, rfl⟩ := List.mem_map.mp hv7
          exact ⟨.name nm, by rw [etm2]; rfl, (GI.trans gj).mono (by omega), seqT_go (same_seqT Si sH) GI.pen gj.but, gj.but _ _ nW wI, gj.but _ _ nO (Si _ _ oH), gj.but _ _ nR (Si _ _ rH), (rowsH.same Si).go GI.pen gj.but, .inl ⟨z', nm, rfl, ows _ hnm⟩⟩
        · have z' : wire ∉ tubes := fun y => z (decide_eq_true y)
          exact ⟨.order ord, by rw [etm2]; rfl, GI.mono (by omega), same_seqT Si sH, Si _ _ wH, Si _ _ oH, Si _ _ rH, rowsH.same Si, .inr ⟨z', ord, rfl, o9.1, o9.2⟩⟩
      · rintro σ2 H2 ⟨what, rfl, g2, s2, w2, o2, r2, rows2, hw⟩
        -- rows.append((time, wire, what))
        refine ⟨_, rfl, .inl ⟨rfl, _, SqL.of r2⟩, _, rfl, _, rfl, _, rfl, (by show 3 ≤ sizeLine; decide), fun a ha => ?_⟩
        generalize hX : upd H2 a _ = H2'
        obtain ⟨S3, f3⟩ := alloc ha hX
        clear hX
        have nRa : R ≠ a := ne_of_none r2 ha
        refine ⟨R, _, _, rfl, rfl, S3 _ _ r2, (by rw [List.length_map, rowsH.length, lrs]; exact small1000 (by omega)), ?_⟩
        have b3 : But R H2' (upd H2' R (.lst (as.map V.ref ++ [V.ref a]))) := But.put
        refine ⟨tm2, _, _, _, as ++ [a], rs ++ [⟨tm2, wire, what⟩], rfl, (g2.same S3).own hR nR G17.cel, ?_, ?_, ?_, ?_, ?_, by rw [List.length_append, lrs]; rfl, ?_, ⟨rising_snoc ris fun q hq => Int.le_trans (rlt q hq) tmle, fun q hq => ?_⟩, tm20, tm21⟩
        · exact seqT_lst (same_seqT S3 s2) (S3 _ _ r2) b3
        · exact b3 _ _ (ne_of_none w17 hR) (S3 _ _ w2)
        · exact b3 _ _ (ne_of_none o17 hR) (S3 _ _ o2)
        · rw [upd_same, List.map_append]
          rfl
        · exact ((rows2.same S3).snoc (SqT.of f3)).lst (S3 _ _ r2) b3
        · intro r hr'
          rcases List.mem_append.mp hr' with z | z
          · exact oks r z
          · have z' : r = ⟨tm2, wire, what⟩ := by simpa using z
            subst z'
            exact ⟨tm20, tm21, l6, hw⟩
        · rcases List.mem_append.mp hq with z | z
          · exact Int.le_trans (rlt q z) tmle
          · obtain rfl : q = ⟨tm2, wire, what⟩ := by simpa using z
            exact Int.le_refl _
    · rintro σ Ha ⟨tm, x9, x10, x11, as, rs, rfl, ga, sa, wa, oa, ra, rowsa, lrs, oks, ⟨ris, rlt⟩, h70, h71⟩
      refine ⟨_, rfl, R, _, rfl, .inl ⟨SqL.of ra, fun l hl => ?_⟩⟩
      have S4 : Same Ha (upd Ha l (.tup (as.map V.ref))) := same_new (Same.refl _) hl
      have GA := G17.trans ga
      exact k _ l rs ((GA.same S4).mono (by omega)) (GA.free hl) ⟨as, SqT.of upd_same, rowsa.same S4⟩ (by omega) oks ris
def spPen (K : PySem.W.Frag) : Sp := fun vs H Q _ => ∃ (a : Addr) (ns : List Int), vs = [.ref a] ∧ SqL K H a (ns.map V.int) ∧ ns.length ≤ 63 ∧ ∀ H' p c, Same H H' → H p = none → PenAt H' p c 0 → Cells K H' p c → Q (.ref p) H'
theorem ok_pen (T : Txt w K mg) : FnOk P w K mg base CX0 1 T.a_pen T.d_pen ["_law_script"] (spPen K) := by
  refine T.F_pen.ok sc_pen (fun vs H Q E h => ?_) (fun cdv A outer s H vs Q E hr h => ?_)
  · obtain ⟨a, ns, rfl, _⟩ := h
    rfl
  · obtain ⟨a, ns, rfl, hS, hl, k⟩ := h
    refine ⟨_, (pss_one (ps_ret (pe_lst (pa_cons (pe_slice (k_slL K) (pv 0) po_none (po_some pe_int)) (pa_cons pe_int (pa_cons pe_int pa_nil)))))), ?_⟩
    refine ⟨_, rfl, _, rfl, a, _, rfl, hS, fun c hc => ?_⟩
    generalize hX : upd H c _ = H1
    obtain ⟨S1, f1⟩ := alloc hc hX
    clear hX
    refine ⟨(by show 3 ≤ sizeLine; decide), fun p hp => ?_⟩
    generalize hX : upd H1 p _ = H2
    obtain ⟨S2, f2⟩ := alloc hp hX
    clear hX
    have e : cutV (ns.map V.int) none (some 63) = (ns.take (min 63 ns.length)).map V.int := by
      show cutV (ns.map V.int) none (some ((63 : Nat) : Int)) = _
      unfold cutV
      rw [HT.sIx_none, HT.sIx_nat, List.drop_zero, Nat.sub_zero, List.length_map, List.map_take]
    rw [e] at f1
    exact k H2 p c (S1.trans S2) (S1.free hp) ⟨0, 0, f2, by decide, by decide, by decide⟩ ⟨ne_of_none f1 hp, _, SqL.of (S2 _ _ f1), by rw [List.length_take]; omega⟩

def spLaw (K : PySem.W.Frag) : Sp := fun vs H Q _ => ∃ (a : Addr) (ns : List Int), vs = [.ref a] ∧ SqL K H a (ns.map V.int) ∧ ns.length ≤ 63 ∧ ∀ H', Q (.bl true) H'
theorem law_in (K : PySem.W.Frag) (H : Hp) (a : Addr) (ns : List Int) (h1 : ns.length ≤ 63) (_ : ∀ k ∈ ns, Builtin.Int.intBits k ≤ 1048576) (_ : Only H) (h2 : SqL K H a (ns.map V.int)) : spLaw K [.ref a] H (fun v _ => v = .bl true) fun _ _ _ => False :=
  ⟨a, ns, rfl, h2, h1, fun _ => rfl⟩
def engines : List Str := ["port", "star"]
def dialOf (e : Str) : Str := if e = "port" then "aport" else "astar"
def spDial (K : PySem.W.Frag) : Sp := fun vs H Q _ => ∃ e : Str, vs = [.str e] ∧ e ∈ engines ∧ Q (.str (dialOf e)) H
theorem ok_dial (T : Txt w K mg) : FnOk P w K mg base CX0 1 T.a_dial_of T.d_dial_of ["engine"] (spDial K) := by
  refine T.F_dial_of.ok sc_dial_of (fun vs H Q E h => ?_) (fun cdv A outer s H vs Q E hr h => ?_)
  · obtain ⟨e, rfl, _⟩ := h
    rfl
  · obtain ⟨e, rfl, he, k⟩ := h
    refine ⟨_, (pss_one (ps_ret (pe_ix ix_kdict (pe_glob (v := .ref T.D_DIALS) (by rfl) T.c_DIALS rfl) (pv 0) (fun _ _ => rfl)))), ?_⟩
    have he2 : e = "port" ∨ e = "star" := by simpa [engines] using he
    rcases he2 with rfl | rfl
    · exact ⟨_, rfl, T.D_DIALS, _, _, rfl, rfl, T.kd_DIALS ("port", .str "aport") (by simp), k⟩
    · exact ⟨_, rfl, T.D_DIALS, _, _, rfl, rfl, T.kd_DIALS ("star", .str "astar") (by simp), k⟩

/-! ### rows on a line -/
def lineAt (rs : List Row) (l : Str) (i : Nat) : Bool := decide ((rs[i]?).map Row.l = some l)
def onL (rs : List Row) (l : Str) (n : Nat) : List Nat := (List.range n).filter (lineAt rs l)
theorem onL_succ (rs : List Row) (l : Str) (i : Nat) : onL rs l (i + 1) = if lineAt rs l i = true then onL rs l i ++ [i] else onL rs l i := by
  unfold onL
  rw [List.range_succ, List.filter_append, List.filter_cons]
  split <;> simp
theorem onL_len (rs : List Row) (l : Str) (i : Nat) : (onL rs l i).length ≤ i := by
  have := List.length_filter_le (lineAt rs l) (List.range i)
  rw [List.length_range] at this
  exact this
def nv (n : Nat) : V := .int (n : Int)
def spRowsOn (K : PySem.W.Frag) : Sp := fun vs H Q _ => ∃ (t : Addr) (rs : List Row) (l : Str), vs = [.ref t, .str l] ∧ LogAt K H t rs ∧ rs.length ≤ 41 ∧
  ∀ H' q, Same H H' → H q = none → H' q = some (.lst ((onL rs l rs.length).map nv)) → Q (.ref q) H'
theorem ok_rows_on (T : Txt w K mg) : FnOk P w K mg base CX0 1 T.a_rows_on T.d_rows_on ["log", "line"] (spRowsOn K) := by
  refine T.F_rows_on.ok sc_rows_on (fun vs H Q E h => ?_) (fun cdv A outer s H vs Q E hr h => ?_)
  · obtain ⟨t, rs, l, rfl, _⟩ := h
    rfl
  · obtain ⟨t, rs, l, rfl, hL, hlen, k⟩ := h
    obtain ⟨as, hT, hR⟩ := id hL
    refine ⟨_, (pss_one (ps_ret (pe_lc (own := [("number", 2), ("row", 3)]) rfl sc_rows_on.nd (pi_enumA (by rfl) T.z_enumerate (pa_cons (pv 0) pa_nil)) (blkOk_by (own := [("number", 2), ("row", 3)]) (N := ["log", "line", "number", "row"]) (sc := defScope s_rows_on) (by decide +kernel)) (fun _ _ _ _ _ => (k_pgT (n := 2) K rfl (pgs_cons (pg_name (i := 2) sc_rows_on.nd rfl (by first | exact Or.inl rfl | exact Or.inr rfl)) (pgs_cons (pg_name (i := 3) sc_rows_on.nd rfl (by first | exact Or.inl rfl | exact Or.inr rfl)) pgs_nil)))) (fun _ _ _ _ _ => (pts_one (pt_cmpR op_eq (pe_ix (kx_tup K) (pv 3) pe_int (fun _ _ => rfl)) (pv 1) (nomark _)))) (fun _ _ _ _ _ => (pv 2))))), ?_⟩
    refine ⟨_, rfl, t, _, rfl, .inr ⟨hT, fun D hD => ?_⟩⟩
    refine lc_it walk_enumT (fun i H' => Same H H' ∧ H' D = some (.lst ((onL rs l i).map nv))) ⟨same_new (Same.refl _) hD, upd_same⟩ (fun i H' _ q => same_seqT q.1 hT) ?_ ?_
    · rintro i x H2 H3 hi ⟨s2, e2⟩ ⟨Tq, y1, y2, rfl, hTq, rfl, e1, e3⟩
      have : y1 = V.int (i : Nat) := (Option.some.inj e1).symm
      subst this
      obtain ⟨a, ha, rfl⟩ : ∃ a, as[i]? = some a ∧ y2 = V.ref a := by
        have e3 : (as.map V.ref)[i]? = some y2 := e3
        rw [List.getElem?_map] at e3
        cases z : as[i]? with
        | none => rw [z] at e3; cases e3
        | some a => rw [z] at e3; exact ⟨a, rfl, (Option.some.inj e3).symm⟩
      obtain ⟨r, hr1, hr2⟩ := hR.get' ha
      generalize hX : upd H2 Tq _ = H3
      obtain ⟨S3, f3⟩ := alloc hTq hX
      clear hX
      have rowA := same_seqT (s2.trans S3) hr2
      refine ⟨Tq, _, rfl, SqT.of f3, rfl, _, _, rfl, _, _, rfl, rfl, rfl, _, rfl, a, _, _, _, rfl, rfl, rowA, rfl, _, rfl, rfl, _, rfl, ?_⟩
      have el : lineAt rs l i = decide (V.str r.l = V.str l) := by
        unfold lineAt
        rw [hr1, Bool.eq_iff_iff]
        simp
      rw [onL_succ, el]
      have e4 := S3 _ _ e2
      refine ite2 (fun z => ?_) (fun z => ?_)
      · rw [if_pos z]
        refine ⟨_, rfl, _, e4, ?_, same_own (s2.trans S3) hD, ?_⟩
        · rw [List.length_map]
          have := onL_len rs l i
          rw [List.length_map, hR.length] at hi
          exact small1000 (by omega)
        · rw [upd_same, List.map_append]
          rfl
      · rw [if_neg z]
        exact ⟨s2.trans S3, e4⟩
    · rintro H2 ⟨s2, e2⟩
      rw [List.length_map, hR.length] at e2
      exact k H2 D s2 hD e2
/-! ### what became of a row -/
def hitAt (rs : List Row) (e : Str) (w : What) (j : Nat) : Bool := match rs[j]? with
  | some r => decide (r.l = e) || (decide (r.l = dialOf e) && decide (r.w = w))
  | none => false
/-- the word and the row for the number n, by the first hit behind it -/
inductive Became (rs : List Row) (e : Str) (n : Nat) : Str → Option Nat → Prop
  | open_ {r : Row} : rs[n]? = some r → (∀ j, n < j → j < rs.length → hitAt rs e r.w j = false) → Became rs e n "open" none
  | taken {r r2 : Row} {k : Nat} : rs[n]? = some r → n < k → rs[k]? = some r2 → r2.l = e → (∀ j, n < j → j < k → hitAt rs e r.w j = false) → Became rs e n "taken" (some k)
  | answered {r r2 : Row} {k : Nat} : rs[n]? = some r → n < k → rs[k]? = some r2 → r2.l = dialOf e → r2.w = r.w → dialOf e ≠ e → (∀ j, n < j → j < k → hitAt rs e r.w j = false) → Became rs e n "answered" (some k)
theorem Became.one {rs : List Row} {e : Str} {n : Nat} {a b : Str} {x y : Option Nat} (h : Became rs e n a x) (h2 : Became rs e n b y) : a = b ∧ x = y := by
  have hit1 : ∀ {r2 : Row} {k : Nat} {w : What}, rs[k]? = some r2 → r2.l = e → hitAt rs e w k = true := fun q z => by
    unfold hitAt
    rw [q]
    simp [z]
  have hit2 : ∀ {r2 : Row} {k : Nat} {w : What}, rs[k]? = some r2 → r2.l = dialOf e → r2.w = w → hitAt rs e w k = true := fun q z z2 => by
    unfold hitAt
    rw [q]
    simp [z, z2]
  have lt : ∀ {r2 : Row} {k : Nat}, rs[k]? = some r2 → k < rs.length := fun q => (List.getElem?_eq_some_iff.mp q).1
  have no : ∀ {P : Prop} {c : Bool}, c = true → c = false → P := fun p q => by
    rw [p] at q
    cases q
  have key : ∀ {r r' : Row}, rs[n]? = some r → rs[n]? = some r' → r = r' := fun p q => Option.some.inj (p.symm.trans q)
  cases h with
  | open_ p1 p2 =>
    cases h2 with
    | open_ q1 q2 => exact ⟨rfl, rfl⟩
    | taken q1 q2 q3 q4 q5 => exact no (hit1 q3 q4) (p2 _ q2 (lt q3))
    | answered q1 q2 q3 q4 q5 q6 q7 => exact no (hit2 q3 q4 q5) ((key p1 q1) ▸ p2 _ q2 (lt q3))
  | @taken r r2 k p1 p2 p3 p4 p5 =>
    cases h2 with
    | open_ q1 q2 => exact no (hit1 p3 p4) (q2 _ p2 (lt p3))
    | @taken r' r2' k' q1 q2 q3 q4 q5 =>
      rcases Nat.lt_trichotomy k k' with z | z | z
      · exact no (hit1 p3 p4) (q5 _ p2 z)
      · exact ⟨rfl, congrArg some z⟩
      · exact no (hit1 q3 q4) (p5 _ q2 z)
    | @answered r' r2' k' q1 q2 q3 q4 q5 q6 q7 =>
      rcases Nat.lt_trichotomy k k' with z | z | z
      · exact no (hit1 p3 p4) (q7 _ p2 z)
      · subst z
        have := Option.some.inj (p3.symm.trans q3)
        subst this
        exact absurd (q4.symm.trans p4) q6
      · exact no (hit2 q3 q4 q5) ((key p1 q1) ▸ p5 _ q2 z)
  | @answered r r2 k p1 p2 p3 p4 p5 p6 p7 =>
    cases h2 with
    | open_ q1 q2 => exact no (hit2 p3 p4 p5) ((key q1 p1) ▸ q2 _ p2 (lt p3))
    | @taken r' r2' k' q1 q2 q3 q4 q5 =>
      rcases Nat.lt_trichotomy k k' with z | z | z
      · exact no (hit2 p3 p4 p5) ((key q1 p1) ▸ q5 _ p2 z)
      · subst z
        have := Option.some.inj (p3.symm.trans q3)
        subst this
        exact absurd (p4.symm.trans q4) p6
      · exact no (hit1 q3 q4) (p7 _ q2 z)
    | @answered r' r2' k' q1 q2 q3 q4 q5 q6 q7 =>
      rcases Nat.lt_trichotomy k k' with z | z | z
      · exact no (hit2 p3 p4 p5) ((key q1 p1) ▸ q7 _ p2 z)
      · exact ⟨rfl, congrArg some z⟩
      · exact no (hit2 q3 q4 q5) ((key p1 q1) ▸ p7 _ q2 z)
def kv : Option Nat → V
  | none => .non
  | some k => .int (k : Int)
def kd : Option Nat → PyData
  | none => .none
  | some k => .int (k : Int)
theorem kv_dp {K : PySem.W.Frag} {H : Hp} (x : Option Nat) : Dp K H (kv x) (kd x) := by
  cases x with
  | none => exact .non
  | some k => exact .int _
def spBecame (K : PySem.W.Frag) : Sp := fun vs H Q _ => ∃ (t : Addr) (rs : List Row) (e : Str) (n : Nat), vs = [.ref t, .str e, nv n] ∧ LogAt K H t rs ∧ rs.length ≤ 41 ∧ e ∈ engines ∧ n < rs.length ∧
  ∀ H' q word k, Same H H' → H q = none → H' q = some (.tup [nv n, .str word, kv k]) → Became rs e n word k → Q (.ref q) H'
theorem ok_became (T : Txt w K mg) : FnOk P w K mg base CX0 2 T.a_what_became T.d_what_became ["log", "engine", "number"] (spBecame K) := by
  have G_dial_of := ok_dial (P := P) (base := base) T
  refine T.F_what_became.ok sc_what_became (fun vs H Q E h => ?_) (fun cdv A outer s H vs Q E hr h => ?_)
  · obtain ⟨t, rs, e, n, rfl, _⟩ := h
    rfl
  · obtain ⟨t, rs, e, n, rfl, hL, hlen, he, hn, k⟩ := h
    obtain ⟨as, hT, hR⟩ := id hL
    have hr_dial_of := hr
    have la := hR.length
    have ndial : dialOf e ≠ e := by
      have he2 : e = "port" ∨ e = "star" := by simpa [engines] using he
      rcases he2 with rfl | rfl <;> decide +kernel
    have at1 : ∀ {j : Nat} {r : Row}, rs[j]? = some r → ∃ a, atI (as.map V.ref) ((j : Nat) : Int) = some (.ref a) ∧ RowAt K H a r := fun {j r} q => by
      obtain ⟨a, ha, h2⟩ := hR.get q
      exact ⟨a, atI_nat (by rw [List.getElem?_map, ha]; rfl), h2⟩
    obtain ⟨r0, hr0⟩ : ∃ r, rs[n]? = some r := ⟨_, List.getElem?_eq_getElem hn⟩
    obtain ⟨a0, ha0, row0⟩ := at1 hr0
    refine ⟨_, (pss_cons (ps_set (i := 3) sc_what_became.nd rfl (by first | exact Or.inl rfl | exact Or.inr rfl) (pe_call G_dial_of hr_dial_of (by rfl) T.g_dial_of T.F_dial_of.kp T.b_dial_of .nil pass0 (pa_cons (pv 1) pa_nil)))
  (pss_cons (ps_set (i := 4) sc_what_became.nd rfl (by first | exact Or.inl rfl | exact Or.inr rfl) (pe_ix (kx_tup K) (pe_ix (kx_tup K) (pv 0) (pv 2) (fun _ _ => rfl)) pe_int (fun _ _ => rfl)))
  (pss_cons (ps_for PassesOwn.never rfl (pi_range2 (by rfl) T.z_range (pa_cons (pe_op op_add (pv 2) pe_int) (pa_cons (pe_callB (k_len K) (by rfl) T.z_len (by decide +kernel) (pa_cons (pv 0) pa_nil)) pa_nil))) (pg_name (i := 5) sc_what_became.nd rfl (by first | exact Or.inl rfl | exact Or.inr rfl)) (pss_cons (ps_asg (pe_ix (kx_tup K) (pv 0) (pv 5) (fun _ _ => rfl)) (k_pgT (n := 3) K rfl (pgs_cons (pg_name (i := 6) sc_what_became.nd rfl (by first | exact Or.inl rfl | exact Or.inr rfl)) (pgs_cons (pg_name (i := 7) sc_what_became.nd rfl (by first | exact Or.inl rfl | exact Or.inr rfl)) (pgs_cons (pg_name (i := 8) sc_what_became.nd rfl (by first | exact Or.inl rfl | exact Or.inr rfl)) pgs_nil)))))
  (pss_cons (ps_if (pt_cmpR op_eq (pv 7) (pv 1) (nomark _)) (pss_one (ps_ret (pe_tup (pa_cons (pv 2) (pa_cons pe_str (pa_cons (pv 5) pa_nil)))))) pss_nil)
  (pss_one (ps_if (PW.pt (pw_and (pt_cmpR op_eq (pv 7) (pv 3) (nomark _)) (pw_and1 (pt_cmpR op_eq (pv 8) (pv 4) (nomark _))))) (pss_one (ps_ret (pe_tup (pa_cons (pv 2) (pa_cons pe_str (pa_cons (pv 5) pa_nil)))))) pss_nil)))))
  (pss_one (ps_ret (pe_tup (pa_cons (pv 2) (pa_cons pe_str (pa_cons pe_non pa_nil))))))))), ?_⟩
    refine ⟨_, rfl, e, rfl, he, _, rfl, _, rfl, t, _, _, _, rfl, rfl, hT, ha0, a0, _, _, _, rfl, rfl, row0, rfl, ?_⟩
    refine ⟨_, rfl, _, _, rfl, rfl, _, rfl, t, _, rfl, .inr hT, _, _, rfl, ⟨by omega, by omega, by rw [List.length_map]; omega, by rw [List.length_map]; omega⟩, ?_⟩
    have lo1 : ((n : Nat) : Int) + 1 = ((n + 1 : Nat) : Int) := by omega
    have hits : ∀ {j : Nat} {r : Row}, rs[j]? = some r → hitAt rs e r0.w j = (decide (r.l = e) || (decide (r.l = dialOf e) && decide (r.w = r0.w))) := fun {j r} q => by
      unfold hitAt
      rw [q]
    refine for_it walk_range (fun i σ H' => ∃ (x5 x6 x7 x8 : Option V), σ = [some (.ref t), some (.str e), some (nv n), some (.str (dialOf e)), some r0.w.v, x5, x6, x7, x8] ∧ H' = H ∧ ∀ j, n < j → j < n + 1 + i → hitAt rs e r0.w j = false)
      ⟨none, none, none, none, rfl, rfl, fun j h1 h2 => by omega⟩ (fun _ _ _ _ _ => trivial) ?_ ?_
    · rintro i x σ _ H2 hi ⟨x5, x6, x7, x8, rfl, hHH, hno⟩ ⟨rfl, rfl⟩
      subst hHH
      rw [List.length_map, la] at hi
      have hj : n + 1 + i < rs.length := by omega
      obtain ⟨r, hr1⟩ : ∃ r, rs[n + 1 + i]? = some r := ⟨_, List.getElem?_eq_getElem hj⟩
      obtain ⟨a, ha, row⟩ := at1 hr1
      have ej : ((n : Nat) : Int) + 1 + ((i : Nat) : Int) = ((n + 1 + i : Nat) : Int) := by omega
      have eh := hits hr1
      refine ⟨_, rfl, _, rfl, t, _, _, _, rfl, rfl, hT, (by rw [ej]; exact ha), a, _, rfl, row, rfl, _, _, rfl, _, _, rfl, _, _, rfl, rfl, ?_⟩
      refine ⟨_, rfl, _, rfl, rfl, _, rfl, ite2 (fun z => ?_) (fun z => ?_)⟩
      · have z' : r.l = e := V.str.inj (of_decide_eq_true z)
        refine ⟨_, rfl, _, rfl, (by show 3 ≤ sizeLine; decide), fun q hq => ?_⟩
        refine k _ q "taken" (some (n + 1 + i)) (same_new (Same.refl _) hq) hq ?_ (.taken hr0 (by omega) hr1 z' fun j h1 h2 => hno j h1 (by omega))
        rw [upd_same]
        show some (HO.tup [nv n, .str "taken", .int ((n : Nat) + 1 + (i : Nat))]) = _
        rw [ej]
        rfl
      · have z' : ¬ r.l = e := fun y => z (decide_eq_true (by rw [y]))
        rw [decide_eq_false z', Bool.false_or] at eh
        refine ⟨_, rfl, _, rfl, rfl, _, rfl, ite2 (fun y => ?_) (fun y => ?_)⟩
        · have y' : r.l = dialOf e := V.str.inj (of_decide_eq_true y)
          rw [decide_eq_true y', Bool.true_and] at eh
          refine ⟨_, rfl, _, rfl, scal_what r.w r0.w, _, rfl, ite2 (fun q => ?_) (fun q => ?_)⟩
          · have q' : r.w = r0.w := What.v_inj (of_decide_eq_true q)
            refine ⟨_, rfl, _, rfl, (by show 3 ≤ sizeLine; decide), fun q hq => ?_⟩
            refine k _ q "answered" (some (n + 1 + i)) (same_new (Same.refl _) hq) hq ?_ (.answered hr0 (by omega) hr1 y' q' ndial fun j h1 h2 => hno j h1 (by omega))
            rw [upd_same]
            show some (HO.tup [nv n, .str "answered", .int ((n : Nat) + 1 + (i : Nat))]) = _
            rw [ej]
            rfl
          · have q' : ¬ r.w = r0.w := fun w => q (decide_eq_true (by rw [w]))
            rw [decide_eq_false q'] at eh
            refine ⟨_, _, _, _, rfl, rfl, fun j h1 h2 => ?_⟩
            by_cases jj : j = n + 1 + i
            · rw [jj]
              exact eh
            · exact hno j h1 (by omega)
        · have y' : ¬ r.l = dialOf e := fun w => y (decide_eq_true (by rw [w]))
          rw [decide_eq_false y', Bool.false_and] at eh
          refine ⟨_, _, _, _, rfl, rfl, fun j h1 h2 => ?_⟩
          by_cases jj : j = n + 1 + i
          · rw [jj]
            exact eh
          · exact hno j h1 (by omega)
    · rintro σ H2 ⟨x5, x6, x7, x8, rfl, rfl, hno⟩
      refine ⟨_, rfl, (by show 3 ≤ sizeLine; decide), fun q hq => ?_⟩
      refine k _ q "open" none (same_new (Same.refl _) hq) hq upd_same (.open_ hr0 fun j h1 h2 => hno j h1 ?_)
      rw [List.length_map, la]
      omega

/-! ### all of a bell -/
/-- the answers for the numbers ns stand in a list of tuples -/
inductive AnsAt (K : PySem.W.Frag) (H : Hp) (rs : List Row) (e : Str) : List Nat → List Addr → List (Nat × Str × Option Nat) → Prop
  | nil : AnsAt K H rs e [] [] []
  | snoc {ns : List Nat} {as : List Addr} {ds : List (Nat × Str × Option Nat)} {n : Nat} {a : Addr} {word : Str} {k : Option Nat} :
      AnsAt K H rs e ns as ds → SqT K H a [nv n, .str word, kv k] → Became rs e n word k → AnsAt K H rs e (ns ++ [n]) (as ++ [a]) (ds ++ [(n, word, k)])
def ansD (x : Nat × Str × Option Nat) : PyData := .tuple [.int (x.1 : Int), .str x.2.1, kd x.2.2]
theorem AnsAt.imp {K : PySem.W.Frag} {H H1 : Hp} {rs : List Row} {e : Str} {ns : List Nat} {as : List Addr} {ds : List (Nat × Str × Option Nat)} (h : AnsAt K H rs e ns as ds) (f : ∀ a xs, SqT K H a xs → SqT K H1 a xs) : AnsAt K H1 rs e ns as ds := by
  induction h with
  | nil => exact .nil
  | snoc _ h2 h3 ih => exact .snoc ih (f _ _ h2) h3
theorem AnsAt.len {K : PySem.W.Frag} {H : Hp} {rs : List Row} {e : Str} {ns : List Nat} {as : List Addr} {ds : List (Nat × Str × Option Nat)} (h : AnsAt K H rs e ns as ds) : as.length = ns.length ∧ ds.length = ns.length := by
  induction h with
  | nil => exact ⟨rfl, rfl⟩
  | snoc _ _ _ ih => simp [ih.1, ih.2]
theorem dpAll_app {K : PySem.W.Frag} {H : Hp} {vs : List V} {ds : List PyData} {v : V} {d : PyData} (h : DpAll K H vs ds) (h2 : Dp K H v d) : DpAll K H (vs ++ [v]) (ds ++ [d]) := by
  induction vs generalizing ds with
  | nil =>
    cases h
    exact .cons h2 .nil
  | cons x r ih =>
    cases h with
    | cons a b => exact .cons a (ih b)
theorem AnsAt.dp {K : PySem.W.Frag} {H : Hp} {rs : List Row} {e : Str} {ns : List Nat} {as : List Addr} {ds : List (Nat × Str × Option Nat)} (h : AnsAt K H rs e ns as ds) : DpAll K H (as.map V.ref) (ds.map ansD) := by
  induction h with
  | nil => exact .nil
  | @snoc ns as ds n a word k _ h2 h3 ih =>
    rw [List.map_append, List.map_append]
    exact dpAll_app ih (.tup h2 (.cons (.int _) (.cons (.str _) (.cons (kv_dp k) .nil))))
/-- two lists of answers for one list of numbers are alike -/
theorem snoc_inj {α : Type} {l m : List α} {a b : α} (h : l ++ [a] = m ++ [b]) : l = m ∧ a = b := by
  have := List.append_inj' h rfl
  exact ⟨this.1, by simpa using this.2⟩
theorem AnsAt.one {K : PySem.W.Frag} {H H' : Hp} {rs : List Row} {e : Str} {ns : List Nat} {as : List Addr} {ds : List (Nat × Str × Option Nat)} (h : AnsAt K H rs e ns as ds) :
    ∀ {ns' : List Nat} {as' : List Addr} {ds' : List (Nat × Str × Option Nat)}, AnsAt K H' rs e ns' as' ds' → ns' = ns → ds' = ds := by
  induction h with
  | nil =>
    intro ns' as' ds' h2 e2
    cases h2 with
    | nil => rfl
    | snoc _ _ _ => simp at e2
  | snoc _ _ h3 ih =>
    intro ns' as' ds' h2 e2
    cases h2 with
    | nil => simp at e2
    | snoc p1 p2 p3 =>
      obtain ⟨e3, e4⟩ := snoc_inj e2
      subst e4
      have := ih p1 e3
      obtain ⟨q1, q2⟩ := p3.one h3
      rw [this, q1, q2]
theorem became_ok {rs : List Row} {e : Str} {n : Nat} {word : Str} {k : Option Nat} (h : Became rs e n word k) : TOk 8 word ∧ n < rs.length ∧ ∀ j, k = some j → j < rs.length := by
  have lt : ∀ {r2 : Row} {k : Nat}, rs[k]? = some r2 → k < rs.length := fun q => (List.getElem?_eq_some_iff.mp q).1
  cases h with
  | open_ p1 p2 => exact ⟨⟨by decide +kernel, by decide +kernel⟩, lt p1, nofun⟩
  | taken p1 p2 p3 => exact ⟨⟨by decide +kernel, by decide +kernel⟩, lt p1, fun j q => by cases q; exact lt p3⟩
  | answered p1 p2 p3 => exact ⟨⟨by decide +kernel, by decide +kernel⟩, lt p1, fun j q => by cases q; exact lt p3⟩
theorem AnsAt.rep {K : PySem.W.Frag} {H : Hp} {rs : List Row} {e : Str} {ns : List Nat} {as : List Addr} {ds : List (Nat × Str × Option Nat)} (h : AnsAt K H rs e ns as ds) (hl : rs.length ≤ 41) : ∀ d ∈ ds.map ansD, RepOk d 1 27 := by
  induction h with
  | nil => intro d hd; simp at hd
  | @snoc ns as ds n a word k _ h2 h3 ih =>
    intro d hd
    rw [List.map_append] at hd
    rcases List.mem_append.mp hd with z | z
    · exact ih d z
    · have : d = ansD (n, word, k) := by simpa using z
      subst this
      obtain ⟨o1, o2, o3⟩ := became_ok h3
      refine (RepOk.tuple (k := 0) (n := 8) fun d hd => ?_).mono (Nat.le_refl _) (by show 3 * 9 ≤ 27; omega)
      have small : ∀ j : Nat, j < 41 → RepOk (.int (j : Int)) 0 8 := fun j q => (RepOk.int (by
        have : (j : Int).natAbs = j := rfl
        rw [this]
        exact Nat.lt_of_lt_of_le q (by decide))).mono (Nat.le_refl _) (by omega)
      have z3 : d = .int (n : Int) ∨ d = .str word ∨ d = kd k := by simpa using hd
      rcases z3 with rfl | rfl | rfl
      · exact small n (by omega)
      · exact RepOk.tok o1
      · cases k with
        | none => exact RepOk.none.mono (Nat.le_refl _) (by omega)
        | some j => exact small j (by have := o3 j rfl; omega)
def spAnswers (K : PySem.W.Frag) : Sp := fun vs H Q _ => ∃ (t : Addr) (rs : List Row) (e : Str), vs = [.ref t, .str e] ∧ LogAt K H t rs ∧ rs.length ≤ 41 ∧ e ∈ engines ∧
  ∀ H' q as ds, Same H H' → H q = none → H' q = some (.lst (as.map V.ref)) → AnsAt K H' rs e (onL rs e rs.length) as ds → Q (.ref q) H'
theorem onL_lt {rs : List Row} {l : Str} {n j : Nat} (h : j ∈ onL rs l n) : j < n := List.mem_range.mp (List.mem_filter.mp h).1
theorem ok_answers (T : Txt w K mg) : FnOk P w K mg base CX0 3 T.a_answers T.d_answers ["log", "engine"] (spAnswers K) := by
  have G_rows_on := ok_rows_on (P := P) (base := base) T
  have G_what_became := ok_became (P := P) (base := base) T
  refine T.F_answers.ok sc_answers (fun vs H Q E h => ?_) (fun cdv A outer s H vs Q E hr h => ?_)
  · obtain ⟨t, rs, e, rfl, _⟩ := h
    rfl
  · obtain ⟨t, rs, e, rfl, hL, hlen, he, k⟩ := h
    have hr_rows_on := hr.mono (show 1 ≤ 2 by decide)
    have hr_what_became := hr
    refine ⟨_, (pss_one (ps_ret (pe_lc (own := [("number", 2)]) rfl sc_answers.nd (k_piL K (pe_call G_rows_on hr_rows_on (by rfl) T.g_rows_on T.F_rows_on.kp T.b_rows_on .nil pass0 (pa_cons (pv 0) (pa_cons (pv 1) pa_nil)))) (blkOk_by (own := [("number", 2)]) (N := ["log", "engine", "number"]) (sc := defScope s_answers) (by decide +kernel)) (fun _ _ _ _ _ => (pg_name (i := 2) sc_answers.nd rfl (by first | exact Or.inl rfl | exact Or.inr rfl))) (fun _ _ _ _ _ => pts_nil) (fun _ _ _ _ _ => (pe_call G_what_became hr_what_became (by rfl) T.g_what_became T.F_what_became.kp T.b_what_became .nil pass0 (pa_cons (pv 0) (pa_cons (pv 1) (pa_cons (pv 2) pa_nil)))))))), ?_⟩
    refine ⟨_, rfl, _, rfl, t, rs, e, rfl, hL, hlen, fun H1 q S1 hq0 f1 => ?_⟩
    refine ⟨q, rfl, ⟨_, SqL.of f1⟩, fun D hD => ?_⟩
    refine lc_it walk_list (fun i H' => Same H1 H' ∧ ∃ as ds, H' D = some (.lst (as.map V.ref)) ∧ AnsAt K H' rs e ((onL rs e rs.length).take i) as ds)
      ⟨same_new (Same.refl _) hD, [], [], upd_same, .nil⟩ (fun i H' _ z => SqL.of (z.1 _ _ f1)) ?_ ?_
    · rintro i x _ H2 hi ⟨s2, as, ds, e2, an⟩ ⟨rfl, hx⟩
      obtain ⟨n, hn, rfl⟩ : ∃ n, (onL rs e rs.length)[i]? = some n ∧ x = nv n := by
        rw [List.getElem?_map] at hx
        cases z : (onL rs e rs.length)[i]? with
        | none => rw [z] at hx; cases hx
        | some a => rw [z] at hx; exact ⟨a, rfl, (Option.some.inj hx).symm⟩
      have hn2 : n < rs.length := onL_lt (List.mem_of_getElem? hn)
      refine ⟨rfl, _, rfl, _, rfl, _, rfl, t, rs, e, n, rfl, hL.same (S1.trans s2), hlen, he, hn2, fun H3 a word kk S3 ha fa bec => ?_⟩
      have e3 := S3 _ _ e2
      refine ⟨_, e3, ?_, same_own (s2.trans S3) hD, as ++ [a], ds ++ [(n, word, kk)], ?_, ?_⟩
      · have l1 := an.len.1
        have := onL_len rs e rs.length
        rw [List.length_map] at hi ⊢
        have := List.length_take_le i (onL rs e rs.length)
        exact small1000 (by omega)
      · rw [upd_same, List.map_append]
        rfl
      · rw [List.take_add_one, hn]
        have b : But D H3 (upd H3 D (.lst (as.map V.ref ++ [V.ref a]))) := But.put
        exact .snoc (an.imp fun b' xs z => seqT_lst (same_seqT S3 z) e3 b) (seqT_lst (SqT.of fa) e3 b) bec
    · rintro H2 ⟨s2, as, ds, e2, an⟩
      rw [List.length_map, List.take_length] at an
      exact k H2 D as ds (S1.trans s2) (S1.free hD) e2 an
theorem onL_lt_pair (rs : List Row) (l : Str) (n : Nat) : (onL rs l n).Pairwise (· < ·) := List.Pairwise.filter _ List.pairwise_lt_range
theorem onL_mem {rs : List Row} {l : Str} {n j : Nat} : j ∈ onL rs l n ↔ j < n ∧ lineAt rs l j = true := by
  unfold onL
  rw [List.mem_filter, List.mem_range]
theorem lineAt_some {rs : List Row} {l : Str} {j : Nat} {r : Row} (h : rs[j]? = some r) : lineAt rs l j = decide (r.l = l) := by
  unfold lineAt
  rw [h, Bool.eq_iff_iff]
  simp
/-- what was rung last, and the wrong answers so far -/
def wrongStep (e : Str) (st : Option What × List Int) (i : Nat) (r : Row) : Option What × List Int :=
  if r.l = e then (some r.w, st.2) else if r.l = dialOf e ∧ some r.w ≠ st.1 then (st.1, st.2 ++ [(i : Int)]) else st
def wrongTo (e : Str) (rs : List Row) : Nat → Option What × List Int
  | 0 => (none, [])
  | i + 1 => match rs[i]? with
    | some r => wrongStep e (wrongTo e rs i) i r
    | none => wrongTo e rs i
def ov : Option What → V
  | none => .non
  | some x => x.v
theorem ov_ne {x : What} {o : Option What} : (x.v = ov o) ↔ (some x = o) := by
  cases o with
  | none => cases x <;> simp [ov, What.v]
  | some y =>
    simp only [ov, Option.some.injEq]
    exact ⟨What.v_inj, fun h => by rw [h]⟩
theorem scal_ov (x : What) (o : Option What) : scal x.v (ov o) = true := by
  cases o with
  | none => cases x <;> rfl
  | some y => cases x <;> cases y <;> rfl
theorem wrongTo_len (e : Str) (rs : List Row) : ∀ i, (wrongTo e rs i).2.length ≤ i
  | 0 => Nat.le_refl _
  | i + 1 => by
    have ih := wrongTo_len e rs i
    unfold wrongTo
    cases rs[i]? with
    | none => exact Nat.le_succ_of_le ih
    | some r =>
      simp only [wrongStep]
      split
      · exact Nat.le_succ_of_le ih
      · split
        · simp only [List.length_append, List.length_singleton]
          omega
        · exact Nat.le_succ_of_le ih
def spWrongs (K : PySem.W.Frag) : Sp := fun vs H Q _ => ∃ (t : Addr) (rs : List Row) (e : Str), vs = [.ref t, .str e] ∧ LogAt K H t rs ∧ rs.length ≤ 41 ∧ (∀ r ∈ rs, r.Ok) ∧ e ∈ engines ∧
  ∀ H' l, Same H H' → H l = none → H' l = some (.lst ((wrongTo e rs rs.length).2.map V.int)) → Q (.ref l) H'
theorem ok_wrongs (T : Txt w K mg) : FnOk P w K mg base CX0 2 T.a_wrong_answers T.d_wrong_answers ["log", "engine"] (spWrongs K) := by
  have G_dial_of := ok_dial (P := P) (base := base) T
  refine T.F_wrong_answers.ok sc_wrong_answers (fun vs H Q E h => ?_) (fun cdv A outer s H vs Q E hr h => ?_)
  · obtain ⟨t, rs, e, rfl, _⟩ := h
    rfl
  · obtain ⟨t, rs, e, rfl, hL, hl, hok, he, k⟩ := h
    obtain ⟨as, hT, hR⟩ := id hL
    have hr_dial_of := hr
    have ndial : dialOf e ≠ e := by
      have he2 : e = "port" ∨ e = "star" := by simpa [engines] using he
      rcases he2 with rfl | rfl <;> decide +kernel
    refine ⟨_, (pss_cons (ps_set (i := 2) sc_wrong_answers.nd rfl (by first | exact Or.inl rfl | exact Or.inr rfl) (pe_call G_dial_of hr_dial_of (by rfl) T.g_dial_of T.F_dial_of.kp T.b_dial_of .nil pass0 (pa_cons (pv 1) pa_nil)))
  (pss_cons (ps_set (i := 3) sc_wrong_answers.nd rfl (by first | exact Or.inl rfl | exact Or.inr rfl) pe_non)
  (pss_cons (ps_set (i := 4) sc_wrong_answers.nd rfl (by first | exact Or.inl rfl | exact Or.inr rfl) (pe_lst pa_nil))
  (pss_cons (ps_for PassesOwn.never rfl (pi_enumA (by rfl) T.z_enumerate (pa_cons (pv 0) pa_nil)) (k_pgT (n := 2) K rfl (pgs_cons (pg_name (i := 5) sc_wrong_answers.nd rfl (by first | exact Or.inl rfl | exact Or.inr rfl)) (pgs_cons (pg_name (i := 6) sc_wrong_answers.nd rfl (by first | exact Or.inl rfl | exact Or.inr rfl)) pgs_nil))) (pss_one (ps_if (pt_cmpR op_eq (pe_ix (kx_tup K) (pv 6) pe_int (fun _ _ => rfl)) (pv 1) (nomark _)) (pss_one (ps_set (i := 3) sc_wrong_answers.nd rfl (by first | exact Or.inl rfl | exact Or.inr rfl) (pe_ix (kx_tup K) (pv 6) pe_int (fun _ _ => rfl)))) (pss_one (ps_if (PW.pt (pw_and (pt_cmpR op_eq (pe_ix (kx_tup K) (pv 6) pe_int (fun _ _ => rfl)) (pv 2) (nomark _)) (pw_and1 (pt_cmpR op_ne (pe_ix (kx_tup K) (pv 6) pe_int (fun _ _ => rfl)) (pv 3) (nomark _))))) (pss_one (ps_expr (pe_bm PySem.F.plainAttrs_list PySem.F.slot_list_append PySem.F.type_list_append mt_append (pv 4) (pa_cons (pv 5) pa_nil)))) pss_nil)))))
  (pss_one (ps_ret (pv 4))))))), ?_⟩
    refine ⟨_, rfl, e, rfl, he, (by show 0 ≤ sizeLine; decide), fun l hl0 => ?_⟩
    generalize hX : upd H l _ = H1
    obtain ⟨S1, f1⟩ := alloc hl0 hX
    clear hX
    refine ⟨_, rfl, t, _, rfl, .inr ⟨same_seqT S1 hT, ?_⟩⟩
    refine for_it walk_enumT (fun i σ H' => ∃ (x5 x6 : Option V), σ = [some (.ref t), some (.str e), some (.str (dialOf e)), some (ov (wrongTo e rs i).1), some (.ref l), x5, x6] ∧
        Same H H' ∧ H' l = some (.lst ((wrongTo e rs i).2.map V.int))) ⟨none, none, rfl, S1, f1⟩ (fun i σ H' _ ⟨_, _, _, s2, _⟩ => same_seqT s2 hT) ?_ ?_
    · rintro i x σ H2 H3 hi ⟨x5, x6, rfl, s2, e2⟩ ⟨Tq, y1, y2, rfl, hTq, rfl, e1, e3⟩
      have : y1 = V.int (i : Nat) := (Option.some.inj e1).symm
      subst this
      obtain ⟨a, ha, rfl⟩ : ∃ a, as[i]? = some a ∧ y2 = V.ref a := by
        have e3 : (as.map V.ref)[i]? = some y2 := e3
        rw [List.getElem?_map] at e3
        cases z : as[i]? with
        | none => rw [z] at e3; cases e3
        | some a => rw [z] at e3; exact ⟨a, rfl, (Option.some.inj e3).symm⟩
      obtain ⟨r, hr1, hr2⟩ := hR.get' ha
      generalize hX : upd H2 Tq _ = H3
      obtain ⟨S3, f3⟩ := alloc hTq hX
      clear hX
      have rowA := same_seqT (s2.trans S3) hr2
      refine ⟨Tq, _, rfl, SqT.of f3, rfl, _, _, rfl, _, _, rfl, rfl, ?_⟩
      have step : wrongTo e rs (i + 1) = wrongStep e (wrongTo e rs i) i r := by
        show (match rs[i]? with | some r => wrongStep e (wrongTo e rs i) i r | none => wrongTo e rs i) = _
        rw [hr1]
      have n3 : Tq ≠ l := Ne.symm (ne_of_none e2 hTq)
      have e3' := S3 _ _ e2
      refine ⟨_, rfl, a, _, _, _, rfl, rfl, rowA, rfl, _, rfl, rfl, _, rfl, ite2 (fun z => ?_) (fun z => ?_)⟩
      · have z' : r.l = e := V.str.inj (of_decide_eq_true z)
        refine ⟨_, rfl, a, _, _, _, rfl, rfl, rowA, rfl, ?_⟩
        refine ⟨some (.int (i : Nat)), some (.ref a), ?_, s2.trans S3, ?_⟩
        · rw [step, wrongStep, if_pos z']
          rfl
        · rw [step, wrongStep, if_pos z']
          exact e3'
      · have z' : ¬ r.l = e := fun y => z (decide_eq_true (by rw [y]))
        refine ⟨_, rfl, a, _, _, _, rfl, rfl, rowA, rfl, _, rfl, rfl, _, rfl, ite2 (fun y => ?_) (fun y => ?_)⟩
        · have y' : r.l = dialOf e := V.str.inj (of_decide_eq_true y)
          refine ⟨_, rfl, a, _, _, _, rfl, rfl, rowA, rfl, _, rfl, scal_ov _ _, _, rfl, ?_⟩
          show if (!decide (r.w.v = ov (wrongTo e rs i).1)) = true then _ else _
          by_cases q : r.w.v = ov (wrongTo e rs i).1
          · rw [decide_eq_true q]
            have q2 := ov_ne.mp q
            refine ⟨some (.int (i : Nat)), some (.ref a), ?_, s2.trans S3, ?_⟩
            · rw [step, wrongStep, if_neg z', if_neg (fun w => w.2 q2)]
              rfl
            · rw [step, wrongStep, if_neg z', if_neg (fun w => w.2 q2)]
              exact e3'
          · rw [decide_eq_false q]
            have q2 : ¬ some r.w = (wrongTo e rs i).1 := fun w => q (ov_ne.mpr w)
            refine ⟨_, rfl, .inl ⟨rfl, _, SqL.of e3'⟩, _, rfl, l, _, _, rfl, rfl, e3', ?_, ?_⟩
            · rw [List.length_map]
              have := wrongTo_len e rs i
              have := hR.length
              rw [List.length_map] at hi
              exact small1000 (by omega)
            · refine ⟨some (.int (i : Nat)), some (.ref a), ?_, same_own (s2.trans S3) hl0, ?_⟩
              · rw [step, wrongStep, if_neg z', if_pos ⟨y', q2⟩]
                rfl
              · rw [step, wrongStep, if_neg z', if_pos ⟨y', q2⟩, upd_same, List.map_append]
                rfl
        · have y' : ¬ r.l = dialOf e := fun w => y (decide_eq_true (by rw [w]))
          refine ⟨some (.int (i : Nat)), some (.ref a), ?_, s2.trans S3, ?_⟩
          · rw [step, wrongStep, if_neg z', if_neg (fun w => y' w.1)]
            rfl
          · rw [step, wrongStep, if_neg z', if_neg (fun w => y' w.1)]
            exact e3'
    · rintro σ H2 ⟨x5, x6, rfl, s2, e2⟩
      rw [List.length_map, hR.length] at e2
      exact ⟨_, rfl, k H2 l s2 hl0 e2⟩
/-! ### the law's own reckoning -/
theorem wrongTo_small (e : Str) (rs : List Row) : ∀ i, ∀ n ∈ (wrongTo e rs i).2, 0 ≤ n ∧ n < (i : Nat)
  | 0, n, h => nomatch h
  | i + 1, n, h => by
    have ih := wrongTo_small e rs i
    have h2 : n ∈ (match rs[i]? with | some r => wrongStep e (wrongTo e rs i) i r | none => wrongTo e rs i).2 := h
    cases z : rs[i]? with
    | none =>
      rw [z] at h2
      have := ih n h2
      omega
    | some r =>
      rw [z] at h2
      simp only [wrongStep] at h2
      split at h2
      · have := ih n h2
        omega
      · split at h2
        · rcases List.mem_append.mp h2 with q | q
          · have := ih n q
            omega
          · have : n = (i : Int) := by simpa using q
            omega
        · have := ih n h2
          omega
theorem wrongs_rep (e : Str) (rs : List Row) (h : rs.length ≤ 41) : RepOk (.list ((wrongTo e rs rs.length).2.map PyData.int)) 1 41 :=
  ints_rep (fun n hn => by
    have q := wrongTo_small e rs rs.length n hn
    have : n.natAbs < 41 := by omega
    exact Nat.lt_of_lt_of_le this (by decide)) (Nat.le_trans (wrongTo_len e rs rs.length) h)
/-! ### what hangs together -/
theorem dial_ne {e : Str} (h : e ∈ engines) : dialOf e ≠ e := by
  have h2 : e = "port" ∨ e = "star" := by simpa [engines] using h
  rcases h2 with rfl | rfl <;> decide +kernel
theorem wrongTo_succ {e : Str} {rs : List Row} {i : Nat} {r : Row} (h : rs[i]? = some r) : wrongTo e rs (i + 1) = wrongStep e (wrongTo e rs i) i r := by
  show (match rs[i]? with | some r => wrongStep e (wrongTo e rs i) i r | none => wrongTo e rs i) = _
  rw [h]
theorem wrongTo_end {e : Str} {rs : List Row} {i : Nat} (h : rs[i]? = none) : wrongTo e rs (i + 1) = wrongTo e rs i := by
  show (match rs[i]? with | some r => wrongStep e (wrongTo e rs i) i r | none => wrongTo e rs i) = _
  rw [h]
/-- which rows answer wrongly -/
theorem wrong_mem {e : Str} {rs : List Row} (he : e ∈ engines) (n : Int) : ∀ i, n ∈ (wrongTo e rs i).2 ↔ ∃ k r, k < i ∧ rs[k]? = some r ∧ n = (k : Nat) ∧ r.l = dialOf e ∧ some r.w ≠ (wrongTo e rs k).1
  | 0 => ⟨fun h => (by simp [wrongTo] at h), fun ⟨k, _, h, _⟩ => absurd h (Nat.not_lt_zero _)⟩
  | i + 1 => by
    have ih := wrong_mem (rs := rs) he n i
    have up : (∃ k r, k < i ∧ rs[k]? = some r ∧ n = (k : Nat) ∧ r.l = dialOf e ∧ some r.w ≠ (wrongTo e rs k).1) → ∃ k r, k < i + 1 ∧ rs[k]? = some r ∧ n = (k : Nat) ∧ r.l = dialOf e ∧ some r.w ≠ (wrongTo e rs k).1 := fun ⟨k, r, a, b⟩ => ⟨k, r, by omega, b⟩
    cases z : rs[i]? with
    | none =>
      rw [wrongTo_end z, ih]
      refine ⟨up, fun ⟨k, r, a, b, c⟩ => ⟨k, r, ?_, b, c⟩⟩
      have : k ≠ i := fun q => by rw [q, z] at b; cases b
      omega
    | some r =>
      rw [wrongTo_succ z]
      have down : ∀ {k : Nat} {r2 : Row}, k < i + 1 → rs[k]? = some r2 → k ≠ i → k < i := fun a _ c => by omega
      simp only [wrongStep]
      split
      · rename_i c
        rw [ih]
        refine ⟨up, fun ⟨k, r2, a, b, c2, c3, c4⟩ => ⟨k, r2, down a b fun q => ?_, b, c2, c3, c4⟩⟩
        subst q
        rw [z] at b
        obtain rfl := Option.some.inj b
        exact dial_ne he (c3.symm.trans c)
      · split
        · rename_i c
          show n ∈ (wrongTo e rs i).2 ++ [(i : Int)] ↔ _
          rw [List.mem_append, ih, List.mem_singleton]
          constructor
          · rintro (q | q)
            · exact up q
            · exact ⟨i, r, by omega, z, q, c.1, c.2⟩
          · rintro ⟨k, r2, a, b, c2, c3⟩
            by_cases q : k = i
            · exact .inr (by rw [c2, q])
            · exact .inl ⟨k, r2, by omega, b, c2, c3⟩
        · rename_i c0 c
          rw [ih]
          refine ⟨up, fun ⟨k, r2, a, b, c2, c3, c4⟩ => ⟨k, r2, down a b fun q => ?_, b, c2, c3, c4⟩⟩
          subst q
          rw [z] at b
          obtain rfl := Option.some.inj b
          exact c ⟨c3, c4⟩
/-- what was rung last -/
theorem rung_of {e : Str} {rs : List Row} {w : What} : ∀ i, (wrongTo e rs i).1 = some w ↔ ∃ j r, j < i ∧ rs[j]? = some r ∧ r.l = e ∧ r.w = w ∧ ∀ k, j < k → k < i → lineAt rs e k = false
  | 0 => ⟨fun h => (by simp [wrongTo] at h), fun ⟨k, _, h, _⟩ => absurd h (Nat.not_lt_zero _)⟩
  | i + 1 => by
    have ih := rung_of (e := e) (rs := rs) (w := w) i
    -- a row that isn't on the bell changes nothing
    have pass : lineAt rs e i = false → ((∃ j r, j < i ∧ rs[j]? = some r ∧ r.l = e ∧ r.w = w ∧ ∀ k, j < k → k < i → lineAt rs e k = false) ↔ ∃ j r, j < i + 1 ∧ rs[j]? = some r ∧ r.l = e ∧ r.w = w ∧ ∀ k, j < k → k < i + 1 → lineAt rs e k = false) := fun z => by
      constructor
      · rintro ⟨j, r, a, b, c, d, f⟩
        refine ⟨j, r, by omega, b, c, d, fun k h1 h2 => ?_⟩
        by_cases q : k = i
        · rw [q]
          exact z
        · exact f k h1 (by omega)
      · rintro ⟨j, r, a, b, c, d, f⟩
        have : j ≠ i := fun q => by
          rw [q] at b
          rw [lineAt_some b, decide_eq_false_iff_not] at z
          exact z c
        exact ⟨j, r, by omega, b, c, d, fun k h1 h2 => f k h1 (by omega)⟩
    cases z : rs[i]? with
    | none =>
      rw [wrongTo_end z, ih]
      exact pass (by unfold lineAt; rw [z]; exact decide_eq_false nofun)
    | some r =>
      rw [wrongTo_succ z]
      simp only [wrongStep]
      have ln := lineAt_some (l := e) z
      split
      · rename_i c
        show some r.w = some w ↔ _
        constructor
        · rintro q
          exact ⟨i, r, by omega, z, c, Option.some.inj q, fun k h1 h2 => by omega⟩
        · rintro ⟨j, r2, a, b, c2, d, f⟩
          by_cases q : j = i
          · subst q
            rw [z] at b
            obtain rfl := Option.some.inj b
            rw [d]
          · have := f i (by omega) (by omega)
            rw [ln, decide_eq_false_iff_not] at this
            exact absurd c this
      · rename_i c
        have lf : lineAt rs e i = false := by
          rw [ln]
          exact decide_eq_false c
        split
        · show (wrongTo e rs i).1 = some w ↔ _
          rw [ih]
          exact pass lf
        · rw [ih]
          exact pass lf
theorem hit_line {rs : List Row} {e : Str} {w : What} {k : Nat} (h : hitAt rs e w k = false) : lineAt rs e k = false := by
  unfold hitAt at h
  unfold lineAt
  cases z : rs[k]? with
  | none => exact decide_eq_false nofun
  | some r =>
    rw [z] at h
    show decide (some r.l = some e) = false
    simp only [Bool.or_eq_false_iff, decide_eq_false_iff_not] at h
    exact decide_eq_false fun q => h.1 (Option.some.inj q)
/-- a row that answers is on the dial, and answers rightly -/
theorem answered_right {rs : List Row} {e : Str} {n k : Nat} (he : e ∈ engines) (hn : lineAt rs e n = true) (h : Became rs e n "answered" (some k)) : n < k ∧ k < rs.length ∧ lineAt rs (dialOf e) k = true ∧ (∀ i, ((k : Nat) : Int) ∉ (wrongTo e rs i).2) ∧ ∀ j, n < j → j < k → lineAt rs e j = false := by
  generalize hw : ("answered" : Str) = word at h
  generalize hk : some k = kk at h
  cases h with
  | open_ _ _ => cases hk
  | taken _ _ _ _ _ => exact absurd hw (by decide +kernel)
  | @answered r r2 k' p1 p2 p3 p4 p5 p6 p7 =>
    obtain rfl := Option.some.inj hk
    refine ⟨p2, (List.getElem?_eq_some_iff.mp p3).1, by rw [lineAt_some p3]; exact decide_eq_true p4, fun i z => ?_, fun j h1 h2 => hit_line (p7 j h1 h2)⟩
    obtain ⟨k2, r3, _, b, c, d, f⟩ := (wrong_mem he _ i).mp z
    have e2 : k2 = k := by omega
    subst e2
    rw [p3] at b
    obtain rfl := Option.some.inj b
    refine f ((rung_of k2).mpr ⟨n, r, p2, p1, ?_, p5.symm, fun j h1 h2 => hit_line (p7 j h1 h2)⟩).symm
    rw [lineAt_some p1] at hn
    exact of_decide_eq_true hn
/-- the next one on the bell takes a row back -/
theorem taken_next {rs : List Row} {e : Str} {n : Nat} {kk : Option Nat} (h : Became rs e n "taken" kk) : ∃ k, kk = some k ∧ n < k ∧ k < rs.length ∧ lineAt rs e k = true ∧ ∀ j, n < j → j < k → lineAt rs e j = false := by
  generalize hw : ("taken" : Str) = word at h
  cases h with
  | open_ _ _ => exact absurd hw (by decide +kernel)
  | answered _ _ _ _ _ _ _ => exact absurd hw (by decide +kernel)
  | @taken r r2 k p1 p2 p3 p4 p5 => exact ⟨k, rfl, p2, (List.getElem?_eq_some_iff.mp p3).1, by rw [lineAt_some p3]; exact decide_eq_true p4, fun j h1 h2 => hit_line (p5 j h1 h2)⟩
/-- nothing on the bell is behind an open one -/
theorem open_none {rs : List Row} {e : Str} {n : Nat} {kk : Option Nat} (h : Became rs e n "open" kk) : kk = none ∧ ∀ j, n < j → j < rs.length → lineAt rs e j = false := by
  generalize hw : ("open" : Str) = word at h
  cases h with
  | open_ p1 p2 => exact ⟨rfl, fun j h1 h2 => hit_line (p2 j h1 h2)⟩
  | taken _ _ _ _ _ => exact absurd hw (by decide +kernel)
  | answered _ _ _ _ _ _ _ => exact absurd hw (by decide +kernel)
/-- a right answer that answers none comes behind another one -/
theorem right_else {rs : List Row} {e : Str} {m : Nat} {r : Row} (he : e ∈ engines) (hr : rs[m]? = some r) (hl : r.l = dialOf e) (nw : ((m : Nat) : Int) ∉ (wrongTo e rs rs.length).2) : ∃ j, j < m ∧ lineAt rs e j = true ∧ (∀ k, j < k → k < m → lineAt rs e k = false) ∧
    ∀ word kk, Became rs e j word kk → ∃ k, word = "answered" ∧ kk = some k ∧ k ≤ m := by
  have lm := (List.getElem?_eq_some_iff.mp hr).1
  have rg : (wrongTo e rs m).1 = some r.w := by
    by_cases q : some r.w = (wrongTo e rs m).1
    · exact q.symm
    · exact absurd ((wrong_mem he _ _).mpr ⟨m, r, lm, hr, rfl, hl, q⟩) nw
  obtain ⟨j, r0, a, b, c, d, f⟩ := (rung_of m).mp rg
  refine ⟨j, a, by rw [lineAt_some b]; exact decide_eq_true c, f, fun word kk h => ?_⟩
  have hit : hitAt rs e r0.w m = true := by
    unfold hitAt
    rw [hr]
    simp [hl, d]
  cases h with
  | @open_ r1 p1 p2 =>
    rw [b] at p1
    obtain rfl := Option.some.inj p1
    rw [p2 m a lm] at hit
    cases hit
  | @taken r1 r2 k p1 p2 p3 p4 p5 =>
    rw [b] at p1
    obtain rfl := Option.some.inj p1
    have lk := lineAt_some (l := e) p3
    rcases Nat.lt_trichotomy k m with z | z | z
    · have := f k p2 z
      rw [lk, decide_eq_false_iff_not] at this
      exact absurd p4 this
    · subst z
      rw [hr] at p3
      obtain rfl := Option.some.inj p3
      exact absurd (hl.symm.trans p4) (dial_ne he)
    · rw [p5 m a z] at hit
      cases hit
  | @answered r1 r2 k p1 p2 p3 p4 p5 p6 p7 =>
    rw [b] at p1
    obtain rfl := Option.some.inj p1
    refine ⟨k, rfl, rfl, ?_⟩
    by_cases z : m < k
    · rw [p7 m a z] at hit
      cases hit
    · omega
theorem AnsAt.at_ {K : PySem.W.Frag} {H : Hp} {rs : List Row} {e : Str} {ns : List Nat} {as : List Addr} {ds : List (Nat × Str × Option Nat)} (h : AnsAt K H rs e ns as ds) : ∀ {j n : Nat}, ns[j]? = some n → ∃ a word k, as[j]? = some a ∧ ds[j]? = some (n, word, k) ∧ SqT K H a [nv n, .str word, kv k] ∧ Became rs e n word k := by
  induction h with
  | nil => intro j n z; cases z
  | @snoc ns as ds m a word k h1 h2 h3 ih =>
    intro j n z
    have le := h1.len
    by_cases c : j < ns.length
    · rw [List.getElem?_append_left c] at z
      obtain ⟨b, w, k2, e1, e2, e3, e4⟩ := ih z
      exact ⟨b, w, k2, by rw [List.getElem?_append_left (by omega)]; exact e1, by rw [List.getElem?_append_left (by omega)]; exact e2, e3, e4⟩
    · obtain ⟨l2, _⟩ := List.getElem?_eq_some_iff.mp z
      rw [List.length_append] at l2
      have l2 : j < ns.length + 1 := l2
      obtain rfl : j = ns.length := by omega
      rw [List.getElem?_append_right (by omega), Nat.sub_self] at z
      obtain rfl := Option.some.inj z
      exact ⟨a, word, k, by rw [List.getElem?_append_right (by omega), show ns.length - as.length = 0 by omega]; rfl, by rw [List.getElem?_append_right (by omega), show ns.length - ds.length = 0 by omega]; rfl, h2, h3⟩
def nd (n : Nat) : PyData := .int (n : Int)
theorem nvs_dp {K : PySem.W.Frag} {H : Hp} : ∀ ns : List Nat, DpAll K H (ns.map nv) (ns.map nd)
  | [] => .nil
  | n :: ns => .cons (.int _) (nvs_dp ns)
theorem nvs_rep {ns : List Nat} {k : Nat} (h : ∀ n ∈ ns, n < 1000) (l : ns.length ≤ k) : RepOk (.list (ns.map nd)) 1 k := by
  have z := ints_rep (ns := ns.map Int.ofNat) (k := k) (fun m hm => by
    obtain ⟨n, hn, rfl⟩ := List.mem_map.mp hm
    exact Nat.lt_of_lt_of_le (show n < 1000 from h n hn) (by decide +kernel)) (by rw [List.length_map]; exact l)
  rw [List.map_map] at z
  exact z
theorem eqv_rep {d : PyData} {k n : Nat} (h : RepOk d k n) : PyData.eqv d d = true := PySem.SeqAt.eqv_refl d h.cl
theorem inV_nv {n : Nat} {ns : List Nat} : inV (V.int (n : Int)) (ns.map nv) = decide (n ∈ ns) := by
  rw [Bool.eq_iff_iff, decide_eq_true_iff]
  unfold inV
  rw [List.any_eq_true]
  constructor
  · rintro ⟨v, hv, q⟩
    obtain ⟨m, hm, rfl⟩ := List.mem_map.mp hv
    have : m = n := by
      simp [nv, eqV] at q
      omega
    exact this ▸ hm
  · exact fun hn => ⟨nv n, List.mem_map.mpr ⟨n, hn, rfl⟩, by simp [nv, eqV]⟩
theorem flat_nvs (ns : List Nat) : (ns.map nv).all flatV = true := by
  rw [List.all_eq_true]
  intro v hv
  obtain ⟨n, _, rfl⟩ := List.mem_map.mp hv
  rfl
/-- the rows that answer -/
def usedOf (ds : List (Nat × Str × Option Nat)) : List Nat := ds.filterMap fun x => if x.2.1 = Str.ofString "answered" then x.2.2 else none
theorem answered_some {rs : List Row} {e : Str} {n : Nat} {kk : Option Nat} (h : Became rs e n "answered" kk) : ∃ k, kk = some k := by
  generalize hw : ("answered" : Str) = word at h
  cases h with
  | open_ _ _ => exact absurd hw (by decide +kernel)
  | taken _ _ _ _ _ => exact absurd hw (by decide +kernel)
  | answered _ _ _ _ _ _ _ => exact ⟨_, rfl⟩
theorem AnsAt.mem {K : PySem.W.Frag} {H : Hp} {rs : List Row} {e : Str} {ns : List Nat} {as : List Addr} {ds : List (Nat × Str × Option Nat)} (h : AnsAt K H rs e ns as ds) : ∀ x ∈ ds, x.1 ∈ ns ∧ Became rs e x.1 x.2.1 x.2.2 := by
  induction h with
  | nil => intro x hx; simp at hx
  | @snoc ns as ds n a word k _ h2 h3 ih =>
    intro x hx
    rcases List.mem_append.mp hx with z | z
    · exact ⟨List.mem_append_left _ (ih x z).1, (ih x z).2⟩
    · obtain rfl : x = (n, word, k) := by simpa using z
      exact ⟨by simp, h3⟩
theorem used_mem {rs : List Row} {e : Str} {ds : List (Nat × Str × Option Nat)} (ok : ∀ x ∈ ds, x.1 ∈ onL rs e rs.length ∧ Became rs e x.1 x.2.1 x.2.2) {k : Nat} : k ∈ usedOf ds ↔ ∃ n, (n, Str.ofString "answered", some k) ∈ ds := by
  unfold usedOf
  rw [List.mem_filterMap]
  constructor
  · rintro ⟨⟨n, w, kk⟩, hx, z⟩
    by_cases c : w = Str.ofString "answered"
    · rw [if_pos c] at z
      have z : kk = some k := z
      subst z
      exact ⟨n, c ▸ hx⟩
    · rw [if_neg c] at z
      cases z
  · rintro ⟨n, hn⟩
    exact ⟨_, hn, if_pos rfl⟩
theorem line_of {rs : List Row} {e : Str} {n : Nat} (h : n ∈ onL rs e rs.length) : lineAt rs e n = true := (onL_mem.mp h).2
/-- no row answers two -/
theorem used_nodup {rs : List Row} {e : Str} (he : e ∈ engines) : ∀ {ds : List (Nat × Str × Option Nat)}, (∀ x ∈ ds, x.1 ∈ onL rs e rs.length ∧ Became rs e x.1 x.2.1 x.2.2) → (ds.map (·.1)).Pairwise (· < ·) → (usedOf ds).Nodup
  | [], _, _ => List.nodup_nil
  | (n, w, kk) :: ds, ok, asc => by
    have ih := used_nodup he (fun x hx => ok x (by simp [hx])) (List.pairwise_cons.mp asc).2
    by_cases c : w = Str.ofString "answered"
    · subst c
      have b := (ok (n, "answered", kk) (by simp)).2
      obtain ⟨k, hk⟩ := answered_some b
      have hk : kk = some k := hk
      subst hk
      have eq : usedOf ((n, Str.ofString "answered", some k) :: ds) = k :: usedOf ds := by
        unfold usedOf
        rw [List.filterMap_cons]
        rfl
      rw [show ((n, "answered", some k) : Nat × Str × Option Nat) = (n, Str.ofString "answered", some k) from rfl, eq]
      refine List.nodup_cons.mpr ⟨fun z => ?_, ih⟩
      have ok2 : ∀ x ∈ ds, x.1 ∈ onL rs e rs.length ∧ Became rs e x.1 x.2.1 x.2.2 := fun x hx => ok x (by simp [hx])
      obtain ⟨n2, h2⟩ := (used_mem ok2).mp z
      obtain ⟨o1, b2⟩ := ok2 _ h2
      have lt : n < n2 := (List.pairwise_cons.mp asc).1 n2 (List.mem_map.mpr ⟨_, h2, rfl⟩)
      have l1 := line_of (ok (n, "answered", some k) (by simp)).1
      obtain ⟨a1, a2, a3, _, a5⟩ := answered_right he l1 b
      obtain ⟨c1, _, _, _, _⟩ := answered_right he (line_of o1) b2
      have := a5 n2 lt c1
      rw [line_of o1] at this
      cases this
    · have eq : usedOf ((n, w, kk) :: ds) = usedOf ds := by
        simp only [usedOf, List.filterMap_cons, if_neg c]
      rw [eq]
      exact ih
theorem nvs_int (ns : List Nat) : ns.map nv = (ns.map Int.ofNat).map V.int := by
  rw [List.map_map]
  rfl
theorem AnsAt.asc {K : PySem.W.Frag} {H : Hp} {rs : List Row} {e : Str} {ns : List Nat} {as : List Addr} {ds : List (Nat × Str × Option Nat)} (h : AnsAt K H rs e ns as ds) : ds.map (·.1) = ns := by
  induction h with
  | nil => rfl
  | snoc _ _ _ ih =>
    rw [List.map_append, ih]
    rfl
theorem flat_ints (ns : List Int) : (ns.map V.int).all flatV = true := by
  rw [List.all_eq_true]
  intro v hv
  obtain ⟨n, _, rfl⟩ := List.mem_map.mp hv
  rfl
theorem next_at {ns : List Nat} (asc : ns.Pairwise (· < ·)) {i n k : Nat} (h : ns[i]? = some n) (hk : k ∈ ns) (lt : n < k) (no : ∀ j ∈ ns, n < j → ¬ j < k) : ns[i + 1]? = some k := by
  obtain ⟨j, lj, ej⟩ := List.getElem_of_mem hk
  obtain ⟨li, ei⟩ := List.getElem?_eq_some_iff.mp h
  have pw := List.pairwise_iff_getElem.mp asc
  rcases Nat.lt_trichotomy j (i + 1) with z | z | z
  · rcases Nat.lt_or_ge j i with y | y
    · have := pw j i lj li y
      omega
    · obtain rfl : j = i := by omega
      omega
  · subst z
    rw [List.getElem?_eq_getElem lj, ej]
  · have a := pw i (i + 1) li (by omega) (by omega)
    have b := pw (i + 1) j (by omega) lj z
    rw [ei] at a
    rw [ej] at b
    exact absurd b (no _ (List.getElem_mem ..) a)
theorem last_at {ns : List Nat} (asc : ns.Pairwise (· < ·)) {i n : Nat} (h : ns[i]? = some n) (no : ∀ j ∈ ns, ¬ n < j) : ns.length ≤ i + 1 := by
  obtain ⟨li, ei⟩ := List.getElem?_eq_some_iff.mp h
  by_cases c : i + 1 < ns.length
  · have a := List.pairwise_iff_getElem.mp asc i (i + 1) li c (by omega)
    rw [ei] at a
    exact absurd a (no _ (List.getElem_mem ..))
  · omega
theorem cut_one {xs : List V} {i : Nat} {x : V} (h : xs[i + 1]? = some x) : cutV xs (some ((i : Int) + 1)) (some ((i : Int) + 2)) = [x] := by
  obtain ⟨l, e⟩ := List.getElem?_eq_some_iff.mp h
  show cutV xs (some ((i + 1 : Nat) : Int)) (some ((i + 2 : Nat) : Int)) = [x]
  unfold cutV
  rw [HT.sIx_nat, HT.sIx_nat, Nat.min_eq_left (by omega), Nat.min_eq_left (by omega), show i + 2 - (i + 1) = 1 by omega, List.drop_eq_getElem_cons l, e]
  rfl
theorem inV_int {a : Int} {ns : List Int} : inV (V.int a) (ns.map V.int) = decide (a ∈ ns) := by
  rw [Bool.eq_iff_iff, decide_eq_true_iff]
  unfold inV
  rw [List.any_eq_true]
  constructor
  · rintro ⟨v, hv, q⟩
    obtain ⟨m, hm, rfl⟩ := List.mem_map.mp hv
    have : m = a := by simpa [eqV] using q
    exact this ▸ hm
  · exact fun hn => ⟨V.int a, List.mem_map.mpr ⟨a, hn, rfl⟩, by simp [eqV]⟩
theorem eqv_nil (ds : List PyData) : PyData.eqv (.list ds) (.list []) = decide (ds = []) := by
  cases ds <;> rfl
theorem some_dp {K : PySem.W.Frag} {H : Hp} {ds : List (Nat × Str × Option Nat)} : ∀ {cs : List Addr}, (∀ a ∈ cs, ∃ x ∈ ds, SqT K H a [nv x.1, .str x.2.1, kv x.2.2]) → ∃ dd, DpAll K H (cs.map V.ref) dd ∧ dd.length = cs.length ∧ ∀ d ∈ dd, d ∈ ds.map ansD
  | [], _ => ⟨[], .nil, rfl, fun d hd => (by simp at hd)⟩
  | a :: cs, h => by
    obtain ⟨dd, h1, h2, h3⟩ := some_dp (cs := cs) (fun b hb => h b (List.mem_cons_of_mem _ hb))
    obtain ⟨x, hx, e⟩ := h a (by simp)
    refine ⟨ansD x :: dd, .cons (.tup e (.cons (.int _) (.cons (.str _) (.cons (kv_dp _) .nil)))) h1, by simp [h2], fun d hd => ?_⟩
    rcases List.mem_cons.mp hd with z | z
    · rw [z]
      exact List.mem_map.mpr ⟨x, hx, rfl⟩
    · exact h3 d z
def spHang (K : PySem.W.Frag) : Sp := fun vs H Q _ => ∃ (t : Addr) (rs : List Row) (e : Str), vs = [.ref t, .str e] ∧ LogAt K H t rs ∧ rs.length ≤ 41 ∧ (∀ r ∈ rs, r.Ok) ∧ e ∈ engines ∧ ∀ H', Same H H' → Q (.bl true) H'
theorem ok_hang_right (T : Txt w K mg) : FnOk P w K mg base CX0 4 T.a_hang_right T.d_hang_right ["_law_log_here", "_law_engine"] (spHang K) := by
  have G_answers := ok_answers (P := P) (base := base) T
  have G_wrong_answers := ok_wrongs (P := P) (base := base) T
  refine T.F_hang_right.ok sc_hang_right (fun vs H Q E h => ?_) (fun cdv A outer s H vs Q E hr h => ?_)
  · obtain ⟨t, rs, e, rfl, _⟩ := h
    rfl
  · obtain ⟨t, rs, e, rfl, hL, hlen, oks, he, k⟩ := h
    have hr_answers := hr
    have hr_wrong_answers := hr.mono (show 2 ≤ 3 by decide)
    refine ⟨_, (pss_cons (ps_setLc (i := 2) (own := [("_law_k", 11)]) rfl sc_hang_right.nd rfl rfl (sw_true rfl rfl rfl (by decide +kernel)) (pi_range1 (by rfl) T.z_range (pa_cons (pe_callB (k_len K) (by rfl) T.z_len (by decide +kernel) (pa_cons (pv 0) pa_nil)) pa_nil)) (blkOk_by (own := [("_law_k", 11)]) (N := ["_law_log_here", "_law_engine", "_law_rings", "_law_dials", "_law_wrong", "_law_found", "_law_used", "_law_at", "_law_row", "_law_number", "_law_ring", "_law_k"]) (sc := defScope s_hang_right) (by decide +kernel)) (fun _ _ _ _ _ => (pg_name (i := 11) sc_hang_right.nd rfl (by first | exact Or.inl rfl | exact Or.inr rfl))) (fun _ _ _ _ _ => (pts_one (pt_cmpR op_eq (pe_ix (kx_tup K) (pe_ix (kx_tup K) (pv 0) (pv 11) (fun _ _ => rfl)) pe_int (fun _ _ => rfl)) (pv 1) (nomark _)))) (fun _ _ _ _ _ => (pv 11)))
  (pss_cons (ps_set (i := 3) sc_hang_right.nd rfl (by first | exact Or.inl rfl | exact Or.inr rfl) (pe_lc (own := [("_law_k", 11)]) rfl sc_hang_right.nd (pi_range1 (by rfl) T.z_range (pa_cons (pe_callB (k_len K) (by rfl) T.z_len (by decide +kernel) (pa_cons (pv 0) pa_nil)) pa_nil)) (blkOk_by (own := [("_law_k", 11)]) (N := ["_law_log_here", "_law_engine", "_law_rings", "_law_dials", "_law_wrong", "_law_found", "_law_used", "_law_at", "_law_row", "_law_number", "_law_ring", "_law_k"]) (sc := defScope s_hang_right) (by decide +kernel)) (fun _ _ _ _ _ => (pg_name (i := 11) sc_hang_right.nd rfl (by first | exact Or.inl rfl | exact Or.inr rfl))) (fun _ _ _ _ _ => (pts_one (pt_cmpR op_eq (pe_ix (kx_tup K) (pe_ix (kx_tup K) (pv 0) (pv 11) (fun _ _ => rfl)) pe_int (fun _ _ => rfl)) (pe_op op_add_str pe_str (pv 1)) (nomark _)))) (fun _ _ _ _ _ => (pv 11))))
  (pss_cons (ps_set (i := 4) sc_hang_right.nd rfl (by first | exact Or.inl rfl | exact Or.inr rfl) (pe_call G_wrong_answers hr_wrong_answers (by rfl) T.g_wrong_answers T.F_wrong_answers.kp T.b_wrong_answers .nil pass0 (pa_cons (pv 0) (pa_cons (pv 1) pa_nil))))
  (pss_cons (ps_set (i := 5) sc_hang_right.nd rfl (by first | exact Or.inl rfl | exact Or.inr rfl) (pe_call G_answers hr_answers (by rfl) T.g_answers T.F_answers.kp T.b_answers .nil pass0 (pa_cons (pv 0) (pa_cons (pv 1) pa_nil))))
  (pss_cons (ps_if (PW.pt (pw_or (pt_cmpR (k_neD K hr.units) (pe_lc (own := [("_law_row", 8)]) rfl sc_hang_right.nd (k_piL K (pv 5)) (blkOk_by (own := [("_law_row", 8)]) (N := ["_law_log_here", "_law_engine", "_law_rings", "_law_dials", "_law_wrong", "_law_found", "_law_used", "_law_at", "_law_row", "_law_number", "_law_ring", "_law_k"]) (sc := defScope s_hang_right) (by decide +kernel)) (fun _ _ _ _ _ => (pg_name (i := 8) sc_hang_right.nd rfl (by first | exact Or.inl rfl | exact Or.inr rfl))) (fun _ _ _ _ _ => pts_nil) (fun _ _ _ _ _ => (pe_ix (kx_tup K) (pv 8) pe_int (fun _ _ => rfl)))) (pv 2) (nomark _)) (pw_or1 (pt_cmpR (k_neD K hr.units) (pe_lc (own := [("_law_k", 11)]) rfl sc_hang_right.nd (k_piL K (pv 4)) (blkOk_by (own := [("_law_k", 11)]) (N := ["_law_log_here", "_law_engine", "_law_rings", "_law_dials", "_law_wrong", "_law_found", "_law_used", "_law_at", "_law_row", "_law_number", "_law_ring", "_law_k"]) (sc := defScope s_hang_right) (by decide +kernel)) (fun _ _ _ _ _ => (pg_name (i := 11) sc_hang_right.nd rfl (by first | exact Or.inl rfl | exact Or.inr rfl))) (fun _ _ _ _ _ => (pts_one (pt_cmpR (k_notin K) (pv 11) (pv 3) (by rfl)))) (fun _ _ _ _ _ => (pv 11))) (pe_lst pa_nil) (nomark _))))) (pss_one (ps_ret pe_bl)) pss_nil)
  (pss_cons (ps_setLc (i := 6) (own := [("_law_row", 8)]) rfl sc_hang_right.nd rfl rfl (sw_true rfl rfl rfl (by decide +kernel)) (k_piL K (pv 5)) (blkOk_by (own := [("_law_row", 8)]) (N := ["_law_log_here", "_law_engine", "_law_rings", "_law_dials", "_law_wrong", "_law_found", "_law_used", "_law_at", "_law_row", "_law_number", "_law_ring", "_law_k"]) (sc := defScope s_hang_right) (by decide +kernel)) (fun _ _ _ _ _ => (pg_name (i := 8) sc_hang_right.nd rfl (by first | exact Or.inl rfl | exact Or.inr rfl))) (fun _ _ _ _ _ => (pts_one (pt_cmpR op_eq (pe_ix (kx_tup K) (pv 8) pe_int (fun _ _ => rfl)) pe_str (nomark _)))) (fun _ _ _ _ _ => (pe_ix (kx_tup K) (pv 8) pe_int (fun _ _ => rfl))))
  (pss_cons (ps_if (PW.pt (pw_or (pt_cmpR op_ne (pe_callB (k_lenSet w) (by rfl) T.z_len (by decide +kernel) (pa_cons (pe_callTy (k_setI K w rfl) (by rfl) T.z_set (by decide +kernel) (pa_cons (pv 6) pa_nil)) pa_nil)) (pe_callB (k_len K) (by rfl) T.z_len (by decide +kernel) (pa_cons (pv 6) pa_nil)) (nomark _)) (pw_or1 (pt_cmpR (k_neD K hr.units) (pe_lc (own := [("_law_k", 11)]) rfl sc_hang_right.nd (k_piL K (pv 6)) (blkOk_by (own := [("_law_k", 11)]) (N := ["_law_log_here", "_law_engine", "_law_rings", "_law_dials", "_law_wrong", "_law_found", "_law_used", "_law_at", "_law_row", "_law_number", "_law_ring", "_law_k"]) (sc := defScope s_hang_right) (by decide +kernel)) (fun _ _ _ _ _ => (pg_name (i := 11) sc_hang_right.nd rfl (by first | exact Or.inl rfl | exact Or.inr rfl))) (fun _ _ _ _ _ => (pts_one (PW.pt (pw_or (pt_cmpR (k_in K) (pv 11) (pv 4) (by rfl)) (pw_or1 (pt_cmpR (k_notin K) (pv 11) (pv 3) (by rfl))))))) (fun _ _ _ _ _ => (pv 11))) (pe_lst pa_nil) (nomark _))))) (pss_one (ps_ret pe_bl)) pss_nil)
  (pss_cons (ps_for PassesOwn.never rfl (pi_enumA (by rfl) T.z_enumerate (pa_cons (pv 5) pa_nil)) (k_pgT (n := 2) K rfl (pgs_cons (pg_name (i := 7) sc_hang_right.nd rfl (by first | exact Or.inl rfl | exact Or.inr rfl)) (pgs_cons (pg_name (i := 8) sc_hang_right.nd rfl (by first | exact Or.inl rfl | exact Or.inr rfl)) pgs_nil))) (C8.pss_cut (ps_if (PW.pt (pw_and (pt_cmpR op_eq (pe_ix (kx_tup K) (pv 8) pe_int (fun _ _ => rfl)) pe_str (nomark _)) (pw_and1 (pt_cmpR (k_neD K hr.units) (pe_slice (k_slL K) (pv 2) (po_some (pe_op op_add (pv 7) pe_int)) (po_some (pe_op op_add (pv 7) pe_int))) (pe_lst (pa_cons (pe_ix (kx_tup K) (pv 8) pe_int (fun _ _ => rfl)) pa_nil)) (nomark _))))) (pss_one (ps_ret pe_bl)) pss_nil)
  (pss_one (ps_if (PW.pt (pw_and (pt_cmpR op_eq (pe_ix (kx_tup K) (pv 8) pe_int (fun _ _ => rfl)) pe_str (nomark _)) (pw_and1 (PW.pt (pw_or (pt_cmpR op_notN (pe_ix (kx_tup K) (pv 8) pe_int (fun _ _ => rfl)) pe_non (nomark _)) (pw_or1 (pt_cmpR op_lt (pe_op op_add (pv 7) pe_int) (pe_callB (k_len K) (by rfl) T.z_len (by decide +kernel) (pa_cons (pv 2) pa_nil)) (nomark _)))))))) (pss_one (ps_ret pe_bl)) pss_nil))))
  (pss_cons (ps_for PassesOwn.never rfl (k_piL K (pv 3)) (pg_name (i := 9) sc_hang_right.nd rfl (by first | exact Or.inl rfl | exact Or.inr rfl)) (pss_one (ps_if (PW.pt (pw_and (pt_cmpR (k_notin K) (pv 9) (pv 4) (by rfl)) (pw_and1 (pt_cmpR (k_notin K) (pv 9) (pv 6) (by rfl))))) (pss_cons (ps_set (i := 10) sc_hang_right.nd rfl (by first | exact Or.inl rfl | exact Or.inr rfl) (pe_callB (k_max K rfl) (by rfl) T.z_max (by decide +kernel) (pa_cons (pe_lc (own := [("_law_k", 11)]) rfl sc_hang_right.nd (k_piL K (pv 2)) (blkOk_by (own := [("_law_k", 11)]) (N := ["_law_log_here", "_law_engine", "_law_rings", "_law_dials", "_law_wrong", "_law_found", "_law_used", "_law_at", "_law_row", "_law_number", "_law_ring", "_law_k"]) (sc := defScope s_hang_right) (by decide +kernel)) (fun _ _ _ _ _ => (pg_name (i := 11) sc_hang_right.nd rfl (by first | exact Or.inl rfl | exact Or.inr rfl))) (fun _ _ _ _ _ => (pts_one (pt_cmpR op_lt (pv 11) (pv 9) (nomark _)))) (fun _ _ _ _ _ => (pv 11))) pa_nil)))
  (pss_one (ps_if (pt_cmpR (k_eqD K hr.units) (pe_lc (own := [("_law_row", 8)]) rfl sc_hang_right.nd (k_piL K (pv 5)) (blkOk_by (own := [("_law_row", 8)]) (N := ["_law_log_here", "_law_engine", "_law_rings", "_law_dials", "_law_wrong", "_law_found", "_law_used", "_law_at", "_law_row", "_law_number", "_law_ring", "_law_k"]) (sc := defScope s_hang_right) (by decide +kernel)) (fun _ _ _ _ _ => (pg_name (i := 8) sc_hang_right.nd rfl (by first | exact Or.inl rfl | exact Or.inr rfl))) (fun _ _ _ _ _ => (pts_one (PW.pt (pw_and (pt_cmpR op_eq (pe_ix (kx_tup K) (pv 8) pe_int (fun _ _ => rfl)) (pv 10) (nomark _)) (pw_and (pt_cmpR op_eq (pe_ix (kx_tup K) (pv 8) pe_int (fun _ _ => rfl)) pe_str (nomark _)) (pw_and1 (pt_cmpR op_lt (pe_ix (kx_tup K) (pv 8) pe_int (fun _ _ => rfl)) (pv 9) (nomark _)))))))) (fun _ _ _ _ _ => (pv 8))) (pe_lst pa_nil) (nomark _)) (pss_one (ps_ret pe_bl)) pss_nil))) pss_nil)))
  (pss_one (ps_ret pe_bl))))))))))), ?_⟩
    obtain ⟨as, hT, hR⟩ := id hL
    have la := hR.length
    have ndial : dialOf e ≠ e ∧ Str.ofString "a" ++ e = dialOf e ∧ ((Str.ofString "a").length + e.length ≤ sizeLine) := by
      have he2 : e = "port" ∨ e = "star" := by simpa [engines] using he
      rcases he2 with rfl | rfl <;> decide +kernel
    have at1 : ∀ {j : Nat} {r : Row}, rs[j]? = some r → ∃ a, atI (as.map V.ref) ((j : Nat) : Int) = some (.ref a) ∧ RowAt K H a r := fun {j r} q => by
      obtain ⟨a, ha, h2⟩ := hR.get q
      exact ⟨a, atI_nat (by rw [List.getElem?_map, ha]; rfl), h2⟩
    -- the bells
    refine ⟨_, rfl, t, _, rfl, .inr hT, _, rfl, by omega, by rw [List.length_map]; omega, fun D hD => ?_⟩
    refine lc_it walk_range (fun i H' => Same H H' ∧ H' D = some (.lst ((onL rs e i).map nv))) ⟨same_new (Same.refl _) hD, upd_same⟩ (fun _ _ _ _ => trivial) ?_ ?_
    · rintro i x _ H2 hi ⟨s2, e2⟩ ⟨rfl, rfl⟩
      rw [List.length_map, la, Int.toNat_natCast] at hi
      obtain ⟨r, hr1⟩ : ∃ r, rs[i]? = some r := ⟨_, List.getElem?_eq_getElem hi⟩
      obtain ⟨a, ha, row⟩ := at1 hr1
      have el : lineAt rs e i = decide (V.str r.l = V.str e) := by
        rw [lineAt_some hr1, Bool.eq_iff_iff]
        simp
      refine ⟨rfl, _, rfl, _, rfl, t, _, _, _, rfl, rfl, same_seqT s2 hT, by rw [Int.zero_add]; exact ha, a, _, _, _, rfl, rfl, same_seqT s2 row, rfl, _, rfl, rfl, _, rfl, ?_⟩
      rw [onL_succ, el]
      refine ite2 (fun z => ?_) (fun z => ?_)
      · rw [if_pos z]
        refine ⟨_, rfl, _, e2, ?_, same_own s2 hD, ?_⟩
        · rw [List.length_map]
          have := onL_len rs e i
          exact small1000 (by omega)
        · rw [upd_same, List.map_append]
          simp only [Int.zero_add]
          rfl
      · rw [if_neg z]
        exact ⟨s2, e2⟩
    rintro H1 ⟨S1, f1⟩
    rw [List.length_map, la, Int.toNat_natCast] at f1
    -- the dials
    refine ⟨_, rfl, t, _, rfl, .inr (same_seqT S1 hT), _, rfl, by omega, by rw [List.length_map]; omega, fun D2 hD2 => ?_⟩
    refine lc_it walk_range (fun i H' => Same H1 H' ∧ H' D2 = some (.lst ((onL rs (dialOf e) i).map nv))) ⟨same_new (Same.refl _) hD2, upd_same⟩ (fun _ _ _ _ => trivial) ?_ ?_
    · rintro i x _ H2 hi ⟨s2, e2⟩ ⟨rfl, rfl⟩
      rw [List.length_map, la, Int.toNat_natCast] at hi
      obtain ⟨r, hr1⟩ : ∃ r, rs[i]? = some r := ⟨_, List.getElem?_eq_getElem hi⟩
      obtain ⟨a, ha, row⟩ := at1 hr1
      have s2' := S1.trans s2
      have el : lineAt rs (dialOf e) i = decide (V.str r.l = V.str (Str.ofString "a" ++ e)) := by
        rw [ndial.2.1, lineAt_some hr1, Bool.eq_iff_iff]
        simp
      refine ⟨rfl, _, rfl, _, rfl, t, _, _, _, rfl, rfl, same_seqT s2' hT, by rw [Int.zero_add]; exact ha, a, _, _, _, rfl, rfl, same_seqT s2' row, rfl, _, rfl, _, _, rfl, rfl, ndial.2.2, rfl, _, rfl, ?_⟩
      rw [onL_succ, el]
      refine ite2 (fun z => ?_) (fun z => ?_)
      · rw [if_pos z]
        refine ⟨_, rfl, _, e2, ?_, same_own s2 hD2, ?_⟩
        · rw [List.length_map]
          have := onL_len rs (dialOf e) i
          exact small1000 (by omega)
        · rw [upd_same, List.map_append]
          simp only [Int.zero_add]
          rfl
      · rw [if_neg z]
        exact ⟨s2, e2⟩
    rintro H2 ⟨S2, f2⟩
    rw [List.length_map, la, Int.toNat_natCast] at f2
    have f1' := S2 _ _ f1
    have S12 := S1.trans S2
    -- the wrong ones, and what became of each
    have L2 := hL.same S12
    refine ⟨_, rfl, _, rfl, t, rs, e, rfl, L2, hlen, oks, he, fun H3 wr S3 hwr f3 => ?_⟩
    refine ⟨_, rfl, _, rfl, t, rs, e, rfl, L2.same S3, hlen, he, fun H4 q as4 ds S4 hq f4 an => ?_⟩
    have la4 := an.len
    have S24 := S3.trans S4
    have r4 := S24 _ _ f1'
    have d4 := S24 _ _ f2
    have w4 := S4 _ _ f3
    clear f1 f2 f3 f1'
    -- the numbers are the rings
    have llen : (onL rs e rs.length).length ≤ 41 := Nat.le_trans (onL_len rs e rs.length) hlen
    have nlt : ∀ n ∈ onL rs e rs.length, n < 1000 := fun n hn => by have := (onL_mem.mp hn).1; omega
    refine ⟨_, rfl, q, rfl, ⟨_, SqL.of f4⟩, fun D5 hD5 => ?_⟩
    refine lc_it (walk_list (xs := as4.map V.ref)) (fun i H' => Same H4 H' ∧ H' D5 = some (.lst (((onL rs e rs.length).take i).map nv))) ⟨same_new (Same.refl _) hD5, by rw [List.take_zero]; exact upd_same⟩ (fun i H' _ z => SqL.of (z.1 _ _ f4)) ?_ ?_
    · rintro i x H5 H6 hi ⟨s5, e5⟩ ⟨rfl, hx⟩
      have hx : (as4.map V.ref)[i]? = some x := hx
      rw [List.length_map, la4.1] at hi
      obtain ⟨n, hn⟩ : ∃ n, (onL rs e rs.length)[i]? = some n := ⟨_, List.getElem?_eq_getElem hi⟩
      obtain ⟨a, word, kk, ha, _, ra, _⟩ := an.at_ hn
      rw [List.getElem?_map, ha] at hx
      obtain rfl : V.ref a = x := Option.some.inj hx
      refine ⟨rfl, _, rfl, a, _, _, _, rfl, rfl, same_seqT s5 ra, rfl, _, e5, by rw [List.length_map]; exact small1000 (by rw [List.length_take]; omega), same_own s5 hD5, ?_⟩
      rw [upd_same, List.take_succ, hn, List.map_append]
      rfl
    rintro H5 ⟨s5, e5⟩
    rw [List.length_map, la4.1, List.take_length] at e5
    have rep := nvs_rep nlt llen
    refine ⟨_, rfl, _, _, .lst (SqL.of e5) (nvs_dp _), .lst (SqL.of (s5 _ _ r4)) (nvs_dp _), rep.shaped (by decide), rep.shaped (by decide), _, rfl, ?_⟩
    rw [eqv_rep rep]
    show if false = true then _ else _
    -- the wrong ones are on the dial
    have w5 := s5 _ _ w4
    have d5 := s5 _ _ d4
    have wmem : ∀ m ∈ (wrongTo e rs rs.length).2, ∃ k : Nat, m = (k : Nat) ∧ k ∈ onL rs (dialOf e) rs.length := fun m hm => by
      obtain ⟨k, r, h1, h2, h3, h4, _⟩ := (wrong_mem he m _).mp hm
      exact ⟨k, h3, onL_mem.mpr ⟨h1, by rw [lineAt_some h2]; exact decide_eq_true h4⟩⟩
    refine ⟨_, rfl, wr, rfl, ⟨_, SqL.of w5⟩, fun D6 hD6 => ?_⟩
    refine lc_it (walk_list (xs := (wrongTo e rs rs.length).2.map V.int)) (fun i H' => Same H5 H' ∧ H' D6 = some (.lst [])) ⟨same_new (Same.refl _) hD6, upd_same⟩ (fun i H' _ z => SqL.of (z.1 _ _ w5)) ?_ ?_
    · rintro i x H6 H7 hi ⟨s6, e6⟩ ⟨rfl, hx⟩
      have hx : ((wrongTo e rs rs.length).2.map V.int)[i]? = some x := hx
      obtain ⟨m, hm, rfl⟩ := List.mem_map.mp (List.mem_of_getElem? hx)
      obtain ⟨k, rfl, hk⟩ := wmem m hm
      refine ⟨rfl, _, rfl, _, rfl, D2, _, rfl, .inl (SqL.of (s6 _ _ d5)), rfl, flat_nvs _, _, rfl, ?_⟩
      rw [inV_nv, decide_eq_true hk]
      exact ⟨s6, e6⟩
    rintro H6 ⟨s6, e6⟩
    refine ⟨(by show 0 ≤ sizeLine; decide), fun z1 hz1 => ?_⟩
    generalize hX : upd H6 z1 _ = H7
    obtain ⟨S7, f7⟩ := alloc hz1 hX
    clear hX
    refine ⟨.list [], .list [], .lst (SqL.of (S7 _ _ e6)) .nil, .lst (SqL.of f7) .nil, by decide +kernel, by decide +kernel, _, rfl, ?_⟩
    show if false = true then _ else _
    have S47 := s5.trans (s6.trans S7)
    have f7 := S47 _ _ f4
    have r7 := S47 _ _ r4
    have d7 := S47 _ _ d4
    have w7 := S47 _ _ w4
    clear e5 e6 w5 d5 f4 r4 d4 w4
    have okd := an.mem
    have an7 := an.imp fun _ _ z => same_seqT S47 z
    -- the rows that answer
    refine ⟨_, rfl, q, rfl, ⟨_, SqL.of f7⟩, fun U hU => ?_⟩
    refine lc_it (walk_list (xs := as4.map V.ref)) (fun i H' => Same H7 H' ∧ H' U = some (.lst ((usedOf (ds.take i)).map nv)) ∧ (usedOf (ds.take i)).length ≤ i) ⟨same_new (Same.refl _) hU, upd_same, Nat.le_refl _⟩ (fun i H' _ z => SqL.of (z.1 _ _ f7)) ?_ ?_
    · rintro i x H8 H9 hi ⟨s8, e8, l8⟩ ⟨rfl, hx⟩
      have hx : (as4.map V.ref)[i]? = some x := hx
      rw [List.length_map, la4.1] at hi
      obtain ⟨n, hn⟩ : ∃ n, (onL rs e rs.length)[i]? = some n := ⟨_, List.getElem?_eq_getElem hi⟩
      obtain ⟨a, word, kk, ha, hd, ra, bec⟩ := an7.at_ hn
      rw [List.getElem?_map, ha] at hx
      obtain rfl : V.ref a = x := Option.some.inj hx
      have row := same_seqT s8 ra
      have et : usedOf (ds.take (i + 1)) = usedOf (ds.take i) ++ (if word = Str.ofString "answered" then kk.toList else []) := by
        rw [List.take_succ, hd]
        unfold usedOf
        rw [List.filterMap_append]
        congr 1
        show List.filterMap _ [(n, word, kk)] = _
        rw [List.filterMap_cons]
        by_cases c : word = Str.ofString "answered"
        · rw [if_pos c, if_pos c]
          cases kk <;> rfl
        · rw [if_neg c, if_neg c]
          rfl
      have es : decide (V.str word = V.str (Str.ofString "answered")) = decide (word = Str.ofString "answered") := by
        rw [Bool.eq_iff_iff, decide_eq_true_iff, decide_eq_true_iff]
        exact ⟨fun z => (V.str.inj z), fun z => congrArg V.str z⟩
      rw [et]
      refine ⟨rfl, _, rfl, a, _, _, _, rfl, rfl, row, rfl, rfl, _, rfl, ?_⟩
      rw [es]
      refine ite2 (fun y => ?_) (fun y => ?_)
      · have y := of_decide_eq_true y
        rw [if_pos y]
        subst y
        obtain ⟨k', rfl⟩ := answered_some bec
        refine ⟨_, rfl, a, _, _, _, rfl, rfl, row, rfl, _, e8, by rw [List.length_map]; exact small1000 (by omega), same_own s8 hU, ?_, by rw [List.length_append]; show _ + 1 ≤ i + 1; omega⟩
        rw [upd_same, List.map_append]
        rfl
      · rw [if_neg (fun z => y (decide_eq_true z)), List.append_nil]
        exact ⟨s8, e8, by omega⟩
    rintro H8 ⟨s8, e8, l8⟩
    rw [List.length_map, la4.1, ← la4.2, List.take_length] at e8 l8
    have und := used_nodup he okd (by rw [an.asc]; exact onL_lt_pair ..)
    have umem := fun {k : Nat} => used_mem (k := k) okd
    have l8' : (usedOf ds).length ≤ 41 := by omega
    generalize hus : usedOf ds = us at *
    have e8' := e8
    rw [nvs_int] at e8'
    refine ⟨_, rfl, U, _, rfl, SqL.of e8', (by rw [List.length_map]; omega), fun p9 n9 hp9 hn9 => ?_⟩
    refine ⟨p9, _, n9, us.map Int.ofNat, rfl, upd_same, List.Pairwise.map _ (fun a b z q => z (Int.ofNat.inj q)) und, fun k => (by rw [decide_eq_true_iff]), ?_⟩
    generalize hX : upd H8 p9 _ = H9
    have S9 : Same H8 H9 := hX ▸ same_new (Same.refl _) hp9
    clear hX
    have e9 := S9 _ _ e8
    refine ⟨_, rfl, U, _, rfl, .inl (SqL.of e9), ?_⟩
    rw [List.length_map, List.length_map]
    refine ⟨rfl, _, rfl, ?_⟩
    rw [decide_eq_true rfl]
    show if false = true then _ else _
    have S79 := s8.trans S9
    have f9 := S79 _ _ f7
    have r9 := S79 _ _ r7
    have d9 := S79 _ _ d7
    have w9 := S79 _ _ w7
    have an9 := an7.imp fun _ _ z => same_seqT S79 z
    clear e8' e8 f7 r7 d7 w7 an7
    -- none of them is wrong, all are on the dial
    refine ⟨_, rfl, U, rfl, ⟨_, SqL.of e9⟩, fun D10 hD10 => ?_⟩
    refine lc_it (walk_list (xs := us.map nv)) (fun i H' => Same H9 H' ∧ H' D10 = some (.lst [])) ⟨same_new (Same.refl _) hD10, upd_same⟩ (fun i H' _ z => SqL.of (z.1 _ _ e9)) ?_ ?_
    · rintro i x H10 H11 hi ⟨s10, e10⟩ ⟨rfl, hx⟩
      have hx : (us.map nv)[i]? = some x := hx
      obtain ⟨k', hk', rfl⟩ := List.mem_map.mp (List.mem_of_getElem? hx)
      obtain ⟨n', hn'⟩ := umem.mp hk'
      obtain ⟨o1, b1⟩ := okd _ hn'
      obtain ⟨_, k2, k3, k4, _⟩ := answered_right he (line_of o1) b1
      have inw : inV (nv k') ((wrongTo e rs rs.length).2.map V.int) = false := by
        rw [Bool.eq_false_iff]
        intro z
        unfold inV at z
        rw [List.any_eq_true] at z
        obtain ⟨v, hv, q⟩ := z
        obtain ⟨m, hm, rfl⟩ := List.mem_map.mp hv
        have : m = (k' : Int) := by
          simpa [nv, eqV] using q
        exact k4 rs.length (this ▸ hm)
      have ind : inV (nv k') ((onL rs (dialOf e) rs.length).map nv) = true := by
        rw [show nv k' = V.int (k' : Int) from rfl, inV_nv]
        exact decide_eq_true (onL_mem.mpr ⟨k2, k3⟩)
      refine ⟨rfl, _, rfl, _, rfl, wr, _, rfl, .inl (SqL.of (s10 _ _ w9)), rfl, flat_ints _, _, rfl, ?_⟩
      rw [inw]
      refine ⟨_, rfl, _, rfl, D2, _, rfl, .inl (SqL.of (s10 _ _ d9)), rfl, flat_nvs _, _, rfl, ?_⟩
      rw [ind]
      exact ⟨s10, e10⟩
    rintro H10 ⟨s10, e10⟩
    refine ⟨(by show 0 ≤ sizeLine; decide), fun z2 hz2 => ?_⟩
    generalize hX : upd H10 z2 _ = H11
    obtain ⟨S11, f11⟩ := alloc hz2 hX
    clear hX
    refine ⟨.list [], .list [], .lst (SqL.of (S11 _ _ e10)) .nil, .lst (SqL.of f11) .nil, by decide +kernel, by decide +kernel, _, rfl, ?_⟩
    show if false = true then _ else _
    have S911 := s10.trans S11
    have f12 := S911 _ _ f9
    have r12 := S911 _ _ r9
    have d12 := S911 _ _ d9
    have w12 := S911 _ _ w9
    have u12 := S911 _ _ e9
    have an12 := an9.imp fun _ _ z => same_seqT S911 z
    clear e9 f9 r9 d9 w9 an9 e10 f11
    have asc := onL_lt_pair rs e rs.length
    refine ⟨_, rfl, q, _, rfl, .inl ⟨SqL.of f12, ?_⟩⟩
    refine for_it walk_enum (fun i σ H' => ∃ (x7 x8 : Option V), σ = [some (.ref t), some (.str e), some (.ref D), some (.ref D2), some (.ref wr), some (.ref q), some (.ref U), x7, x8, none, none, none] ∧ Same H11 H')
      ⟨none, none, rfl, Same.refl _⟩ (fun i σ H' _ ⟨_, _, _, z⟩ => SqL.of (z _ _ f12)) ?_ ?_
    · rintro i x σ H12 H13 hi ⟨x7, x8, rfl, s12⟩ ⟨Tq, y1, y2, rfl, hTq, rfl, e1, e3⟩
      have : y1 = V.int (i : Nat) := (Option.some.inj e1).symm
      subst this
      have e3 : (as4.map V.ref)[i]? = some y2 := e3
      rw [List.length_map, la4.1] at hi
      obtain ⟨n, hn⟩ : ∃ n, (onL rs e rs.length)[i]? = some n := ⟨_, List.getElem?_eq_getElem hi⟩
      obtain ⟨a, word, kk, ha, hd, ra, bec⟩ := an12.at_ hn
      rw [List.getElem?_map, ha] at e3
      obtain rfl : V.ref a = y2 := Option.some.inj e3
      generalize hX : upd H12 Tq _ = H13
      obtain ⟨S13', f13⟩ := alloc hTq hX
      clear hX
      have s13 := s12.trans S13'
      have row := same_seqT s13 ra
      refine ⟨Tq, _, rfl, SqT.of f13, rfl, _, _, rfl, _, _, rfl, rfl, ?_⟩
      have es : ∀ c : Str, decide (V.str word = V.str c) = decide (word = c) := fun c => by
        rw [Bool.eq_iff_iff, decide_eq_true_iff, decide_eq_true_iff]
        exact ⟨fun z => (V.str.inj z), fun z => congrArg V.str z⟩
      refine ⟨fun σ2 H2 => σ2 = [some (.ref t), some (.str e), some (.ref D), some (.ref D2), some (.ref wr), some (.ref q), some (.ref U), some (.int (i : Nat)), some (.ref a), none, none, none] ∧ Same H11 H2, ?_, ?_⟩
      · refine ⟨_, rfl, a, _, _, _, rfl, rfl, row, rfl, rfl, _, rfl, ?_⟩
        rw [es]
        refine ite2 (fun y => ?_) (fun y => ⟨rfl, s13⟩)
        have y := of_decide_eq_true y
        subst y
        obtain ⟨k', rfl, k1, k2, k3, k4⟩ := taken_next bec
        have nx := next_at asc hn (onL_mem.mpr ⟨k2, k3⟩) k1 (fun j hj h1 h2 => by
          have := k4 j h1 h2
          rw [line_of hj] at this
          cases this)
        have ec : cutV ((onL rs e rs.length).map nv) (some ((i : Int) + 1)) (some ((i : Int) + 2)) = [nv k'] := cut_one (by rw [List.getElem?_map, nx]; rfl)
        refine ⟨_, rfl, _, rfl, _, _, rfl, rfl, _, rfl, _, rfl, _, _, rfl, rfl, _, rfl, D, _, rfl, SqL.of (s13 _ _ r12), fun c1 hc1 => ?_⟩
        generalize hX : upd H13 c1 _ = H14
        obtain ⟨S14, f14⟩ := alloc hc1 hX
        clear hX
        have f14 : H14 c1 = some (.lst (cutV ((onL rs e rs.length).map nv) (some ((i : Int) + 1)) (some ((i : Int) + 2)))) := f14
        rw [ec] at f14
        refine ⟨_, rfl, a, _, _, _, rfl, rfl, same_seqT S14 row, rfl, (by show 1 ≤ sizeLine; decide), fun c2 hc2 => ?_⟩
        generalize hX : upd H14 c2 _ = H15
        obtain ⟨S15, f15⟩ := alloc hc2 hX
        clear hX
        have rep1 : RepOk (.list ([k'].map nd)) 1 41 := nvs_rep (fun j hj => by
          obtain rfl := List.mem_singleton.mp hj
          omega) (by show 1 ≤ 41; decide)
        refine ⟨.list ([k'].map nd), .list ([k'].map nd), .lst (SqL.of (S15 _ _ f14)) (nvs_dp [k']), .lst (SqL.of f15) (nvs_dp [k']), rep1.shaped (by decide), rep1.shaped (by decide), _, rfl, ?_⟩
        rw [eqv_rep rep1]
        show if false = true then _ else _
        exact ⟨rfl, s13.trans (S14.trans S15)⟩
      · rintro σ2 H2 ⟨rfl, s14⟩
        have row2 := same_seqT s14 ra
        refine ⟨_, rfl, a, _, _, _, rfl, rfl, row2, rfl, rfl, _, rfl, ?_⟩
        rw [es]
        refine ite2 (fun y => ?_) (fun y => ⟨_, _, rfl, s14⟩)
        have y := of_decide_eq_true y
        subst y
        obtain ⟨rfl, no⟩ := open_none bec
        have la' := last_at asc hn (fun j hj h1 => by
          have := no j h1 (onL_mem.mp hj).1
          rw [line_of hj] at this
          cases this)
        refine ⟨_, rfl, a, _, _, _, rfl, rfl, row2, rfl, rfl, _, rfl, ?_⟩
        show if false = true then _ else _
        refine ⟨_, rfl, _, _, rfl, rfl, _, rfl, D, _, rfl, .inl (SqL.of (s14 _ _ r12)), _, _, rfl, rfl, _, rfl, ?_⟩
        rw [decide_eq_false (by rw [List.length_map]; omega)]
        show if false = true then _ else _
        exact ⟨_, _, rfl, s14⟩
    · rintro σ H12 ⟨x7, x8, rfl, s12⟩
      -- a right answer that answers none comes behind another one
      have u13 := s12 _ _ u12
      have d13 := s12 _ _ d12
      have an13 := an12.imp fun _ _ z => same_seqT s12 z
      refine ⟨_, rfl, D2, rfl, ⟨_, SqL.of d13⟩, ?_⟩
      refine for_it (walk_list (xs := (onL rs (dialOf e) rs.length).map nv)) (fun i σ H' => ∃ (x9 x10 : Option V), σ = [some (.ref t), some (.str e), some (.ref D), some (.ref D2), some (.ref wr), some (.ref q), some (.ref U), x7, x8, x9, x10, none] ∧ Same H12 H')
        ⟨none, none, rfl, Same.refl _⟩ (fun i σ H' _ ⟨_, _, _, z⟩ => SqL.of (z _ _ d13)) ?_ ?_
      · rintro i x σ _ H13 hi ⟨x9, x10, rfl, s13⟩ ⟨rfl, hx⟩
        have hx : ((onL rs (dialOf e) rs.length).map nv)[i]? = some x := hx
        obtain ⟨m, hm, rfl⟩ := List.mem_map.mp (List.mem_of_getElem? hx)
        have S1113 := s12.trans s13
        have w14 := S1113 _ _ w12
        have u14 := s13 _ _ u13
        have r14 := S1113 _ _ r12
        have f14 := S1113 _ _ f12
        refine ⟨_, rfl, _, rfl, wr, _, rfl, .inl (SqL.of w14), rfl, flat_ints _, _, rfl, ?_⟩
        rw [show inV (nv m) ((wrongTo e rs rs.length).2.map V.int) = decide ((m : Int) ∈ (wrongTo e rs rs.length).2) from inV_int]
        refine ite2 (fun y => ?_) (fun y => ⟨_, _, rfl, s13⟩)
        have nw : ((m : Nat) : Int) ∉ (wrongTo e rs rs.length).2 := by
          intro z
          rw [decide_eq_true z] at y
          cases y
        refine ⟨_, rfl, _, rfl, U, _, rfl, .inl (SqL.of u14), rfl, flat_nvs _, _, rfl, ?_⟩
        rw [show inV (nv m) (us.map nv) = decide (m ∈ us) from inV_nv]
        refine ite2 (fun y => ?_) (fun y => ⟨_, _, rfl, s13⟩)
        have nu : m ∉ us := by
          intro z
          rw [decide_eq_true z] at y
          cases y
        obtain ⟨lm, hlm⟩ := onL_mem.mp hm
        obtain ⟨r, hr1⟩ : ∃ r, rs[m]? = some r := ⟨_, List.getElem?_eq_getElem lm⟩
        obtain ⟨j, jm, lj, nob, bec⟩ := right_else he hr1 (by rw [lineAt_some hr1] at hlm; exact of_decide_eq_true hlm) nw
        -- the last ring ahead of it
        refine ⟨_, rfl, D, rfl, ⟨_, SqL.of r14⟩, fun M hM => ?_⟩
        refine lc_it (walk_list (xs := (onL rs e rs.length).map nv)) (fun i H' => Same H13 H' ∧ H' M = some (.lst ((((onL rs e rs.length).take i).filter fun k => decide (k < m)).map nv))) ⟨same_new (Same.refl _) hM, upd_same⟩ (fun i H' _ z => SqL.of (z.1 _ _ r14)) ?_ ?_
        · rintro i x H14 H15 hi ⟨s14, e14⟩ ⟨rfl, hx⟩
          have hx : ((onL rs e rs.length).map nv)[i]? = some x := hx
          rw [List.length_map] at hi
          obtain ⟨n, hn⟩ : ∃ n, (onL rs e rs.length)[i]? = some n := ⟨_, List.getElem?_eq_getElem hi⟩
          rw [List.getElem?_map, hn] at hx
          obtain rfl : nv n = x := Option.some.inj hx
          have et : ((onL rs e rs.length).take (i + 1)).filter (fun k => decide (k < m)) = ((onL rs e rs.length).take i).filter (fun k => decide (k < m)) ++ (if n < m then [n] else []) := by
            rw [List.take_succ, hn, List.filter_append]
            congr 1
            by_cases c : n < m
            · rw [if_pos c]
              exact List.filter_cons_of_pos (decide_eq_true c)
            · rw [if_neg c]
              exact List.filter_cons_of_neg (by simpa using c)
          rw [et]
          refine ⟨rfl, _, rfl, _, rfl, _, _, rfl, rfl, _, rfl, ite2 (fun y => ?_) (fun y => ?_)⟩
          · have y : n < m := by have := of_decide_eq_true y; omega
            rw [if_pos y]
            refine ⟨_, rfl, _, e14, ?_, same_own s14 hM, ?_⟩
            · rw [List.length_map]
              have := List.length_filter_le (fun k => decide (k < m)) ((onL rs e rs.length).take i)
              rw [List.length_take] at this
              exact small1000 (by omega)
            · rw [upd_same, List.map_append]
              rfl
          · rw [if_neg (fun z => y (decide_eq_true (by omega))), List.append_nil]
            exact ⟨s14, e14⟩
        rintro H14 ⟨s14, e14⟩
        rw [List.length_map, List.take_length] at e14
        have jr : j ∈ onL rs e rs.length := onL_mem.mpr ⟨by omega, lj⟩
        have jf : j ∈ (onL rs e rs.length).filter fun k => decide (k < m) := List.mem_filter.mpr ⟨jr, decide_eq_true jm⟩
        have jtop : ∀ n ∈ (onL rs e rs.length).filter (fun k => decide (k < m)), n ≤ j := fun n hn => by
          obtain ⟨n1, n2⟩ := List.mem_filter.mp hn
          have n2 := of_decide_eq_true n2
          by_cases c : j < n
          · have := nob n c n2
            rw [line_of n1] at this
            cases this
          · omega
        rw [nvs_int] at e14
        refine ⟨M, _, rfl, SqL.of e14, by rw [List.length_map]; exact List.length_pos_of_mem jf, fun mx hmx top => ?_⟩
        obtain rfl : mx = (j : Int) := by
          obtain ⟨n, hn, rfl⟩ := List.mem_map.mp hmx
          have a1 := jtop n hn
          have a2 := top (Int.ofNat j) (List.mem_map.mpr ⟨j, jf, rfl⟩)
          have a2 : (j : Int) ≤ (n : Int) := a2
          show ((n : Nat) : Int) = (j : Int)
          omega
        -- the one that was answered ahead
        have f15 := s14 _ _ f14
        have an14 := an13.imp fun _ _ z => same_seqT (s13.trans s14) z
        obtain ⟨ij, lij, eij⟩ := List.getElem_of_mem jr
        have hij : (onL rs e rs.length)[ij]? = some j := by rw [List.getElem?_eq_getElem lij, eij]
        refine ⟨_, rfl, q, rfl, ⟨_, SqL.of f15⟩, fun B hB => ?_⟩
        refine lc_it (walk_list (xs := as4.map V.ref)) (fun i H' => Same H14 H' ∧ ∃ cs : List Addr, H' B = some (.lst (cs.map V.ref)) ∧ cs.length ≤ i ∧ (∀ a ∈ cs, ∃ x ∈ ds, SqT K H14 a [nv x.1, .str x.2.1, kv x.2.2]) ∧ (ij < i → cs ≠ [])) ⟨same_new (Same.refl _) hB, [], upd_same, Nat.le_refl _, (fun d hd => nomatch hd), fun z => absurd z (Nat.not_lt_zero _)⟩ (fun i H' _ z => SqL.of (z.1 _ _ f15)) ?_ ?_
        · rintro i x H15 H16 hi ⟨s15, cs, e15, l15, sub, ne⟩ ⟨rfl, hx⟩
          have hx : (as4.map V.ref)[i]? = some x := hx
          rw [List.length_map, la4.1] at hi
          obtain ⟨n, hn⟩ : ∃ n, (onL rs e rs.length)[i]? = some n := ⟨_, List.getElem?_eq_getElem hi⟩
          obtain ⟨a, word, kk, ha, hd, ra, bec2⟩ := an14.at_ hn
          rw [List.getElem?_map, ha] at hx
          obtain rfl : V.ref a = x := Option.some.inj hx
          have row := same_seqT s15 ra
          have es : ∀ c : Str, decide (V.str word = V.str c) = decide (word = c) := fun c => by
            rw [Bool.eq_iff_iff, decide_eq_true_iff, decide_eq_true_iff]
            exact ⟨fun z => (V.str.inj z), fun z => congrArg V.str z⟩
          have en : decide (nv n = V.int (j : Int)) = decide (n = j) := by
            rw [Bool.eq_iff_iff, decide_eq_true_iff, decide_eq_true_iff]
            exact ⟨fun z => Int.ofNat.inj (V.int.inj z), fun z => congrArg nv z⟩
          have nij : n ≠ j → ¬ ij = i := fun c z => by
            subst z
            rw [hij] at hn
            exact c (Option.some.inj hn).symm
          refine ⟨rfl, _, rfl, a, _, _, _, rfl, rfl, row, rfl, _, rfl, rfl, _, rfl, ?_⟩
          have on_ : ¬ ij = i → (Same H14 H16 ∧ ∃ cs : List Addr, H16 B = some (.lst (cs.map V.ref)) ∧ cs.length ≤ i + 1 ∧ (∀ a ∈ cs, ∃ x ∈ ds, SqT K H14 a [nv x.1, .str x.2.1, kv x.2.2]) ∧ (ij < i + 1 → cs ≠ [])) := fun z => ⟨s15, cs, e15, by omega, sub, fun y => ne (by omega)⟩
          rw [en]
          refine ite2 (fun y => ?_) (fun y => on_ (nij fun z => y (decide_eq_true z)))
          have y := of_decide_eq_true y
          subst y
          obtain ⟨k', rfl, rfl, k1⟩ := bec word kk bec2
          have k2 : k' ≠ m := fun z => nu (z ▸ umem.mpr ⟨n, List.mem_of_getElem? hd⟩)
          refine ⟨_, rfl, a, _, _, _, rfl, rfl, row, rfl, rfl, _, rfl, ?_⟩
          rw [decide_eq_true rfl]
          refine ⟨_, rfl, a, _, _, _, rfl, rfl, row, rfl, _, rfl, _, _, rfl, rfl, _, rfl, ?_⟩
          rw [decide_eq_true (show (k' : Int) < (m : Int) by omega)]
          refine ⟨_, rfl, _, e15, by rw [List.length_map]; exact small1000 (by omega), same_own s15 hB, cs ++ [a], by rw [upd_same, List.map_append]; rfl, by rw [List.length_append]; show _ + 1 ≤ i + 1; omega, fun b hb => ?_, fun _ z => by simp at z⟩
          rcases List.mem_append.mp hb with z | z
          · exact sub b z
          · obtain rfl := List.mem_singleton.mp z
            exact ⟨_, List.mem_of_getElem? hd, ra⟩
        rintro H15 ⟨s15, cs, e15, l15, sub, ne⟩
        rw [List.length_map, la4.1] at l15 ne
        refine ⟨(by show 0 ≤ sizeLine; decide), fun z3 hz3 => ?_⟩
        generalize hX : upd H15 z3 _ = H16
        obtain ⟨S16, f16⟩ := alloc hz3 hX
        clear hX
        obtain ⟨dd, dp, ld, sd⟩ := some_dp (fun b hb => by
          obtain ⟨x, hx, z⟩ := sub b hb
          exact ⟨x, hx, same_seqT (s15.trans S16) z⟩ : ∀ a ∈ cs, ∃ x ∈ ds, SqT K H16 a [nv x.1, .str x.2.1, kv x.2.2])
        have repd : RepOk (.list dd) 2 1148 := (RepOk.list fun d hd => an.rep hlen d (sd d hd)).mono (Nat.le_refl _) (by omega)
        refine ⟨.list dd, .list [], .lst (SqL.of (S16 _ _ e15)) dp, .lst (SqL.of f16) .nil, repd.shaped (by decide), by decide +kernel, _, rfl, ?_⟩
        rw [eqv_nil, decide_eq_false (fun z => ne lij (List.eq_nil_of_length_eq_zero (by rw [← ld, z]; rfl)))]
        show if false = true then _ else _
        exact ⟨_, _, rfl, s13.trans (s14.trans (s15.trans S16))⟩
      · rintro σ H13 ⟨x9, x10, rfl, s13⟩
        exact k _ (S12.trans (S24.trans (S47.trans (S79.trans (S911.trans (s12.trans s13))))))
/-! ### a row more behind all -/
theorem get_more {rs : List Row} {r : Row} {j : Nat} (h : j < rs.length) : (rs ++ [r])[j]? = rs[j]? := List.getElem?_append_left h
theorem get_end {rs : List Row} {r : Row} : (rs ++ [r])[rs.length]? = some r := by
  rw [List.getElem?_append_right (Nat.le_refl _), Nat.sub_self]
  rfl
theorem hit_more {rs : List Row} {r : Row} {e : Str} {w : What} {j : Nat} (h : j < rs.length) : hitAt (rs ++ [r]) e w j = hitAt rs e w j := by
  unfold hitAt
  rw [get_more h]
theorem line_more {rs : List Row} {r : Row} {e : Str} {j : Nat} (h : j < rs.length) : lineAt (rs ++ [r]) e j = lineAt rs e j := by
  unfold lineAt
  rw [get_more h]
theorem len_more {rs : List Row} {r : Row} : (rs ++ [r]).length = rs.length + 1 := by
  rw [List.length_append]
  rfl
theorem onL_more {rs : List Row} {r : Row} {e : Str} : onL (rs ++ [r]) e (rs ++ [r]).length = onL rs e rs.length ++ (if r.l = e then [rs.length] else []) := by
  rw [len_more, onL_succ]
  have s : onL (rs ++ [r]) e rs.length = onL rs e rs.length := by
    unfold onL
    exact List.filter_congr fun j hj => line_more (List.mem_range.mp hj)
  rw [s, lineAt_some get_end]
  by_cases c : r.l = e
  · rw [if_pos (decide_eq_true c), if_pos c]
  · rw [if_neg (fun z => c (of_decide_eq_true z)), if_neg c, List.append_nil]
/-- what has been answered or taken stays so -/
theorem became_done {rs : List Row} {e : Str} {n k : Nat} {word : Str} (r : Row) (h : Became rs e n word (some k)) : Became (rs ++ [r]) e n word (some k) := by
  have lt : ∀ {r2 : Row} {k : Nat}, rs[k]? = some r2 → k < rs.length := fun q => (List.getElem?_eq_some_iff.mp q).1
  cases h with
  | @taken r1 r2 k p1 p2 p3 p4 p5 =>
    have a := lt p1
    have b := lt p3
    exact .taken (by rw [get_more a]; exact p1) p2 (by rw [get_more b]; exact p3) p4 fun j h1 h2 => by rw [hit_more (by omega)]; exact p5 j h1 h2
  | @answered r1 r2 k p1 p2 p3 p4 p5 p6 p7 =>
    have a := lt p1
    have b := lt p3
    exact .answered (by rw [get_more a]; exact p1) p2 (by rw [get_more b]; exact p3) p4 p5 p6 fun j h1 h2 => by rw [hit_more (by omega)]; exact p7 j h1 h2
/-- what was open -/
theorem became_open {rs : List Row} {e : Str} {n : Nat} (he : e ∈ engines) {r r1 : Row} (h : Became rs e n "open" none) (h1 : rs[n]? = some r1) :
    Became (rs ++ [r]) e n (if r.l = e then "taken" else if r.l = dialOf e ∧ r.w = r1.w then "answered" else "open") (if r.l = e ∨ (r.l = dialOf e ∧ r.w = r1.w) then some rs.length else none) := by
  have lt : n < rs.length := (List.getElem?_eq_some_iff.mp h1).1
  have no : ∀ j, n < j → j < rs.length → hitAt rs e r1.w j = false := by
    generalize hw : ("open" : Str) = word at h
    cases h with
    | @open_ r2 p1 p2 =>
      rw [h1] at p1
      obtain rfl := Option.some.inj p1
      exact p2
  have g1 : (rs ++ [r])[n]? = some r1 := by rw [get_more lt]; exact h1
  have no2 : ∀ j, n < j → j < rs.length → hitAt (rs ++ [r]) e r1.w j = false := fun j a b => by rw [hit_more b]; exact no j a b
  by_cases c : r.l = e
  · rw [if_pos c, if_pos (.inl c)]
    exact .taken g1 lt get_end c no2
  · rw [if_neg c]
    by_cases d : r.l = dialOf e ∧ r.w = r1.w
    · rw [if_pos d, if_pos (.inr d)]
      exact .answered g1 lt get_end d.1 d.2 (dial_ne he) no2
    · rw [if_neg d, if_neg (fun z => z.elim c d)]
      refine .open_ g1 fun j a b => ?_
      rw [len_more] at b
      by_cases y : j < rs.length
      · exact no2 j a y
      · obtain rfl : j = rs.length := by omega
        unfold hitAt
        rw [get_end]
        show (decide (r.l = e) || (decide (r.l = dialOf e) && decide (r.w = r1.w))) = false
        rw [decide_eq_false c, Bool.false_or]
        by_cases f : r.l = dialOf e
        · rw [decide_eq_false (fun z => d ⟨f, z⟩), Bool.and_false]
        · rw [decide_eq_false f, Bool.false_and]
/-- a ring behind all is open -/
theorem became_new {rs : List Row} {e : Str} {r : Row} : Became (rs ++ [r]) e rs.length "open" none := .open_ get_end fun j a b => by
  rw [len_more] at b
  omega
theorem wrong_more {rs : List Row} {r : Row} {e : Str} : ∀ i, i ≤ rs.length → wrongTo e (rs ++ [r]) i = wrongTo e rs i
  | 0, _ => rfl
  | i + 1, h => by
    have g : rs[i]? = some (rs[i]'(by omega)) := List.getElem?_eq_getElem (by omega)
    rw [wrongTo_succ g, wrongTo_succ (by rw [get_more (by omega)]; exact g), wrong_more i (by omega)]
/-- a row more is wrong, or isn't -/
theorem wrong_end {rs : List Row} {r : Row} {e : Str} : wrongTo e (rs ++ [r]) (rs ++ [r]).length = wrongStep e (wrongTo e rs rs.length) rs.length r := by
  rw [len_more, wrongTo_succ get_end, wrong_more _ (Nat.le_refl _)]
theorem wire_in (wire : Str) : inV (V.str wire) [V.str (Str.ofString "down"), V.str (Str.ofString "up")] = decide (wire ∈ tubes) := by
  rw [Bool.eq_iff_iff]
  simp only [inV, List.any_cons, List.any_nil, Bool.or_false, eqV, Bool.or_eq_true, beq_iff_eq, decide_eq_true_eq, tubes, List.mem_cons, List.not_mem_nil, or_false]
  constructor
  · rintro (z | z)
    · exact .inl z.symm
    · exact .inr z.symm
  · rintro (z | z)
    · exact .inl z.symm
    · exact .inr z.symm
theorem atI_last {α : Type} {xs : List α} (h : xs ≠ []) : atI xs (-1) = xs[xs.length - 1]? := by
  have l : 0 < xs.length := List.length_pos_iff.mpr h
  unfold atI ixN
  rw [if_neg (by decide), if_pos (by omega)]
  show xs[((-1 : Int) + xs.length).toNat]? = _
  congr 1
  omega
theorem asc_last {ns : List Nat} (asc : ns.Pairwise (· < ·)) {j : Nat} (h : ns[ns.length - 1]? = some j) : ∀ k ∈ ns, k ≤ j := fun k hk => by
  obtain ⟨i, li, ei⟩ := List.getElem_of_mem hk
  obtain ⟨lj, ej⟩ := List.getElem?_eq_some_iff.mp h
  rcases Nat.lt_or_ge i (ns.length - 1) with z | z
  · have := List.pairwise_iff_getElem.mp asc i (ns.length - 1) li lj z
    rw [ei, ej] at this
    omega
  · have : i = ns.length - 1 := by omega
    subst this
    rw [ei] at ej
    omega
theorem rung_nil {rs : List Row} {e : Str} (h : onL rs e rs.length = []) : (wrongTo e rs rs.length).1 = none := by
  cases z : (wrongTo e rs rs.length).1 with
  | none => rfl
  | some w =>
    obtain ⟨j, r, h1, h2, h3, _⟩ := (rung_of _).mp z
    have : j ∈ onL rs e rs.length := onL_mem.mpr ⟨h1, by rw [lineAt_some h2]; exact decide_eq_true h3⟩
    rw [h] at this
    simp at this
theorem rung_last {rs : List Row} {e : Str} {j : Nat} {r : Row} (h : (onL rs e rs.length)[(onL rs e rs.length).length - 1]? = some j) (hr : rs[j]? = some r) : (wrongTo e rs rs.length).1 = some r.w := by
  have jm := List.mem_of_getElem? h
  obtain ⟨j1, j2⟩ := onL_mem.mp jm
  refine (rung_of _).mpr ⟨j, r, j1, hr, by rw [lineAt_some hr] at j2; exact of_decide_eq_true j2, rfl, fun k k1 k2 => ?_⟩
  cases z : lineAt rs e k with
  | false => rfl
  | true =>
    have := asc_last (onL_lt_pair rs e rs.length) h k (onL_mem.mpr ⟨k2, z⟩)
    omega
theorem became_word {rs : List Row} {e : Str} {n : Nat} {word : Str} {k : Option Nat} (h : Became rs e n word k) : (word = "open" ∧ k = none) ∨ (word ≠ "open" ∧ ∃ j, k = some j) := by
  cases h with
  | open_ _ _ => exact .inl ⟨rfl, rfl⟩
  | taken _ _ _ _ _ => exact .inr ⟨by decide +kernel, _, rfl⟩
  | answered _ _ _ _ _ _ _ => exact .inr ⟨by decide +kernel, _, rfl⟩
theorem ans_more {K : PySem.W.Frag} {H : Hp} {rs : List Row} {e : Str} {ns : List Nat} {as : List Addr} {ds : List (Nat × Str × Option Nat)} (r : Row) (h : AnsAt K H rs e ns as ds) :
    (∀ m ∈ ns, ∃ j, m < j ∧ j < rs.length ∧ lineAt rs e j = true) → AnsAt K H (rs ++ [r]) e ns as ds := by
  induction h with
  | nil => exact fun _ => .nil
  | @snoc ns as ds n a word k _ h2 h3 ih =>
    intro f
    refine .snoc (ih fun m hm => f m (List.mem_append_left _ hm)) h2 ?_
    rcases became_word h3 with ⟨rfl, rfl⟩ | ⟨_, j, rfl⟩
    · obtain ⟨j, j1, j2, j3⟩ := f n (List.mem_append_right _ (List.mem_singleton.mpr rfl))
      rw [(open_none h3).2 j j1 j2] at j3
      cases j3
    · exact became_done r h3
theorem atI_snoc {as : List Addr} {a : Addr} : atI ((as ++ [a]).map V.ref) (-1) = some (.ref a) := by
  rw [atI_last (by simp), List.length_map, List.getElem?_map, List.length_append]
  show ((as ++ [a])[as.length + 1 - 1]?).map V.ref = _
  rw [Nat.add_sub_cancel, List.getElem?_append_right (Nat.le_refl _), Nat.sub_self]
  rfl
theorem ixN_snoc {as : List Addr} {a : Addr} : ixN ((as ++ [a]).map V.ref).length (-1) = some as.length := by
  rw [List.length_map, List.length_append]
  unfold ixN
  rw [if_neg (by decide), if_pos (by show -((as.length + 1 : Nat) : Int) ≤ -1; omega)]
  congr 1
  show ((-1 : Int) + ((as.length + 1 : Nat) : Int)).toNat = _
  omega
theorem set_snoc {as : List Addr} {a b : Addr} : ((as ++ [a]).map V.ref).set as.length (.ref b) = (as ++ [b]).map V.ref := by
  rw [List.map_append, List.map_append, List.set_append, List.length_map, if_neg (Nat.lt_irrefl _), Nat.sub_self]
  rfl
theorem str_eq (a b : Str) : decide (V.str a = V.str b) = decide (a = b) := by
  rw [Bool.eq_iff_iff, decide_eq_true_iff, decide_eq_true_iff]
  exact ⟨fun z => V.str.inj z, fun z => congrArg V.str z⟩
def spMore (K : PySem.W.Frag) : Sp := fun vs H Q _ => ∃ (p c t : Addr) (n : Nat) (rs : List Row) (e : Str), vs = [.ref p, .ref t, .str e] ∧ PenAt H p c n ∧ Cells K H p c ∧ n ≤ 900000 ∧ LogAt K H t rs ∧ rs.length ≤ 40 ∧ (∀ r ∈ rs, r.Ok) ∧ e ∈ engines ∧ ∀ H', Go K p c H (n + 3) H' → Q (.bl true) H'
theorem ok_more_right (T : Txt w K mg) : FnOk P w K mg base CX0 4 T.a_more_right T.d_more_right ["_law_pen_here", "_law_log_here", "_law_engine"] (spMore K) := by
  have G_pick := ok_pick (P := P) (base := base) T
  have G_draw := ok_draw (P := P) (base := base) T
  have G_answers := ok_answers (P := P) (base := base) T
  have G_wrong_answers := ok_wrongs (P := P) (base := base) T
  refine T.F_more_right.ok sc_more_right (fun vs H Q E h => ?_) (fun cdv A outer s H vs Q E hr h => ?_)
  · obtain ⟨p, c, t, n, rs, e, rfl, _⟩ := h
    rfl
  · obtain ⟨p, c, t, n, rs, e, rfl, hp, hc, hn, hL, hlen, oks, he, k⟩ := h
    have hr_answers := hr
    have hr_wrong_answers := hr.mono (show 2 ≤ 3 by decide)
    have hr_pick := hr_wrong_answers
    have hr_draw := hr.mono (show 1 ≤ 3 by decide)
    refine ⟨_, (pss_cons (ps_set (i := 3) sc_more_right.nd rfl (by first | exact Or.inl rfl | exact Or.inr rfl) (pe_call G_pick hr_pick (by rfl) T.g_pick T.F_pick.kp T.b_pick .nil pass0 (pa_cons (pv 0) (pa_cons (pe_lst (pa_cons pe_str (pa_cons pe_str (pa_cons pe_str (pa_cons pe_str pa_nil))))) pa_nil))))
  (pss_cons (ps_set (i := 4) sc_more_right.nd rfl (by first | exact Or.inl rfl | exact Or.inr rfl) (pe_op op_sub (pe_call G_draw hr_draw (by rfl) T.g_draw T.F_draw.kp T.b_draw .nil pass0 (pa_cons (pv 0) (pa_cons pe_int pa_nil))) pe_int))
  (C8.pss_cut (ps_if (PW.pt (pw_and (pt_cmpR op_gt (pe_callB (k_len K) (by rfl) T.z_len (by decide +kernel) (pa_cons (pv 1) pa_nil)) pe_int (nomark _)) (pw_and (pt_cmpR (k_notin K) (pe_ix (kx_tup K) (pe_ix (kx_tup K) (pv 1) (pe_un un_neg pe_int) (fun _ _ => rfl)) pe_int (fun _ _ => rfl)) (pe_tup (pa_cons pe_str (pa_cons pe_str pa_nil))) (by rfl)) (pw_and1 (pt_cmpR op_gt (pe_call G_draw hr_draw (by rfl) T.g_draw T.F_draw.kp T.b_draw .nil pass0 (pa_cons (pv 0) (pa_cons pe_int pa_nil))) pe_int (nomark _)))))) (pss_one (ps_set (i := 4) sc_more_right.nd rfl (by first | exact Or.inl rfl | exact Or.inr rfl) (pe_ix (kx_tup K) (pe_ix (kx_tup K) (pv 1) (pe_un un_neg pe_int) (fun _ _ => rfl)) pe_int (fun _ _ => rfl)))) pss_nil)
  (pss_cons (ps_set (i := 5) sc_more_right.nd rfl (by first | exact Or.inl rfl | exact Or.inr rfl) (pe_op (k_catU K) (pv 1) (pe_tup (pa_cons (pe_tup (pa_cons pe_int (pa_cons (pv 3) (pa_cons (pv 4) pa_nil)))) pa_nil))))
  (pss_cons (ps_set (i := 6) sc_more_right.nd rfl (by first | exact Or.inl rfl | exact Or.inr rfl) (pe_call G_answers hr_answers (by rfl) T.g_answers T.F_answers.kp T.b_answers .nil pass0 (pa_cons (pv 1) (pa_cons (pv 2) pa_nil))))
  (pss_cons (ps_set (i := 7) sc_more_right.nd rfl (by first | exact Or.inl rfl | exact Or.inr rfl) (pe_call G_wrong_answers hr_wrong_answers (by rfl) T.g_wrong_answers T.F_wrong_answers.kp T.b_wrong_answers .nil pass0 (pa_cons (pv 1) (pa_cons (pv 2) pa_nil))))
  (C8.pss_cut (ps_if (PW.pt (pw_and (pt_cmpR op_eq (pv 3) (pe_op op_add_str pe_str (pv 2)) (nomark _)) (pw_and1 (PW.pt (pw_or (pt_cmpR (k_eqD K hr.units) (pv 6) (pe_lst pa_nil) (nomark _)) (pw_or1 (pt_cmpR op_ne (pe_ix (kx_tup K) (pe_ix (kx_tup K) (pv 1) (pe_ix (kx_tup K) (pe_ix (kx_list K) (pv 6) (pe_un un_neg pe_int) (fun _ _ => rfl)) pe_int (fun _ _ => rfl)) (fun _ _ => rfl)) pe_int (fun _ _ => rfl)) (pv 4) (nomark _)))))))) (pss_one (ps_expr (pe_bm PySem.F.plainAttrs_list PySem.F.slot_list_append PySem.F.type_list_append mt_append (pv 7) (pa_cons (pe_callB (k_len K) (by rfl) T.z_len (by decide +kernel) (pa_cons (pv 1) pa_nil)) pa_nil)))) pss_nil)
  (C8.pss_cut (ps_if (PW.pt (pw_and (pt_cmpR (k_neD K hr.units) (pv 6) (pe_lst pa_nil) (nomark _)) (pw_and1 (pt_cmpR op_eq (pe_ix (kx_tup K) (pe_ix (kx_list K) (pv 6) (pe_un un_neg pe_int) (fun _ _ => rfl)) pe_int (fun _ _ => rfl)) pe_str (nomark _))))) (C8.pss_cut (ps_if (pt_cmpR op_eq (pv 3) (pv 2) (nomark _)) (pss_one (ps_asg (pe_tup (pa_cons (pe_ix (kx_tup K) (pe_ix (kx_list K) (pv 6) (pe_un un_neg pe_int) (fun _ _ => rfl)) pe_int (fun _ _ => rfl)) (pa_cons pe_str (pa_cons (pe_callB (k_len K) (by rfl) T.z_len (by decide +kernel) (pa_cons (pv 1) pa_nil)) pa_nil)))) (pg_sub (pv 6) (pe_un un_neg pe_int) set_list))) pss_nil)
  (pss_one (ps_if (PW.pt (pw_and (pt_cmpR op_eq (pv 3) (pe_op op_add_str pe_str (pv 2)) (nomark _)) (pw_and1 (pt_cmpR op_eq (pe_ix (kx_tup K) (pe_ix (kx_tup K) (pv 1) (pe_ix (kx_tup K) (pe_ix (kx_list K) (pv 6) (pe_un un_neg pe_int) (fun _ _ => rfl)) pe_int (fun _ _ => rfl)) (fun _ _ => rfl)) pe_int (fun _ _ => rfl)) (pv 4) (nomark _))))) (pss_one (ps_asg (pe_tup (pa_cons (pe_ix (kx_tup K) (pe_ix (kx_list K) (pv 6) (pe_un un_neg pe_int) (fun _ _ => rfl)) pe_int (fun _ _ => rfl)) (pa_cons pe_str (pa_cons (pe_callB (k_len K) (by rfl) T.z_len (by decide +kernel) (pa_cons (pv 1) pa_nil)) pa_nil)))) (pg_sub (pv 6) (pe_un un_neg pe_int) set_list))) pss_nil))) pss_nil)
  (C8.pss_cut (ps_if (pt_cmpR op_eq (pv 3) (pv 2) (nomark _)) (pss_one (ps_expr (pe_bm PySem.F.plainAttrs_list PySem.F.slot_list_append PySem.F.type_list_append mt_append (pv 6) (pa_cons (pe_tup (pa_cons (pe_callB (k_len K) (by rfl) T.z_len (by decide +kernel) (pa_cons (pv 1) pa_nil)) (pa_cons pe_str (pa_cons pe_non pa_nil)))) pa_nil)))) pss_nil)
  (pss_one (ps_ret (pe_and (pe_cmpR (k_eqD K hr.units) (pe_call G_answers hr_answers (by rfl) T.g_answers T.F_answers.kp T.b_answers .nil pass0 (pa_cons (pv 5) (pa_cons (pv 2) pa_nil))) (pv 6) (nomark _)) (pe_one (pe_cmpR (k_eqD K hr.units) (pe_call G_wrong_answers hr_wrong_answers (by rfl) T.g_wrong_answers T.F_wrong_answers.kp T.b_wrong_answers .nil pass0 (pa_cons (pv 5) (pa_cons (pv 2) pa_nil))) (pv 7) (nomark _))))))))))))))), ?_⟩
    refine ⟨_, rfl, (by show 4 ≤ sizeLine; decide), fun l2 hl2 => ?_⟩
    generalize hX : upd H l2 _ = H1
    obtain ⟨S1, f1⟩ := alloc hl2 hX
    clear hX
    have g0 := Go.refl hp hc
    have g1 := g0.same S1
    refine ⟨p, c, l2, _, _, rfl, g1.pen, g1.cel, by omega, .inl ⟨SqL.of f1, Ne.symm (g0.ne_new hl2)⟩, by simp, (by show 4 ≤ 1000000; decide), fun H2 v g2 hv => ?_⟩
    obtain ⟨l', rfl, ol1, ol2⟩ : ∃ l' : Str, v = V.str l' ∧ l' ∈ lines6 ∧ l' ∉ tubes := by
      have z : v = V.str (Str.ofString "port") ∨ v = V.str (Str.ofString "star") ∨ v = V.str (Str.ofString "aport") ∨ v = V.str (Str.ofString "astar") := by simpa using hv
      rcases z with z | z | z | z <;> exact ⟨_, z, by decide +kernel, by decide +kernel⟩
    clear hv
    have gg2 := g1.trans g2
    refine ⟨_, rfl, p, c, _, _, rfl, gg2.pen, gg2.cel, by omega, by decide, by decide, fun H3 d3 g3 a3 b3 => ?_⟩
    have gg3 := gg2.trans g3
    have L3 := ((hL.same S1).go g1.pen g2.but).go gg2.pen g3.but
    refine ⟨_, _, rfl, rfl, ?_⟩
    -- the order of the row
    refine ⟨fun σ2 H2 => ∃ od : Int, σ2 = [some (.ref p), some (.ref t), some (.str e), some (.str l'), some (.int od), none, none, none] ∧ -4 ≤ od ∧ od ≤ 4 ∧ Go K p c H (n + 3) H2 ∧ LogAt K H2 t rs, ?_, ?_⟩
    · obtain ⟨as, hT, hR⟩ := id L3
      have la := hR.length
      have none_ : ∃ od : Int, ([some (.ref p), some (.ref t), some (.str e), some (.str l'), some (.int (d3 - 4)), none, none, none] : List (Option V)) = [some (.ref p), some (.ref t), some (.str e), some (.str l'), some (.int od), none, none, none] ∧ -4 ≤ od ∧ od ≤ 4 ∧ Go K p c H (n + 3) H3 ∧ LogAt K H3 t rs := ⟨d3 - 4, rfl, by omega, by omega, gg3.mono (by omega), L3⟩
      refine ⟨_, rfl, t, _, rfl, .inr hT, _, _, rfl, rfl, _, rfl, ite2 (fun y => ?_) (fun y => none_)⟩
      have y : 0 < as.length := by
        have := of_decide_eq_true y
        rw [List.length_map] at this
        omega
      obtain ⟨r, hr1⟩ : ∃ r, rs[rs.length - 1]? = some r := ⟨_, List.getElem?_eq_getElem (by omega)⟩
      obtain ⟨al, ha, row⟩ := hR.get hr1
      have ea : atI (as.map V.ref) (-1) = some (.ref al) := by
        rw [atI_last (fun z => by rw [List.map_eq_nil_iff] at z; rw [z] at y; exact absurd y (by decide)), List.length_map, List.getElem?_map, la, ha]
        rfl
      have okr := oks r (List.mem_of_getElem? hr1)
      refine ⟨_, rfl, 1, rfl, t, _, _, _, rfl, rfl, hT, ea, al, _, _, _, rfl, rfl, row, rfl, (by show 2 ≤ sizeLine; decide), fun u hu => ?_⟩
      generalize hX : upd H3 u _ = H4
      obtain ⟨S4, f4⟩ := alloc hu hX
      clear hX
      refine ⟨u, _, rfl, .inr (SqT.of f4), rfl, rfl, _, rfl, ?_⟩
      have gg4 := gg3.same S4
      have L4 := L3.same S4
      show if (!inV (V.str r.l) [V.str (Str.ofString "down"), V.str (Str.ofString "up")]) = true then _ else _
      rw [wire_in]
      have none4 : ∃ od : Int, ([some (.ref p), some (.ref t), some (.str e), some (.str l'), some (.int (d3 - 4)), none, none, none] : List (Option V)) = [some (.ref p), some (.ref t), some (.str e), some (.str l'), some (.int od), none, none, none] ∧ -4 ≤ od ∧ od ≤ 4 ∧ Go K p c H (n + 3) H4 ∧ LogAt K H4 t rs := ⟨d3 - 4, rfl, by omega, by omega, gg4.mono (by omega), L4⟩
      refine ite2 (fun y2 => ?_) (fun y2 => none4)
      have nt : r.l ∉ tubes := by
        intro z
        rw [decide_eq_true z] at y2
        cases y2
      refine ⟨_, rfl, p, c, _, _, rfl, gg4.pen, gg4.cel, by omega, by decide, by decide, fun H5 d5 g5 a5 b5 => ?_⟩
      have gg5 := gg4.trans g5
      have L5 := L4.go gg4.pen g5.but
      refine ⟨_, _, rfl, rfl, _, rfl, ite2 (fun y3 => ?_) (fun y3 => ?_)⟩
      · obtain ⟨_, wt, i', wi, i1, i2⟩ : ∃ _x : Unit, ∃ _y : Unit, ∃ i' : Int, r.w = .order i' ∧ -4 ≤ i' ∧ i' ≤ 4 := by
          rcases okr.wh with ⟨z, _⟩ | ⟨_, i', z⟩
          · exact absurd z nt
          · exact ⟨(), (), i', z⟩
        have hT5 := seqT_go (same_seqT S4 hT) gg4.pen g5.but
        have row5 := seqT_go (same_seqT S4 row) gg4.pen g5.but
        rw [wi] at row5
        exact ⟨_, rfl, 1, rfl, t, _, _, _, rfl, rfl, hT5, ea, al, _, _, _, rfl, rfl, row5, rfl, i', rfl, i1, i2, gg5.mono (by omega), L5⟩
      · exact ⟨d3 - 4, rfl, by omega, by omega, gg5.mono (by omega), L5⟩
    · rintro σ2 H4 ⟨od, rfl, od1, od2, g4, L4⟩
      refine ⟨_, rfl, _, rfl, _, rfl, (by show 3 ≤ sizeLine; decide), fun u1 hu1 => ?_⟩
      generalize hX : upd H4 u1 _ = H5
      obtain ⟨S5, f5⟩ := alloc hu1 hX
      clear hX
      refine ⟨(by show 1 ≤ sizeLine; decide), fun u2 hu2 => ?_⟩
      generalize hX : upd H5 u2 _ = H6
      obtain ⟨S6, f6⟩ := alloc hu2 hX
      clear hX
      obtain ⟨as, hT, hR⟩ := id L4
      have la := hR.length
      refine ⟨t, u2, _, _, rfl, rfl, same_seqT (S5.trans S6) hT, SqT.of f6, by rw [List.length_map]; exact Nat.le_trans (show _ ≤ 42 by show as.length + 1 ≤ 42; omega) (by decide), fun q0 H7 S7 sq0 => ?_⟩
      have S47 := S5.trans (S6.trans S7)
      have Lm : LogAt K H7 q0 (rs ++ [⟨99999, l', .order od⟩]) := ⟨as ++ [u1], by rw [List.map_append]; exact sq0, (hR.same S47).snoc (SqT.of (S7 _ _ (S6 _ _ f5)))⟩
      have okr : Row.Ok ⟨99999, l', .order od⟩ := ⟨show (0 : Int) ≤ 99999 by decide, show (99999 : Int) ≤ 99999 by decide, ol1, .inr ⟨ol2, _, rfl, od1, od2⟩⟩
      have okm : ∀ r ∈ rs ++ [⟨99999, l', .order od⟩], r.Ok := fun r hr => by
        rcases List.mem_append.mp hr with z | z
        · exact oks r z
        · obtain rfl := List.mem_singleton.mp z
          exact okr
      have g7 := g4.same S47
      have L7 := L4.same S47
      clear sq0 f5 f6 hT hR
      refine ⟨_, rfl, _, rfl, t, rs, e, rfl, L7, by omega, he, fun H8 q as ds S8 hq f8 an => ?_⟩
      refine ⟨_, rfl, _, rfl, t, rs, e, rfl, L7.same S8, by omega, oks, he, fun H9 wr S9 hwr f9 => ?_⟩
      have S79 := S8.trans S9
      have f9' := S9 _ _ f8
      have an9 := an.imp fun _ _ z => same_seqT S9 z
      have L9 := L7.same S79
      have Lm9 := Lm.same S79
      have g9 := g7.same S79
      have ndial : dialOf e ≠ e ∧ Str.ofString "a" ++ e = dialOf e ∧ ((Str.ofString "a").length + e.length ≤ sizeLine) := by
        have he2 : e = "port" ∨ e = "star" := by simpa [engines] using he
        rcases he2 with rfl | rfl <;> decide +kernel
      have nq : wr ≠ q := fun z => by
        rw [z] at hwr
        rw [f8] at hwr
        cases hwr
      clear f8 an Lm
      generalize hrn : (⟨99999, l', .order od⟩ : Row) = rn at *
      have la9 := an9.len
      -- the wrong ones, with the row more
      refine ⟨fun σ2 H2 => σ2 = [some (.ref p), some (.ref t), some (.str e), some (.str l'), some (.int od), some (.ref q0), some (.ref q), some (.ref wr)] ∧ Go K p c H (n + 3) H2 ∧ LogAt K H2 t rs ∧ LogAt K H2 q0 (rs ++ [rn]) ∧ H2 q = some (.lst (as.map V.ref)) ∧ AnsAt K H2 rs e (onL rs e rs.length) as ds ∧ H2 wr = some (.lst ((wrongTo e (rs ++ [rn]) (rs ++ [rn]).length).2.map V.int)), ?_, ?_⟩
      · have rl : rn.l = l' := by rw [← hrn]
        have rw_ : rn.w = .order od := by rw [← hrn]
        have wl := wrongTo_len e rs rs.length
        have base : ∀ H', Same H9 H' → (wrongTo e (rs ++ [rn]) (rs ++ [rn]).length).2 = (wrongTo e rs rs.length).2 → ([some (.ref p), some (.ref t), some (.str e), some (.str l'), some (.int od), some (.ref q0), some (.ref q), some (.ref wr)] : List (Option V)) = [some (.ref p), some (.ref t), some (.str e), some (.str l'), some (.int od), some (.ref q0), some (.ref q), some (.ref wr)] ∧ Go K p c H (n + 3) H' ∧ LogAt K H' t rs ∧ LogAt K H' q0 (rs ++ [rn]) ∧ H' q = some (.lst (as.map V.ref)) ∧ AnsAt K H' rs e (onL rs e rs.length) as ds ∧ H' wr = some (.lst ((wrongTo e (rs ++ [rn]) (rs ++ [rn]).length).2.map V.int)) := fun H' z y =>
          ⟨rfl, g9.same z, L9.same z, Lm9.same z, z _ _ f9', an9.imp fun _ _ x => same_seqT z x, by rw [y]; exact z _ _ f9⟩
        have more : ∀ H', Same H9 H' → (wrongTo e (rs ++ [rn]) (rs ++ [rn]).length).2 = (wrongTo e rs rs.length).2 ++ [(rs.length : Int)] → ∀ H'', H'' = upd H' wr (.lst ((wrongTo e rs rs.length).2.map V.int ++ [V.int rs.length])) → ([some (.ref p), some (.ref t), some (.str e), some (.str l'), some (.int od), some (.ref q0), some (.ref q), some (.ref wr)] : List (Option V)) = [some (.ref p), some (.ref t), some (.str e), some (.str l'), some (.int od), some (.ref q0), some (.ref q), some (.ref wr)] ∧ Go K p c H (n + 3) H'' ∧ LogAt K H'' t rs ∧ LogAt K H'' q0 (rs ++ [rn]) ∧ H'' q = some (.lst (as.map V.ref)) ∧ AnsAt K H'' rs e (onL rs e rs.length) as ds ∧ H'' wr = some (.lst ((wrongTo e (rs ++ [rn]) (rs ++ [rn]).length).2.map V.int)) := fun H' z y H'' hh => by
          subst hh
          have ew := z _ _ f9
          have bt : But wr H' (upd H' wr (.lst ((wrongTo e rs rs.length).2.map V.int ++ [V.int rs.length]))) := But.put
          have g8 := g7.same S8
          have low : ∀ {x : Addr} {rs' : List Row}, LogAt K H' x rs' → LogAt K (upd H' wr (.lst ((wrongTo e rs rs.length).2.map V.int ++ [V.int rs.length]))) x rs' := fun ⟨a1, a2, a3⟩ => ⟨a1, seqT_lst a2 ew bt, a3.lst ew bt⟩
          exact ⟨rfl, (g9.same z).own (g8.free hwr) (Ne.symm (g8.ne_new hwr)) hc, low (L9.same z), low (Lm9.same z), (upd_ne (Ne.symm nq)).trans (z _ _ f9'), an9.imp fun _ _ x => seqT_lst (same_seqT z x) ew bt, by rw [upd_same, y, List.map_append]; rfl⟩
        have es : decide (V.str l' = V.str (dialOf e)) = decide (l' = dialOf e) := by
          rw [Bool.eq_iff_iff, decide_eq_true_iff, decide_eq_true_iff]
          exact ⟨fun z => (V.str.inj z), fun z => congrArg V.str z⟩
        have keep : (¬ (l' = dialOf e ∧ some rn.w ≠ (wrongTo e rs rs.length).1)) → (wrongTo e (rs ++ [rn]) (rs ++ [rn]).length).2 = (wrongTo e rs rs.length).2 := fun z => by
          rw [wrong_end]
          unfold wrongStep
          by_cases c : rn.l = e
          · rw [if_pos c]
          · rw [if_neg c, if_neg (by rw [rl]; exact z)]
        have grow : l' = dialOf e → some rn.w ≠ (wrongTo e rs rs.length).1 → (wrongTo e (rs ++ [rn]) (rs ++ [rn]).length).2 = (wrongTo e rs rs.length).2 ++ [(rs.length : Int)] := fun z y => by
          rw [wrong_end]
          unfold wrongStep
          rw [if_neg (by rw [rl, z]; exact ndial.1), if_pos (by rw [rl]; exact ⟨z, y⟩)]
        refine ⟨_, rfl, _, rfl, _, _, rfl, rfl, ndial.2.2, rfl, _, rfl, ?_⟩
        rw [ndial.2.1, es]
        refine ite2 (fun y => ?_) (fun y => base _ (Same.refl _) (keep fun z => y (decide_eq_true z.1)))
        have y := of_decide_eq_true y
        refine ⟨_, rfl, (by show 0 ≤ sizeLine; decide), fun z1 hz1 => ?_⟩
        generalize hX : upd H9 z1 _ = H10
        obtain ⟨S10, f10⟩ := alloc hz1 hX
        clear hX
        have an10 := an9.imp fun _ _ x => same_seqT S10 x
        have repd : RepOk (.list (ds.map ansD)) 2 1148 := (RepOk.list fun d hd => an9.rep (by omega) d hd).mono (Nat.le_refl _) (by rw [List.length_map, la9.2]; have := onL_len rs e rs.length; omega)
        refine ⟨.list (ds.map ansD), .list [], .lst (SqL.of (S10 _ _ f9')) an10.dp, .lst (SqL.of f10) .nil, repd.shaped (by decide), by decide +kernel, _, rfl, ?_⟩
        rw [eqv_nil]
        have len9 : ((wrongTo e rs rs.length).2.map V.int).length < 1000 := by rw [List.length_map]; omega
        obtain ⟨as', hT, hR⟩ := id (L9.same S10)
        have la' := hR.length
        show if decide (ds.map ansD = []) = true then _ else _
        refine ite2 (fun y2 => ?_) (fun y2 => ?_)
        · have y2 : ds = [] := List.map_eq_nil_iff.mp (of_decide_eq_true y2)
          have on : onL rs e rs.length = [] := List.eq_nil_of_length_eq_zero (by rw [← la9.2, y2]; rfl)
          refine ⟨_, rfl, .inl ⟨rfl, _, SqL.of (S10 _ _ f9)⟩, _, rfl, t, _, rfl, .inr hT, ?_⟩
          refine ⟨wr, _, _, rfl, rfl, S10 _ _ f9, small1000 (Nat.le_of_lt len9), ?_⟩
          exact more _ S10 (grow y (by rw [rung_nil on]; exact nofun)) _ (by rw [List.length_map, la'])
        · have y2 : ds ≠ [] := fun z => y2 (by rw [z]; rfl)
          have pos : 0 < (onL rs e rs.length).length := by
            rw [← la9.2]
            exact List.length_pos_iff.mpr y2
          obtain ⟨j, hj⟩ : ∃ j, (onL rs e rs.length)[(onL rs e rs.length).length - 1]? = some j := ⟨_, List.getElem?_eq_getElem (by omega)⟩
          obtain ⟨aj, word, kk, ha, _, ra, bec⟩ := an10.at_ hj
          obtain ⟨rj, hrj⟩ : ∃ r, rs[j]? = some r := ⟨_, List.getElem?_eq_getElem (onL_mem.mp (List.mem_of_getElem? hj)).1⟩
          obtain ⟨al, hal, row⟩ := hR.get hrj
          have eq_ : atI (as.map V.ref) (-1) = some (.ref aj) := by
            rw [atI_last (fun z => by rw [List.map_eq_nil_iff] at z; rw [z] at la9; have := la9.1; simp at this; omega), List.length_map, List.getElem?_map, la9.1, ha]
            rfl
          have el : atI (as'.map V.ref) (j : Int) = some (.ref al) := atI_nat (by rw [List.getElem?_map, hal]; rfl)
          have rg := rung_last hj hrj
          have sc : scal rj.w.v (V.int od) = true := by rw [show V.int od = (What.order od).v from rfl]; exact scal_what _ _
          have ew : decide (rj.w.v = V.int od) = decide (some rn.w = (wrongTo e rs rs.length).1) := by
            rw [rg, rw_, Bool.eq_iff_iff, decide_eq_true_iff, decide_eq_true_iff]
            exact ⟨fun z => congrArg some (What.v_inj (a := rj.w) (b := .order od) z).symm, fun z => by rw [← Option.some.inj z]; rfl⟩
          refine ⟨_, rfl, _, rfl, 1, rfl, q, _, _, _, rfl, rfl, SqL.of (S10 _ _ f9'), eq_, aj, _, _, _, rfl, rfl, ra, rfl, t, _, _, _, rfl, rfl, hT, el, al, _, _, _, rfl, rfl, row, rfl, _, rfl, sc, _, rfl, ?_⟩
          rw [ew]
          refine ite2 (fun y3 => ?_) (fun y3 => ?_)
          · have y3 : some rn.w ≠ (wrongTo e rs rs.length).1 := fun z => by
              rw [decide_eq_true z] at y3
              cases y3
            refine ⟨_, rfl, .inl ⟨rfl, _, SqL.of (S10 _ _ f9)⟩, _, rfl, t, _, rfl, .inr hT, ?_⟩
            refine ⟨wr, _, _, rfl, rfl, S10 _ _ f9, small1000 (Nat.le_of_lt len9), ?_⟩
            exact more _ S10 (grow y y3) _ (by rw [List.length_map, la'])
          · refine base _ S10 (keep fun z => y3 ?_)
            rw [decide_eq_false z.2]
            rfl
      · rintro σ2 H10 ⟨rfl, g10, L10, Lm10, f10, an10, w10⟩
        have rl : rn.l = l' := by rw [← hrn]
        have rw_ : rn.w = .order od := by rw [← hrn]
        refine ⟨fun σ2 H2 => ∃ as2 ds2, σ2 = [some (.ref p), some (.ref t), some (.str e), some (.str l'), some (.int od), some (.ref q0), some (.ref q), some (.ref wr)] ∧ Go K p c H (n + 3) H2 ∧ LogAt K H2 t rs ∧ LogAt K H2 q0 (rs ++ [rn]) ∧ H2 q = some (.lst (as2.map V.ref)) ∧ AnsAt K H2 (rs ++ [rn]) e (onL rs e rs.length) as2 ds2 ∧ H2 wr = some (.lst ((wrongTo e (rs ++ [rn]) (rs ++ [rn]).length).2.map V.int)), ?_, ?_⟩
        · refine ⟨_, rfl, (by show 0 ≤ sizeLine; decide), fun z1 hz1 => ?_⟩
          generalize hX : upd H10 z1 _ = H11
          obtain ⟨S11, f11⟩ := alloc hz1 hX
          clear hX
          have la10 := an10.len
          have repd : RepOk (.list (ds.map ansD)) 2 1148 := (RepOk.list fun d hd => an10.rep (by omega) d hd).mono (Nat.le_refl _) (by rw [List.length_map, la10.2]; have := onL_len rs e rs.length; omega)
          refine ⟨.list (ds.map ansD), .list [], .lst (SqL.of (S11 _ _ f10)) (an10.imp fun _ _ x => same_seqT S11 x).dp, .lst (SqL.of f11) .nil, repd.shaped (by decide), by decide +kernel, _, rfl, ?_⟩
          rw [eqv_nil]
          have g11 := g10.same S11
          have L11 := L10.same S11
          have Lm11 := Lm10.same S11
          have f11' := S11 _ _ f10
          have w11 := S11 _ _ w10
          have an11 := an10.imp fun _ _ x => same_seqT S11 x
          have pw := onL_lt_pair rs e rs.length
          have memo : ∀ j, j ∈ onL rs e rs.length → j < rs.length ∧ lineAt rs e j = true := fun j hj => onL_mem.mp hj
          clear an10 an9 la9 f10 w10 f9 f9' repd la10
          generalize onL rs e rs.length = ns at an11 pw memo ⊢
          cases an11 with
          | nil =>
            show if (!decide (([] : List PyData) = [])) = true then _ else _
            rw [decide_eq_true rfl]
            exact iteF ⟨[], [], rfl, g11, L11, Lm11, f11', .nil, w11⟩
          | @snoc ns0 as0 ds0 n1 a1 word kk h1 h2 h3 =>
            rw [decide_eq_false (by simp)]
            show if true = true then _ else _
            rw [if_pos rfl]
            have asc := List.pairwise_append.mp pw
            obtain ⟨n1l, n1line⟩ := memo n1 (List.mem_append_right _ (List.mem_singleton.mpr rfl))
            have mo0 := ans_more rn h1 fun m hm => ⟨n1, asc.2.2 m hm n1 (List.mem_singleton.mpr rfl), n1l, n1line⟩
            refine ⟨_, rfl, _, rfl, q, _, _, _, rfl, rfl, SqL.of f11', atI_snoc, a1, _, _, _, rfl, rfl, h2, rfl, rfl, _, rfl, ?_⟩
            rw [str_eq]
            refine ite2 (fun y => ?_) (fun y => ?_)
            · have y : word = "open" := of_decide_eq_true y
              subst y
              obtain rfl : kk = none := (became_word h3).elim (fun z => z.2) (fun z => absurd rfl z.1)
              obtain ⟨r1, hr1⟩ : ∃ r, rs[n1]? = some r := ⟨_, List.getElem?_eq_getElem n1l⟩
              have fin := became_open (r := rn) he h3 hr1
              have Hq : H q = none := g7.free hq
              have qp : q ≠ p := Ne.symm (g7.ne_new hq)
              have put : ∀ (H' : Hp) (ys zs : List V), H' q = some (.lst ys) → Go K p c H (n + 3) H' → LogAt K H' t rs → LogAt K H' q0 (rs ++ [rn]) → H' wr = some (.lst ((wrongTo e (rs ++ [rn]) (rs ++ [rn]).length).2.map V.int)) →
                  Go K p c H (n + 3) (upd H' q (.lst zs)) ∧ LogAt K (upd H' q (.lst zs)) t rs ∧ LogAt K (upd H' q (.lst zs)) q0 (rs ++ [rn]) ∧ (upd H' q (.lst zs)) wr = some (.lst ((wrongTo e (rs ++ [rn]) (rs ++ [rn]).length).2.map V.int)) ∧ (∀ a xs, SqT K H' a xs → SqT K (upd H' q (.lst zs)) a xs) := fun H' ys zs e1 g l1 l2 w1 => by
                have bt : But q H' (upd H' q (.lst zs)) := But.put
                have low : ∀ {x : Addr} {rs' : List Row}, LogAt K H' x rs' → LogAt K (upd H' q (.lst zs)) x rs' := fun ⟨a1, a2, a3⟩ => ⟨a1, seqT_lst a2 e1 bt, a3.lst e1 bt⟩
                exact ⟨g.own Hq qp hc, low l1, low l2, (upd_ne nq).trans w1, fun a xs s => seqT_lst s e1 bt⟩
              refine ⟨fun σ2 H2 => ∃ a2 wd kk, σ2 = [some (.ref p), some (.ref t), some (.str e), some (.str l'), some (.int od), some (.ref q0), some (.ref q), some (.ref wr)] ∧ Go K p c H (n + 3) H2 ∧ LogAt K H2 t rs ∧ LogAt K H2 q0 (rs ++ [rn]) ∧ H2 q = some (.lst ((as0 ++ [a2]).map V.ref)) ∧ AnsAt K H2 rs e ns0 as0 ds0 ∧ SqT K H2 a2 [nv n1, .str wd, kv kk] ∧ H2 wr = some (.lst ((wrongTo e (rs ++ [rn]) (rs ++ [rn]).length).2.map V.int)) ∧ ((rn.l = e ∧ wd = "taken" ∧ kk = some rs.length) ∨ (rn.l ≠ e ∧ wd = "open" ∧ kk = none)), ?_, ?_⟩
              · refine ⟨_, rfl, _, rfl, rfl, _, rfl, ?_⟩
                rw [str_eq]
                refine ite2 (fun y => ?_) (fun y => ?_)
                · have y : l' = e := of_decide_eq_true y
                  obtain ⟨as', hT, hR⟩ := id L11
                  refine ⟨_, rfl, _, rfl, q, _, _, _, rfl, rfl, SqL.of f11', atI_snoc, a1, _, _, _, rfl, rfl, h2, rfl, _, rfl, t, _, rfl, .inr hT, (by show 3 ≤ sizeLine; decide), fun u hu => ?_⟩
                  generalize hX : upd H11 u _ = H12
                  obtain ⟨S12, f12⟩ := alloc hu hX
                  clear hX
                  refine ⟨_, rfl, _, rfl, q, _, _, _, rfl, rfl, S12 _ _ f11', ixN_snoc, ?_⟩
                  rw [set_snoc]
                  obtain ⟨P1, P2, P3, P4, P5⟩ := put H12 _ ((as0 ++ [u]).map V.ref) (S12 _ _ f11') (g11.same S12) (L11.same S12) (Lm11.same S12) (S12 _ _ w11)
                  refine ⟨u, "taken", some rs.length, rfl, P1, P2, P3, upd_same, (h1.imp fun _ _ s => P5 _ _ (same_seqT S12 s)), P5 _ _ ?_, P4, .inl ⟨rl.trans y, rfl, rfl⟩⟩
                  have sq := SqT.of (K := K) f12
                  rw [List.length_map, hR.length] at sq
                  exact sq
                · have y : ¬ l' = e := fun z => y (decide_eq_true z)
                  exact ⟨a1, _, _, rfl, g11, L11, Lm11, f11', h1, h2, w11, .inr ⟨by rw [rl]; exact y, rfl, rfl⟩⟩
              · rintro σ2 H12 ⟨a2, wd, k2, rfl, g12, L12, Lm12, f12, an12, sq2, w12, what⟩
                have mo12 := ans_more rn an12 fun m hm => ⟨n1, asc.2.2 m hm n1 (List.mem_singleton.mpr rfl), n1l, n1line⟩
                obtain ⟨as', hT, hR⟩ := id L12
                obtain ⟨al, hal, row⟩ := hR.get hr1
                have stay : (¬ (l' = dialOf e ∧ What.order od = r1.w)) → ∃ as2 ds2, ([some (.ref p), some (.ref t), some (.str e), some (.str l'), some (.int od), some (.ref q0), some (.ref q), some (.ref wr)] : List (Option V)) = [some (.ref p), some (.ref t), some (.str e), some (.str l'), some (.int od), some (.ref q0), some (.ref q), some (.ref wr)] ∧ Go K p c H (n + 3) H12 ∧ LogAt K H12 t rs ∧ LogAt K H12 q0 (rs ++ [rn]) ∧ H12 q = some (.lst (as2.map V.ref)) ∧ AnsAt K H12 (rs ++ [rn]) e (ns0 ++ [n1]) as2 ds2 ∧ H12 wr = some (.lst ((wrongTo e (rs ++ [rn]) (rs ++ [rn]).length).2.map V.int)) := fun no => by
                  refine ⟨_, _, rfl, g12, L12, Lm12, f12, .snoc mo12 sq2 ?_, w12⟩
                  rcases what with ⟨c1, rfl, rfl⟩ | ⟨c1, rfl, rfl⟩
                  · rw [if_pos c1, if_pos (.inl c1)] at fin
                    exact fin
                  · have no : ¬ (rn.l = dialOf e ∧ rn.w = r1.w) := by
                      rw [rl, rw_]
                      exact fun z => no ⟨z.1, z.2⟩
                    rw [if_neg c1, if_neg no, if_neg (fun z => z.elim c1 no)] at fin
                    exact fin
                refine ⟨_, rfl, _, rfl, _, _, rfl, rfl, ndial.2.2, rfl, _, rfl, ?_⟩
                rw [ndial.2.1, str_eq]
                refine ite2 (fun y => ?_) (fun y => stay fun z => y (decide_eq_true z.1))
                have y : l' = dialOf e := of_decide_eq_true y
                have el : atI (as'.map V.ref) (n1 : Int) = some (.ref al) := atI_nat (by rw [List.getElem?_map, hal]; rfl)
                have sc : scal r1.w.v (V.int od) = true := by rw [show V.int od = (What.order od).v from rfl]; exact scal_what _ _
                have ew : decide (r1.w.v = V.int od) = decide (r1.w = .order od) := by
                  rw [Bool.eq_iff_iff, decide_eq_true_iff, decide_eq_true_iff]
                  exact ⟨fun z => What.v_inj (a := r1.w) (b := .order od) z, fun z => by rw [z]; rfl⟩
                refine ⟨_, rfl, _, rfl, _, rfl, q, _, _, _, rfl, rfl, SqL.of f12, atI_snoc, a2, _, _, _, rfl, rfl, sq2, rfl, t, _, _, _, rfl, rfl, hT, el, al, _, _, _, rfl, rfl, row, rfl, _, rfl, sc, _, rfl, ?_⟩
                rw [ew]
                refine ite2 (fun y3 => ?_) (fun y3 => stay fun z => y3 (decide_eq_true z.2.symm))
                have y3 := of_decide_eq_true y3
                refine ⟨_, rfl, _, rfl, q, _, _, _, rfl, rfl, SqL.of f12, atI_snoc, a2, _, _, _, rfl, rfl, sq2, rfl, _, rfl, t, _, rfl, .inr hT, (by show 3 ≤ sizeLine; decide), fun u hu => ?_⟩
                generalize hX : upd H12 u _ = H13
                obtain ⟨S13, f13⟩ := alloc hu hX
                clear hX
                refine ⟨_, rfl, _, rfl, q, _, _, _, rfl, rfl, S13 _ _ f12, ixN_snoc, ?_⟩
                rw [set_snoc]
                obtain ⟨P1, P2, P3, P4, P5⟩ := put H13 _ ((as0 ++ [u]).map V.ref) (S13 _ _ f12) (g12.same S13) (L12.same S13) (Lm12.same S13) (S13 _ _ w12)
                have sq := SqT.of (K := K) f13
                rw [List.length_map, hR.length] at sq
                refine ⟨_, _, rfl, P1, P2, P3, upd_same, .snoc (mo12.imp fun _ _ s => P5 _ _ (same_seqT S13 s)) (P5 _ _ sq) (word := "answered") (k := some rs.length) ?_, P4⟩
                have c1 : ¬ rn.l = e := by
                  rw [rl, y]
                  exact ndial.1
                have c2 : rn.l = dialOf e ∧ rn.w = r1.w := ⟨rl.trans y, rw_.trans y3.symm⟩
                rw [if_neg c1, if_pos c2, if_pos (.inr c2)] at fin
                exact fin
            · have y : word ≠ "open" := fun z => y (decide_eq_true z)
              refine ⟨_, _, rfl, g11, L11, Lm11, f11', .snoc mo0 h2 ?_, w11⟩
              rcases became_word h3 with ⟨z, _⟩ | ⟨_, j, z⟩
              · exact absurd z y
              · rw [z] at h3 ⊢
                exact became_done rn h3
        · rintro σ2 H11 ⟨as2, ds2, rfl, g11, L11, Lm11, f11, an11, w11⟩
          have Hq : H q = none := g7.free hq
          have qp : q ≠ p := Ne.symm (g7.ne_new hq)
          refine ⟨fun σ2 H2 => ∃ as2 ds2, σ2 = [some (.ref p), some (.ref t), some (.str e), some (.str l'), some (.int od), some (.ref q0), some (.ref q), some (.ref wr)] ∧ Go K p c H (n + 3) H2 ∧ LogAt K H2 q0 (rs ++ [rn]) ∧ H2 q = some (.lst (as2.map V.ref)) ∧ AnsAt K H2 (rs ++ [rn]) e (onL (rs ++ [rn]) e (rs ++ [rn]).length) as2 ds2 ∧ H2 wr = some (.lst ((wrongTo e (rs ++ [rn]) (rs ++ [rn]).length).2.map V.int)), ?_, ?_⟩
          · refine ⟨_, rfl, _, rfl, rfl, _, rfl, ?_⟩
            rw [str_eq, onL_more]
            refine ite2 (fun y => ?_) (fun y => ?_)
            · have y : l' = e := of_decide_eq_true y
              obtain ⟨as', hT, hR⟩ := id L11
              have la11 := an11.len
              have ll := onL_len rs e rs.length
              refine ⟨_, rfl, .inl ⟨rfl, _, SqL.of f11⟩, _, rfl, t, _, rfl, .inr hT, (by show 3 ≤ sizeLine; decide), fun u hu => ?_⟩
              generalize hX : upd H11 u _ = H12
              obtain ⟨S12, f12⟩ := alloc hu hX
              clear hX
              refine ⟨q, _, _, rfl, rfl, S12 _ _ f11, small1000 (by rw [List.length_map, la11.1]; omega), ?_⟩
              have e1 := S12 _ _ f11
              have bt : But q H12 (upd H12 q (.lst (as2.map V.ref ++ [V.ref u]))) := But.put
              have low : ∀ {x : Addr} {rs' : List Row}, LogAt K H12 x rs' → LogAt K (upd H12 q (.lst (as2.map V.ref ++ [V.ref u]))) x rs' := fun ⟨a1, a2, a3⟩ => ⟨a1, seqT_lst a2 e1 bt, a3.lst e1 bt⟩
              have sq := SqT.of (K := K) f12
              rw [List.length_map, hR.length] at sq
              refine ⟨as2 ++ [u], ds2 ++ [(rs.length, Str.ofString "open", none)], rfl, (g11.same S12).own Hq qp hc, low (Lm11.same S12), by rw [upd_same, List.map_append]; rfl, ?_, (upd_ne nq).trans (S12 _ _ w11)⟩
              rw [if_pos (rl.trans y)]
              exact .snoc (an11.imp fun _ _ s => seqT_lst (same_seqT S12 s) e1 bt) (seqT_lst sq e1 bt) became_new
            · have y : ¬ rn.l = e := fun z => y (decide_eq_true (rl.symm.trans z))
              rw [if_neg y, List.append_nil]
              exact ⟨as2, ds2, rfl, g11, Lm11, f11, an11, w11⟩
          · clear an11 f11 w11 L11 Lm11 g11 as2 ds2
            rintro σ2 H12 ⟨as2, ds2, rfl, g12, Lm12, f12, an12, w12⟩
            have lm : (rs ++ [rn]).length ≤ 41 := by rw [len_more]; omega
            refine ⟨_, rfl, _, rfl, q0, _, e, rfl, Lm12, lm, he, fun H13 q2 as3 ds3 S13 hq2 f13 an13 => ?_⟩
            obtain rfl : ds3 = ds2 := an12.one an13 rfl
            have rep3 : RepOk (.list (ds3.map ansD)) 2 1148 := (RepOk.list fun d hd => an13.rep lm d hd).mono (Nat.le_refl _) (by rw [List.length_map, an13.len.2]; have := onL_len (rs ++ [rn]) e (rs ++ [rn]).length; omega)
            refine ⟨_, rfl, .list (ds3.map ansD), .list (ds3.map ansD), .lst (SqL.of f13) an13.dp, .lst (SqL.of (S13 _ _ f12)) (an12.imp fun _ _ s => same_seqT S13 s).dp, rep3.shaped (by decide), rep3.shaped (by decide), ?_⟩
            rw [eqv_rep rep3]
            refine ⟨_, rfl, ?_⟩
            rw [if_pos rfl]
            refine ⟨_, rfl, _, rfl, q0, _, e, rfl, Lm12.same S13, lm, okm, he, fun H14 w3 S14 hw3 f14 => ?_⟩
            have wl := wrongTo_len e (rs ++ [rn]) (rs ++ [rn]).length
            have repw := ints_rep (ns := (wrongTo e (rs ++ [rn]) (rs ++ [rn]).length).2) (k := 41) (fun m hm => by
              obtain ⟨k1, _, _, z, k2, _⟩ := (wrong_mem he m _).mp hm
              subst k2
              have := (List.getElem?_eq_some_iff.mp z).1
              exact Nat.lt_of_lt_of_le (show k1 < 1000 by omega) (by decide +kernel)) (by omega)
            refine ⟨_, rfl, _, _, .lst (SqL.of f14) (dpAll_ints _), .lst (SqL.of (S14 _ _ (S13 _ _ w12))) (dpAll_ints _), repw.shaped (by decide), repw.shaped (by decide), ?_⟩
            rw [eqv_rep repw]
            exact k _ (g12.same (S13.trans S14))
/-! ### without the rows of other lines -/
def ownR (e : Str) (r : Row) : Bool := decide (r.l = e ∨ r.l = dialOf e)
def ownAt (rs : List Row) (e : Str) (k : Nat) : Bool := match rs[k]? with
  | some r => ownR e r
  | none => false
def ownL (rs : List Row) (e : Str) (n : Nat) : List Nat := (List.range n).filter (ownAt rs e)
def gP (rs : List Row) (e : Str) (k : Nat) : Nat := (ownL rs e k).length
def bareR (rs : List Row) (e : Str) : List Row := rs.filter (ownR e)
theorem own_succ {rs : List Row} {e : Str} {k : Nat} : ownL rs e (k + 1) = ownL rs e k ++ (if ownAt rs e k = true then [k] else []) := by
  unfold ownL
  rw [List.range_succ, List.filter_append]
  congr 1
  by_cases c : ownAt rs e k = true
  · rw [if_pos c, List.filter_cons_of_pos c]
    rfl
  · rw [if_neg c, List.filter_cons_of_neg c]
    rfl
theorem gP_succ {rs : List Row} {e : Str} {k : Nat} : gP rs e (k + 1) = gP rs e k + (if ownAt rs e k = true then 1 else 0) := by
  unfold gP
  rw [own_succ, List.length_append]
  split <;> rfl
theorem gP_mono {rs : List Row} {e : Str} {j k : Nat} (h : j ≤ k) : gP rs e j ≤ gP rs e k := by
  induction k with
  | zero =>
    obtain rfl : j = 0 := by omega
    exact Nat.le_refl _
  | succ k ih =>
    rw [gP_succ]
    by_cases c : j = k + 1
    · subst c
      rw [gP_succ]
      exact Nat.le_refl _
    · have := ih (by omega)
      omega
theorem gP_lt {rs : List Row} {e : Str} {j k : Nat} (h : j < k) (o : ownAt rs e j = true) : gP rs e j < gP rs e k := by
  have a := gP_mono (rs := rs) (e := e) (show j + 1 ≤ k from h)
  rw [gP_succ, if_pos o] at a
  omega
theorem ownAt_more {rs : List Row} {r : Row} {e : Str} {k : Nat} (h : k < rs.length) : ownAt (rs ++ [r]) e k = ownAt rs e k := by
  unfold ownAt
  rw [get_more h]
theorem own_more {rs : List Row} {r : Row} {e : Str} {k : Nat} (h : k ≤ rs.length) : ownL (rs ++ [r]) e k = ownL rs e k := by
  unfold ownL
  exact List.filter_congr fun j hj => ownAt_more (by have := List.mem_range.mp hj; omega)
theorem gP_more {rs : List Row} {r : Row} {e : Str} {k : Nat} (h : k ≤ rs.length) : gP (rs ++ [r]) e k = gP rs e k := by
  unfold gP
  rw [own_more h]
theorem bare_more {rs : List Row} {r : Row} {e : Str} : bareR (rs ++ [r]) e = bareR rs e ++ (if ownR e r = true then [r] else []) := by
  unfold bareR
  rw [List.filter_append]
  congr 1
  by_cases c : ownR e r = true
  · rw [if_pos c, List.filter_cons_of_pos c]
    rfl
  · rw [if_neg c, List.filter_cons_of_neg c]
    rfl
theorem snoc_ind {α : Type} {p : List α → Prop} (h0 : p []) (h1 : ∀ l a, p l → p (l ++ [a])) : ∀ l, p l := fun l => by
  have : ∀ l : List α, p l.reverse := fun l => by
    induction l with
    | nil => exact h0
    | cons a l ih =>
      rw [List.reverse_cons]
      exact h1 _ _ ih
  have z := this l.reverse
  rw [List.reverse_reverse] at z
  exact z
theorem bare_len {e : Str} (rs : List Row) : (bareR rs e).length = gP rs e rs.length := by
  refine snoc_ind (p := fun rs => (bareR rs e).length = gP rs e rs.length) rfl (fun rs r ih => ?_) rs
  rw [bare_more, len_more, gP_succ, gP_more (Nat.le_refl _), List.length_append, ih]
  unfold ownAt
  rw [get_end]
  show _ + (if ownR e r = true then [r] else []).length = _ + (if ownR e r = true then 1 else 0)
  split <;> rfl
theorem bare_get {e : Str} (rs : List Row) : ∀ k r, rs[k]? = some r → ownR e r = true → (bareR rs e)[gP rs e k]? = some r := by
  refine snoc_ind (p := fun rs => ∀ k r, rs[k]? = some r → ownR e r = true → (bareR rs e)[gP rs e k]? = some r) (fun k r h _ => by simp at h) (fun rs r ih k r1 h o => ?_) rs
  have lt := (List.getElem?_eq_some_iff.mp h).1
  rw [len_more] at lt
  rw [gP_more (by omega), bare_more]
  by_cases c : k < rs.length
  · rw [get_more c] at h
    have z := ih k r1 h o
    rw [List.getElem?_append_left (List.getElem?_eq_some_iff.mp z).1]
    exact z
  · obtain rfl : k = rs.length := by omega
    rw [get_end] at h
    obtain rfl := Option.some.inj h
    rw [if_pos o, ← bare_len, List.getElem?_append_right (Nat.le_refl _), Nat.sub_self]
    rfl
theorem bare_from {e : Str} (rs : List Row) : ∀ i r, (bareR rs e)[i]? = some r → ∃ k, rs[k]? = some r ∧ ownR e r = true ∧ gP rs e k = i := by
  refine snoc_ind (p := fun rs => ∀ i r, (bareR rs e)[i]? = some r → ∃ k, rs[k]? = some r ∧ ownR e r = true ∧ gP rs e k = i) (fun k r h => by simp [bareR] at h) (fun rs r ih i r1 h => ?_) rs
  rw [bare_more] at h
  by_cases c : i < (bareR rs e).length
  · rw [List.getElem?_append_left c] at h
    obtain ⟨k, k1, k2, k3⟩ := ih i r1 h
    have lt := (List.getElem?_eq_some_iff.mp k1).1
    exact ⟨k, by rw [get_more lt]; exact k1, k2, by rw [gP_more (by omega)]; exact k3⟩
  · rw [List.getElem?_append_right (by omega)] at h
    by_cases o : ownR e r = true
    · rw [if_pos o] at h
      have lt := (List.getElem?_eq_some_iff.mp h).1
      have z : i - (bareR rs e).length = 0 := by
        have : i - (bareR rs e).length < 1 := lt
        omega
      rw [z] at h
      obtain rfl : r = r1 := Option.some.inj h
      exact ⟨rs.length, get_end, o, by rw [gP_more (Nat.le_refl _), ← bare_len]; omega⟩
    · rw [if_neg o] at h
      simp at h
theorem own_of {rs : List Row} {e : Str} {k : Nat} {r : Row} (h : rs[k]? = some r) (o : ownR e r = true) : ownAt rs e k = true := by
  unfold ownAt
  rw [h]
  exact o
theorem hit_own {rs : List Row} {e : Str} {w : What} {n i : Nat} {r : Row} (P : Nat → Prop) (hn : rs[n]? = some r) (ho : ownR e r = true) (h1 : gP rs e n < i) (h2 : i < (bareR rs e).length) (h : ∀ j, n < j → j < rs.length → gP rs e j = i → hitAt rs e w j = false) : hitAt (bareR rs e) e w i = false := by
  obtain ⟨k, k1, k2, k3⟩ := bare_from rs i _ (List.getElem?_eq_getElem h2)
  have lt := (List.getElem?_eq_some_iff.mp k1).1
  have nk : n < k := by
    rcases Nat.lt_or_ge n k with z | z
    · exact z
    · have := gP_mono (rs := rs) (e := e) z
      omega
  have z := h k nk lt k3
  unfold hitAt at z ⊢
  rw [k1] at z
  rw [List.getElem?_eq_getElem h2]
  exact z
theorem became_bare {rs : List Row} {e : Str} {n : Nat} {word : Str} {k : Option Nat} (hn : lineAt rs e n = true) (h : Became rs e n word k) : Became (bareR rs e) e (gP rs e n) word (k.map (gP rs e)) := by
  have me : ∀ {r : Row}, rs[n]? = some r → ownR e r = true := fun q => by
    rw [lineAt_some q] at hn
    exact decide_eq_true (.inl (of_decide_eq_true hn))
  cases h with
  | @open_ r p1 p2 =>
    refine .open_ (bare_get rs _ _ p1 (me p1)) fun j a b => hit_own (fun _ => True) p1 (me p1) a b fun i i1 i2 _ => p2 i i1 i2
  | @taken r r2 k p1 p2 p3 p4 p5 =>
    have o2 : ownR e r2 = true := decide_eq_true (.inl p4)
    have o1 := me p1
    refine .taken (bare_get rs _ _ p1 o1) (gP_lt p2 (own_of p1 o1)) (bare_get rs _ _ p3 o2) p4 fun j a b => ?_
    have lj : j < (bareR rs e).length := Nat.lt_trans b (List.getElem?_eq_some_iff.mp (bare_get rs _ _ p3 o2)).1
    refine hit_own (fun _ => True) p1 o1 a lj fun i i1 i2 i3 => p5 i i1 ?_
    rcases Nat.lt_or_ge i k with z | z
    · exact z
    · have := gP_mono (rs := rs) (e := e) z
      omega
  | @answered r r2 k p1 p2 p3 p4 p5 p6 p7 =>
    have o2 : ownR e r2 = true := decide_eq_true (.inr p4)
    have o1 := me p1
    refine .answered (bare_get rs _ _ p1 o1) (gP_lt p2 (own_of p1 o1)) (bare_get rs _ _ p3 o2) p4 p5 p6 fun j a b => ?_
    have lj : j < (bareR rs e).length := Nat.lt_trans b (List.getElem?_eq_some_iff.mp (bare_get rs _ _ p3 o2)).1
    refine hit_own (fun _ => True) p1 o1 a lj fun i i1 i2 i3 => p7 i i1 ?_
    rcases Nat.lt_or_ge i k with z | z
    · exact z
    · have := gP_mono (rs := rs) (e := e) z
      omega
theorem onL_bare {e : Str} (rs : List Row) : onL (bareR rs e) e (bareR rs e).length = (onL rs e rs.length).map (gP rs e) := by
  refine snoc_ind (p := fun rs => onL (bareR rs e) e (bareR rs e).length = (onL rs e rs.length).map (gP rs e)) rfl (fun rs r ih => ?_) rs
  rw [onL_more, List.map_append]
  have s : (onL rs e rs.length).map (gP (rs ++ [r]) e) = (onL rs e rs.length).map (gP rs e) := List.map_congr_left fun k hk => gP_more (Nat.le_of_lt (onL_mem.mp hk).1)
  rw [s, ← ih, bare_more]
  by_cases o : ownR e r = true
  · rw [if_pos o, onL_more]
    congr 1
    by_cases c : r.l = e
    · rw [if_pos c, if_pos c, bare_len]
      show _ = [gP (rs ++ [r]) e rs.length]
      rw [gP_more (Nat.le_refl _)]
    · rw [if_neg c, if_neg c]
      rfl
  · have c : ¬ r.l = e := fun z => o (decide_eq_true (.inl z))
    rw [if_neg o, if_neg c, List.append_nil, List.map_nil, List.append_nil]
theorem wrong_bare {e : Str} (he : e ∈ engines) (rs : List Row) : wrongTo e (bareR rs e) (bareR rs e).length = ((wrongTo e rs rs.length).1, (wrongTo e rs rs.length).2.map fun m => ((gP rs e m.toNat : Nat) : Int)) := by
  refine snoc_ind (p := fun rs => wrongTo e (bareR rs e) (bareR rs e).length = ((wrongTo e rs rs.length).1, (wrongTo e rs rs.length).2.map fun m => ((gP rs e m.toNat : Nat) : Int))) rfl (fun rs r ih => ?_) rs
  have s : (wrongTo e rs rs.length).2.map (fun m => ((gP (rs ++ [r]) e m.toNat : Nat) : Int)) = (wrongTo e rs rs.length).2.map fun m => ((gP rs e m.toNat : Nat) : Int) := List.map_congr_left fun m hm => by
    obtain ⟨k, _, k1, _, rfl, _⟩ := (wrong_mem he m _).mp hm
    rw [gP_more (by show (k : Int).toNat ≤ _; omega)]
  rw [wrong_end, bare_more]
  by_cases o : ownR e r = true
  · rw [if_pos o, wrong_end, ih]
    unfold wrongStep
    by_cases c : r.l = e
    · rw [if_pos c, if_pos c]
      show (some r.w, _) = (some r.w, (wrongTo e rs rs.length).2.map _)
      rw [s]
    · rw [if_neg c, if_neg c]
      by_cases d : r.l = dialOf e ∧ some r.w ≠ (wrongTo e rs rs.length).1
      · rw [if_pos d, if_pos d]
        show (_, _ ++ [_]) = (_, List.map _ (_ ++ [_]))
        rw [List.map_append, s, bare_len]
        show _ = (_, _ ++ [((gP (rs ++ [r]) e ((rs.length : Int).toNat) : Nat) : Int)])
        rw [Int.toNat_natCast, gP_more (Nat.le_refl _)]
      · rw [if_neg d, if_neg d]
        show _ = (_, List.map _ _)
        rw [s]
  · have c : ¬ r.l = e := fun z => o (decide_eq_true (.inl z))
    have d : ¬ (r.l = dialOf e ∧ some r.w ≠ (wrongTo e rs rs.length).1) := fun z => o (decide_eq_true (.inr z.1))
    rw [if_neg o, List.append_nil, ih]
    unfold wrongStep
    rw [if_neg c, if_neg d]
    show _ = (_, List.map _ _)
    rw [s]
def kvsOf (ns : List Nat) : List (Key × V) := ns.zipIdx.map fun x => (.inl (x.1 : Int), .int (x.2 : Int))
theorem kvs_snoc {ns : List Nat} {n : Nat} : kvsOf (ns ++ [n]) = kvsOf ns ++ [(.inl (n : Int), .int (ns.length : Int))] := by
  unfold kvsOf
  rw [List.zipIdx_append, List.map_append, Nat.zero_add]
  rfl
theorem merge_snoc {acc more : List (Key × V)} {p : Key × V} : mergeK acc (more ++ [p]) = putK (mergeK acc more) p.1 p.2 := by
  unfold mergeK
  rw [List.foldl_append]
  rfl
theorem own_val {rs : List Row} {e : Str} : ∀ i n, n < i → ownAt rs e n = true → valV (mergeK [] (kvsOf (ownL rs e i))) (.inl (n : Int)) = some (.int (gP rs e n : Int))
  | 0, n, h, _ => absurd h (Nat.not_lt_zero _)
  | i + 1, n, h, o => by
    rw [own_succ]
    by_cases c : ownAt rs e i = true
    · rw [if_pos c, kvs_snoc, merge_snoc]
      by_cases z : n = i
      · subst z
        rw [valV_put, if_pos rfl]
        rfl
      · have ih := own_val i n (by omega) o
        rw [valV_put, if_neg (fun y => z (by injection y with y; omega))]
        exact ih
    · rw [if_neg c, List.append_nil]
      have z : n ≠ i := fun z => c (z ▸ o)
      exact own_val i n (by omega) o
theorem fm_congr {α β : Type} {f g : α → Option β} : ∀ {l : List α}, (∀ x ∈ l, f x = g x) → l.filterMap f = l.filterMap g
  | [], _ => rfl
  | x :: l, h => by
    rw [List.filterMap_cons, List.filterMap_cons, h x (List.mem_cons_self ..), fm_congr fun y hy => h y (List.mem_cons_of_mem _ hy)]
theorem own_rows {e : Str} (rs : List Row) : (ownL rs e rs.length).filterMap (fun k => rs[k]?) = bareR rs e := by
  refine snoc_ind (p := fun rs => (ownL rs e rs.length).filterMap (fun k => rs[k]?) = bareR rs e) rfl (fun rs r ih => ?_) rs
  rw [len_more, own_succ, own_more (Nat.le_refl _), bare_more, List.filterMap_append]
  have s : (ownL rs e rs.length).filterMap (fun k => (rs ++ [r])[k]?) = (ownL rs e rs.length).filterMap (fun k => rs[k]?) := fm_congr fun k hk => get_more (List.mem_range.mp (List.mem_filter.mp hk).1)
  rw [s, ih]
  congr 1
  unfold ownAt
  rw [get_end]
  by_cases c : ownR e r = true
  · rw [if_pos c, if_pos c, List.filterMap_cons, get_end]
    rfl
  · rw [if_neg c, if_neg c]
    rfl
theorem became_own {rs : List Row} {e : Str} {n j : Nat} {word : Str} (h : Became rs e n word (some j)) : ownAt rs e j = true := by
  cases h with
  | taken _ _ p3 p4 _ => exact own_of p3 (decide_eq_true (.inl p4))
  | answered _ _ p3 p4 _ _ _ => exact own_of p3 (decide_eq_true (.inr p4))
theorem own_in {e : Str} {r : Row} (h : Str.ofString "a" ++ e = dialOf e) : inV (V.str r.l) [V.str e, V.str (Str.ofString "a" ++ e)] = ownR e r := by
  rw [h, Bool.eq_iff_iff]
  unfold ownR
  simp only [inV, List.any_cons, List.any_nil, Bool.or_false, eqV, Bool.or_eq_true, beq_iff_eq, decide_eq_true_eq]
  exact ⟨fun z => z.imp Eq.symm Eq.symm, fun z => z.imp Eq.symm Eq.symm⟩
theorem paired_snoc {α β : Type} {R : α → β → Prop} {xs : List α} {ys : List β} {x : α} {y : β} (h : Paired R xs ys) (h2 : R x y) : Paired R (xs ++ [x]) (ys ++ [y]) := by
  induction h with
  | nil => exact .cons h2 .nil
  | cons a _ ih => exact .cons a ih
theorem paired_imp {α β : Type} {R S : α → β → Prop} {xs : List α} {ys : List β} (h : Paired R xs ys) (f : ∀ x y, R x y → S x y) : Paired S xs ys := by
  induction h with
  | nil => exact .nil
  | cons a _ ih => exact .cons (f _ _ a) ih
def spLess (K : PySem.W.Frag) : Sp := fun vs H Q _ => ∃ (t : Addr) (rs : List Row) (e : Str), vs = [.ref t, .str e] ∧ LogAt K H t rs ∧ rs.length ≤ 40 ∧ (∀ r ∈ rs, r.Ok) ∧ e ∈ engines ∧ ∀ H', Same H H' → Q (.bl true) H'
theorem ok_less_right (T : Txt w K mg) : FnOk P w K mg base CX0 4 T.a_less_right T.d_less_right ["_law_log_here", "_law_engine"] (spLess K) := by
  have G_answers := ok_answers (P := P) (base := base) T
  have G_wrong_answers := ok_wrongs (P := P) (base := base) T
  refine T.F_less_right.ok sc_less_right (fun vs H Q E h => ?_) (fun cdv A outer s H vs Q E hr h => ?_)
  · obtain ⟨t, rs, e, rfl, _⟩ := h
    rfl
  · obtain ⟨t, rs, e, rfl, hL, hlen, oks, he, k⟩ := h
    have hr_answers := hr
    have hr_wrong_answers := hr.mono (show 2 ≤ 3 by decide)
    refine ⟨_, (pss_cons (ps_setLc (i := 2) (own := [("_law_k", 9)]) rfl sc_less_right.nd rfl rfl (sw_true rfl rfl rfl (by decide +kernel)) (pi_range1 (by rfl) T.z_range (pa_cons (pe_callB (k_len K) (by rfl) T.z_len (by decide +kernel) (pa_cons (pv 0) pa_nil)) pa_nil)) (blkOk_by (own := [("_law_k", 9)]) (N := ["_law_log_here", "_law_engine", "_law_own", "_law_bare", "_law_spots", "_law_due", "_law_number", "_law_word_here", "_law_other", "_law_k", "_law_at"]) (sc := defScope s_less_right) (by decide +kernel)) (fun _ _ _ _ _ => (pg_name (i := 9) sc_less_right.nd rfl (by first | exact Or.inl rfl | exact Or.inr rfl))) (fun _ _ _ _ _ => (pts_one (pt_cmpR (k_in K) (pe_ix (kx_tup K) (pe_ix (kx_tup K) (pv 0) (pv 9) (fun _ _ => rfl)) pe_int (fun _ _ => rfl)) (pe_tup (pa_cons (pv 1) (pa_cons (pe_op op_add_str pe_str (pv 1)) pa_nil))) (by rfl)))) (fun _ _ _ _ _ => (pv 9)))
  (pss_cons (ps_set (i := 3) sc_less_right.nd rfl (by first | exact Or.inl rfl | exact Or.inr rfl) (pe_callTy (k_tupOf K) (by rfl) T.z_tuple (by decide +kernel) (pa_cons (pe_lc (own := [("_law_k", 9)]) rfl sc_less_right.nd (k_piL K (pv 2)) (blkOk_by (own := [("_law_k", 9)]) (N := ["_law_log_here", "_law_engine", "_law_own", "_law_bare", "_law_spots", "_law_due", "_law_number", "_law_word_here", "_law_other", "_law_k", "_law_at"]) (sc := defScope s_less_right) (by decide +kernel)) (fun _ _ _ _ _ => (pg_name (i := 9) sc_less_right.nd rfl (by first | exact Or.inl rfl | exact Or.inr rfl))) (fun _ _ _ _ _ => pts_nil) (fun _ _ _ _ _ => (pe_ix (kx_tup K) (pv 0) (pv 9) (fun _ _ => rfl)))) pa_nil)))
  (pss_cons (ps_set (i := 4) sc_less_right.nd rfl (by first | exact Or.inl rfl | exact Or.inr rfl) (pe_callTy (k_dictP K rfl) (by rfl) T.z_dict (by decide +kernel) (pa_cons (pe_lc (own := [("_law_at", 10), ("_law_number", 6)]) rfl sc_less_right.nd (pi_enumA (by rfl) T.z_enumerate (pa_cons (pv 2) pa_nil)) (blkOk_by (own := [("_law_at", 10), ("_law_number", 6)]) (N := ["_law_log_here", "_law_engine", "_law_own", "_law_bare", "_law_spots", "_law_due", "_law_number", "_law_word_here", "_law_other", "_law_k", "_law_at"]) (sc := defScope s_less_right) (by decide +kernel)) (fun _ _ _ _ _ => (k_pgT (n := 2) K rfl (pgs_cons (pg_name (i := 10) sc_less_right.nd rfl (by first | exact Or.inl rfl | exact Or.inr rfl)) (pgs_cons (pg_name (i := 6) sc_less_right.nd rfl (by first | exact Or.inl rfl | exact Or.inr rfl)) pgs_nil)))) (fun _ _ _ _ _ => pts_nil) (fun _ _ _ _ _ => (pe_tup (pa_cons (pv 6) (pa_cons (pv 10) pa_nil))))) pa_nil)))
  (pss_cons (ps_set (i := 5) sc_less_right.nd rfl (by first | exact Or.inl rfl | exact Or.inr rfl) (pe_lst pa_nil))
  (pss_cons (ps_for PassesOwn.never rfl (k_piL K (pe_call G_answers hr_answers (by rfl) T.g_answers T.F_answers.kp T.b_answers .nil pass0 (pa_cons (pv 0) (pa_cons (pv 1) pa_nil)))) (k_pgT (n := 3) K rfl (pgs_cons (pg_name (i := 6) sc_less_right.nd rfl (by first | exact Or.inl rfl | exact Or.inr rfl)) (pgs_cons (pg_name (i := 7) sc_less_right.nd rfl (by first | exact Or.inl rfl | exact Or.inr rfl)) (pgs_cons (pg_name (i := 8) sc_less_right.nd rfl (by first | exact Or.inl rfl | exact Or.inr rfl)) pgs_nil)))) (pss_one (ps_expr (pe_bm PySem.F.plainAttrs_list PySem.F.slot_list_append PySem.F.type_list_append mt_append (pv 5) (pa_cons (pe_tup (pa_cons (pe_dget (hu_of hr) (pv 4) (pv 6) (fun _ _ => rfl)) (pa_cons (pv 7) (pa_cons (pe_dgetN (hu_of hr) (pv 4) (pv 8) ⟨rfl, rfl, rfl, rfl⟩) pa_nil)))) pa_nil)))))
  (pss_cons (ps_if (pt_cmpR (k_neD K hr.units) (pe_call G_answers hr_answers (by rfl) T.g_answers T.F_answers.kp T.b_answers .nil pass0 (pa_cons (pv 3) (pa_cons (pv 1) pa_nil))) (pv 5) (nomark _)) (pss_one (ps_ret pe_bl)) pss_nil)
  (pss_one (ps_ret (pe_cmpR (k_eqD K hr.units) (pe_call G_wrong_answers hr_wrong_answers (by rfl) T.g_wrong_answers T.F_wrong_answers.kp T.b_wrong_answers .nil pass0 (pa_cons (pv 3) (pa_cons (pv 1) pa_nil))) (pe_lc (own := [("_law_number", 6)]) rfl sc_less_right.nd (k_piL K (pe_call G_wrong_answers hr_wrong_answers (by rfl) T.g_wrong_answers T.F_wrong_answers.kp T.b_wrong_answers .nil pass0 (pa_cons (pv 0) (pa_cons (pv 1) pa_nil)))) (blkOk_by (own := [("_law_number", 6)]) (N := ["_law_log_here", "_law_engine", "_law_own", "_law_bare", "_law_spots", "_law_due", "_law_number", "_law_word_here", "_law_other", "_law_k", "_law_at"]) (sc := defScope s_less_right) (by decide +kernel)) (fun _ _ _ _ _ => (pg_name (i := 6) sc_less_right.nd rfl (by first | exact Or.inl rfl | exact Or.inr rfl))) (fun _ _ _ _ _ => pts_nil) (fun _ _ _ _ _ => (pe_dget (hu_of hr) (pv 4) (pv 6) (fun _ _ => rfl)))) (nomark _)))))))))), ?_⟩
    obtain ⟨as, hT, hR⟩ := id hL
    have la := hR.length
    have ndial : Str.ofString "a" ++ e = dialOf e ∧ ((Str.ofString "a").length + e.length ≤ sizeLine) := by
      have he2 : e = "port" ∨ e = "star" := by simpa [engines] using he
      rcases he2 with rfl | rfl <;> decide +kernel
    have at1 : ∀ {j : Nat} {r : Row}, rs[j]? = some r → ∃ a, atI (as.map V.ref) ((j : Nat) : Int) = some (.ref a) ∧ as[j]? = some a ∧ RowAt K H a r := fun {j r} q => by
      obtain ⟨a, ha, h2⟩ := hR.get q
      exact ⟨a, atI_nat (by rw [List.getElem?_map, ha]; rfl), ha, h2⟩
    have own_len : ∀ i, (ownL rs e i).length ≤ i := fun i => by
      have := List.length_filter_le (ownAt rs e) (List.range i)
      rw [List.length_range] at this
      exact this
    -- the own ones
    refine ⟨_, rfl, t, _, rfl, .inr hT, _, rfl, by omega, by rw [List.length_map]; omega, fun D hD => ?_⟩
    refine lc_it walk_range (fun i H' => Same H H' ∧ H' D = some (.lst ((ownL rs e i).map nv))) ⟨same_new (Same.refl _) hD, upd_same⟩ (fun _ _ _ _ => trivial) ?_ ?_
    · rintro i x _ H2 hi ⟨s2, e2⟩ ⟨rfl, rfl⟩
      rw [List.length_map, la, Int.toNat_natCast] at hi
      obtain ⟨r, hr1⟩ : ∃ r, rs[i]? = some r := ⟨_, List.getElem?_eq_getElem hi⟩
      obtain ⟨a, ha, _, row⟩ := at1 hr1
      have eo : ownAt rs e i = ownR e r := by
        unfold ownAt
        rw [hr1]
      refine ⟨rfl, _, rfl, _, rfl, t, _, _, _, rfl, rfl, same_seqT s2 hT, by rw [Int.zero_add]; exact ha, a, _, _, _, rfl, rfl, same_seqT s2 row, rfl, _, rfl, _, rfl, _, _, rfl, rfl, ndial.2, (by show 2 ≤ sizeLine; decide), fun u hu => ?_⟩
      generalize hX : upd H2 u _ = H3
      obtain ⟨S3, f3⟩ := alloc hu hX
      clear hX
      refine ⟨u, _, rfl, .inr (SqT.of f3), rfl, rfl, _, rfl, ?_⟩
      show if inV (V.str r.l) [V.str e, V.str (Str.ofString "a" ++ e)] = true then _ else _
      rw [own_in ndial.1, own_succ, eo]
      refine ite2 (fun z => ?_) (fun z => ?_)
      · rw [if_pos z]
        refine ⟨_, rfl, _, S3 _ _ e2, ?_, same_own (s2.trans S3) hD, ?_⟩
        · rw [List.length_map]
          have := own_len i
          exact small1000 (by omega)
        · rw [upd_same, List.map_append]
          simp only [Int.zero_add]
          rfl
      · rw [if_neg z, List.append_nil]
        exact ⟨s2.trans S3, S3 _ _ e2⟩
    rintro H1 ⟨S1, f1⟩
    rw [List.length_map, la, Int.toNat_natCast] at f1
    have ol := own_len rs.length
    -- the bare log
    refine ⟨_, rfl, D, rfl, ⟨_, SqL.of f1⟩, fun D2 hD2 => ?_⟩
    refine lc_it (walk_list (xs := (ownL rs e rs.length).map nv)) (fun i H' => Same H1 H' ∧ ∃ bs : List Addr, H' D2 = some (.lst (bs.map V.ref)) ∧ bs.length = i ∧ RowsAt K H' bs (((ownL rs e rs.length).take i).filterMap fun k => rs[k]?)) ⟨same_new (Same.refl _) hD2, [], upd_same, rfl, by rw [List.take_zero]; exact .nil⟩ (fun i H' _ q => SqL.of (q.1 _ _ f1)) ?_ ?_
    · rintro i x H2 H3 hi ⟨s2, bs, e2, lb, rb⟩ ⟨rfl, hx⟩
      rw [List.length_map] at hi
      obtain ⟨n, hn⟩ : ∃ n, (ownL rs e rs.length)[i]? = some n := ⟨_, List.getElem?_eq_getElem hi⟩
      have hx : ((ownL rs e rs.length).map nv)[i]? = some x := hx
      rw [List.getElem?_map, hn] at hx
      obtain rfl : nv n = x := Option.some.inj hx
      have nl := List.mem_range.mp (List.mem_filter.mp (List.mem_of_getElem? hn)).1
      obtain ⟨r, hr1⟩ : ∃ r, rs[n]? = some r := ⟨_, List.getElem?_eq_getElem nl⟩
      obtain ⟨a, ha, _, row⟩ := at1 hr1
      have s12 := S1.trans s2
      refine ⟨rfl, _, rfl, _, rfl, t, _, _, _, rfl, rfl, same_seqT s12 hT, ha, _, e2, by rw [List.length_map]; exact small1000 (by omega), same_own s2 hD2, bs ++ [a], by rw [upd_same, List.map_append]; rfl, by rw [List.length_append, lb]; rfl, ?_⟩
      rw [List.take_succ, hn, List.filterMap_append]
      have bt : But D2 H3 (upd H3 D2 (.lst (bs.map V.ref ++ [V.ref a]))) := But.put
      have z : ([n].filterMap fun k => rs[k]?) = [r] := by
        rw [List.filterMap_cons, hr1]
        rfl
      show RowsAt K _ _ (_ ++ [n].filterMap fun k => rs[k]?)
      rw [z]
      exact (rb.lst e2 bt).snoc (seqT_lst (same_seqT s12 row) e2 bt)
    rintro H2 ⟨S2, bs, f2, lb, rb⟩
    rw [List.length_map, List.take_length, own_rows] at rb
    refine ⟨D2, _, rfl, .inl ⟨SqL.of f2, fun b hb => ?_⟩⟩
    generalize hX : upd H2 b _ = H3
    obtain ⟨S3, f3⟩ := alloc hb hX
    clear hX
    have LB3 : LogAt K H3 b (bareR rs e) := ⟨bs, SqT.of f3, rb.same S3⟩
    have S13 := S2.trans S3
    have f1' := S13 _ _ f1
    have L3 := hL.same (S1.trans S13)
    clear f2 f3 rb
    -- the spots
    refine ⟨_, rfl, D, _, rfl, .inl ⟨SqL.of f1', fun D3 hD3 => ?_⟩⟩
    refine lc_it (walk_enum (xs := (ownL rs e rs.length).map nv)) (fun i H' => Same H3 H' ∧ ∃ ps : List Addr, H' D3 = some (.lst (ps.map V.ref)) ∧ ps.length = i ∧ Paired (fun p kv => SqT K H' p [kV kv.1, kv.2]) ps (kvsOf ((ownL rs e rs.length).take i))) ⟨same_new (Same.refl _) hD3, [], upd_same, rfl, by rw [List.take_zero]; exact .nil⟩ (fun i H' _ q => SqL.of (q.1 _ _ f1')) ?_ ?_
    · rintro i x H4 H5 hi ⟨s4, ps, e4, lp, rp⟩ ⟨Tq, y1, y2, rfl, hTq, rfl, e1, e3⟩
      have : y1 = V.int (i : Nat) := (Option.some.inj e1).symm
      subst this
      rw [List.length_map] at hi
      obtain ⟨n, hn⟩ : ∃ n, (ownL rs e rs.length)[i]? = some n := ⟨_, List.getElem?_eq_getElem hi⟩
      have e3 : ((ownL rs e rs.length).map nv)[i]? = some y2 := e3
      rw [List.getElem?_map, hn] at e3
      obtain rfl : nv n = y2 := Option.some.inj e3
      generalize hX : upd H4 Tq _ = H6
      obtain ⟨S6, f6⟩ := alloc hTq hX
      clear hX
      refine ⟨Tq, _, rfl, SqT.of f6, rfl, _, _, rfl, _, _, rfl, rfl, rfl, _, rfl, _, rfl, (by show 2 ≤ sizeLine; decide), fun u hu => ?_⟩
      generalize hX : upd H6 u _ = H7
      obtain ⟨S7, f7⟩ := alloc hu hX
      clear hX
      have s47 := S6.trans S7
      refine ⟨_, s47 _ _ e4, by rw [List.length_map]; exact small1000 (by omega), same_own (s4.trans s47) hD3, ps ++ [u], by rw [upd_same, List.map_append]; rfl, by rw [List.length_append, lp]; rfl, ?_⟩
      have bt : But D3 H7 (upd H7 D3 (.lst (ps.map V.ref ++ [V.ref u]))) := But.put
      have e7 := s47 _ _ e4
      have ln : ((ownL rs e rs.length).take i).length = i := by rw [List.length_take]; omega
      rw [List.take_succ, hn]
      show Paired _ _ (kvsOf (_ ++ [n]))
      rw [kvs_snoc, ln]
      exact paired_snoc (paired_imp rp fun p kv s => seqT_lst (same_seqT s47 s) e7 bt) (seqT_lst (SqT.of f7) e7 bt)
    rintro H4 ⟨S4, ps, f4, lp, rp⟩
    rw [List.length_map, List.take_length] at rp
    refine ⟨D3, ps, _, rfl, SqL.of f4, rp, fun d hd => ?_⟩
    generalize hX : upd H4 d _ = H5
    obtain ⟨S5, f5⟩ := alloc hd hX
    clear hX rp
    refine ⟨(by show 0 ≤ sizeLine; decide), fun U hU => ?_⟩
    generalize hX : upd H5 U _ = H6
    obtain ⟨S6, f6⟩ := alloc hU hX
    clear hX
    have S36 := S4.trans (S5.trans S6)
    have L6 := L3.same S36
    have LB6 := LB3.same S36
    have f56 := S6 _ _ f5
    have HU : H U = none := by
      cases z : H U with
      | none => rfl
      | some o => rw [(S1.trans (S13.trans (S4.trans S5))) _ _ z] at hU; cases hU
    have SA := S1.trans (S13.trans S36)
    -- what became of each
    refine ⟨_, rfl, _, rfl, t, rs, e, rfl, L6, by omega, he, fun H7 q as7 ds7 S7 hq f7 an => ?_⟩
    have la7 := an.len
    have nqU : q ≠ U := fun z => by rw [z, f6] at hq; cases hq
    have f67 := S7 _ _ f6
    refine ⟨q, rfl, ⟨_, SqL.of f7⟩, ?_⟩
    have S57 := S6.trans S7
    have f57 := S57 _ _ f5
    refine for_it (walk_list (xs := as7.map V.ref)) (fun i σ H' => ∃ (x6 x7 x8 : Option V), σ = [some (.ref t), some (.str e), some (.ref D), some (.ref b), some (.ref d), some (.ref U), x6, x7, x8, none, none] ∧ But U H7 H' ∧ ∃ us ds, H' U = some (.lst (us.map V.ref)) ∧ AnsAt K H' (bareR rs e) e (((onL rs e rs.length).take i).map (gP rs e)) us ds)
      ⟨none, none, none, rfl, But.refl, [], [], f67, by rw [List.take_zero]; exact .nil⟩ (fun i σ H' _ ⟨_, _, _, _, bU, _⟩ => bU.seqL nqU (SqL.of f7)) ?_ ?_
    · rintro i x σ _ H8 hi ⟨x6, x7, x8, rfl, bU, us, ds, eU, anU⟩ ⟨rfl, hx⟩
      have hx : (as7.map V.ref)[i]? = some x := hx
      rw [List.length_map, la7.1] at hi
      obtain ⟨n, hn⟩ : ∃ n, (onL rs e rs.length)[i]? = some n := ⟨_, List.getElem?_eq_getElem hi⟩
      obtain ⟨a, word, kk, ha, _, ra, bec⟩ := an.at_ hn
      rw [List.getElem?_map, ha] at hx
      obtain rfl : V.ref a = x := Option.some.inj hx
      have lus := anU.len.1
      have llen := onL_len rs e rs.length
      obtain ⟨nl, nline⟩ := onL_mem.mp (List.mem_of_getElem? hn)
      have nown : ownAt rs e n = true := by
        obtain ⟨r, hr1⟩ : ∃ r, rs[n]? = some r := ⟨_, List.getElem?_eq_getElem nl⟩
        rw [lineAt_some hr1] at nline
        exact own_of hr1 (decide_eq_true (.inl (of_decide_eq_true nline)))
      have sq : SqT K H8 a [nv n, .str word, kv kk] := seqT_lst ra f67 bU
      have dne : d ≠ U := fun z => by rw [z, f67] at f57; cases f57
      have d8 := bU _ _ dne f57
      have dg := DGet.k (k := .inl (n : Int)) d8
      rw [own_val rs.length n nl nown] at dg
      refine ⟨a, _, rfl, sq, rfl, _, _, rfl, _, _, rfl, _, _, rfl, rfl, ?_⟩
      refine ⟨_, rfl, .inl ⟨rfl, _, SqL.of eU⟩, _, rfl, _, rfl, d, _, rfl, dg, _, rfl, _, rfl, d, rfl, .inl ⟨_, .inl d8⟩, _, rfl, _, d8, ?_⟩
      cases kk with
      | none =>
        refine .inr ⟨rfl, ?_⟩
        refine ⟨(by show 3 ≤ sizeLine; decide), fun u hu => ?_⟩
        generalize hX : upd H8 u _ = H9
        obtain ⟨S9, f9⟩ := alloc hu hX
        clear hX
        have e9 := S9 _ _ eU
        have bt : But U H9 (upd H9 U (.lst (us.map V.ref ++ [V.ref u]))) := But.put
        refine ⟨U, _, _, rfl, rfl, e9, small1000 (by rw [List.length_map, lus, List.length_map, List.length_take]; omega), ?_⟩
        refine ⟨_, _, _, rfl, (bU.trans (But.of_same S9)).trans bt, us ++ [u], ds ++ [(gP rs e n, word, (none : Option Nat).map (gP rs e))], by rw [upd_same, List.map_append]; rfl, ?_⟩
        rw [List.take_succ, hn, List.map_append]
        exact .snoc (anU.imp fun _ _ s => seqT_lst (same_seqT S9 s) e9 bt) (seqT_lst (SqT.of f9) e9 bt) (became_bare nline bec)
      | some j =>
        refine .inl ⟨.inl (j : Int), rfl, ?_⟩
        rw [own_val rs.length j ((became_ok bec).2.2 j rfl) (became_own bec)]
        refine ⟨(by show 3 ≤ sizeLine; decide), fun u hu => ?_⟩
        generalize hX : upd H8 u _ = H9
        obtain ⟨S9, f9⟩ := alloc hu hX
        clear hX
        have e9 := S9 _ _ eU
        have bt : But U H9 (upd H9 U (.lst (us.map V.ref ++ [V.ref u]))) := But.put
        refine ⟨U, _, _, rfl, rfl, e9, small1000 (by rw [List.length_map, lus, List.length_map, List.length_take]; omega), ?_⟩
        refine ⟨_, _, _, rfl, (bU.trans (But.of_same S9)).trans bt, us ++ [u], ds ++ [(gP rs e n, word, (some j).map (gP rs e))], by rw [upd_same, List.map_append]; rfl, ?_⟩
        rw [List.take_succ, hn, List.map_append]
        exact .snoc (anU.imp fun _ _ s => seqT_lst (same_seqT S9 s) e9 bt) (seqT_lst (SqT.of f9) e9 bt) (became_bare nline bec)
    · rintro σ H8 ⟨x6, x7, x8, rfl, bU, us, ds, eU, anU⟩
      rw [List.length_map, la7.1, List.take_length, ← onL_bare] at anU
      have SB : Same H H8 := fun x o z => bU x o (ne_of_none z HU) ((SA.trans S7) _ _ z)
      have lowB : ∀ {x : Addr} {rs' : List Row}, LogAt K H7 x rs' → LogAt K H8 x rs' := fun ⟨a1, a2, a3⟩ => ⟨a1, seqT_lst a2 f67 bU, a3.lst f67 bU⟩
      have LB8 := lowB (LB6.same S7)
      have L8 := lowB (L6.same S7)
      have dne : d ≠ U := fun z => by rw [z, f67] at f57; cases f57
      have d8 := bU _ _ dne f57
      have bl : (bareR rs e).length ≤ 41 := by
        have := List.length_filter_le (ownR e) rs
        unfold bareR
        omega
      have okb : ∀ r ∈ bareR rs e, r.Ok := fun r hr => oks r (List.mem_filter.mp hr).1
      -- the answers without the others
      refine ⟨_, rfl, _, rfl, b, bareR rs e, e, rfl, LB8, bl, he, fun H9 q2 as9 ds9 S9 hq9 f9 an9 => ?_⟩
      obtain rfl : ds9 = ds := anU.one an9 rfl
      have rep9 : RepOk (.list (ds9.map ansD)) 2 1148 := (RepOk.list fun d hd => an9.rep bl d hd).mono (Nat.le_refl _) (by rw [List.length_map, an9.len.2]; have := onL_len (bareR rs e) e (bareR rs e).length; omega)
      refine ⟨_, rfl, .list (ds9.map ansD), .list (ds9.map ansD), .lst (SqL.of f9) an9.dp, .lst (SqL.of (S9 _ _ eU)) (anU.imp fun _ _ s => same_seqT S9 s).dp, rep9.shaped (by decide), rep9.shaped (by decide), _, rfl, ?_⟩
      rw [eqv_rep rep9]
      refine iteF ?_
      -- the wrong ones without the others
      refine ⟨_, rfl, _, rfl, b, bareR rs e, e, rfl, LB8.same S9, bl, okb, he, fun H10 w10 S10 hw10 f10 => ?_⟩
      refine ⟨_, rfl, _, rfl, t, rs, e, rfl, L8.same (S9.trans S10), by omega, oks, he, fun H11 w11 S11 hw11 f11 => ?_⟩
      have S811 := S9.trans (S10.trans S11)
      have d11 := S811 _ _ d8
      have wl := wrongTo_len e rs rs.length
      refine ⟨w11, rfl, ⟨_, SqL.of f11⟩, fun D5 hD5 => ?_⟩
      refine lc_it (walk_list (xs := (wrongTo e rs rs.length).2.map V.int)) (fun i H' => Same H11 H' ∧ H' D5 = some (.lst ((((wrongTo e rs rs.length).2.map fun m => ((gP rs e m.toNat : Nat) : Int)).take i).map V.int))) ⟨same_new (Same.refl _) hD5, by rw [List.take_zero]; exact upd_same⟩ (fun i H' _ z => SqL.of (z.1 _ _ f11)) ?_ ?_
      · rintro i x H12 H13 hi ⟨s12, e12⟩ ⟨rfl, hx⟩
        rw [List.length_map] at hi
        obtain ⟨m, hm⟩ : ∃ m, (wrongTo e rs rs.length).2[i]? = some m := ⟨_, List.getElem?_eq_getElem hi⟩
        have hx : ((wrongTo e rs rs.length).2.map V.int)[i]? = some x := hx
        rw [List.getElem?_map, hm] at hx
        obtain rfl : V.int m = x := Option.some.inj hx
        obtain ⟨k1, r1, k1l, k1r, rfl, k1d, _⟩ := (wrong_mem he m _).mp (List.mem_of_getElem? hm)
        have dg := DGet.k (k := .inl (k1 : Int)) (s12 _ _ d11)
        rw [own_val rs.length k1 k1l (own_of k1r (decide_eq_true (.inr k1d)))] at dg
        refine ⟨rfl, _, rfl, _, rfl, d, _, rfl, dg, _, e12, by rw [List.length_map]; exact small1000 (by rw [List.length_take, List.length_map]; omega), same_own s12 hD5, ?_⟩
        rw [upd_same, List.take_succ, List.getElem?_map, hm, List.map_append]
        rfl
      rintro H12 ⟨S12, e12⟩
      rw [List.length_map] at e12
      have tl : ((wrongTo e rs rs.length).2.map fun m => ((gP rs e m.toNat : Nat) : Int)).take (wrongTo e rs rs.length).2.length = (wrongTo e rs rs.length).2.map fun m => ((gP rs e m.toNat : Nat) : Int) := List.take_of_length_le (by rw [List.length_map]; exact Nat.le_refl _)
      rw [tl, show ((wrongTo e rs rs.length).2.map fun m => ((gP rs e m.toNat : Nat) : Int)) = (wrongTo e (bareR rs e) (bareR rs e).length).2 by rw [wrong_bare he]] at e12
      have wb := wrongTo_len e (bareR rs e) (bareR rs e).length
      have repw := ints_rep (ns := (wrongTo e (bareR rs e) (bareR rs e).length).2) (k := 41) (fun m hm => by
        obtain ⟨k1, _, k2, _, rfl, _⟩ := (wrong_mem he m _).mp hm
        exact Nat.lt_of_lt_of_le (show k1 < 1000 by omega) (by decide +kernel)) (by omega)
      refine ⟨_, _, .lst (SqL.of (S12 _ _ (S11 _ _ f10))) (dpAll_ints _), .lst (SqL.of e12) (dpAll_ints _), repw.shaped (by decide), repw.shaped (by decide), ?_⟩
      rw [eqv_rep repw]
      exact k _ (SB.trans (S811.trans S12))
/-! ### the law -/
theorem ok_law (T : Txt w K mg) : GOk P w K mg base CX0 6 T.a_law T.d_law ["_law_script"] (spLaw K) := by
  have G_pen := ok_pen (P := P) (base := base) T
  have G_draw := ok_draw (P := P) (base := base) T
  have G_pick := ok_pick (P := P) (base := base) T
  have G_log := ok_log (P := P) (base := base) T
  have G_hang_right := ok_hang_right (P := P) (base := base) T
  have G_less_right := ok_less_right (P := P) (base := base) T
  have G_more_right := ok_more_right (P := P) (base := base) T
  refine GOk.body T.F_law sc_law (fun vs H Q E h => ?_) (fun cdv A outer s H vs Q E hr hG h => ?_)
  · obtain ⟨a, ns, rfl, _⟩ := h
    rfl
  · obtain ⟨a, ns, rfl, hS, hl, k⟩ := h
    have hr_log := hr.mono (show 4 ≤ 5 by decide)
    have hr_hang_right := hr_log
    have hr_less_right := hr_log
    have hr_more_right := hr_log
    have hr_pen := hr.mono (show 1 ≤ 5 by decide)
    have hr_draw := hr_pen
    have hr_pick := hr.mono (show 2 ≤ 5 by decide)
    refine ⟨_, (pss_cons (ps_set (i := 1) sc_law.nd rfl (by first | exact Or.inl rfl | exact Or.inr rfl) (pe_call G_pen hr_pen (by rfl) T.g_pen T.F_pen.kp T.b_pen .nil pass0 (pa_cons (pv 0) pa_nil)))
  (pss_cons (ps_for PassesOwn.never rfl (pi_range1 (by rfl) T.z_range (pa_cons pe_int pa_nil)) (pg_name (i := 2) sc_law.nd rfl (by first | exact Or.inl rfl | exact Or.inr rfl)) (pss_cons (ps_set (i := 3) sc_law.nd rfl (by first | exact Or.inl rfl | exact Or.inr rfl) (pe_call G_log hr_log (by rfl) T.g_log T.F_log.kp T.b_log .nil pass0 (pa_cons (pv 1) (pa_cons (pe_ix (kx_list K) (pe_lst (pa_cons pe_int (pa_cons pe_int pa_nil))) (pe_callTy call_int1 (by rfl) T.z_int (by decide +kernel) (pa_cons (pe_cmpR op_eq (pe_call G_draw hr_draw (by rfl) T.g_draw T.F_draw.kp T.b_draw .nil pass0 (pa_cons (pv 1) (pa_cons pe_int pa_nil))) pe_int (nomark _)) pa_nil)) (fun _ _ => rfl)) pa_nil))))
  (pss_cons (ps_set (i := 4) sc_law.nd rfl (by first | exact Or.inl rfl | exact Or.inr rfl) (pe_call G_pick hr_pick (by rfl) T.g_pick T.F_pick.kp T.b_pick .nil pass0 (pa_cons (pv 1) (pa_cons (pe_lst (pa_cons pe_str (pa_cons pe_str pa_nil))) pa_nil))))
  (pss_cons (ps_if (PW.pt (pw_or (pt_not (pt_val (pe_call G_hang_right hr_hang_right (by rfl) T.g_hang_right T.F_hang_right.kp T.b_hang_right .nil pass0 (pa_cons (pv 3) (pa_cons (pv 4) pa_nil))))) (pw_or1 (pt_not (pt_val (pe_call G_less_right hr_less_right (by rfl) T.g_less_right T.F_less_right.kp T.b_less_right .nil pass0 (pa_cons (pv 3) (pa_cons (pv 4) pa_nil)))))))) (pss_one (ps_ret pe_bl)) pss_nil)
  (pss_one (ps_if (PW.pt (pw_or (pt_not (pt_val (pe_call G_more_right hr_more_right (by rfl) T.g_more_right T.F_more_right.kp T.b_more_right .nil pass0 (pa_cons (pv 1) (pa_cons (pv 3) (pa_cons (pv 4) pa_nil)))))) (pw_or1 (pt_not (pt_val (pe_call G_more_right hr_more_right (by rfl) T.g_more_right T.F_more_right.kp T.b_more_right .nil pass0 (pa_cons (pv 1) (pa_cons (pv 3) (pa_cons (pv 4) pa_nil))))))))) (pss_one (ps_ret pe_bl)) pss_nil))))))
  (pss_one (ps_ret pe_bl)))), ?_⟩
    refine ⟨_, rfl, a, ns, rfl, hS, hl, fun H1 p c S1 hp0 hp hc => ?_⟩
    refine ⟨4, rfl, by decide, by decide, ?_⟩
    refine for_it walk_range (fun i σ H' => ∃ (x2 x3 x4 : Option V), σ = [some (.ref a), some (.ref p), x2, x3, x4] ∧ PenAt H' p c (1200 * i) ∧ Cells K H' p c)
      ⟨none, none, none, rfl, hp, hc⟩ (fun _ _ _ _ _ => trivial) ?_ ?_
    · rintro i x σ _ H2 hi ⟨x2, x3, x4, rfl, hp2, hc2⟩ ⟨rfl, rfl⟩
      have hi4 : i < 4 := hi
      refine ⟨_, rfl, (by show 2 ≤ sizeLine; decide), fun l hl0 => ?_⟩
      generalize hX : upd H2 l _ = H3
      obtain ⟨S3, f3⟩ := alloc hl0 hX
      have g3 := (Go.refl hp2 hc2).same S3
      have nl := Ne.symm ((Go.refl hp2 hc2).ne_new hl0)
      clear hX
      refine ⟨_, rfl, p, c, _, 16, rfl, g3.pen, g3.cel, by omega, by decide, by decide, fun H4 r g4 r0 r1 => ?_⟩
      refine ⟨rfl, .inr ⟨_, rfl, ?_⟩⟩
      obtain ⟨mst, emst, m4, m40⟩ : ∃ mst : Int, atI [V.int 12, V.int 39] (if decide (V.int r = V.int 0) = true then 1 else 0) = some (.int mst) ∧ 4 ≤ mst ∧ mst ≤ 40 := by
        by_cases q : V.int r = V.int 0
        · rw [if_pos (decide_eq_true q)]
          exact ⟨39, rfl, by decide, by decide⟩
        · rw [if_neg (fun y => q (of_decide_eq_true y))]
          exact ⟨12, rfl, by decide, by decide⟩
      refine ⟨l, _, _, _, rfl, rfl, g4.but.seqL nl (SqL.of f3), emst, ?_⟩
      refine ⟨p, c, _, mst, rfl, g4.pen, g4.cel, by omega, m4, m40, fun H5 t rs g5 ht hL hlen hok _ => ?_⟩
      -- the engine
      refine ⟨_, rfl, (by show 2 ≤ sizeLine; decide), fun l2 hl2 => ?_⟩
      generalize hX : upd H5 l2 _ = H6
      obtain ⟨S6, f6⟩ := alloc hl2 hX
      clear hX
      have g6 := g5.same S6
      refine ⟨p, c, l2, _, _, rfl, g6.pen, g6.cel, by omega, .inl ⟨SqL.of f6, Ne.symm (g5.ne_new hl2)⟩, by simp, (by show 2 ≤ 1000000; decide), fun H7 v g7 hv => ?_⟩
      obtain ⟨e, rfl, he⟩ : ∃ e : Str, v = V.str e ∧ e ∈ engines := by
        have z : v = V.str (Str.ofString "port") ∨ v = V.str (Str.ofString "star") := by simpa using hv
        rcases z with z | z <;> exact ⟨_, z, by decide +kernel⟩
      clear hv
      have L7 := (hL.same S6).go g6.pen g7.but
      have G7 := (g3.trans (g4.trans g6)).trans g7
      refine ⟨_, rfl, _, rfl, t, rs, e, rfl, L7, by omega, hok, he, fun H8 S8 => ?_⟩
      refine ⟨_, rfl, ?_⟩
      refine iteF ?_
      refine ⟨_, rfl, _, rfl, t, rs, e, rfl, L7.same S8, hlen, hok, he, fun H9 S9 => ?_⟩
      refine ⟨_, rfl, ?_⟩
      refine iteF ?_
      have G9 := G7.same (S8.trans S9)
      have L9 := L7.same (S8.trans S9)
      refine ⟨_, rfl, _, rfl, _, rfl, p, c, t, _, rs, e, rfl, G9.pen, G9.cel, by omega, L9, hlen, hok, he, fun H10 g10 => ?_⟩
      refine ⟨_, rfl, ?_⟩
      refine iteF ?_
      have L10 := L9.go G9.pen g10.but
      refine ⟨_, rfl, _, rfl, _, rfl, p, c, t, _, rs, e, rfl, g10.pen, g10.cel, by omega, L10, hlen, hok, he, fun H11 g11 => ?_⟩
      refine ⟨_, rfl, ?_⟩
      refine iteF ?_
      have G11 := (G9.trans g10).trans g11
      exact ⟨_, _, _, rfl, G11.pen.mono (by omega), G11.cel⟩
    · rintro σ H2 ⟨x2, x3, x4, rfl, hp2, hc2⟩
      exact k _
end
theorem all_mk {l : PySem.W.OpenLaw} {w : World} {K : PySem.W.Frag} {h : Heap} {mg : Str → Option Value} {fa : Addr} (X : K.In h) (G : h.Ns mainGlobals mg) (hfa : mg "law" = some (.ref fa))
    {f0 : Addr} {od0 an0 : Option Addr} {sl0 : Array (Option Value)} {oc0 kV0 dc0 pm0 cd0 ct0 : Value} (a0 : PySem.W.nsIn K mainGlobals "dial_of" = some (some (.ref f0))) (l0 : K.lookup f0 = some ⟨oc0, od0, .func (PySem.W.fnOf "dial_of" "dial_of" (defArgs s_dial_of) (defBody s_dial_of) (defScope s_dial_of) .none kV0 dc0 pm0 an0 cd0 ct0), sl0⟩) (c0 : PySem.W.codeIn K cd0 "dial_of" = true) (k0 : PySem.W.keepIn K (.ref f0) = true)
    {f1 : Addr} {od1 an1 : Option Addr} {sl1 : Array (Option Value)} {oc1 kV1 dc1 pm1 cd1 ct1 : Value} (a1 : PySem.W.nsIn K mainGlobals "rows_on" = some (some (.ref f1))) (l1 : K.lookup f1 = some ⟨oc1, od1, .func (PySem.W.fnOf "rows_on" "rows_on" (defArgs s_rows_on) (defBody s_rows_on) (defScope s_rows_on) .none kV1 dc1 pm1 an1 cd1 ct1), sl1⟩) (c1 : PySem.W.codeIn K cd1 "rows_on" = true) (k1 : PySem.W.keepIn K (.ref f1) = true)
    {f2 : Addr} {od2 an2 : Option Addr} {sl2 : Array (Option Value)} {oc2 kV2 dc2 pm2 cd2 ct2 : Value} (a2 : PySem.W.nsIn K mainGlobals "answers" = some (some (.ref f2))) (l2 : K.lookup f2 = some ⟨oc2, od2, .func (PySem.W.fnOf "answers" "answers" (defArgs s_answers) (defBody s_answers) (defScope s_answers) .none kV2 dc2 pm2 an2 cd2 ct2), sl2⟩) (c2 : PySem.W.codeIn K cd2 "answers" = true) (k2 : PySem.W.keepIn K (.ref f2) = true)
    {f3 : Addr} {od3 an3 : Option Addr} {sl3 : Array (Option Value)} {oc3 kV3 dc3 pm3 cd3 ct3 : Value} (a3 : PySem.W.nsIn K mainGlobals "what_became" = some (some (.ref f3))) (l3 : K.lookup f3 = some ⟨oc3, od3, .func (PySem.W.fnOf "what_became" "what_became" (defArgs s_what_became) (defBody s_what_became) (defScope s_what_became) .none kV3 dc3 pm3 an3 cd3 ct3), sl3⟩) (c3 : PySem.W.codeIn K cd3 "what_became" = true) (k3 : PySem.W.keepIn K (.ref f3) = true)
    {f4 : Addr} {od4 an4 : Option Addr} {sl4 : Array (Option Value)} {oc4 kV4 dc4 pm4 cd4 ct4 : Value} (a4 : PySem.W.nsIn K mainGlobals "wrong_answers" = some (some (.ref f4))) (l4 : K.lookup f4 = some ⟨oc4, od4, .func (PySem.W.fnOf "wrong_answers" "wrong_answers" (defArgs s_wrong_answers) (defBody s_wrong_answers) (defScope s_wrong_answers) .none kV4 dc4 pm4 an4 cd4 ct4), sl4⟩) (c4 : PySem.W.codeIn K cd4 "wrong_answers" = true) (k4 : PySem.W.keepIn K (.ref f4) = true)
    {f5 : Addr} {od5 an5 : Option Addr} {sl5 : Array (Option Value)} {oc5 kV5 dc5 pm5 cd5 ct5 : Value} (a5 : PySem.W.nsIn K mainGlobals "_law_pen" = some (some (.ref f5))) (l5 : K.lookup f5 = some ⟨oc5, od5, .func (PySem.W.fnOf "_law_pen" "_law_pen" (defArgs s_pen) (defBody s_pen) (defScope s_pen) .none kV5 dc5 pm5 an5 cd5 ct5), sl5⟩) (c5 : PySem.W.codeIn K cd5 "_law_pen" = true) (k5 : PySem.W.keepIn K (.ref f5) = true)
    {f6 : Addr} {od6 an6 : Option Addr} {sl6 : Array (Option Value)} {oc6 kV6 dc6 pm6 cd6 ct6 : Value} (a6 : PySem.W.nsIn K mainGlobals "_law_draw" = some (some (.ref f6))) (l6 : K.lookup f6 = some ⟨oc6, od6, .func (PySem.W.fnOf "_law_draw" "_law_draw" (defArgs s_draw) (defBody s_draw) (defScope s_draw) .none kV6 dc6 pm6 an6 cd6 ct6), sl6⟩) (c6 : PySem.W.codeIn K cd6 "_law_draw" = true) (k6 : PySem.W.keepIn K (.ref f6) = true)
    {f7 : Addr} {od7 an7 : Option Addr} {sl7 : Array (Option Value)} {oc7 kV7 dc7 pm7 cd7 ct7 : Value} (a7 : PySem.W.nsIn K mainGlobals "_law_pick" = some (some (.ref f7))) (l7 : K.lookup f7 = some ⟨oc7, od7, .func (PySem.W.fnOf "_law_pick" "_law_pick" (defArgs s_pick) (defBody s_pick) (defScope s_pick) .none kV7 dc7 pm7 an7 cd7 ct7), sl7⟩) (c7 : PySem.W.codeIn K cd7 "_law_pick" = true) (k7 : PySem.W.keepIn K (.ref f7) = true)
    {f8 : Addr} {od8 an8 : Option Addr} {sl8 : Array (Option Value)} {oc8 kV8 dc8 pm8 cd8 ct8 : Value} (a8 : PySem.W.nsIn K mainGlobals "_law_word" = some (some (.ref f8))) (l8 : K.lookup f8 = some ⟨oc8, od8, .func (PySem.W.fnOf "_law_word" "_law_word" (defArgs s_word) (defBody s_word) (defScope s_word) .none kV8 dc8 pm8 an8 cd8 ct8), sl8⟩) (c8 : PySem.W.codeIn K cd8 "_law_word" = true) (k8 : PySem.W.keepIn K (.ref f8) = true)
    {f9 : Addr} {od9 an9 : Option Addr} {sl9 : Array (Option Value)} {oc9 kV9 dc9 pm9 cd9 ct9 : Value} (a9 : PySem.W.nsIn K mainGlobals "_law_log" = some (some (.ref f9))) (l9 : K.lookup f9 = some ⟨oc9, od9, .func (PySem.W.fnOf "_law_log" "_law_log" (defArgs s_log) (defBody s_log) (defScope s_log) .none kV9 dc9 pm9 an9 cd9 ct9), sl9⟩) (c9 : PySem.W.codeIn K cd9 "_law_log" = true) (k9 : PySem.W.keepIn K (.ref f9) = true)
    {f10 : Addr} {od10 an10 : Option Addr} {sl10 : Array (Option Value)} {oc10 kV10 dc10 pm10 cd10 ct10 : Value} (a10 : PySem.W.nsIn K mainGlobals "_law_hang_right" = some (some (.ref f10))) (l10 : K.lookup f10 = some ⟨oc10, od10, .func (PySem.W.fnOf "_law_hang_right" "_law_hang_right" (defArgs s_hang_right) (defBody s_hang_right) (defScope s_hang_right) .none kV10 dc10 pm10 an10 cd10 ct10), sl10⟩) (c10 : PySem.W.codeIn K cd10 "_law_hang_right" = true) (k10 : PySem.W.keepIn K (.ref f10) = true)
    {f11 : Addr} {od11 an11 : Option Addr} {sl11 : Array (Option Value)} {oc11 kV11 dc11 pm11 cd11 ct11 : Value} (a11 : PySem.W.nsIn K mainGlobals "_law_less_right" = some (some (.ref f11))) (l11 : K.lookup f11 = some ⟨oc11, od11, .func (PySem.W.fnOf "_law_less_right" "_law_less_right" (defArgs s_less_right) (defBody s_less_right) (defScope s_less_right) .none kV11 dc11 pm11 an11 cd11 ct11), sl11⟩) (c11 : PySem.W.codeIn K cd11 "_law_less_right" = true) (k11 : PySem.W.keepIn K (.ref f11) = true)
    {f12 : Addr} {od12 an12 : Option Addr} {sl12 : Array (Option Value)} {oc12 kV12 dc12 pm12 cd12 ct12 : Value} (a12 : PySem.W.nsIn K mainGlobals "_law_more_right" = some (some (.ref f12))) (l12 : K.lookup f12 = some ⟨oc12, od12, .func (PySem.W.fnOf "_law_more_right" "_law_more_right" (defArgs s_more_right) (defBody s_more_right) (defScope s_more_right) .none kV12 dc12 pm12 an12 cd12 ct12), sl12⟩) (c12 : PySem.W.codeIn K cd12 "_law_more_right" = true) (k12 : PySem.W.keepIn K (.ref f12) = true)
    {f13 : Addr} {od13 an13 : Option Addr} {sl13 : Array (Option Value)} {oc13 kV13 dc13 pm13 cd13 ct13 : Value} (a13 : PySem.W.nsIn K mainGlobals "law" = some (some (.ref f13))) (l13 : K.lookup f13 = some ⟨oc13, od13, .func (PySem.W.fnOf "law" "law" (defArgs s_law) (defBody s_law) (defScope s_law) .none kV13 dc13 pm13 an13 cd13 ct13), sl13⟩) (c13 : PySem.W.codeIn K cd13 "law" = true) (k13 : PySem.W.keepIn K (.ref f13) = true)
    (z_abs : PySem.W.nsIn K mainGlobals "abs" = some none)
    (z_dict : PySem.W.nsIn K mainGlobals "dict" = some none)
    (z_enumerate : PySem.W.nsIn K mainGlobals "enumerate" = some none)
    (z_int : PySem.W.nsIn K mainGlobals "int" = some none)
    (z_len : PySem.W.nsIn K mainGlobals "len" = some none)
    (z_max : PySem.W.nsIn K mainGlobals "max" = some none)
    (z_min : PySem.W.nsIn K mainGlobals "min" = some none)
    (z_range : PySem.W.nsIn K mainGlobals "range" = some none)
    (z_set : PySem.W.nsIn K mainGlobals "set" = some none)
    (z_tuple : PySem.W.nsIn K mainGlobals "tuple" = some none)
    {D_DIALS : Addr} (m_DIALS : PySem.W.nsIn K mainGlobals "DIALS" = some (some (.ref D_DIALS))) {es_DIALS : Array DictEntry} {n_DIALS : Nat} (kl_DIALS : K.lookup D_DIALS = some ⟨.type "dict", none, .dict es_DIALS n_DIALS, #[]⟩) (kk_DIALS : PySem.W.KeysLit w.params es_DIALS.toList) (ks_DIALS : (D_DIALS == sysModules) = false) {u0_DIALS : Tok} (ki0_DIALS : PySem.W.nsIn K D_DIALS "port" = some (some (.str "aport" u0_DIALS))) {u1_DIALS : Tok} (ki1_DIALS : PySem.W.nsIn K D_DIALS "star" = some (some (.str "astar" u1_DIALS))) :
    ∃ fd : FuncData, (∀ (s : Shared) (v : Value), BindsTo s fd ⟨[v], []⟩ [("_law_script", v)]) ∧ ∀ base : Heap, K.In base → base.Ns mainGlobals mg → GOk l.prog w K mg base CX0 6 fa fd ["_law_script"] (spLaw K) := by
  have e := hfa.symm.trans (PySem.W.mg_of X G a13)
  cases e
  have F0 := fun_mk (st := s_dial_of) l0 c0 k0
  have F1 := fun_mk (st := s_rows_on) l1 c1 k1
  have F2 := fun_mk (st := s_answers) l2 c2 k2
  have F3 := fun_mk (st := s_what_became) l3 c3 k3
  have F4 := fun_mk (st := s_wrong_answers) l4 c4 k4
  have F5 := fun_mk (st := s_pen) l5 c5 k5
  have F6 := fun_mk (st := s_draw) l6 c6 k6
  have F7 := fun_mk (st := s_pick) l7 c7 k7
  have F8 := fun_mk (st := s_word) l8 c8 k8
  have F9 := fun_mk (st := s_log) l9 c9 k9
  have F10 := fun_mk (st := s_hang_right) l10 c10 k10
  have F11 := fun_mk (st := s_less_right) l11 c11 k11
  have F12 := fun_mk (st := s_more_right) l12 c12 k12
  have F13 := fun_mk (st := s_law) l13 c13 k13
  let T : Txt w K mg := {
    a_dial_of := f0, d_dial_of := _, F_dial_of := F0, b_dial_of := F0.binds (ps := ["engine"]) (fun _ _ _ _ _ _ us hl => match us, hl with | [_], _ => rfl), g_dial_of := PySem.W.mg_of X G a0,
    a_rows_on := f1, d_rows_on := _, F_rows_on := F1, b_rows_on := F1.binds (ps := ["log", "line"]) (fun _ _ _ _ _ _ us hl => match us, hl with | [_, _], _ => rfl), g_rows_on := PySem.W.mg_of X G a1,
    a_answers := f2, d_answers := _, F_answers := F2, b_answers := F2.binds (ps := ["log", "engine"]) (fun _ _ _ _ _ _ us hl => match us, hl with | [_, _], _ => rfl), g_answers := PySem.W.mg_of X G a2,
    a_what_became := f3, d_what_became := _, F_what_became := F3, b_what_became := F3.binds (ps := ["log", "engine", "number"]) (fun _ _ _ _ _ _ us hl => match us, hl with | [_, _, _], _ => rfl), g_what_became := PySem.W.mg_of X G a3,
    a_wrong_answers := f4, d_wrong_answers := _, F_wrong_answers := F4, b_wrong_answers := F4.binds (ps := ["log", "engine"]) (fun _ _ _ _ _ _ us hl => match us, hl with | [_, _], _ => rfl), g_wrong_answers := PySem.W.mg_of X G a4,
    a_pen := f5, d_pen := _, F_pen := F5, b_pen := F5.binds (ps := ["_law_script"]) (fun _ _ _ _ _ _ us hl => match us, hl with | [_], _ => rfl), g_pen := PySem.W.mg_of X G a5,
    a_draw := f6, d_draw := _, F_draw := F6, b_draw := F6.binds (ps := ["_law_pen_here", "_law_many"]) (fun _ _ _ _ _ _ us hl => match us, hl with | [_, _], _ => rfl), g_draw := PySem.W.mg_of X G a6,
    a_pick := f7, d_pick := _, F_pick := F7, b_pick := F7.binds (ps := ["_law_pen_here", "_law_some"]) (fun _ _ _ _ _ _ us hl => match us, hl with | [_, _], _ => rfl), g_pick := PySem.W.mg_of X G a7,
    a_word := f8, d_word := _, F_word := F8, b_word := F8.binds (ps := ["_law_pen_here"]) (fun _ _ _ _ _ _ us hl => match us, hl with | [_], _ => rfl), g_word := PySem.W.mg_of X G a8,
    a_log := f9, d_log := _, F_log := F9, b_log := F9.binds (ps := ["_law_pen_here", "_law_most"]) (fun _ _ _ _ _ _ us hl => match us, hl with | [_, _], _ => rfl), g_log := PySem.W.mg_of X G a9,
    a_hang_right := f10, d_hang_right := _, F_hang_right := F10, b_hang_right := F10.binds (ps := ["_law_log_here", "_law_engine"]) (fun _ _ _ _ _ _ us hl => match us, hl with | [_, _], _ => rfl), g_hang_right := PySem.W.mg_of X G a10,
    a_less_right := f11, d_less_right := _, F_less_right := F11, b_less_right := F11.binds (ps := ["_law_log_here", "_law_engine"]) (fun _ _ _ _ _ _ us hl => match us, hl with | [_, _], _ => rfl), g_less_right := PySem.W.mg_of X G a11,
    a_more_right := f12, d_more_right := _, F_more_right := F12, b_more_right := F12.binds (ps := ["_law_pen_here", "_law_log_here", "_law_engine"]) (fun _ _ _ _ _ _ us hl => match us, hl with | [_, _, _], _ => rfl), g_more_right := PySem.W.mg_of X G a12,
    a_law := fa, d_law := _, F_law := F13, b_law := F13.binds (ps := ["_law_script"]) (fun _ _ _ _ _ _ us hl => match us, hl with | [_], _ => rfl), g_law := PySem.W.mg_of X G a13,
    z_abs := PySem.W.mg_none_of X G z_abs,
    z_dict := PySem.W.mg_none_of X G z_dict,
    z_enumerate := PySem.W.mg_none_of X G z_enumerate,
    z_int := PySem.W.mg_none_of X G z_int,
    z_len := PySem.W.mg_none_of X G z_len,
    z_max := PySem.W.mg_none_of X G z_max,
    z_min := PySem.W.mg_none_of X G z_min,
    z_range := PySem.W.mg_none_of X G z_range,
    z_set := PySem.W.mg_none_of X G z_set,
    z_tuple := PySem.W.mg_none_of X G z_tuple,
    D_DIALS := D_DIALS, c_DIALS := PySem.W.mg_of X G m_DIALS, es_DIALS := es_DIALS, n_DIALS := n_DIALS, kD_DIALS := ⟨kl_DIALS, kk_DIALS, ks_DIALS⟩, ki_DIALS := fun p hp => (List.mem_cons.mp hp).elim (fun e => e ▸ ⟨_, ki0_DIALS, ⟨_, rfl⟩⟩) (fun hp => (List.mem_cons.mp hp).elim (fun e => e ▸ ⟨_, ki1_DIALS, ⟨_, rfl⟩⟩) (fun hp => nomatch hp)), kd_DIALS := fun p hp => (List.mem_cons.mp hp).elim (fun e => e ▸ ⟨es_DIALS, n_DIALS, _, kl_DIALS, kk_DIALS, ki0_DIALS, ⟨_, rfl⟩⟩) (fun hp => (List.mem_cons.mp hp).elim (fun e => e ▸ ⟨es_DIALS, n_DIALS, _, kl_DIALS, kk_DIALS, ki1_DIALS, ⟨_, rfl⟩⟩) (fun hp => nomatch hp)) }
  exact ⟨PySem.W.fnOf "law" "law" (defArgs s_law) (defBody s_law) (defScope s_law) .none kV13 dc13 pm13 an13 cd13 ct13, fun s v => .of_eq rfl, fun base _ _ => ok_law T⟩
end RO
open PySem PySem.W PyProof.Rows in
set_option maxRecDepth 100000 in
set_option maxHeartbeats 0 in
theorem PySem.Challenge.cw_ringorders_k15_whole_rings_and_answers_holds : PySem.Challenge.rw_ringorders_k15_whole_rings_and_answers.Holds := by
  w_on; o_law; k_head; (case hw => w_witness2)
  k_fill
  refine RO.walk_G (l := PySem.Challenge.rw_ringorders_k15_whole_rings_and_answers) (n := 63) (k := 6) (x := "_law_script") (sp := RO.spLaw) rfl (by decide) rfl ⟨rfl, by decide, by decide⟩ (fun w h Y => PySem.W.kIn_of Y) ?F RO.law_in
  case F =>
    intro w mg fa h KX G hmg
    refine' RO.all_mk KX G hmg ?a0 ?l0 ?c0 ?k0 ?a1 ?l1 ?c1 ?k1 ?a2 ?l2 ?c2 ?k2 ?a3 ?l3 ?c3 ?k3 ?a4 ?l4 ?c4 ?k4 ?a5 ?l5 ?c5 ?k5 ?a6 ?l6 ?c6 ?k6 ?a7 ?l7 ?c7 ?k7 ?a8 ?l8 ?c8 ?k8 ?a9 ?l9 ?c9 ?k9 ?a10 ?l10 ?c10 ?k10 ?a11 ?l11 ?c11 ?k11 ?a12 ?l12 ?c12 ?k12 ?a13 ?l13 ?c13 ?k13 ?z_abs ?z_dict ?z_enumerate ?z_int ?z_len ?z_max ?z_min ?z_range ?z_set ?z_tuple ?m_DIALS ?kl_DIALS ?kk_DIALS ?ks_DIALS ?ki0_DIALS ?ki1_DIALS
    (case a0 => k_is)
    (case l0 => k_is)
    (case c0 => k_is)
    (case k0 => k_is)
    (case a1 => k_is)
    (case l1 => k_is)
    (case c1 => k_is)
    (case k1 => k_is)
    (case a2 => k_is)
    (case l2 => k_is)
    (case c2 => k_is)
    (case k2 => k_is)
    (case a3 => k_is)
    (case l3 => k_is)
    (case c3 => k_is)
    (case k3 => k_is)
    (case a4 => k_is)
    (case l4 => k_is)
    (case c4 => k_is)
    (case k4 => k_is)
    (case a5 => k_is)
    (case l5 => k_is)
    (case c5 => k_is)
    (case k5 => k_is)
    (case a6 => k_is)
    (case l6 => k_is)
    (case c6 => k_is)
    (case k6 => k_is)
    (case a7 => k_is)
    (case l7 => k_is)
    (case c7 => k_is)
    (case k7 => k_is)
    (case a8 => k_is)
    (case l8 => k_is)
    (case c8 => k_is)
    (case k8 => k_is)
    (case a9 => k_is)
    (case l9 => k_is)
    (case c9 => k_is)
    (case k9 => k_is)
    (case a10 => k_is)
    (case l10 => k_is)
    (case c10 => k_is)
    (case k10 => k_is)
    (case a11 => k_is)
    (case l11 => k_is)
    (case c11 => k_is)
    (case k11 => k_is)
    (case a12 => k_is)
    (case l12 => k_is)
    (case c12 => k_is)
    (case k12 => k_is)
    (case a13 => k_is)
    (case l13 => k_is)
    (case c13 => k_is)
    (case k13 => k_is)
    (case z_abs => k_is)
    (case z_dict => k_is)
    (case z_enumerate => k_is)
    (case z_int => k_is)
    (case z_len => k_is)
    (case z_max => k_is)
    (case z_min => k_is)
    (case z_range => k_is)
    (case z_set => k_is)
    (case z_tuple => k_is)
    (case m_DIALS => k_is)
    (case kl_DIALS => k_is)
    (case kk_DIALS => k_keys)
    (case ks_DIALS => (first | rfl | decide +kernel))
    (case ki0_DIALS => k_is)
    (case ki1_DIALS => k_is)
