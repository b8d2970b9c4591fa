import PyProof.Rows.All
import Wide.All
import OpenK.AllK
import Wide.FinOn
import HandS.ForMost
import HandS.IsInst
import HandS.Rev
import PyProof.ReprRoads
import PyProof.CallFns
import HandS.EndBits
import HandS.Zip0
import HandS.Walk
import PyProof.Draws
import HandS.More
import HandS.WrittenGet
import HandS.Defaults
import HandS.Wide
import HandS.Conv
import HandS.TupAny
import HandS.Codes
import PyProof.ReprBulk
import HandS.Style
import HandS.NoneIn
import HandS.SortInts
import HandS.RaiseMore
import HandS.Dict
import PyProof.Rows.ReprOcc
import HandS.SetFor
import HandS.SetBool
import HandS.Strs
import HandS.Flow
import HandS.Gcd
import HandS.Zip
import KE.KDictZip
import HandS.TupMul
import KE.DataMinMax
import HandS.SortKw
import PySem.Challenge.RW_ringorders_k10_whole_steps_and_what_stan
set_option Elab.async false
set_option linter.all false
set_option maxRecDepth 100000
set_option maxHeartbeats 4000000
/-! Ringorders, the ground: promises of defs around which no repr runs, calls by keywords alone, repr of data. -/
namespace RO
open PySem PySem.Spec PyProof.Rows L2

/-- what a def keeps where nothing guards a repr around it -/
structure GOk (P : Program) (w : World) (K : PySem.W.Frag) (mg : Str → Option Value) (base : Heap) (CX : CXT) (k : Nat) (f : Addr) (fd : FuncData) (ps : List Str) (sp : Sp) : Prop where
  many : ∀ vs H Q E, sp vs H Q E → vs.length = ps.length
  runs : ∀ (A : Around) (out : List Env) (s : Shared) (H : Hp) (as : Args) (us : List Value) (vs : List V) (Q : VK) (E : XK),
    Room k A → A.guards = some [] → Env0 P w K mg base A out s H → BindsTo s fd as (ps.zip us) → Vals vs us → sp vs H Q E →
      codeAny (model P w) A (.call (.ref f) as) (CR CX out P w H s Q E) s

section
variable {P : Program} {w : World} {K : PySem.W.Frag} {mg : Str → Option Value} {base : Heap}

theorem GOk.of {CX : CXT} {k : Nat} {f : Addr} {fd : FuncData} {ps : List Str} {sp : Sp} (F : FnOk P w K mg base CX k f fd ps sp) : GOk P w K mg base CX k f fd ps sp :=
  { many := F.len
    runs := fun A out s H as us vs Q E hr _ => F.run A out s H as us vs Q E hr }
theorem GOk.up {CX : CXT} {j k : Nat} {f : Addr} {fd : FuncData} {ps : List Str} {sp : Sp} (F : GOk P w K mg base CX j f fd ps sp) (h : j ≤ k) : GOk P w K mg base CX k f fd ps sp :=
  { many := F.many
    runs := fun A out s H as us vs Q E hr => F.runs A out s H as us vs Q E (Room.mono hr h) }

/-- a def by its body, nothing guarding a repr -/
theorem GOk.body {x qual : Str} {st : Stmt} {f : Addr} {fd : FuncData} {N ps : List Str} {k : Nat} {sp : Sp} (F : Fun K x qual st f fd) (S : FnScope N ps (defScope st))
    (many : ∀ vs H Q E, sp vs H Q E → vs.length = ps.length)
    (hb : ∀ (cdv : Value) (A : Around) (out : List Env) (s : Shared) (H : Hp) (vs : List V) (Q : VK) (E : XK),
      Room k (A.deeper (envOfC qual (defScope st) s.heap.objs.size f cdv)) → A.guards = some [] → sp vs H Q E →
        ∃ t, PSs (cxOf CX0 P w K mg base N qual (defScope st) f cdv A out s H E).nox (defBody st) t ∧ t { nx := fun _ H' => Q .non H', rt := Q } (start N vs) H) :
    GOk P w K mg base CX0 (k + 1) f fd ps sp := by
  obtain ⟨oc, od, kV, doc, pm, an, cdv, ct, osl, e, lk, hcd⟩ := F.ex
  subst e
  constructor
  · exact many
  · intro A out s H as us vs Q E hr hG e0 hbd r hsp
    have h0 := many _ _ _ _ hsp
    have old : ∀ b o, base.get? b = some o → s.heap.get? b = some o := fun b o z => (e0.bs b o z).1
    have hK : K.In s.heap := e0.mod.kin.keeps old
    have hL : s.heap.NoLimit := e0.mod.nolimit.keeps old
    have kinds : ∀ y ∈ ps.zip us, (defScope st).names.lookup y.1 = some .local ∨
        ((defScope st).names.lookup y.1 = some .cell ∧ ((cellsFrom (s.heap.objs.size + 1) (defScope st).names []).lookup y.1).isSome = true) := by
      intro y hy
      cases S.par y.1 (List.of_mem_zip (show (y.1, y.2) ∈ ps.zip us from hy)).1 with
      | inl z => exact Or.inl z
      | inr z => exact Or.inr ⟨z, PySem.W.cellsFrom_some _ _ _ (Or.inl z)⟩
    apply codeAny_call_function hr.depth (hK _ _ lk) rfl S.co S.gen rfl (PySem.W.codeRec_of hK hcd)
    apply hbd
    apply wpAny_newFunctionEnv_cells S.kind kinds
    intro env he s1 x
    subst he
    refine ⟨hL.keeps x.toInCall.keep, codeAny_func ?_⟩
    obtain ⟨t, ht, hq⟩ := hb cdv A out s H vs Q E (hr.deeper _) hG hsp
    have J0 := inv_start (E := E) S hr.hd e0 h0 r x (CX := CX0)
    have done : ∀ {σ' : L2.St} {H' : Hp} {v : V} {u : Value} {s' : Shared}, Inv (cxOf CX0 P w K mg base N qual (defScope st) f cdv A out s H E) [] σ' H' s' → RelV v u → Q v H' → CE out P w H s Q u s' :=
      fun {σ' H' v u s'} J rv q => ⟨v, H', J.os, J.bare, J.base, J.hok, rv, q⟩
    apply wpAny_mono (ht.nox.run [] s1 (start N vs) H _ J0 hq)
    · intro fl s' hs
      match fl, hs with
      | .ret u, ⟨v, σ', H', J, rv, q⟩ => exact done J rv q
      | .next, ⟨σ', H', J, q⟩ => exact done (v := V.non) (u := Value.none) J rfl q
      | .brk, ⟨_, _, _, q⟩ => exact q.elim
      | .cont, ⟨_, _, _, q⟩ => exact q.elim
    · exact fun _ _ hs => hs
end

section
variable {X : Cx} {CX : CXT} {k : Nat} {f C : Addr} {fd : FuncData} {ps ks : List Str} {sp : Sp} {dvs : List V} {ds : List Value} {E : XK} {x m : Str} {p pos : Pos} {e o : Expr} {es : List Expr} {kws : List Keyword} {te ta : TE} {t tk : TA}

theorem GOk.goes {pins : List (Addr × Obj)} {σ : L2.St} {H : Hp} {s : Shared} {Q : VK} {as : Args} {us : List Value} {vs : List V} (F : GOk X.prog X.w X.K X.mg X.base CX k f fd ps sp) (hr : Room k X.A) (hG : X.A.guards = some []) (hx : Passes CX X E)
    (hb : BindsTo s fd as (ps.zip us)) (I : Inv X pins σ H s) (r : Vals vs us) (h : sp vs H Q E) : codeAny (model X.prog X.w) X.A (.call (.ref f) as) (fun r s' => match r with | .ok (.ret u) => EP X pins σ Q u s' | .ok _ => False | .error e => X.xe e s') s := by
  apply codeAny_mono (F.runs X.A X.stack s H as us vs Q E hr hG I.env0 hb r h)
  intro r s' hq
  match r, hq with
  | .error e, hq => exact hx pins σ H s e s' I hq
  | .ok (.ret u), hq => exact I.after hq
  | .ok .next, hq => exact hq.elim
  | .ok .brk, hq => exact hq.elim
  | .ok .cont, hq => exact hq.elim

/-- f(e, ..) where f keeps its promise if no repr is guarded -/
theorem pe_callG (F : GOk X.prog X.w X.K X.mg X.base CX k f fd ps sp) (hr : Room k X.A) (hG : X.A.guards = some []) (hg : Gl X x) (hm : X.mg x = some (.ref f)) (hk : PySem.W.keepIn X.K (.ref f) = true) (hb : Binds X.K fd ps ds) (hd : Vals dvs ds) (hx : Passes CX X E)
    (ha : PA X (e :: es) t) (hdb : (x == ("__debug__" : Str)) = false := by decide) (he : starEach (e :: es) X.env = (false, eval e X.env) :: starEach es X.env := by rfl)
    (hpl : (backTo pos (starEach es X.env)).any (·.1) = false := by rfl) : PE X (.Call (.Name x p) (e :: es) [] pos) (tCall sp dvs E t) := by
  constructor
  intro pins s σ H Q I h
  apply wpAny_Call_Name_kw
  apply ld_glob I hg hm _ hdb
  apply PySem.W.callWith_K (h₀ := X.base) I.ok.mod.kin hk _ he hpl
  apply thn (ha.run pos pins s σ H _ I h)
  rintro us s1 ⟨vs, H1, I1, r, q⟩
  refine ⟨I1.kIn, ?_⟩
  have r2 : Vals (vs ++ dvs) (us ++ ds) := r.append hd
  have hl : (us ++ ds).length = ps.length := r2.length.symm.trans (F.many _ _ _ _ q)
  show wpAny _ _ (call (.ref f) us) _ _ s1
  exact wpAny_call (codeAny_mono (F.goes hr hG hx (hb s1 us I1.kIn hl) I1 r2 q) fun r s' hq => by
    match r, hq with
    | .error e, hq => exact hq
    | .ok (.ret u), hq => exact hq)

/-- f(k = v, ..), nothing by place -/
theorem pe_callK0 {g : List Value → List Value → List Value} {gV : List V → List V → List V} (F : FnOk X.prog X.w X.K X.mg X.base CX k f fd ps sp) (hr : Room k X.A) (hg : Gl X x) (hm : X.mg x = some (.ref f)) (hk : PySem.W.keepIn X.K (.ref f) = true)
    (hb : KBinds X.K fd ps ks g gV) (hx : Passes CX X E) (hkw : PK X kws tk) (hall : (backToKw pos (keywordEach kws X.env)).all (·.1.isSome) = true := by rfl) (hks : (backToKw pos (keywordEach kws X.env)).filterMap (·.1) = ks := by rfl)
    (hdb : (x == ("__debug__" : Str)) = false := by decide)
    (hpl : ((backTo pos (starEach [] X.env)).any (·.1) || (backToKw pos (keywordEach kws X.env)).any (·.1.isNone)) = false := by rfl) :
    PE X (.Call (.Name x p) [] kws pos) (tCallK sp gV E tNil tk) := by
  constructor
  intro pins s σ H Q I h
  apply wpAny_Call_Name_kw
  apply ld_glob I hg hm _ hdb
  apply PySem.W.callWith_KW0 (h₀ := X.base) I.ok.mod.kin hk hall _ hpl
  apply thn (hkw.run pos pins s σ H _ I h)
  rintro ws s1 ⟨zs, H1, I1, rz, q⟩
  refine ⟨I1.kIn, ?_⟩
  rw [hks]
  exact run_fnk (us := []) F hr hb hx I1 .nil rz q

/-! ### repr -/
/-- repr of data -/
def rRepr (K : PySem.W.Frag) : List V → Hp → VK → Prop := fun xs H Q => ∃ v d, xs = [v] ∧ Dp K H v d ∧ PyData.showable d = true ∧ d.hasDict = false ∧ d.depth ≤ 40 ∧ d.shown.length ≤ sizeLine ∧ Q (.str d.shown) H
theorem call_repr (hG : X.A.guards = some []) (hu : X.A.units + 64 < cLine) : CallR X (.builtin "repr") (rRepr X.K) := by
  intro pins s σ H xs us Q I r h
  obtain ⟨v, d, rfl, hd, hs, hn, h40, hz, q⟩ := h
  obtain ⟨u, rfl, ru⟩ := vals1 r
  have fin : ∀ (h' : Heap) (tk : Nat) (u : Tok), (∀ b o, s.heap.get? b = some o → h'.get? b = some o) → EP X pins σ Q (.str d.shown u) { s with heap := h', toks := tk } :=
    fun h' tk u hk => ⟨.str d.shown, H, I.un (Un.kept hk) (I.hok.kept hk), ⟨u, rfl⟩, q⟩
  obtain ⟨as, rd⟩ := Dp.reads I d v u hd ru
  cases hd with
  | non =>
    cases ru
    exact P.repr_of_none (fin s.heap _ _ fun _ _ z => z)
  | bl b =>
    cases ru
    refine P.repr_of_bool ?_
    have z := fin s.heap (s.toks + 1) s.toks fun _ _ z => z
    cases b <;> exact z
  | int i =>
    obtain ⟨t, rfl⟩ := ru
    refine P.repr_of_int ?_ ?_
    · simpa [PyData.showable] using hs
    · have z := fin s.heap (s.toks + 1) s.toks fun _ _ z => z
      simpa [PyData.shown] using z
  | str x =>
    obtain ⟨t, rfl⟩ := ru
    have z := fin s.heap (s.toks + 1) s.toks fun _ _ z => z
    simp only [PyData.shown_str] at z hz
    exact P.repr_of_str z hz
  | lst h1 h2 =>
    cases ru
    exact repr_of_reads' rd hs (PyData.noDict_hsm hn) hG (by omega) (fun _ _ z => z) (fun h' u tk hk => fin h' tk u hk) hz
  | tup h1 h2 =>
    cases ru
    exact repr_of_reads' rd hs (PyData.noDict_hsm hn) hG (by omega) (fun _ _ z => z) (fun h' u tk hk => fin h' tk u hk) hz
end
end RO

namespace RO
open PySem PySem.Spec PyProof.Rows L2

/-- the abstract heap at the law's entry: the script alone, locked, where the text itself doesn't hold it -/
def scriptH (K : PySem.W.Frag) (a : Addr) (o : Obj) (ns : List Int) : Hp := fun b => if b = a ∧ K.lookup a = none then some (.frz o (.lst (ns.map V.int))) else none

/-- the law's def is called as TURN's statement calls it -/
theorem law_runs {P : Program} {w : World} {K : PySem.W.Frag} {mg mb : Str → Option Value} {k : Nat} {fa a : Addr} {fd : FuncData} {x : Str} {sp : Sp} {s1 : Shared} {vs : List Value} {ns : List Int}
    (hK : K.In s1.heap) (hm : s1.heap.Ns mainGlobals mg) (hb : s1.heap.Ns builtinsNs mb) (hbb : ∀ y : Str, y ≠ "__name__" → mb y = bootBuiltins y) (hL : s1.heap.NoLimit) (hgn : s1.gens = #[])
    (ha : s1.heap.get? a = some { cls := .type "list", data := .seq vs.toArray }) (hi : IntsAre vs ns) (hn : ns.length ≤ sizeLine) (hr : Room k callerA)
    (F : ∀ base : Heap, K.In base → base.Ns mainGlobals mg → GOk P w K mg base CX0 k fa fd [x] sp) (hbd : ∀ (s : Shared) (u : Value), BindsTo s fd ⟨[u], []⟩ [(x, u)])
    (hsp : ∀ H : Hp, Only H → SqL K H a (ns.map V.int) → sp [.ref a] H (fun v _ => v = .bl true) fun _ _ _ => False) :
    codeAny (model P w) callerA (.call (.ref fa) ⟨[.ref a], []⟩) (fun r s' => r = .ok (.ret (.bool true)) ∧ OldK s1.heap s'.heap ∧ s'.os = s1.os ∧ AllBare s'.gens) s1 := by
  let ob : Obj := { cls := .type "list", data := .seq vs.toArray }
  let H : Hp := scriptH K a ob ns
  have hH : ∀ b u, H b = some u → b = a ∧ K.lookup a = none ∧ u = .frz ob (.lst (ns.map V.int)) := by
    intro b u z
    by_cases c : b = a ∧ K.lookup a = none
    · have z2 : (if b = a ∧ K.lookup a = none then some (HO.frz ob (.lst (ns.map V.int))) else none) = some u := z
      rw [if_pos c] at z2
      cases z2
      exact ⟨c.1, c.2, rfl⟩
    · have z2 : (if b = a ∧ K.lookup a = none then some (HO.frz ob (.lst (ns.map V.int))) else none) = some u := z
      rw [if_neg c] at z2
      cases z2
  have hOnly : Only H := fun b => by
    cases z : H b with
    | none => exact .inl rfl
    | some u => exact .inr ⟨ob, _, congrArg some (hH b u z).2.2⟩
  have rv := vals_ints hi
  have sizes : vs.length = ns.length := hi.length
  have hS : SqL K H a (ns.map V.int) := by
    cases z : K.lookup a with
    | some o =>
      have e := hK a o z
      rw [ha] at e
      cases e
      exact Or.inr ⟨_, vs.toArray, _, z, rfl, rfl, rfl, by rw [List.size_toArray, sizes]; exact hn, by simpa using rv⟩
    | none => exact Or.inl (Or.inr ⟨ob, if_pos ⟨rfl, z⟩⟩)
  have hOk : HOk P w H s1.heap := fun b u z => by
    obtain ⟨e1, _, e3⟩ := hH b u z
    subst e1
    subst e3
    exact ⟨ha, by rw [List.length_map]; exact hn, vs, _, rv, ha⟩
  have stays : ∀ {b : Addr} {o : Obj}, s1.heap.get? b = some o → H b = none → (hidT s1.heap H).get? b = some o := fun e n => hidT_get e n
  have keptK : K.In (hidT s1.heap H) := by
    intro b o z
    refine stays (hK b o z) ?_
    cases q : H b with
    | none => rfl
    | some u =>
      obtain ⟨e1, e2, _⟩ := hH b u q
      rw [e1, e2] at z
      cases z
  have keptN : ∀ {b : Addr} {m : Str → Option Value}, s1.heap.Ns b m → (hidT s1.heap H).Ns b m := by
    rintro b m ⟨o, es, ep, e, d, r⟩
    refine ⟨o, es, ep, stays e ?_, d, r⟩
    cases q : H b with
    | none => rfl
    | some u =>
      obtain ⟨e1, _, _⟩ := hH b u q
      rw [e1, ha] at e
      cases e
      exact nomatch (show Data.seq vs.toArray _ = Data.dict es ep from d)
  obtain ⟨mc, l1, l2⟩ := hL
  have start0 : Env0 P w K mg (hidT s1.heap H) callerA [] s1 H :=
    { frames := rfl
      mod := ⟨keptK, keptN hm, ⟨mb, keptN hb, hbb⟩, ⟨mc, keptN l1, l2⟩⟩
      bs := fun _ _ z => of_hidT z
      bsz := Nat.le_of_eq (hidT_size _ _)
      funs := trivial
      frf := fun b z => absurd (show b ∈ ([] : List Addr) from z) (by simp)
      hok := hOk
      bare := .of_eq hgn }
  apply codeAny_mono ((F _ keptK (keptN hm)).runs callerA [] s1 H ⟨[.ref a], []⟩ [.ref a] [.ref a] _ _ hr rfl start0 (hbd s1 (.ref a)) (.cons rfl .nil) (hsp H hOnly hS))
  intro r s' h
  match r, h with
  | .error _, h => exact h.elim
  | .ok .next, h => exact h.elim
  | .ok .brk, h => exact h.elim
  | .ok .cont, h => exact h.elim
  | .ok (.ret u), ⟨v, H', os, bare, un, hok', r', q⟩ =>
    have q' : v = .bl true := q
    subst q'
    have r2 : u = Value.bool true := r'
    subst r2
    refine ⟨rfl, OldK.of_keep fun b o e => ?_, os, bare⟩
    cases q : H b with
    | none => exact un.keep b o e q (by intro z; exact absurd (show b ∈ ([] : List Addr) from z) (by simp)) (by simp)
    | some t =>
      have q2 := q
      rw [(hH b t q).2.2] at q2
      have f1 := (hOk b _ q2).1
      have f2 := (hok' b _ (un.frzs b ob _ q2)).1
      rw [e] at f1
      rw [f2, f1]

/-- the goal behind the head, from the law's promise; the script's bits told -/
theorem walk_G {l : PySem.W.OpenLaw} {n k : Nat} {q : Program} {loose : List Str} {XP : (Str → Option Value) → Heap → Prop} {YP : World → Heap → Prop} {d : DefRec} {K : Params → PySem.W.Frag} {sp : PySem.W.Frag → Sp} {x : Str}
    (hn : l.most = some n) (hn2 : n ≤ sizeLine) (hdf : d.params.defaults = []) (hr : Room k callerA) (hY : ∀ (w : World) (h : Heap), YP w h → (K w.params).In h)
    (F : ∀ (w : World) (mg : Str → Option Value) (fa : Addr) (h : Heap), (K w.params).In h → h.Ns mainGlobals mg → mg d.name = some (.ref fa) →
      ∃ fd : FuncData, (∀ (s : Shared) (u : Value), BindsTo s fd ⟨[u], []⟩ [(x, u)]) ∧ ∀ base : Heap, (K w.params).In base → base.Ns mainGlobals mg → GOk l.prog w (K w.params) mg base CX0 k fa fd [x] (sp (K w.params)))
    (hsp : ∀ (K : PySem.W.Frag) (H : Hp) (a : Addr) (ns : List Int), ns.length ≤ n → (∀ k ∈ ns, Builtin.Int.intBits k ≤ 1048576) → Only H → SqL K H a (ns.map V.int) → sp K [.ref a] H (fun v _ => v = .bl true) fun _ _ _ => False) :
    PySem.W.WalkO q loose XP YP l.row.toRowW d [] (fun f vs => PySem.call f vs) := by
  apply Att.attach_callB hn hdf
  intro w s0 s1 mg mb fa o pm cd doc a vs ns G Y ho hd hcd hmg hobj hints hlen hbits hg
  have hK := hY w _ Y
  obtain ⟨fd, hb, hF⟩ := F w mg fa _ hK G.T.g hmg
  exact law_runs hK G.T.g G.T.b G.T.builtins G.T.nolimit hg hobj hints (Nat.le_trans hlen hn2) hr hF hb fun H hO hS => hsp (K w.params) H a ns hlen hbits hO hS
end RO

namespace RO
open PySem PySem.Spec PyProof.Rows L2

/-! ### enumerate of a tuple -/
theorem drawsT {prog : Program} {w : World} {A : Around} (hh : A.handled = none) (it t : Addr) (hne : t ≠ it) (items : Array Value) :
    Draws prog w A it [it, t] items.size (fun i v => items[i]? = some v) (fun i h => h.IsTupleIter it t i ∧ h.IsTuple t items) where
  live := fun _ _ st => by
    obtain ⟨⟨o, ho, _⟩, _⟩ := st
    exact ⟨o, ho⟩
  frame := fun i h h' st hk => ⟨Heap.IsTupleIter.at st.1 (hk it (List.mem_cons_self ..)), by
    obtain ⟨o, e, r⟩ := st.2
    exact ⟨o, hk t (by simp) o e, r⟩⟩
  item := fun i s Q E hi st hQ => RZ.nextOf_tuple_item st.1 st.2 (x := items[i]) (by simp [hi]) fun h' hit' sb =>
    hQ _ h' s.toks (by simp [hi]) ⟨hit', by
      obtain ⟨o, e, r⟩ := st.2
      exact ⟨o, (sb.2 t hne).trans e, r⟩⟩ sb
  done := fun s Q E st hE => RZ.nextOf_tuple_end hh st.1 st.2 (by simp) hE

open Sem (wp) in
open AutoSeq1 (wpAny_loadPart') in
theorem meets_enum_newT (l : Addr) (items : Array Value) (n : Nat) (dct : Option Addr) (sl : Array (Option Value)) :
    Meets (Builtin.«enumerate.__new__» ⟨[.type "enumerate", .ref l], []⟩) (fun _ R s => s.heap.get? l = some { cls := .type "tuple", dict := dct, data := .seq items n, slots := sl } ∧
      R (.ok (.ret (.ref (s.heap.push { cls := .type "tuple_iterator", data := .fields #[.ref l, .int 0 0] }).objs.size)))
        { s with heap := (s.heap.push { cls := .type "tuple_iterator", data := .fields #[.ref l, .int 0 0] }).push { cls := .type "enumerate", data := .fields #[.none, .bool false, .ref s.heap.objs.size, rawInt 0, .none, .none] } }) := by
  refine Meets.of_wp fun prog w A R s h => ?_
  obtain ⟨hp, g, d, tk, os⟩ := s
  obtain ⟨hl, h⟩ := h
  have hsub := sub_enumerate
  have hT : Heap.IsTuple (Shared.heap ⟨hp, g, d, tk, os⟩) l items := ⟨_, hl, rfl, n, rfl⟩
  wp_walk using wpAny_loadPart' hl
  refine wpAny_stack_any fun st => wpAny_pure ?_
  split
  · rename_i c _ _ _ _ _
    cases (c == Value.type "enumerate") <;>
      (wp_walk using wpAny_loadPart' hl, wpAny_pyIter_tuple hT; exact ⟨_, rfl, h⟩)
  · wp_walk using wpAny_loadPart' hl, wpAny_pyIter_tuple hT
    exact ⟨_, rfl, h⟩

theorem call_enumT {prog : Program} {w : World} {A : Around} {E : Value → Shared → Prop} {s : Shared} {l : Addr} {items : Array Value} {Q : Value → Shared → Prop} (hT : s.heap.IsTuple l items)
    (h : ∀ h', IsEnum h' (s.heap.objs.size + 1) s.heap.objs.size 0 .none → h'.IsTupleIter s.heap.objs.size l 0 → h'.objs.size = s.heap.objs.size + 2 → (∀ b o, s.heap.get? b = some o → h'.get? b = some o) →
      Q (.ref (s.heap.objs.size + 1)) { s with heap := h' }) : wpAny (model prog w) A (call (.type "enumerate") [.ref l]) Q E s := by
  obtain ⟨⟨c, dct, dt, sl⟩, hl, hc, n, hd⟩ := hT
  have hc' : c = .type "tuple" := hc
  have hd' : dt = .seq items n := hd
  subst hc' hd'
  apply callType_new F.called_enumerate (by decide) (F.typeCall_enumerate_1 _) (F.newCall_enumerate_1 _) (fun obj => F.args_object_init_2 obj _) F.entry_enumerate_new (meets_enum_newT l items n dct sl)
  refine ⟨hl, ?_⟩
  let h1 := s.heap.push { cls := .type "tuple_iterator", data := .fields #[.ref l, .int 0 0] }
  have hz : h1.objs.size = s.heap.objs.size + 1 := Heap.size_push ..
  show _ ∧ _
  rw [show (s.heap.push { cls := .type "tuple_iterator", data := .fields #[.ref l, .int 0 0] }).objs.size = s.heap.objs.size + 1 from hz]
  have he : IsEnum (h1.push { cls := .type "enumerate", data := .fields #[.none, .bool false, .ref s.heap.objs.size, rawInt 0, .none, .none] }) (s.heap.objs.size + 1) s.heap.objs.size 0 .none := by
    have z := Heap.get?_push_size h1 (o := { cls := .type "enumerate", data := .fields #[.none, .bool false, .ref s.heap.objs.size, rawInt 0, .none, .none] }) rfl
    rw [hz] at z
    exact z
  exact ⟨⟨_, he, rfl⟩, h _ he ⟨_, Heap.get?_push_of_some _ (Heap.get?_push_size _ rfl), rfl, rfl⟩ ((Heap.size_push ..).trans (congrArg (· + 1) hz)) fun b o x => Heap.get?_push_of_some _ (Heap.get?_push_of_some _ x)⟩

/-- the tuple at a, each item in a new pair with its number -/
def IteT (K : PySem.W.Frag) (a : Addr) : It where
  go := fun i H => ∃ (xs : List V) (x : V), SqT K H a xs ∧ xs[i]? = some x
  yld := fun i H v H' => ∃ T x, v = .ref T ∧ H T = none ∧ H' = upd H T (.tup [.int (i : Nat), x]) ∧ ∀ xs, SqT K H a xs → xs[i]? = some x
  stop := fun i H => ∃ xs : List V, SqT K H a xs ∧ xs.length = i

theorem turn_enumT {P : Program} {w : World} {K : PySem.W.Frag} {elts : List Expr} {kk : Nat} {tpos : Pos} (a e it : Addr) (hae : a ≠ e) (hai : a ≠ it) (hne : e ≠ it) :
    Turn P w K (.Tuple elts kk tpos) (IteT K a) [e, it] e (fun i h => (∃ old, IsEnum h e it ((i : Nat) : Int) old) ∧ h.IsTupleIter it a i) where
  mem := List.mem_cons_self ..
  obj := fun i h st b hb => by
    obtain ⟨⟨old, he⟩, ⟨o, ho, hc, hd⟩⟩ := st
    rcases List.mem_cons.mp hb with z | z
    · rw [z]
      exact ⟨_, he, fun v q => nomatch q⟩
    · have z' : b = it := by simpa using z
      exact ⟨o, z' ▸ ho, fun v q => by rw [hd] at q; cases q⟩
  keep := fun i h h' st k => by
    obtain ⟨⟨old, he⟩, hi⟩ := st
    exact ⟨⟨old, k e (by simp) _ he⟩, Heap.IsTupleIter.at hi (k it (by simp))⟩
  item := by
    intro X hP hw hK hc i pins s σ H E I hf st hg
    subst hP hw hK
    obtain ⟨⟨old, he⟩, hit⟩ := st
    obtain ⟨xs, x, hq, hx⟩ := hg
    obtain ⟨its, rv, p, hz⟩ := I.tuple hq
    obtain ⟨u, hu, ru⟩ := rv.get hx
    have hlt : i < its.toArray.size := by
      obtain ⟨z, _⟩ := List.getElem?_eq_some_iff.mp hu
      simpa using z
    have hel : e < s.heap.objs.size := Heap.lt_size he
    have hil : it < s.heap.objs.size := by
      obtain ⟨_, q, _⟩ := hit
      exact Heap.lt_size q
    refine wpAny_pyNext_enum_itemD (drawsT (A := X.A.in1) (I.ok.hd hc) it a hai its.toArray) he ⟨hit, p⟩ hlt hne (by simp [hne, Ne.symm hae]) fun y h' tk hy ho hst hT hsz hk => ?_
    have ey : y = u := by
      have z : its.toArray[i]? = some u := by simpa using hu
      exact Option.some.inj (hy.symm.trans z)
    subst ey
    refine ⟨_, rfl, wpAny_letOwnedTupleGo_enum (s := { s with heap := h', toks := tk + 1 }) ho fun h2 he2 sb => ?_⟩
    have hT2 : h2.get? s.heap.objs.size = some { cls := .type "tuple", data := .seq #[.int i tk, y] } := (sb.2 _ (Nat.ne_of_gt hel)).trans hT
    have new : ObjOk X.prog X.w (upd H s.heap.objs.size (.tup [.int (i : Nat), x])) h2 s.heap.objs.size (.tup [.int (i : Nat), x]) := by
      refine ⟨by show 2 ≤ sizeLine; decide, [.int i tk, y], .cons ⟨_, rfl⟩ (.cons ru .nil), ⟨_, hT2, rfl, _, rfl⟩⟩
    have I1 : Inv X pins σ (upd H s.heap.objs.size (.tup [.int (i : Nat), x])) { s with heap := h2, toks := tk + 1 } := by
      refine I.turnedNew (ch := [e, it]) (fun b ob hb q => ?_) hf (Nat.le_refl _) new
      have n1 : b ≠ e := fun z => hb (by simp [z])
      have n2 : b ≠ it := fun z => hb (by simp [z])
      exact (sb.2 b n1).trans (hk b ob n1 n2 q)
    refine ⟨.ref s.heap.objs.size, _, I1, rfl, ⟨_, x, rfl, I.hok.fresh (Nat.le_refl _), rfl, fun ys hy => (I.tuple_inj hy hq).symm ▸ hx⟩, ⟨⟨y, ?_⟩, Heap.IsTupleIter.at hst.1 fun o q => (sb.2 it (Ne.symm hne)).trans q⟩, fun b hb => ?_⟩
    · rw [show ((i + 1 : Nat) : Int) = (i : Int) + 1 from by omega]
      exact he2
    · have hb2 : b = e ∨ b = it := by simpa using hb
      have lt : b < s.heap.objs.size := hb2.elim (fun z => z ▸ hel) fun z => z ▸ hil
      exact (upd_ne (Nat.ne_of_lt lt)).trans (hf b hb).1
  done := by
    intro X hP hw hK hc i pins s σ H E I hf st hg
    subst hP hw hK
    obtain ⟨⟨old, he⟩, hit⟩ := st
    obtain ⟨xs, hq, hx⟩ := hg
    obtain ⟨its, rv, p, hz⟩ := I.tuple hq
    obtain ⟨f0, f1, f2, f3, f4, f5⟩ := hf it (by simp)
    have hl : its.toArray.size = i := by
      rw [List.size_toArray, ← rv.length, hx]
    rw [← hl] at hit
    exact wpAny_pyNext_enum_endD (drawsT (A := X.A.in1) (I.ok.hd hc) it a hai its.toArray) he ⟨hit, p⟩ fun h' eb => ⟨rfl, I.turned (t' := s.toks) (fun b o hb q => eb b o hb q) f0 f1 f3 f4 f5⟩
  self := fun A i s Q E st h => by
    obtain ⟨⟨_, he⟩, _⟩ := st
    exact wpAny_pyIter_enum he h

/-- enumerate(x), x a list or a tuple -/
def iEnumA (K : PySem.W.Frag) (ta : TA) : TI := fun σ H R => ta σ H fun vs H1 => ∃ a xs, vs = [.ref a] ∧ ((SqL K H1 a xs ∧ R (Ite K a) H1) ∨ (SqT K H1 a xs ∧ R (IteT K a) H1))
theorem pi_enumA {X : Cx} {e : Expr} {ta : TA} {p pos tpos : Pos} {elts : List Expr} {kk : Nat} (hg : Gl X "enumerate") (hm : X.mg "enumerate" = none) (ha : PA X [e] ta) (hs : starEach [e] X.env = [(false, eval e X.env)] := by rfl) :
    PI X (.Tuple elts kk tpos) (.Call (.Name "enumerate" p) [e] [] pos) (iEnumA X.K ta) := by
  constructor
  intro pins s σ H R I h
  refine Call_ ?_
  apply ld_blt I hg hm boot_enumerate
  apply PyProof.Rows.callWith_type1 _ hs rfl
  apply thn (ha.run pos pins s σ H _ I h)
  rintro us s1 ⟨vs, H1, I1, r1, a, xs, ex, q⟩
  subst ex
  obtain ⟨u, rfl, ru⟩ := vals1 r1
  obtain rfl : u = Value.ref a := ru
  have hle : ∀ b, b ∈ [s1.heap.objs.size + 1, s1.heap.objs.size] → FpOk X pins H1 b := fun b hb => by
    have z : b = s1.heap.objs.size + 1 ∨ b = s1.heap.objs.size := by simpa using hb
    have l : s1.heap.objs.size ≤ b := by omega
    exact I1.fpOk l (I1.hok.fresh l)
  rcases q with ⟨hq, q⟩ | ⟨hq, q⟩
  · obtain ⟨its, rv, p', hz⟩ := I1.list hq
    refine call_enumerate_list p'.isList fun h' he hit hsz hk => wpAny_pyIter_enum he ?_
    exact ⟨s1.heap.objs.size + 1, [s1.heap.objs.size + 1, s1.heap.objs.size], _, _, H1, rfl, I1.kept (t' := s1.toks) hk, turn_enum a (s1.heap.objs.size + 1) s1.heap.objs.size, ⟨⟨.none, he⟩, hit, Nat.succ_ne_self _⟩, hle, q⟩
  · obtain ⟨its, rv, p', hz⟩ := I1.tuple hq
    obtain ⟨o, ho, _⟩ := id p'
    have hal : a < s1.heap.objs.size := Heap.lt_size ho
    refine call_enumT p' fun h' he hit hsz hk => wpAny_pyIter_enum he ?_
    exact ⟨s1.heap.objs.size + 1, [s1.heap.objs.size + 1, s1.heap.objs.size], _, _, H1, rfl, I1.kept (t' := s1.toks) hk, turn_enumT a (s1.heap.objs.size + 1) s1.heap.objs.size (Nat.ne_of_lt (Nat.lt_succ_of_lt hal)) (Nat.ne_of_lt hal) (Nat.succ_ne_self _), ⟨⟨.none, he⟩, hit⟩, hle, q⟩

section
variable {K : PySem.W.Frag} {a : Addr} {xs : List V}
theorem walk_enumT : Walk (IteT K a) xs.length (fun H => SqT K H a xs) (YPair (fun i => some (.int (i : Nat))) (fun i => xs[i]?)) where
  goes := fun i _ hi q => ⟨xs, xs[i], q, by simp [hi]⟩
  stops := fun _ q => ⟨xs, q, rfl⟩
  yields := fun i H v H' _ q y => by
    obtain ⟨T, x, h1, h2, h3, h4⟩ := y
    exact ⟨T, _, x, h1, h2, h3, rfl, h4 xs q⟩
theorem walk_revT : Walk (RT.ItvT K a xs.length) xs.length (fun H => SqT K H a xs) (fun i H x H' => H' = H ∧ xs[xs.length - 1 - i]? = some x) where
  goes := fun i _ hi q => ⟨hi, xs, xs[xs.length - 1 - i], q, by
    have : xs.length - 1 - i < xs.length := by omega
    simp [this]⟩
  stops := fun _ _ => Nat.le_refl _
  yields := fun i H v H' _ q y => ⟨y.1, y.2 xs q⟩
end
end RO

namespace RO
open PySem PySem.Spec PyProof.Rows L2

/-! ### heaps -/
/-- what is tracked, but at p, is kept -/
def But (p : Addr) (H H' : Hp) : Prop := ∀ b o, b ≠ p → H b = some o → H' b = some o
section
variable {K : PySem.W.Frag} {H H0 H1 H2 : Hp} {p q a c l : Addr} {o : HO} {xs : List V} {n m : Nat}
theorem But.refl : But p H H := fun _ _ _ h => h
theorem But.trans (h : But p H H1) (h2 : But p H1 H2) : But p H H2 := fun b u n e => h2 b u n (h b u n e)
theorem But.of_same (h : Same H H1) : But p H H1 := fun b u _ e => h b u e
theorem But.put : But p H (upd H p o) := fun b u n e => (upd_ne n).trans e
theorem But.new (h : But p H0 H) (hq : H q = none) : But p H0 (upd H q o) := fun b u n e => (upd_ne (ne_of_none (h b u n e) hq)).trans (h b u n e)
/-- a place that was free at the beginning may be written -/
theorem But.own (h : But p H0 H) (hl : H0 l = none) : But p H0 (upd H l o) := fun b u n e => (upd_ne (ne_of_none e hl)).trans (h b u n e)
theorem But.rd {u : HO} (h : But p H H1) (n : a ≠ p) (r : Rd H a u) : Rd H1 a u := by
  rcases r with r | ⟨o, r⟩
  · exact .inl (h _ _ n r)
  · exact .inr ⟨o, h _ _ n r⟩
theorem But.seqL (h : But p H H1) (n : a ≠ p) (r : SqL K H a xs) : SqL K H1 a xs := r.imp (h.rd n) id
theorem But.seqT (h : But p H H1) (n : a ≠ p) (r : SqT K H a xs) : SqT K H1 a xs := r.imp (h.rd n) id
theorem same_rd {u : HO} (h : Same H H1) (r : Rd H a u) : Rd H1 a u := by
  rcases r with r | ⟨o, r⟩
  · exact .inl (h _ _ r)
  · exact .inr ⟨o, h _ _ r⟩
theorem same_seqL (h : Same H H1) (r : SqL K H a xs) : SqL K H1 a xs := r.imp (same_rd h) id
theorem same_seqT (h : Same H H1) (r : SqT K H a xs) : SqT K H1 a xs := r.imp (same_rd h) id
theorem same_new (h : Same H0 H) (hq : H q = none) : Same H0 (upd H q o) := fun b u e => (upd_ne (ne_of_none (h b u e) hq)).trans (h b u e)
theorem same_own (h : Same H0 H) (hl : H0 l = none) : Same H0 (upd H l o) := fun b u e => (upd_ne (ne_of_none e hl)).trans (h b u e)

theorem alloc (hl : H l = none) (e : upd H l o = H1) : Same H H1 ∧ H1 l = some o := by
  subst e
  exact ⟨same_new (Same.refl _) hl, upd_same⟩

theorem owned (S : Same H0 H) (hl : H0 l = none) (e : upd H l o = H1) : Same H0 H1 ∧ H1 l = some o := by
  subst e
  exact ⟨same_own S hl, upd_same⟩

/-! ### the law's pen: a list of the script's cells, a place, a rest -/
def PenAt (H : Hp) (p c : Addr) (n : Nat) : Prop := ∃ at_ cy : Int, H p = some (.lst [.ref c, .int at_, .int cy]) ∧ 0 ≤ at_ ∧ at_ ≤ n ∧ 0 ≤ cy
def Cells (K : PySem.W.Frag) (H : Hp) (p c : Addr) : Prop := c ≠ p ∧ ∃ ns : List Int, SqL K H c (ns.map V.int) ∧ ns.length ≤ 63
/-- from H0 to H: the pen at p has gone on to n draws at most, all else is kept -/
structure Go (K : PySem.W.Frag) (p c : Addr) (H0 : Hp) (n : Nat) (H : Hp) : Prop where
  but : But p H0 H
  pen : PenAt H p c n
  cel : Cells K H p c
theorem Cells.but (h : Cells K H p c) (b : But p H H1) : Cells K H1 p c := by
  obtain ⟨ne, ns, r, l⟩ := h
  exact ⟨ne, ns, b.seqL ne r, l⟩
theorem PenAt.mono (h : PenAt H p c n) (hm : n ≤ m) : PenAt H p c m := by
  obtain ⟨i, j, e, h1, h2, h3⟩ := h
  exact ⟨i, j, e, h1, by omega, h3⟩
theorem Go.refl (h : PenAt H p c n) (hc : Cells K H p c) : Go K p c H n H := ⟨But.refl, h, hc⟩
theorem Go.self (g : Go K p c H0 n H) : Go K p c H n H := ⟨But.refl, g.pen, g.cel⟩
theorem Go.mono (g : Go K p c H0 n H) (hm : n ≤ m) : Go K p c H0 m H := ⟨g.but, g.pen.mono hm, g.cel⟩
theorem Go.trans (g : Go K p c H0 n H1) (g2 : Go K p c H1 m H2) : Go K p c H0 m H2 := ⟨g.but.trans g2.but, g2.pen, g2.cel⟩
theorem Go.tracked (g : Go K p c H0 n H) : ∃ o, H p = some o := by
  obtain ⟨_, _, e, _⟩ := g.pen
  exact ⟨_, e⟩
theorem Go.ne_new (g : Go K p c H0 n H) (hq : H q = none) : p ≠ q := by
  obtain ⟨o, e⟩ := g.tracked
  exact ne_of_none e hq
theorem Go.make {i j : Int} (hc : Cells K H0 p c) (b : But p H0 H) (e : H p = some (.lst [.ref c, .int i, .int j])) (h1 : 0 ≤ i) (h2 : i ≤ (n : Nat)) (h3 : 0 ≤ j) : Go K p c H0 n H := ⟨b, ⟨i, j, e, h1, h2, h3⟩, hc.but b⟩
theorem Go.free (g : Go K p c H0 n H) (hq : H q = none) : H0 q = none := by
  cases z : H0 q with
  | none => rfl
  | some o => exact absurd (g.but q o (Ne.symm (g.ne_new hq)) z) (by rw [hq]; exact nofun)
/-- a new object -/
theorem Go.new (g : Go K p c H0 n H) (hq : H q = none) : Go K p c H0 n (upd H q o) := by
  have hp := g.ne_new hq
  obtain ⟨i, j, e, r⟩ := id g.pen
  have b1 : But p H (upd H q o) := But.refl.new hq
  exact ⟨g.but.new hq, ⟨i, j, (upd_ne hp).trans e, r⟩, g.cel.but b1⟩
/-- an own object is written: it was free at the beginning; the cells aren't it -/
theorem Go.own (g : Go K p c H0 n H) (hl : H0 l = none) (hp : l ≠ p) (hc : Cells K H0 p c) : Go K p c H0 n (upd H l o) := by
  obtain ⟨i, j, e, r⟩ := id g.pen
  exact ⟨g.but.own hl, ⟨i, j, (upd_ne (Ne.symm hp)).trans e, r⟩, hc.but (g.but.own hl)⟩
theorem Go.same (g : Go K p c H0 n H) (h : Same H H1) : Go K p c H0 n H1 := by
  obtain ⟨i, j, e, r⟩ := id g.pen
  exact ⟨g.but.trans (But.of_same h), ⟨i, j, h _ _ e, r⟩, g.cel.but (But.of_same h)⟩
end

/-! ### numbers -/
theorem fmod_lt {a b : Int} (h : 0 < b) : Int.fmod a b < b := Int.fmod_lt_of_pos a h
theorem fmod_ge {a b : Int} (h : 0 < b) : 0 ≤ Int.fmod a b := Int.fmod_nonneg_of_pos a h
theorem fdiv_ge {a b : Int} (h : 0 ≤ a) (h2 : 0 ≤ b) : 0 ≤ Int.fdiv a b := Int.fdiv_nonneg h h2

theorem atI_fmod {α : Type} {xs : List α} {i : Int} (h : 0 < xs.length) : ∃ v, v ∈ xs ∧ atI xs (Int.fmod i xs.length) = some v := by
  have h0 : (0 : Int) < xs.length := by omega
  have g := fmod_ge (a := i) h0
  have l := fmod_lt (a := i) h0
  obtain ⟨j, e⟩ := Int.eq_ofNat_of_zero_le g
  rw [e] at l ⊢
  have hj : j < xs.length := by omega
  exact ⟨xs[j], List.getElem_mem hj, atI_nat (List.getElem?_eq_getElem hj)⟩
theorem atI_lt {α : Type} {xs : List α} {i : Int} (h0 : 0 ≤ i) (h : i < xs.length) : ∃ v, v ∈ xs ∧ atI xs i = some v := by
  obtain ⟨j, rfl⟩ := Int.eq_ofNat_of_zero_le h0
  have hj : j < xs.length := by omega
  exact ⟨xs[j], List.getElem_mem hj, atI_nat (List.getElem?_eq_getElem hj)⟩

/-! ### data whose repr is short -/
structure RepOk (d : PyData) (k n : Nat) : Prop where
  sh : d.showable = true
  nd : d.hasDict = false
  dp : d.depth ≤ k
  lv : d.leavesShort 400 = true
  cl : d.canLay0 = true
  bk : d.bulk ≤ n
theorem RepOk.mono {d : PyData} {k n k' n' : Nat} (h : RepOk d k n) (hk : k ≤ k') (hn : n ≤ n') : RepOk d k' n' := ⟨h.sh, h.nd, Nat.le_trans h.dp hk, h.lv, h.cl, Nat.le_trans h.bk hn⟩
theorem RepOk.fits {d : PyData} {k n : Nat} (h : RepOk d k n) (hn : n ≤ 40000) : d.shown.length ≤ sizeLine := by
  have e := PyData.shown_le_bulk 400 (by decide) d h.lv
  have b := h.bk
  have : (400 + 2) * d.bulk ≤ 402 * 40000 := Nat.mul_le_mul (by decide) (by omega)
  rw [sizeLine_eq]
  omega
theorem RepOk.none : RepOk .none 0 0 := ⟨rfl, rfl, Nat.le_refl _, by decide +kernel, rfl, Nat.le_refl _⟩
theorem RepOk.bool (b : Bool) : RepOk (.bool b) 0 0 := ⟨rfl, rfl, Nat.le_refl _, by cases b <;> decide +kernel, rfl, Nat.le_refl _⟩
theorem log2_small {i : Int} (h : i.natAbs < 2 ^ 398) : i.natAbs.log2 < 398 := by
  by_cases z : i.natAbs = 0
  · rw [z]
    decide
  · exact (Nat.log2_lt z).mpr h
theorem RepOk.int {i : Int} (h : i.natAbs < 2 ^ 398) : RepOk (.int i) 0 0 := by
  have l := log2_small h
  refine ⟨?_, rfl, Nat.le_refl _, ?_, rfl, Nat.le_refl _⟩
  · simp only [PyData.showable, decide_eq_true_eq]
    omega
  · have e := int_text_length_le (a := i) (k := 398) (by decide) l
    have e2 : (Str.ofString (toString i)).length = (toString i).length := PySem.ofString_length _
    have e3 : (PyData.int i).shown.length ≤ 400 := by
      show (Str.ofString (toString i)).length ≤ 400
      rw [e2]
      exact Nat.le_trans e (by decide)
    unfold PyData.leavesShort
    exact decide_eq_true e3
theorem RepOk.str {x : Str} {n : Nat} (h : x.length ≤ n) (hc : ∀ c ∈ x.cps.toList, c < 16 ^ 8) (ho : (PyData.str x).canLay0 = true) : RepOk (.str x) 0 n := by
  refine ⟨rfl, rfl, Nat.le_refl _, ?_, ho, h⟩
  simp only [PyData.leavesShort, List.all_eq_true, decide_eq_true_eq]
  exact hc
theorem rep_all {ds : List PyData} {k n : Nat} : (∀ d ∈ ds, RepOk d k n) → PyData.showableAll ds = true ∧ PyData.hasDictAll ds = false ∧ PyData.depthAll ds ≤ k ∧ PyData.leavesShortAll 400 ds = true ∧ PyData.canLayAll0 ds = true ∧ PyData.bulkAll ds ≤ ds.length * (n + 1) := by
  induction ds with
  | nil => intro _; exact ⟨rfl, rfl, Nat.zero_le _, rfl, rfl, Nat.zero_le _⟩
  | cons d r ih =>
    intro h
    obtain ⟨h1, h2, h3, h4, h6, h5⟩ := ih fun x hx => h x (List.mem_cons_of_mem _ hx)
    have q := h d (List.mem_cons_self ..)
    refine ⟨?_, ?_, ?_, ?_, ?_, ?_⟩
    · simp only [PyData.showableAll, q.sh, h1, Bool.and_self]
    · simp only [PyData.hasDictAll, q.nd, h2, Bool.or_self]
    · simp only [PyData.depthAll]
      exact Nat.max_le.mpr ⟨q.dp, h3⟩
    · simp only [PyData.leavesShortAll, q.lv, h4, Bool.and_self]
    · simp only [PyData.canLayAll0, q.cl, h6, Bool.and_self]
    · simp only [PyData.bulkAll, List.length_cons]
      have b := q.bk
      have e : (r.length + 1) * (n + 1) = r.length * (n + 1) + (n + 1) := Nat.succ_mul _ _
      omega
theorem RepOk.list {ds : List PyData} {k n : Nat} (h : ∀ d ∈ ds, RepOk d k n) : RepOk (.list ds) (k + 1) (ds.length * (n + 1)) := by
  obtain ⟨h1, h2, h3, h4, h6, h5⟩ := rep_all h
  exact ⟨by simpa only [PyData.showable] using h1, by simpa only [PyData.hasDict] using h2, by simp only [PyData.depth]; omega, by simpa only [PyData.leavesShort] using h4, by simpa only [PyData.canLay0] using h6, by simpa only [PyData.bulk] using h5⟩
theorem RepOk.tuple {ds : List PyData} {k n : Nat} (h : ∀ d ∈ ds, RepOk d k n) : RepOk (.tuple ds) (k + 1) (ds.length * (n + 1)) := by
  obtain ⟨h1, h2, h3, h4, h6, h5⟩ := rep_all h
  exact ⟨by simpa only [PyData.showable] using h1, by simpa only [PyData.hasDict] using h2, by simp only [PyData.depth]; omega, by simpa only [PyData.leavesShort] using h4, by simpa only [PyData.canLay0] using h6, by simpa only [PyData.bulk] using h5⟩

theorem RepOk.shaped {d : PyData} {k n : Nat} (h : RepOk d k n) (hk : k ≤ 64) : SeqAt.shaped d = true := by
  unfold SeqAt.shaped
  rw [h.cl, Bool.true_and]
  exact decide_eq_true (Nat.le_trans h.dp hk)
/-- repr(x): its text, by the data alone -/
def rRepr2 (K : PySem.W.Frag) : List V → Hp → VK → Prop := fun xs H Q => ∃ v d k n, xs = [v] ∧ Dp K H v d ∧ RepOk d k n ∧ k ≤ 40 ∧ n ≤ 40000 ∧ Q (.str d.shown) H
theorem call_reprD {X : Cx} (hG : X.A.guards = some []) (hu : X.A.units + 64 < cLine) : CallR X (.builtin "repr") (rRepr2 X.K) := by
  intro pins s σ H xs us Q I r h
  obtain ⟨v, d, k, n, e, hd, ok, hk, hn, q⟩ := h
  exact call_repr hG hu pins s σ H xs us Q I r ⟨v, d, e, hd, ok.sh, ok.nd, Nat.le_trans ok.dp hk, ok.fits hn, q⟩

/-! data that is read at one heap is read at each that keeps what is tracked -/
section
variable {K : PySem.W.Frag} {H H1 : Hp}
mutual
theorem dp_same (h : Same H H1) : ∀ (d : PyData) (v : V), Dp K H v d → Dp K H1 v d
  | .none, _, q => by
    cases q
    exact .non
  | .bool b, _, q => by
    cases q
    exact .bl b
  | .int i, _, q => by
    cases q
    exact .int i
  | .str x, _, q => by
    cases q
    exact .str x
  | .list ds, _, q => by
    cases q with
    | lst h1 h2 => exact .lst (same_seqL h h1) (dpAll_same h ds _ h2)
  | .tuple ds, _, q => by
    cases q with
    | tup h1 h2 => exact .tup (same_seqT h h1) (dpAll_same h ds _ h2)
  | .dict _, _, q => nomatch q
theorem dpAll_same (h : Same H H1) : ∀ (ds : List PyData) (vs : List V), DpAll K H vs ds → DpAll K H1 vs ds
  | [], _, q => by
    cases q
    exact .nil
  | d :: ds, _, q => by
    cases q with
    | cons h1 h2 => exact .cons (dp_same h d _ h1) (dpAll_same h ds _ h2)
end
/-- flat things as data -/
theorem dpAll_ints : ∀ ns : List Int, DpAll K H (ns.map V.int) (ns.map PyData.int)
  | [] => .nil
  | n :: r => .cons (.int n) (dpAll_ints r)
theorem dpAll_strs : ∀ ns : List Str, DpAll K H (ns.map V.str) (ns.map PyData.str)
  | [] => .nil
  | n :: r => .cons (.str n) (dpAll_strs r)
theorem DpAll.map {α : Type} {f : α → V} {g : α → PyData} : ∀ {l : List α}, (∀ x ∈ l, Dp K H (f x) (g x)) → DpAll K H (l.map f) (l.map g)
  | [], _ => .nil
  | x :: r, h => .cons (h x (List.mem_cons_self ..)) (DpAll.map fun y hy => h y (List.mem_cons_of_mem _ hy))
end
end RO

namespace RO
open PySem PySem.Spec PyProof.Rows L2

/-! ### short texts -/
def TOk (k : Nat) (t : Str) : Prop := t.length ≤ k ∧ ∀ c ∈ t.cps.toList, c < 128
theorem TOk.mono {k j : Nat} {t : Str} (h : TOk k t) (l : k ≤ j) : TOk j t := ⟨Nat.le_trans h.1 l, h.2⟩
theorem str_len (t : Str) : t.length = t.cps.toList.length := by
  show t.cps.size = _
  simp
theorem cut_ok {k : Nat} {t : Str} (h : TOk k t) (lo hi : Option Int) : TOk k (cutS t lo hi) := by
  refine ⟨?_, fun c hc => ?_⟩
  · have e := str_len (cutS t lo hi)
    have e2 := str_len t
    have l := h.1
    rw [e]
    unfold cutS
    simp only [List.length_take, List.length_drop]
    omega
  · unfold cutS at hc
    simp only at hc
    exact h.2 c (List.mem_of_mem_drop (List.mem_of_mem_take hc))
theorem codes_app (a b : Str) : (a ++ b).cps.toList = a.cps.toList ++ b.cps.toList := by
  show (a.cps ++ b.cps).toList = _
  simp
theorem codes_join0 : ∀ l : List Str, (Str.join (Str.ofString "") l).cps.toList = l.flatMap (·.cps.toList)
  | [] => rfl
  | [x] => by
    show x.cps.toList = _
    simp
  | x :: y :: r => by
    show (x ++ Str.ofString "" ++ Str.join (Str.ofString "") (y :: r)).cps.toList = _
    rw [codes_app, codes_app, codes_join0 (y :: r)]
    have : (Str.ofString "").cps.toList = [] := by decide +kernel
    rw [this, List.append_nil]
    simp only [List.flatMap_cons]
/-- signs put together -/
theorem join_ok {l : List Str} (h : ∀ x ∈ l, TOk 1 x) : TOk l.length (Str.join (Str.ofString "") l) := by
  refine ⟨?_, fun c hc => ?_⟩
  · rw [str_len, codes_join0]
    induction l with
    | nil => exact Nat.le_refl _
    | cons x r ih =>
      have a := (h x (List.mem_cons_self ..)).1
      rw [str_len] at a
      have b := ih fun y hy => h y (List.mem_cons_of_mem _ hy)
      rw [List.flatMap_cons, List.length_append, List.length_cons]
      omega
  · rw [codes_join0] at hc
    obtain ⟨x, hx, hc⟩ := List.mem_flatMap.mp hc
    exact (h x hx).2 c hc
theorem RepOk.tok {k : Nat} {t : Str} (h : TOk k t) : RepOk (.str t) 0 k := by
  refine RepOk.str h.1 (fun c hc => Nat.lt_of_lt_of_le (h.2 c hc) (by decide)) ?_
  simp only [PyData.canLay0, PyData.strOk, ← Array.all_toList, List.all_eq_true, decide_eq_true_eq]
  exact fun c hc => Nat.lt_of_lt_of_le (h.2 c hc) (by decide)

/-! ### rows -/
/-- what a row bears -/
inductive What where
  | order (i : Int)
  | name (t : Str)
  deriving DecidableEq
def What.v : What → V
  | .order i => .int i
  | .name t => .str t
def What.d : What → PyData
  | .order i => .int i
  | .name t => .str t
theorem What.v_inj {a b : What} (h : a.v = b.v) : a = b := by
  cases a <;> cases b <;> simp_all [What.v]
theorem What.dp {K : PySem.W.Frag} {H : Hp} (x : What) : Dp K H x.v x.d := by
  cases x with
  | order i => exact .int i
  | name t => exact .str t
theorem What.rep {x : What} (h : (∃ i : Int, x = .order i ∧ -4 ≤ i ∧ i ≤ 4) ∨ ∃ t, x = .name t ∧ TOk 8 t) : RepOk x.d 0 8 := by
  rcases h with ⟨i, rfl, h1, h2⟩ | ⟨t, rfl, h⟩
  · exact (RepOk.int (by omega)).mono (Nat.le_refl _) (by omega)
  · exact RepOk.tok h
theorem scal_what (x y : What) : scal x.v y.v = true := by cases x <;> cases y <;> rfl
theorem What.flat (x : What) : flatV x.v = true := by cases x <;> rfl
structure Row where
  m : Int
  l : Str
  w : What
def lines6 : List Str := ["port", "star", "down", "aport", "astar", "up"]
def tubes : List Str := ["down", "up"]
/-- a row as DOC asks -/
structure Row.Ok (r : Row) : Prop where
  m0 : 0 ≤ r.m
  m1 : r.m ≤ 99999
  ln : r.l ∈ lines6
  wh : (r.l ∈ tubes ∧ ∃ t, r.w = .name t ∧ TOk 8 t) ∨ (r.l ∉ tubes ∧ ∃ i, r.w = .order i ∧ -4 ≤ i ∧ i ≤ 4)
theorem lines6_ok : ∀ l ∈ lines6, TOk 8 l := by
  intro l h
  have h2 : l = "port" ∨ l = "star" ∨ l = "down" ∨ l = "aport" ∨ l = "astar" ∨ l = "up" := by simpa [lines6] using h
  rcases h2 with rfl | rfl | rfl | rfl | rfl | rfl <;> exact ⟨by decide +kernel, by decide +kernel⟩
def Row.d (r : Row) : PyData := .tuple [.int r.m, .str r.l, r.w.d]
theorem Row.Ok.rep {r : Row} (h : r.Ok) : RepOk r.d 1 27 := by
  refine (RepOk.tuple (k := 0) (n := 8) fun d hd => ?_).mono (Nat.le_refl _) (by show 3 * 9 ≤ 27; omega)
  have z : d = .int r.m ∨ d = .str r.l ∨ d = r.w.d := by simpa using hd
  rcases z with rfl | rfl | rfl
  · exact (RepOk.int (by have := h.m0; have := h.m1; omega)).mono (Nat.le_refl _) (by omega)
  · exact RepOk.tok (lines6_ok _ h.ln)
  · refine What.rep ?_
    rcases h.wh with ⟨_, t, e, q⟩ | ⟨_, i, e, q1, q2⟩
    · exact .inr ⟨t, e, q⟩
    · exact .inl ⟨i, e, q1, q2⟩

/-- the row r stands at a -/
def RowAt (K : PySem.W.Frag) (H : Hp) (a : Addr) (r : Row) : Prop := SqT K H a [.int r.m, .str r.l, r.w.v]
/-- rows at places -/
inductive RowsAt (K : PySem.W.Frag) (H : Hp) : List Addr → List Row → Prop
  | nil : RowsAt K H [] []
  | cons {a : Addr} {r : Row} {as : List Addr} {rs : List Row} : RowAt K H a r → RowsAt K H as rs → RowsAt K H (a :: as) (r :: rs)
/-- the log rs stands at t -/
def LogAt (K : PySem.W.Frag) (H : Hp) (t : Addr) (rs : List Row) : Prop := ∃ as : List Addr, SqT K H t (as.map V.ref) ∧ RowsAt K H as rs
section
variable {K : PySem.W.Frag} {H H1 : Hp} {t a : Addr} {as : List Addr} {rs : List Row} {r : Row}
theorem RowsAt.length (h : RowsAt K H as rs) : as.length = rs.length := by
  induction h with
  | nil => rfl
  | cons _ _ ih => exact congrArg (· + 1) ih
theorem RowsAt.get (h : RowsAt K H as rs) : ∀ {i : Nat} {r : Row}, rs[i]? = some r → ∃ a, as[i]? = some a ∧ RowAt K H a r := by
  induction h with
  | nil => intro i r e; simp at e
  | cons h1 _ ih =>
    intro i r e
    cases i with
    | zero =>
      simp at e
      subst e
      exact ⟨_, rfl, h1⟩
    | succ i => exact ih (by simpa using e)
theorem RowsAt.get' (h : RowsAt K H as rs) : ∀ {i : Nat} {a : Addr}, as[i]? = some a → ∃ r, rs[i]? = some r ∧ RowAt K H a r := by
  induction h with
  | nil => intro i r e; simp at e
  | cons h1 _ ih =>
    intro i r e
    cases i with
    | zero =>
      simp at e
      subst e
      exact ⟨_, rfl, h1⟩
    | succ i => exact ih (by simpa using e)
theorem RowsAt.snoc (h : RowsAt K H as rs) (h1 : RowAt K H a r) : RowsAt K H (as ++ [a]) (rs ++ [r]) := by
  induction h with
  | nil => exact .cons h1 .nil
  | cons h2 _ ih => exact .cons h2 ih
theorem RowsAt.imp (h : RowsAt K H as rs) (f : ∀ a r, RowAt K H a r → RowAt K H1 a r) : RowsAt K H1 as rs := by
  induction h with
  | nil => exact .nil
  | cons h2 _ ih => exact .cons (f _ _ h2) ih
theorem RowsAt.same (h : RowsAt K H as rs) (s : Same H H1) : RowsAt K H1 as rs := h.imp fun _ _ q => same_seqT s q
theorem seqT_lst {p : Addr} {xs ys : List V} (h : SqT K H a xs) (hp : H p = some (.lst ys)) (b : But p H H1) : SqT K H1 a xs := by
  rcases h with h | h
  · have n : a ≠ p := by
      rcases h with h | ⟨o, h⟩
      · exact ne_of h hp (by intro z; cases z)
      · exact ne_of h hp (by intro z; cases z)
    exact .inl (b.rd n h)
  · exact .inr h
theorem seqT_go {p c : Addr} {n : Nat} {xs : List V} (h : SqT K H a xs) (hp : PenAt H p c n) (b : But p H H1) : SqT K H1 a xs := by
  obtain ⟨_, _, e, _⟩ := hp
  exact seqT_lst h e b
theorem RowsAt.lst {p : Addr} {ys : List V} (h : RowsAt K H as rs) (hp : H p = some (.lst ys)) (b : But p H H1) : RowsAt K H1 as rs := h.imp fun _ _ q => seqT_lst q hp b
theorem RowsAt.go {p c : Addr} {n : Nat} (h : RowsAt K H as rs) (hp : PenAt H p c n) (b : But p H H1) : RowsAt K H1 as rs := by
  obtain ⟨_, _, e, _⟩ := hp
  exact h.lst e b
theorem LogAt.go {p c : Addr} {n : Nat} (h : LogAt K H t rs) (hp : PenAt H p c n) (b : But p H H1) : LogAt K H1 t rs := by
  obtain ⟨as, h1, h2⟩ := h
  obtain ⟨_, _, e, _⟩ := id hp
  exact ⟨as, seqT_lst h1 e b, h2.go hp b⟩
theorem RowsAt.take (h : RowsAt K H as rs) (n : Nat) : RowsAt K H (as.take n) (rs.take n) := by
  induction h generalizing n with
  | nil => simp; exact .nil
  | cons h2 _ ih =>
    cases n with
    | zero => exact .nil
    | succ n => exact .cons h2 (ih n)
theorem RowsAt.drop (h : RowsAt K H as rs) (n : Nat) : RowsAt K H (as.drop n) (rs.drop n) := by
  induction h generalizing n with
  | nil => simp; exact .nil
  | cons h2 h3 ih =>
    cases n with
    | zero => exact .cons h2 h3
    | succ n => exact ih n
theorem LogAt.same (h : LogAt K H t rs) (s : Same H H1) : LogAt K H1 t rs := by
  obtain ⟨as, h1, h2⟩ := h
  exact ⟨as, same_seqT s h1, h2.same s⟩
theorem RowAt.dp (h : RowAt K H a r) : Dp K H (.ref a) r.d := .tup h (.cons (.int _) (.cons (.str _) (.cons r.w.dp .nil)))
theorem RowsAt.dp (h : RowsAt K H as rs) : DpAll K H (as.map V.ref) (rs.map Row.d) := by
  induction h with
  | nil => exact .nil
  | cons h2 _ ih => exact .cons h2.dp ih
theorem LogAt.dp (h : LogAt K H t rs) : Dp K H (.ref t) (.tuple (rs.map Row.d)) := by
  obtain ⟨as, h1, h2⟩ := h
  exact .tup h1 h2.dp
theorem log_rep (h : ∀ r ∈ rs, r.Ok) (l : rs.length ≤ 41) : RepOk (.tuple (rs.map Row.d)) 2 1148 := by
  refine (RepOk.tuple (k := 1) (n := 27) fun d hd => ?_).mono (Nat.le_refl _) ?_
  · obtain ⟨r, hr, rfl⟩ := List.mem_map.mp hd
    exact (h r hr).rep
  · rw [List.length_map]
    omega
end
theorem ints_rep {ns : List Int} {k : Nat} (h : ∀ n ∈ ns, n.natAbs < 2 ^ 398) (l : ns.length ≤ k) : RepOk (.list (ns.map PyData.int)) 1 k := by
  refine (RepOk.list (k := 0) (n := 0) fun d hd => ?_).mono (Nat.le_refl _) ?_
  · obtain ⟨r, hr, rfl⟩ := List.mem_map.mp hd
    exact RepOk.int (h r hr)
  · rw [List.length_map]
    omega
theorem cut_take (xs : List V) (i : Nat) (h : i ≤ xs.length) : cutV xs none (some (i : Int)) = xs.take i := by
  unfold cutV
  rw [HT.sIx_none, HT.sIx_nat, List.drop_zero, Nat.min_eq_left h, Nat.sub_zero]
theorem cut_drop (xs : List V) (i : Nat) : cutV xs (some (i : Int)) none = xs.drop i := by
  unfold cutV
  rw [HT.sIx_none, HT.sIx_nat]
  by_cases h : i ≤ xs.length
  · rw [Nat.min_eq_left h, List.take_of_length_le (by rw [List.length_drop]; exact Nat.le_refl _)]
  · rw [Nat.min_eq_right (by omega), List.drop_length, List.drop_eq_nil_of_le (by omega)]
    simp
theorem cut_not (xs : List V) (i : Nat) (h : i < xs.length) : ¬(HT.sIx xs.length 0 none = 0 ∧ HT.sIx xs.length xs.length (some (i : Int)) = xs.length) := fun z => by
  rw [HT.sIx_nat] at z
  omega
/-! ### the rules that name the written part, with it said: they stand within comprehensions, too -/
section
variable (K : PySem.W.Frag) {X : Cx}
theorem kx_seq (h : X.K = K := by rfl) : IxR X (rIx K) := by
  subst h
  exact ix_seq
theorem kx_list (h : X.K = K := by rfl) : IxR X (rIxL K) := by
  subst h
  exact ix_list
theorem kx_tup (h : X.K = K := by rfl) : IxR X (rIxT K) := by
  subst h
  exact ix_tup
theorem k_slL (h : X.K = K := by rfl) : SlR X (rSlL K) := by
  subst h
  exact sl_list
theorem k_slT (h : X.K = K := by rfl) : SlR X (rSlT K) := by
  subst h
  exact sl_tup
theorem k_slA (h : X.K = K := by rfl) : SlR X (rSlA K) := by
  subst h
  exact sl_tupA
theorem k_in (h : X.K = K := by rfl) : OpR X (compareOp .In) (rIn K false) := by
  subst h
  exact op_in_seq
theorem k_notin (h : X.K = K := by rfl) : OpR X (compareOp .NotIn) (rIn K true) := by
  subst h
  exact op_notIn_seq
def rLen (K : PySem.W.Frag) : List V → Hp → VK → Prop := fun xs H Q => ∃ p ys, xs = [.ref p] ∧ (SqL K H p ys ∨ SqT K H p ys) ∧ Q (.int ys.length) H
theorem k_len (h : X.K = K := by rfl) : CallR X (.builtin "len") (rLen K) := by
  subst h
  exact call_len_seq
theorem k_isi (h : X.K = K := by rfl) : CallR X (.builtin "isinstance") (rIsi K) := by
  subst h
  exact call_isi
theorem k_eqD (hu : X.A.units + 64 < cLine) (h : X.K = K := by rfl) : OpR X (compareOp .Eq) (rEqD K) := by
  subst h
  exact op_eqD hu
theorem k_neD (hu : X.A.units + 64 < cLine) (h : X.K = K := by rfl) : OpR X (compareOp .NotEq) (rNeD K) := by
  subst h
  exact op_neD hu
theorem k_repr (hG : X.A.guards = some []) (hu : X.A.units + 64 < cLine) (h : X.K = K := by rfl) : CallR X (.builtin "repr") (rRepr2 K) := by
  subst h
  exact call_reprD hG hu
def rTupOf (K : PySem.W.Frag) : List V → Hp → VK → Prop := fun xs H Q => ∃ p ys, xs = [.ref p] ∧ ((SqL K H p ys ∧ ∀ l, H l = none → Q (.ref l) (upd H l (.tup ys))) ∨ (SqT K H p ys ∧ Q (.ref p) H))
theorem k_tupOf (h : X.K = K := by rfl) : CallR X (.type "tuple") (rTupOf K) := by
  subst h
  exact call_tuple_of
def rListOf (K : PySem.W.Frag) : List V → Hp → VK → Prop := fun xs H Q => ∃ p ys, xs = [.ref p] ∧ (SqL K H p ys ∨ SqT K H p ys) ∧ ∀ l, H l = none → Q (.ref l) (upd H l (.lst ys))
theorem k_listOf (h : X.K = K := by rfl) : CallR X (.type "list") (rListOf K) := by
  subst h
  exact call_list_of
theorem k_isiT (h : X.K = K := by rfl) : CallR X (.builtin "isinstance") (rIsiT K) := by
  subst h
  exact call_isiT
theorem k_all (hc : X.calm = true) (h : X.K = K := by rfl) : CallR X (.builtin "all") (rAll K) := by
  subst h
  exact cr_all hc
theorem k_any (hc : X.calm = true) (h : X.K = K := by rfl) : CallR X (.builtin "any") (rAny K) := by
  subst h
  exact cr_any hc
theorem k_sorted (h : X.K = K := by rfl) : CallR X (.builtin "sorted") (rSortedI K) := by
  subst h
  exact cr_sortedI
theorem k_catT (h : X.K = K := by rfl) : OpR X (binaryOp .Add) (rCatT K) := by
  subst h
  exact op_catT
theorem k_pgT {es : List Expr} {k : Nat} {t : TGs} {n : Nat} {pos : Pos} (hc : X.calm = true) (h : PGs X es t) (hn : (assignEach es X.env).length = n := by rfl) (hs : (assignEach es X.env).findIdx? (fun p => p.1) = none := by rfl) (hK : X.K = K := by rfl) : PG X (.Tuple es k pos) (gTup K n t) := by
  subst hK
  exact pg_tup hc h hn hs
theorem k_piL {tg l : Expr} {tl : TE} (hl : PE X l tl) (h : X.K = K := by rfl) : PI X tg l (iList K tl) := by
  subst h
  exact pi_list hl
theorem k_piT {tg l : Expr} {tl : TE} (hl : PE X l tl) (h : X.K = K := by rfl) : PI X tg l (iTup K tl) := by
  subst h
  exact pi_tup hl
end
/-! ### lists and tuples alike -/
/-- a list or a tuple is read -/
def SqE (K : PySem.W.Frag) (H : Hp) (a : Addr) (xs : List V) : Prop := SqL K H a xs ∨ SqT K H a xs
def gEither (K : PySem.W.Frag) (n : Nat) (t : TGs) : TG := fun v σ H Q => ∃ a xs, v = .ref a ∧ SqE K H a xs ∧ xs.length = n ∧ t xs σ H Q
/-- x[i], x a list or a tuple -/
def rIxE (K : PySem.W.Frag) : R2 := fun x y H Q => ∃ p xs i v, x = .ref p ∧ y = .int i ∧ SqE K H p xs ∧ atI xs i = some v ∧ Q v H
theorem kx_E (K : PySem.W.Frag) {X : Cx} (hK : X.K = K := by rfl) : IxR X (rIxE K) := by
  subst hK
  rintro value slice pins s σ H x y v u Q I rx ry ⟨p, xs, i, z, e1, e2, hq | hq, e3, q⟩ hs
  · exact ix_list value slice pins s σ H x y v u Q I rx ry ⟨p, xs, i, z, e1, e2, hq, e3, q⟩ hs
  · exact ix_tup value slice pins s σ H x y v u Q I rx ry ⟨p, xs, i, z, e1, e2, hq, e3, q⟩ hs
/-- for x in v, v a name of a list or of a tuple -/
def iEither (K : PySem.W.Frag) (i : Nat) : TI := fun σ H R => ∃ a, σ[i]? = some (some (V.ref a)) ∧ (((∃ xs, SqL K H a xs) ∧ R (Itl K a) H) ∨ ((∃ xs, SqT K H a xs) ∧ R (Itt K a) H))
theorem k_piV (K : PySem.W.Frag) {X : Cx} {tg l : Expr} {i : Nat} (hl : PE X l (tVar i)) (hK : X.K = K := by rfl) : PI X tg l (iEither K i) := by
  subst hK
  constructor
  rintro pins s σ H R I ⟨a, e, ⟨hq, q⟩ | ⟨hq, q⟩⟩
  · exact (pi_list hl).run pins s σ H R I ⟨_, e, a, rfl, hq, q⟩
  · exact (pi_tup hl).run pins s σ H R I ⟨_, e, a, rfl, hq, q⟩
section
variable {X : Cx} {K : PySem.W.Frag} {H H1 : Hp} {a p : Addr} {xs : List V}
theorem SqE.same (h : SqE K H a xs) (s : Same H H1) : SqE K H1 a xs := h.imp (same_seqL s) (same_seqT s)
theorem k_pgE (K : PySem.W.Frag) {es : List Expr} {k : Nat} {t : TGs} {n : Nat} {pos : Pos} (hc : X.calm = true) (h : PGs X es t) (hn : (assignEach es X.env).length = n := by rfl) (hs : (assignEach es X.env).findIdx? (fun p => p.1) = none := by rfl)
    (hK : X.K = K := by rfl) : PG X (.Tuple es k pos) (gEither K n t) := by
  subst hK
  constructor
  rintro pins s σ H v u Q I r ⟨a, xs, e1, hq | hq, hl, hw⟩
  · exact (pg_unl hc h hn hs).run pins s σ H v u Q I r ⟨a, xs, e1, hq, hl, hw⟩
  · exact (pg_tup hc h hn hs).run pins s σ H v u Q I r ⟨a, xs, e1, hq, hl, hw⟩
theorem seqT_ty (h : SqT K H a xs) : TyX K H (.ref a) (.type "tuple") := by
  rcases h with (h | ⟨o, h⟩) | ⟨o, its, n, e, c, _⟩
  · exact .base (.tup h)
  · exact .fTuple h
  · exact .kTuple e c
theorem seqL_ty (h : SqL K H a xs) : TyX K H (.ref a) (.type "list") := by
  rcases h with (h | ⟨o, h⟩) | ⟨o, its, n, e, c, _⟩
  · exact .base (.lst h)
  · exact .base (.frz h)
  · exact .kList e c
end
/-! ### defs with defaults -/
section
variable {P : Program} {w : World} {K : PySem.W.Frag} {mg : Str → Option Value} {base : Heap} {x qual : Str} {params : Arguments} {body : List Stmt} {scope : Scope} {dvs : List V} {f : Addr} {fd : FuncData} {ps : List Str}
theorem FunD_okN {N : List Str} {k : Nat} {sp : Sp} (F : FunD K x qual params body scope dvs [] f fd) (S : FnScope N ps scope) (len : ∀ vs H Q E, sp vs H Q E → vs.length = ps.length)
    (hb : ∀ (cdv : Value) (A : Around) (outer : List Env) (s : Shared) (H : Hp) (vs : List V) (Q : VK) (E : XK), Room k (A.deeper (envOfC qual scope s.heap.objs.size f cdv)) → sp vs H Q E →
      ∃ t, PSs (cxOf CX0 P w K mg base N qual scope f cdv A outer s H E).nox body t ∧ t { nx := fun _ H' => Q .non H', rt := Q } (start N vs) H) : FnOk P w K mg base CX0 (k + 1) f fd ps sp :=
  F.ok S len fun cdv A outer s H vs Q E hr h => by
    obtain ⟨t, h1, h2⟩ := hb cdv A outer s H vs Q E hr h
    exact ⟨t, h1.nox, h2⟩
theorem FunD_mk {oc : Value} {od an : Option Addr} {T : Addr} {kV doc pm cdv ct : Value} {osl : Array (Option Value)} {tc : Value} {td : Option Addr} {its : Array Value} {n : Nat} {tsl : Array (Option Value)}
    (l : K.lookup f = some ⟨oc, od, .func (PySem.W.fnOf x qual params body scope (.ref T) kV doc pm an cdv ct), osl⟩) (c : PySem.W.codeIn K cdv qual = true) (k : PySem.W.keepIn K (.ref f) = true)
    (lt : K.lookup T = some ⟨tc, td, .seq its n, tsl⟩) (v : Vals dvs its.toList) (hd : dvs ≠ []) : FunD K x qual params body scope dvs [] f (PySem.W.fnOf x qual params body scope (.ref T) kV doc pm an cdv ct) :=
  ⟨⟨oc, od, _, kV, doc, pm, an, cdv, ct, osl, rfl, l, c, .inr ⟨hd, T, _, its.toList, n, rfl, lt, by simp, v⟩, .inl rfl⟩, k⟩
/-- keywords, the defaults filling up what lacks -/
theorem FunD_kb (F : FunD K x qual params body scope dvs [] f fd) (hd : dvs ≠ []) (ks : List Str) (g : List Value → List Value → List Value → List Value) (gV : List V → List V → List V → List V)
    (rel : ∀ {vs ds zs : List V} {us its ws : List Value}, Vals vs us → Vals ds its → Vals zs ws → Vals (gV vs ds zs) (g us its ws))
    (h : ∀ (T : Addr) (kV doc pm : Value) (an : Option Addr) (cdv ct : Value) (us its ws : List Value), its.length = dvs.length → (g us its ws).length = ps.length →
      ∃ k, bindArgs (PySem.W.fnOf x qual params body scope (.ref T) kV doc pm an cdv ct) ⟨us, ks.zip ws⟩ = seqItems? (.ref T) >>= k ∧ k (some its.toArray) = pure (ps.zip (g us its ws))) :
    ∃ its : List Value, KBinds K fd ps ks (fun us ws => g us its ws) (fun vs zs => gV vs dvs zs) := by
  obtain ⟨oc, od, dV, kV, doc, pm, an, cdv, ct, osl, e, lk, hcd, hD, _⟩ := F.ex
  subst e
  rcases hD with ⟨e, _⟩ | ⟨_, T, o, its, m, rfl, lT, oT, rT⟩
  · exact absurd e hd
  · refine ⟨its, fun s us ws X hl => ?_, fun r1 r2 => rel r1 rT r2⟩
    obtain ⟨k, e1, e2⟩ := h T kV doc pm an cdv ct us its ws rT.length.symm hl
    refine BindsTo.of_looks fun M => ?_
    rw [e1]
    exact looks_items X lT oT (.of_pure e2)
end
end RO

namespace RO
open PySem PySem.Spec PyProof.Rows L2

/-! ### dicts of at most one pair, as data -/
/-- a number or a text, as data -/
inductive Sc : V → PyData → Prop
  | int (i : Int) : Sc (.int i) (.int i)
  | str (t : Str) : Sc (.str t) (.str t)
/-- data, or a small dict -/
inductive Dq (K : PySem.W.Frag) (H : Hp) : V → PyData → Prop
  | dp {v : V} {d : PyData} {k n : Nat} : Dp K H v d → RepOk d k n → k ≤ 40 → n ≤ 40000 → Dq K H v d
  | d0 {a : Addr} : H a = some (.dK []) → Dq K H (.ref a) (.dict [])
  | d1 {a : Addr} {t : Str} {x : V} {e : PyData} {n : Nat} : H a = some (.dK [(.inr t, x)]) → Sc x e → RepOk e 0 n → n ≤ 1000 → TOk 8 t → Dq K H (.ref a) (.dict [(.str t, e)])
theorem Dq.same {K : PySem.W.Frag} {H H1 : Hp} {v : V} {d : PyData} (h : Dq K H v d) (s : Same H H1) : Dq K H1 v d := by
  cases h with
  | dp h1 h2 h3 h4 => exact .dp (dp_same s _ _ h1) h2 h3 h4
  | d0 e => exact .d0 (s _ _ e)
  | d1 e a b c l => exact .d1 (s _ _ e) a b c l
theorem shown_short {d : PyData} {k n : Nat} (h : RepOk d k n) (hn : n ≤ 1000) : d.shown.length ≤ 402 * 1001 := by
  have e := PyData.shown_le_bulk 400 (by decide) d h.lv
  have b := h.bk
  have : (400 + 2) * d.bulk ≤ 402 * 1000 := Nat.mul_le_mul (by decide) (by omega)
  omega
theorem str_app (a b : Str) : (a ++ b).length = a.length + b.length := by
  rw [str_len, str_len, str_len, codes_app, List.length_append]
/-- repr(x), x data or a small dict -/
def rRepr4 (K : PySem.W.Frag) : List V → Hp → VK → Prop := fun xs H Q => ∃ v d, xs = [v] ∧ Dq K H v d ∧ Q (.str d.shown) H
theorem sys_ne {a : Addr} (h : (a == sysModules) = false) : a ≠ sysModules := fun z => by
  rw [z] at h
  simp at h
theorem call_repr4 {X : Cx} (hG : X.A.guards = some []) (hu : X.A.units + 64 < cLine) : CallR X (.builtin "repr") (rRepr4 X.K) := by
  intro pins s σ H xs us Q I r h
  obtain ⟨v, d, e, hd, q⟩ := h
  cases hd with
  | dp h1 h2 h3 h4 => exact call_reprD hG hu pins s σ H xs us Q I r ⟨v, d, _, _, e, h1, h2, h3, h4, q⟩
  | @d0 a ha =>
    subst e
    rw [Vals.ref1 r]
    have fin : ∀ (h' : Heap) (u : Tok) (tk : Nat), (∀ b o, s.heap.get? b = some o → h'.get? b = some o) → EP X pins σ Q (.str (PyData.dict []).shown u) { s with heap := h', toks := tk } :=
      fun h' u tk hk => ⟨.str (PyData.dict []).shown, H, I.un (Un.kept hk) (I.hok.kept hk), ⟨u, rfl⟩, q⟩
    obtain ⟨_, hs, vs, rel, o, es, ep, ho, hx, hdat, hk, hp, _⟩ := dk_of I.hok ha
    cases rel
    have he : es.toList = [] := by
      have := hp.length
      exact List.eq_nil_of_length_eq_zero this
    have rd : Reads s.heap (.ref a) (.dict []) (a :: [] ++ []) := Reads.dict ho hx.1 hdat (by rw [he]; exact .nil) (by rw [he]; exact .nil)
    exact repr_of_reads' rd (by decide) (fun _ => by simpa using Ne.symm (sys_ne hs)) hG (by show _ + (1 + 1) < _; omega) (fun _ _ z => z) fin (by decide +kernel)
  | @d1 a t x e' n ha hsc hr hn ht =>
    subst e
    rw [Vals.ref1 r]
    have hts := RepOk.tok ht
    have hsh : (PyData.dict [(.str t, e')]).showable = true := by
      simp [PyData.showable, PyData.showableKv, hr.sh]
    have hdp : (PyData.dict [(.str t, e')]).depth ≤ 1 := by
      have := hr.dp
      simp [PyData.depth, PyData.depthKv]
      omega
    have hlen : (PyData.dict [(.str t, e')]).shown.length ≤ sizeLine := by
      have l1 := shown_short hr hn
      have l2 := shown_short hts (by decide)
      rw [PyData.shown_dict]
      simp only [PyData.shownKv, Str.join]
      simp only [str_app]
      have c1 : ("{" : Str).length = 1 := by decide +kernel
      have c2 : ("}" : Str).length = 1 := by decide +kernel
      have c3 : (": " : Str).length = 2 := by decide +kernel
      rw [c1, c2, c3, sizeLine_eq]
      omega
    have fin : ∀ (h' : Heap) (u : Tok) (tk : Nat), (∀ b o, s.heap.get? b = some o → h'.get? b = some o) → EP X pins σ Q (.str (PyData.dict [(.str t, e')]).shown u) { s with heap := h', toks := tk } :=
      fun h' u tk hk => ⟨.str (PyData.dict [(.str t, e')]).shown, H, I.un (Un.kept hk) (I.hok.kept hk), ⟨u, rfl⟩, q⟩
    obtain ⟨_, hs, vs, rel, o, es, ep, ho, hx, hdat, hk, hp, _⟩ := dk_of I.hok ha
    cases rel with
    | @cons _ qv _ _ r1 r2 =>
      cases r2
      obtain ⟨er, rx⟩ := r1
      generalize hes : es.toList = el at hp
      cases hp with
      | @cons en _ _ _ p1 p2 p3 =>
        cases p3
        obtain ⟨_, _, z, _⟩ | ⟨y, tk, z, ek⟩ := keyIs_shape p1
        · rw [← er] at z
          cases z
        · rw [← er] at z
          cases z
          have rv : Reads s.heap en.val e' [] := by
            rw [p2]
            cases hsc with
            | int i =>
              obtain ⟨tt, ee⟩ := (show ∃ tt, qv.2 = Value.int i tt from rx)
              rw [ee]
              exact .int i tt
            | str y =>
              obtain ⟨tt, ee⟩ := (show ∃ tt, qv.2 = Value.str y tt from rx)
              rw [ee]
              exact .str y tt
          have rk : Reads s.heap en.key (.str t) [] := by
            rw [ek]
            exact .str t tk
          have rd : Reads s.heap (.ref a) (.dict [(.str t, e')]) (a :: ([] ++ []) ++ ([] ++ [])) := Reads.dict ho hx.1 hdat (by rw [hes]; exact .cons rk .nil) (by rw [hes]; exact .cons rv .nil)
          exact repr_of_reads' rd hsh (fun _ => by simpa using Ne.symm (sys_ne hs)) hG (by omega) (fun _ _ z => z) fin hlen
/-! ### texts of numbers, letters -/
theorem int_tok {i : Int} {k : Nat} (h : i.natAbs < 2 ^ k) (hk : 0 < k) : TOk (k + 1) (toString i : String) := by
  refine ⟨?_, fun c hc => ?_⟩
  · have l : i.natAbs.log2 < k := by
      by_cases z : i.natAbs = 0
      · rw [z]
        have : Nat.log2 0 = 0 := by decide
        omega
      · exact (Nat.log2_lt z).mpr h
    have e := int_text_length_le (a := i) hk l
    have e2 : (Str.ofString (toString i)).length = (toString i).length := PySem.ofString_length _
    show (Str.ofString (toString i)).length ≤ k + 1
    omega
  · by_cases z : c ≠ 45 ∧ (c < 48 ∨ 57 < c)
    · exact absurd hc (int_text_free' c z i)
    · omega
def rStrOf : List V → Hp → VK → Prop := fun xs H Q => (∃ i, xs = [.int i] ∧ i.natAbs.log2 < 1920 ∧ Q (.str (toString i : String)) H) ∨ ∃ a, xs = [.str a] ∧ Q (.str a) H
theorem k_strOf {X : Cx} : CallR X (.type "str") rStrOf := by
  rintro pins s σ H xs us Q I r (h | h)
  · exact call_str_int pins s σ H xs us Q I r h
  · exact SkE.call_str_str pins s σ H xs us Q I r h
theorem k_repr4 (K : PySem.W.Frag) {X : Cx} (hG : X.A.guards = some []) (hu : X.A.units + 64 < cLine) (h : X.K = K := by rfl) : CallR X (.builtin "repr") (rRepr4 K) := by
  subst h
  exact call_repr4 hG hu
def CPowW (i j : Int) : Prop := 0 ≤ j ∧ ((Builtin.Int.intBits i : Nat) : Int) * j ≤ 134217728
theorem op_powW {X : Cx} : OpR X (binaryOp .Pow) (rI CPowW fun i j => .int (i ^ j.toNat)) := opI fun _ _ _ _ _ _ _ hc q => pow_int hc.1 hc.2 q
def letter (c : Nat) : Bool := decide (97 ≤ c) && decide (c ≤ 122)
theorem letter_not : ∀ c, c < 128 → (!(!(Builtin.Str.occurrences (Str.ofString "abcdefghijklmnopqrstuvwxyz") ⟨#[c]⟩ 0 (Str.ofString "abcdefghijklmnopqrstuvwxyz").length 1).isEmpty)) = !letter c := by decide +kernel
end RO

namespace RO
open PySem PySem.Spec PyProof.Rows L2

/-! ### set(xs), xs a list of numbers -/
/-- an empty set's object -/
def emptySet (w : World) : Obj := { cls := .type "set", dict := none, data := .set #[] 0 (.fresh 0 0 (!w.params.followText "set-order")) }
section
variable {P : Program} {w : World} {A : Around} {E : Value → Shared → Prop} {s : Shared}
/-- set(v): the empty set, and what its start makes of it -/
theorem set_call {v : Value} {Q : Value → Shared → Prop} {G : Shared → Prop}
    (start : wpAny (model P w) A.in1.in1 (Builtin.«set.__init__» ⟨[.ref s.heap.objs.size, v], []⟩)
      (fun fin s' => match fin with
        | .done f => wants (fun r s₂ => r = .none ∧ G s₂) E (.ok f) s'
        | .again c' => c'.quiet = true ∧ codeAny (model P w) A.in1 c' (wants (fun r s₂ => r = .none ∧ G s₂) E) s')
      (fun e s' => wants (fun r s₂ => r = .none ∧ G s₂) E (.error e) s') { s with heap := s.heap.push (emptySet w) })
    (fin : ∀ s', G s' → Q (.ref s.heap.objs.size) s') : wpAny (model P w) A (call (.type "set") [v]) Q E s := by
  have lk := F.called_set.init.lookup
  have bd := F.called_set.init.bind (.ref s.heap.objs.size)
  have nt := F.called_set.notType
  have cc := F.called_set.canCreate
  have tc := F.typeCall_set_1 v
  have md := F.called_set.made
  have sb := F.called_set.sub
  obtain ⟨c, tl, mro⟩ := F.called_set.mro
  refine wpAny_call (codeAny_of_tree ?_)
  show wpAny _ _ (callAny (.type "set") _) _ _ _
  refine wpAny_pure ⟨Code.quiet_builtin _ (by decide +kernel), codeAny_builtin F.entry_type_call ?_⟩
  rw [Around.under_plain (weight_type_call_type "set" [v] []) rfl]
  repeat (any_goals (first | assumption | wp_step))
  refine codeAny_mono (code_set_led1 v (E := E) (Q₁ := fun obj t => obj = .ref s.heap.objs.size ∧ t = { s with heap := s.heap.push (emptySet w) }) ⟨rfl, rfl⟩) fun r t hr => ?_
  cases r with
  | error e => exact hr
  | ok fl =>
    cases fl with
    | ret obj =>
      obtain ⟨rfl, rfl⟩ := hr
      have ty : Shared.TypeIs { s with heap := s.heap.push (emptySet w) } (.ref s.heap.objs.size) "set" := ⟨_, Heap.get?_push_size _ rfl, rfl⟩
      repeat (any_goals (first | assumption | wp_step))
      refine codeAny_mono (codeAny_call_builtin F.called_set.init.plain F.entry_set_init (check_set_init_1 ty start)) fun r2 t2 h2 => ?_
      cases r2 with
      | error e => exact h2
      | ok fl2 =>
        cases fl2 with
        | ret z =>
          obtain ⟨rfl, g⟩ := h2
          have q := fin _ g
          repeat (any_goals (first | assumption | wp_step))
        | _ => exact h2.elim
    | _ => exact hr.elim
/-- of a list of numbers -/
theorem set_ints {l : Addr} {items : Array Value} {ns : List Int} {Q : Value → Shared → Prop} (hh : A.handled = none) (hl : s.heap.IsList l items) (hit : IntsAre items.toList ns) (hb : ns.length + 1 < scanBound)
    (h : ∀ (h' : Heap) (tk n : Nat), SetR w h' s.heap.objs.size (fun j => decide (j ∈ ns)) n → n ≤ ns.length → (∀ b o, s.heap.get? b = some o → h'.get? b = some o) → Q (.ref s.heap.objs.size) { s with heap := h', toks := tk }) :
    wpAny (model P w) A (call (.type "set") [.ref l]) Q E s := by
  have size : items.size = ns.length := by
    rw [← Array.length_toList]
    exact IntsAre.length hit
  have vals : ∀ (i : Nat) (v : Value), items[i]? = some v → ∃ k t, ns[i]? = some k ∧ v = .int k t := fun i v hv => by
    have lt : i < ns.length := size ▸ (Array.getElem?_eq_some_iff.mp hv).1
    obtain ⟨t, e⟩ := IntsAre.int_at hit i v (by rw [Array.getElem?_toList]; exact hv)
    refine ⟨ns[i], t, List.getElem?_eq_getElem lt, ?_⟩
    rw [e, List.getD_eq_getElem?_getD, List.getElem?_eq_getElem lt]
    rfl
  refine set_call (G := fun s2 => ∃ h' tk n, s2 = { s with heap := h', toks := tk } ∧ SetR w h' s.heap.objs.size (fun j => decide (j ∈ ns)) n ∧ n ≤ ns.length ∧ ∀ b o, s.heap.get? b = some o → h'.get? b = some o) ?_ ?_
  · have l1 : (s.heap.push (emptySet w)).IsList l items := hl.push _
    have lS : l < s.heap.objs.size := by
      obtain ⟨_, e, _⟩ := hl
      exact Heap.lt_size e
    have z1 : (s.heap.push (emptySet w)).objs.size = s.heap.objs.size + 1 := Heap.size_push ..
    obtain ⟨⟨oc, od, odt, osl⟩, hol, hcl, nl, hdl⟩ := id l1
    simp only at hcl hdl
    subst hcl hdl
    have n1 := F.sub_list_set
    have n2 := F.sub_list_frozenset
    have n3 : (Value.type "list" == Value.type "dict") = false := by decide
    unfold Builtin.«set.__init__» noKeywords Builtin.Frozenset.updateFrom
    generalize hPI : pyIter = PI
    wp_walk
    subst hPI
    refine wpAny_pyIter_list l1 ?_
    refine wpAny_bind (wpAny_runValue ?_)
    have apart : l ≠ (s.heap.push (emptySet w)).objs.size := by
      rw [z1]
      exact Nat.ne_of_lt (Nat.lt_succ_of_lt lS)
    have S0 : (s.heap.push (emptySet w)).get? s.heap.objs.size = some (emptySet w) := Heap.get?_push_size _ rfl
    have out : s.heap.objs.size ∉ [(s.heap.push (emptySet w)).objs.size, l] := by
      simp only [List.mem_cons, List.not_mem_nil, or_false, not_or]
      exact ⟨by rw [z1]; exact Nat.ne_of_lt (Nat.lt_succ_self _), Nat.ne_of_gt lS⟩
    refine set_update_ints ((Walks.list (by simp [hh]) _ l apart items).toS) s.heap.objs.size out ns size hb vals (items.size - 0) 0 _ (by omega) (Nat.zero_le _)
      ⟨⟨_, Heap.get?_push_size _ rfl, rfl, rfl⟩, l1.push _⟩ ⟨0, Nat.le_refl 0, setR_new_at (Heap.get?_push_of_some _ S0)⟩ fun s3 n mv hn R => ?_
    obtain ⟨h', g', d', tk', o'⟩ := s3
    have e1 : g' = s.gens := mv.gens
    have e2 : d' = s.drawn := mv.drawn
    have e3 : o' = s.os := mv.os
    subst e1 e2 e3
    refine wpAny_pure (wpAny_pure ⟨rfl, h', tk', n, rfl, R, by omega, fun b o e => ?_⟩)
    have lt := Heap.lt_size e
    exact mv.heap b o (by simp only [List.mem_cons, List.not_mem_nil, or_false, not_or]; exact ⟨Nat.ne_of_lt lt, by rw [z1]; exact Nat.ne_of_lt (Nat.lt_succ_of_lt lt)⟩) (Heap.get?_push_of_some _ (Heap.get?_push_of_some _ e))
  · rintro s2 ⟨h', tk, n, rfl, R, hn, keep⟩
    exact h h' tk n R hn keep
end
section
variable {X : Cx}
/-- set(xs) by values -/
def rSetI (K : PySem.W.Frag) (w : World) : List V → Hp → VK → Prop := fun vs H Q => ∃ (a : Addr) (ns : List Int), vs = [V.ref a] ∧ SqL K H a (ns.map V.int) ∧ ns.length ≤ 1000 ∧
  ∀ p n, H p = none → n ≤ ns.length → Q (.ref p) (upd H p (SetO w p (fun j => decide (j ∈ ns)) n))
theorem cr_setI (hc : X.calm = true) : CallR X (.type "set") (rSetI X.K X.w) := by
  intro pins s σ H vs us Q I r h
  obtain ⟨a, ns, rfl, hs, hl, q⟩ := h
  obtain ⟨its, rv, p, hz⟩ := I.list hs
  rw [Vals.ref1 r]
  have lim : ns.length + 1 < scanBound := Nat.lt_of_le_of_lt (Nat.succ_le_succ hl) (by decide)
  refine set_ints (I.ok.hd hc) p.isList rv.ints lim fun h' tk n R hn keep => ?_
  have fresh : H s.heap.objs.size = none := I.hok.fresh (Nat.le_refl _)
  exact ⟨.ref _, _, I.laid (t' := tk) keep (Nat.le_refl _) (setO_new R), rfl, q _ n fresh hn⟩
end
end RO

namespace RO
open PySem PySem.Spec PyProof.Rows L2 PpSet

/-! ### {k for x in xs if ..}, k a number -/
section
variable {X : Cx}
/-- one turn's end: k joins the set at D -/
def Joins (w : World) (D : Addr) (Nx : Hp → Prop) : VK := fun y H => ∃ (k : Int) (S : Int → Bool) (n : Nat), y = .int k ∧ H D = some (SetO w D S n) ∧ n + 1 < scanBound ∧ Nx (upd H D (SetO w D (fun j => S j || decide (j = k)) (if S k = true then n else n + 1)))
def tScI (w : World) (wi : TI) (g : TG) (tt : TT) (te : TE) (vs : List Nat) : TE := fun σ H Q => wi σ H fun J H1 => ∀ D, H1 D = none → ∃ W : Nat → Nat → Hp → Prop, (∃ m, W 0 m (upd H1 D (SetO w D (fun _ => false) 0))) ∧ ∀ i m H, W i m H →
  (J.stop i H ∧ Q (.ref D) H) ∨ (J.go i H ∧ ∃ Nx : Hp → Prop, (∀ H', Nx H' → ∃ m', m' < m ∧ W (i + 1) m' H') ∧ ∀ x H', J.yld i H x H' → g x (wipe σ vs) H' fun σ2 H2 => wipe σ2 vs = wipe σ vs ∧ tt σ2 H2 fun b H3 =>
    if b = true then te σ2 H3 (Joins w D Nx) else Nx H3)
theorem pe_scI {elt tg iter : Expr} {ifs : List Expr} {scope : Scope} {own : List (PySem.Str × Nat)} {pos : Pos} {wi : TI} {g : TG} {tt : TT} {te : TE} (hc : X.calm = true) (hN : X.N.Nodup) (hi : PI X tg iter wi) (ok : BlkOk X.N X.env.scope scope own)
    (hg : ∀ (s : Shared) (H : Hp) (C : Addr) (cl : List (PySem.Str × Addr)) (fp : List Addr), PG (X.blk s H scope (compEnvC scope cl C X.env) fp) tg g)
    (ht : ∀ (s : Shared) (H : Hp) (C : Addr) (cl : List (PySem.Str × Addr)) (fp : List Addr), PTs (X.blk s H scope (compEnvC scope cl C X.env) fp) ifs tt)
    (he : ∀ (s : Shared) (H : Hp) (C : Addr) (cl : List (PySem.Str × Addr)) (fp : List Addr), PE (X.blk s H scope (compEnvC scope cl C X.env) fp) elt te) (hs : ∀ x, foldedSetIterable iter X.env x = pure x := by intro _; rfl) :
    PE X (.SetComp elt [⟨tg, iter, ifs, 0⟩] scope pos) (tScI X.w wi g tt te (own.map (·.2))) := by
  constructor
  intro pins s σ H Q I h
  rw [eval_SetComp]
  have cells : ∀ y ∈ scope.names, y.2 = .free → ∃ c, X.env.cells.lookup y.1 = some c := fun y hy e =>
    (ok.free y hy e).elim (fun k => I.ok.has _ (.inl k)) fun k => I.ok.has _ (.inr k)
  apply wpAny_comprehension_free (use := none) rfl hs (closure_ok cells) ok.kind (fun y hy e => by rw [ok.uniq y hy, e])
  apply thn (hi.run pins s σ H _ I h)
  intro xv s1 hx
  apply thn hx
  rintro _ s2 ⟨it, fp, tn, J, H2, rfl, I2, T, at2, free2, q⟩
  apply newSet_ok
  apply newEnv_comp
  have below : ∀ b ∈ fp, b < s2.heap.objs.size := fun b hb => (T.obj _ _ at2 b hb).elim fun o e => Heap.lt_size e.1
  have fresh : H2 s2.heap.objs.size = none := I2.hok.fresh (Nat.le_refl _)
  obtain ⟨W, ⟨m0, start⟩, turn⟩ := q _ fresh
  have I3 : Inv X pins σ (upd H2 s2.heap.objs.size (SetO X.w s2.heap.objs.size (fun _ => false) 0)) { s2 with heap := s2.heap.push (emptySet X.w) } :=
    I2.laid (t' := s2.toks) (fun _ _ e => Heap.get?_push_of_some _ e) (Nat.le_refl _) (setO_new (setR_fresh X.w))
  have at3 : tn 0 (s2.heap.push (emptySet X.w)) := T.keep _ _ _ at2 fun _ _ _ e => Heap.get?_push_of_some _ e
  have ok3 : ∀ b ∈ fp, FpOk X pins (upd H2 s2.heap.objs.size (SetO X.w s2.heap.objs.size (fun _ => false) 0)) b ∧ b < (s2.heap.push (emptySet X.w)).objs.size := fun b hb =>
    ⟨⟨by rw [upd_ne (Nat.ne_of_lt (below b hb))]; exact (free2 b hb).1, (free2 b hb).2⟩, by rw [Heap.size_push]; exact Nat.lt_succ_of_lt (below b hb)⟩
  generalize s2.heap.objs.size = D at *
  generalize upd H2 D (SetO X.w D (fun _ => false) 0) = H3 at *
  suffices key : ∀ s3 : Shared, s3 = { s2 with heap := s2.heap.push (emptySet X.w) } →
      codeAny (model X.prog X.w) X.A (.compStart (.SetComp elt [⟨tg, iter, ifs, 0⟩] scope pos) 0 (.ref it) (.ref D) (compEnvC scope (cellsFrom (s3.heap.objs.size + 1) scope.names (cloFrom X.env.cells scope.names [])) s3.heap.objs.size X.env))
        (compPost (model X.prog X.w) X.A X.xe none (EP X pins σ Q) (.ref D) s3.heap.objs.size) { s3 with heap := pushCells (s3.heap.push { cls := .type "dict", data := .dict #[] }) scope.names } from key _ rfl
  intro s3 es3
  have eh : s3.heap = s2.heap.push (emptySet X.w) := by rw [es3]
  rw [← eh] at at3 ok3
  rw [← es3] at I3
  have I4 := block_start I3 ok hN ok3
  have pg := hg s3 H3 s3.heap.objs.size (cellsFrom (s3.heap.objs.size + 1) scope.names (cloFrom X.env.cells scope.names [])) fp
  have pt := ht s3 H3 s3.heap.objs.size (cellsFrom (s3.heap.objs.size + 1) scope.names (cloFrom X.env.cells scope.names [])) fp
  have pe := he s3 H3 s3.heap.objs.size (cellsFrom (s3.heap.objs.size + 1) scope.names (cloFrom X.env.cells scope.names [])) fp
  have locals : (compEnvC scope (cellsFrom (s3.heap.objs.size + 1) scope.names (cloFrom X.env.cells scope.names [])) s3.heap.objs.size X.env).locals = s3.heap.objs.size := rfl
  generalize compEnvC scope (cellsFrom (s3.heap.objs.size + 1) scope.names (cloFrom X.env.cells scope.names [])) s3.heap.objs.size X.env = ce at *
  have at4 : tn 0 ({ s3 with heap := pushCells (s3.heap.push { cls := .type "dict", data := .dict #[] }) scope.names } : Shared).heap := T.keep _ _ _ at3 fun b _ o e => pushCells_keeps _ _ _ _ (Heap.get?_push_of_some _ e)
  generalize ({ s3 with heap := pushCells (s3.heap.push { cls := .type "dict", data := .dict #[] }) scope.names } : Shared) = s4 at *
  let B := X.blk s3 H3 scope ce fp
  have stay : ∀ (σ' : L2.St) (H' : Hp) (s' : Shared), Inv B [] σ' H' s' → (∀ b ∈ fp, H' b = none) → ∀ b ∈ fp, FpOk B [] H' b := fun σ' H' s' J' free b hb =>
    ⟨free b hb, (J'.ok.exf b hb).1, J'.ok.exfs b hb, .inl hb, (J'.ok.exf b hb).2, fun p hp => nomatch (show p ∈ ([] : List (Addr × Obj)) from hp)⟩
  have loop : codeAny (model X.prog X.w) X.A (.compLoop (.SetComp elt [⟨tg, iter, ifs, 0⟩] scope pos) 0 (.ref it) (.ref D) ce) (compPost (model X.prog X.w) X.A X.xe none (EP X pins σ Q) (.ref D) s3.heap.objs.size) s4 := by
    refine compLoopS_any (fun n s' => ∃ i H', Inv B [] (wipe σ (own.map (·.2))) H' s' ∧ tn i s'.heap ∧ (∀ b ∈ fp, H' b = none) ∧ W i n H') ?_ m0 ⟨0, H3, I4, at4, fun b hb => (ok3 b hb).1.1, start⟩
    rintro n s5 ⟨i, H5, I5, at5, free5, w5⟩
    rcases turn i n H5 w5 with ⟨stop, fin⟩ | ⟨go, Nx, less, step⟩
    · apply thnF (T.done B rfl rfl rfl hc i [] s5 _ H5 (fun _ _ => False) I5 (stay _ _ _ I5 free5) at5 stop)
      rintro r s6 ⟨rfl, I6⟩
      have back : Inv X pins σ H5 s6 := I3.call' (ch := fp) I6.os I6.base I6.hok I6.bare fun b hb => ⟨(ok3 b hb).1.2.2.2.1, (ok3 b hb).1.2.1, (ok3 b hb).1.2.2.2.2.1, (ok3 b hb).1.2.2.2.2.2⟩
      have free : H5 s3.heap.objs.size = none := locals ▸ (show H5 ce.locals = none from I6.free)
      obtain ⟨m, hn, _⟩ := I6.loc
      have hn : s6.heap.Ns s3.heap.objs.size m := locals ▸ (show s6.heap.Ns ce.locals m from hn)
      obtain ⟨f0, f1, f2, f3, f4, f5⟩ := I3.fpOk (Nat.le_refl _) free
      exact ⟨m, hn, fun h'' sb => ⟨.ref D, H5, back.turned (t' := s6.toks) (fun b o hb e => (sb.2 b hb).trans e) f0 f1 f3 f4 f5, rfl, fin⟩⟩
    · apply thnF (T.item B rfl rfl rfl hc i [] s5 _ H5 (fun _ _ => False) I5 (stay _ _ _ I5 free5) at5 go)
      rintro r s6 ⟨u, rfl, h6⟩
      apply thnF h6
      rintro _ s7 ⟨x, H7, I7, r7, y7, at7, free7⟩
      apply thnF (pg.run _ s7 _ H7 x u _ (I7.pinned (stay _ _ _ I7 free7) (T.obj _ _ at7)) r7 (step x H7 y7))
      rintro _ s8 ⟨σ8, H8, I8, wiped, q8⟩
      apply thnF (pt.run _ s8 σ8 H8 _ I8 q8)
      rintro b s9 ⟨H9, I9, q9⟩
      have next : ∀ (s' : Shared) (H' : Hp), Inv B ([] ++ pinsAt fp s7.heap) σ8 H' s' → Nx H' → ∃ m, m < n ∧ ∃ i H', Inv B [] (wipe σ (own.map (·.2))) H' s' ∧ tn i s'.heap ∧ (∀ b ∈ fp, H' b = none) ∧ W i m H' := fun s' H' J' nx => by
        obtain ⟨m', lt, w'⟩ := less H' nx
        have pin : ∀ b ∈ fp, ∀ o, s7.heap.get? b = some o → s'.heap.get? b = some o ∧ H' b = none := fun b hb o e =>
          have z := J'.pin (b, o) (List.mem_append_right _ (List.mem_append_right _ (mem_pinsAt hb e)))
          ⟨z.1, z.2.1⟩
        refine ⟨m', lt, i + 1, H', (J'.unpinned (pins := [])).weak (by rw [← wiped, wipe_length]) (fun j v e => ?_), T.keep _ _ _ at7 fun b hb o e => (pin b hb o e).1, fun b hb => ?_, w'⟩
        · rw [← wiped] at e
          exact (wipe_some e).1
        · obtain ⟨o, e, _⟩ := T.obj _ _ at7 b hb
          exact (pin b hb o e).2
      cases b with
      | false => exact next s9 H9 I9 q9
      | true =>
        apply thnF (pe.run _ s9 σ8 H9 _ I9 q9)
        rintro z s10 ⟨yv, H10, I10, r10, k, S, c, rfl, hD, room, nx⟩
        apply thnF (mt_sadd (X := B) _ s10 σ8 H10 (.ref D) [.int k] (.ref D) [z] (fun _ H' => Nx H') I10 rfl (.cons r10 .nil) ⟨D, k, S, c, rfl, rfl, hD, room, nx⟩)
        rintro _ s11 ⟨_, H11, I11, _, nx⟩
        exact next s11 H11 I11 nx
  exact codeAny_compStart_set loop (T.self X.A 0 _ _ _ at4 loop)
end
end RO

namespace RO
open PySem PySem.Spec PyProof.Rows L2
section
variable {J : It} {n : Nat} {G : Hp → Prop} {Y : Nat → Hp → V → Hp → Prop}
/-- a set's comprehension over what is walked: Pv by the turn and the heap -/
theorem sc_it {ww : World} (wk : Walk J n G Y) {g : TG} {tt : TT} {te : TE} {vs : List Nat} {σ : L2.St} {H1 : Hp} {D : Addr} {Qd : Hp → Prop} (Pv : Nat → Hp → Prop) (h0 : Pv 0 (upd H1 D (SetO ww D (fun _ => false) 0))) (hG : ∀ i H, i ≤ n → Pv i H → G H)
    (hs : ∀ i x H H', i < n → Pv i H → Y i H x H' → g x (wipe σ vs) H' fun σ2 H2 => wipe σ2 vs = wipe σ vs ∧ tt σ2 H2 fun b H3 => if b = true then te σ2 H3 (Joins ww D (Pv (i + 1))) else Pv (i + 1) H3) (hd : ∀ H, Pv n H → Qd H) :
    ∃ W : Nat → Nat → Hp → Prop, (∃ m, W 0 m (upd H1 D (SetO ww D (fun _ => false) 0))) ∧ ∀ i m H, W i m H →
      (J.stop i H ∧ Qd H) ∨ (J.go i H ∧ ∃ Nx : Hp → Prop, (∀ H', Nx H' → ∃ m', m' < m ∧ W (i + 1) m' H') ∧ ∀ x H', J.yld i H x H' → g x (wipe σ vs) H' fun σ2 H2 => wipe σ2 vs = wipe σ vs ∧ tt σ2 H2 fun b H3 =>
        if b = true then te σ2 H3 (Joins ww D Nx) else Nx H3) := by
  refine ⟨fun i m H => m = n - i ∧ i ≤ n ∧ Pv i H, ⟨n, by simp, Nat.zero_le _, h0⟩, ?_⟩
  rintro i m H ⟨rfl, le, p⟩
  have q := hG i H le p
  rcases Nat.lt_or_ge i n with lt | ge
  · exact .inr ⟨wk.goes i H lt q, Pv (i + 1), fun H' p' => ⟨n - (i + 1), by omega, rfl, lt, p'⟩, fun x H' y => hs i x H H' lt p (wk.yields i H x H' lt q y)⟩
  · obtain rfl : i = n := by omega
    exact .inl ⟨wk.stops H q, hd H p⟩
end
theorem k_setI (K : PySem.W.Frag) (ww : World) {X : Cx} (hc : X.calm = true) (h : X.K = K := by rfl) (h2 : X.w = ww := by rfl) : CallR X (.type "set") (rSetI K ww) := by
  subst h h2
  exact cr_setI hc
theorem k_sortedSet (ww : World) {X : Cx} (hc : X.calm = true) (h2 : X.w = ww := by rfl) : CallR X (.builtin "sorted") (rSortedSet ww) := by
  subst h2
  exact cr_sortedSet hc
theorem asc_ext : ∀ {a b : List Int}, a.Pairwise (· < ·) → b.Pairwise (· < ·) → (∀ k, k ∈ a ↔ k ∈ b) → a = b
  | [], [], _, _, _ => rfl
  | [], y :: b, _, _, h => nomatch (h y).mpr (List.mem_cons_self ..)
  | x :: a, [], _, _, h => nomatch (h x).mp (List.mem_cons_self ..)
  | x :: a, y :: b, ha, hb, h => by
    obtain ⟨a1, a2⟩ := List.pairwise_cons.mp ha
    obtain ⟨b1, b2⟩ := List.pairwise_cons.mp hb
    have e : x = y := by
      rcases List.mem_cons.mp ((h x).mp (List.mem_cons_self ..)) with q | q
      · exact q
      · rcases List.mem_cons.mp ((h y).mpr (List.mem_cons_self ..)) with z | z
        · exact z.symm
        · have := b1 x q
          have := a1 y z
          omega
    subst e
    refine congrArg (x :: ·) (asc_ext a2 b2 fun k => ⟨fun hk => ?_, fun hk => ?_⟩)
    · rcases List.mem_cons.mp ((h k).mp (List.mem_cons_of_mem _ hk)) with q | q
      · have := a1 k hk
        omega
      · exact q
    · rcases List.mem_cons.mp ((h k).mpr (List.mem_cons_of_mem _ hk)) with q | q
      · have := b1 k hk
        omega
      · exact q
end RO

namespace RO
open PySem PySem.Spec PyProof.Rows L2
/-! ### tuples put together and cut, whatever their lengths -/
/-- x + y, two tuples: a tuple of both, new or one of them -/
def rCatU (K : PySem.W.Frag) : R2 := fun x y H Q => ∃ a b xs ys, x = .ref a ∧ y = .ref b ∧ SqT K H a xs ∧ SqT K H b ys ∧ xs.length + ys.length ≤ sizeLine ∧ ∀ q H', Same H H' → SqT K H' q (xs ++ ys) → Q (.ref q) H'
theorem k_catU (K : PySem.W.Frag) {X : Cx} (h : X.K = K := by rfl) : OpR X (binaryOp .Add) (rCatU K) := by
  subst h
  rintro pins s σ H x y v u Q I rx ry ⟨a, b, xs, ys, rfl, rfl, ha, hb, hz, q⟩
  by_cases hx : xs = []
  · subst hx
    cases rx
    cases ry
    obtain ⟨its, r1, p1, _⟩ := I.tuple ha
    obtain ⟨its2, r2, p2, _⟩ := I.tuple hb
    cases r1
    exact cat_tup0 p1 p2 ⟨.ref b, H, I, rfl, q b H (Same.refl _) hb⟩
  · refine op_catT pins s σ H (.ref a) (.ref b) v u Q I rx ry ⟨a, b, xs, ys, rfl, rfl, ha, hb, hx, hz, fun e => ?_, fun _ p hp => ?_⟩
    · subst e
      exact q a H (Same.refl _) (by rw [List.append_nil]; exact ha)
    · exact q p _ (same_new (Same.refl _) hp) (SqT.of upd_same)
/-- x[lo:hi], x a tuple: a tuple, new or itself -/
def rSlU (K : PySem.W.Frag) : V → Option Int → Option Int → Hp → VK → Prop := fun x lo hi H Q => ∃ a xs, x = .ref a ∧ SqT K H a xs ∧ ∀ q H', Same H H' → SqT K H' q (cutV xs lo hi) → Q (.ref q) H'
theorem k_slU (K : PySem.W.Frag) {X : Cx} (h : X.K = K := by rfl) : SlR X (rSlU K) := by
  subst h
  rintro pins s σ H x v vl vu lo hi sl Q I rx hs pl pu ⟨a, xs, rfl, ha, q⟩
  refine sl_tupA pins s σ H (.ref a) v vl vu lo hi sl Q I rx hs pl pu ⟨a, xs, rfl, ha, fun z => ?_, fun z p hp => ?_⟩
  · refine q a H (Same.refl _) ?_
    have e : cutV xs lo hi = xs := by
      unfold cutV
      rw [z.1, z.2, List.drop_zero, Nat.sub_zero, List.take_length]
    rw [e]
    exact ha
  · exact q p _ (same_new (Same.refl _) hp) (SqT.of upd_same)
theorem k_max (K : PySem.W.Frag) {X : Cx} (hc : X.calm = true) (h : X.K = K := by rfl) : CallR X (.builtin "max") (rMax K) := by
  subst h
  exact cr_max hc
end RO

namespace RO
/-! ### sums over stretches of whole numbers, forward and back -/
def nsum (f : Int → Int) : Nat → Int
  | 0 => 0
  | n + 1 => nsum f n + f n
def zsum (f : Int → Int) : Int → Int
  | .ofNat n => nsum f n
  | .negSucc n => - nsum (fun i => f (-i - 1)) (n + 1)
theorem zsum_nat (f : Int → Int) (n : Nat) : zsum f (n : Int) = nsum f n := rfl
theorem zsum_0 (f : Int → Int) : zsum f 0 = 0 := rfl
theorem zsum_succ (f : Int → Int) (n : Int) : zsum f (n + 1) = zsum f n + f n := by
  cases n with
  | ofNat n => rfl
  | negSucc n =>
    cases n with
    | zero =>
      show (0 : Int) = - (0 + f (-((0 : Nat) : Int) - 1)) + f (-1)
      have e : (-((0 : Nat) : Int) - 1) = -1 := rfl
      rw [e]
      omega
    | succ k =>
      show - nsum (fun i => f (-i - 1)) (k + 1) = - (nsum (fun i => f (-i - 1)) (k + 1) + f (-((k + 1 : Nat) : Int) - 1)) + f (Int.negSucc (k + 1))
      have e : (-((k + 1 : Nat) : Int) - 1) = Int.negSucc (k + 1) := by omega
      rw [e]
      omega
theorem zsum_uniq {f g : Int → Int} (h0 : g 0 = 0) (h : ∀ n, g (n + 1) = g n + f n) (n : Int) : g n = zsum f n := by
  have up : ∀ k : Nat, g (k : Int) = zsum f (k : Int) := by
    intro k
    induction k with
    | zero => exact h0
    | succ i ih => rw [show ((i + 1 : Nat) : Int) = (i : Int) + 1 from rfl, h, ih, zsum_succ]
  have down : ∀ k : Nat, g (-(k : Int)) = zsum f (-(k : Int)) := by
    intro k
    induction k with
    | zero => exact h0
    | succ i ih =>
      have a := h (-(i : Int) - 1)
      have b := zsum_succ f (-(i : Int) - 1)
      have e : -(i : Int) - 1 + 1 = -(i : Int) := by omega
      have e2 : -((i + 1 : Nat) : Int) = -(i : Int) - 1 := by omega
      rw [e] at a b
      rw [e2]
      omega
  rcases Int.natAbs_eq n with e | e
  · rw [e]; exact up _
  · rw [e]; exact down _
theorem zsum_congr {f g : Int → Int} (h : ∀ i, f i = g i) (n : Int) : zsum f n = zsum g n :=
  zsum_uniq (zsum_0 f) (fun i => by rw [zsum_succ, h]) n
theorem zsum_add (f : Int → Int) (a b : Int) : zsum f (a + b) = zsum f a + zsum (fun i => f (a + i)) b := by
  have h := zsum_uniq (f := fun i => f (a + i)) (g := fun i => zsum f (a + i) - zsum f a) (by show zsum f (a + 0) - _ = _; rw [Int.add_zero]; omega)
    (fun n => by show zsum f (a + (n + 1)) - _ = zsum f (a + n) - _ + f (a + n); rw [← Int.add_assoc, zsum_succ]; omega) b
  have h : zsum f (a + b) - zsum f a = _ := h
  omega
theorem zsum_neg (f : Int → Int) (n : Int) : zsum (fun i => - f i) n = - zsum f n :=
  (zsum_uniq (f := fun i => - f i) (g := fun i => - zsum f i) (by show - zsum f 0 = 0; rw [zsum_0]; rfl) (fun i => by show - zsum f (i + 1) = - zsum f i + - f i; rw [zsum_succ]; omega) n).symm
theorem zsum_const (c n : Int) : zsum (fun _ => c) n = n * c :=
  (zsum_uniq (f := fun _ => c) (g := fun i => i * c) (Int.zero_mul c) (fun i => by show (i + 1) * c = i * c + c; rw [Int.add_mul, Int.one_mul]) n).symm
/-- what is told by rounds is the sum -/
theorem rounds_sum {f : Int → Int} {m : Int} (hm : 0 < m) (per : ∀ i, f (i + m) = f i) (n : Int) : n / m * nsum f m.toNat + nsum f (n % m).toNat = zsum f n := by
  have perk : ∀ (k : Nat) (i : Int), f (i + m * k) = f i := by
    intro k
    induction k with
    | zero => intro i; rw [show i + m * ((0 : Nat) : Int) = i by rw [Int.natCast_zero, Int.mul_zero, Int.add_zero]]
    | succ k ih => intro i; rw [show i + m * ((k + 1 : Nat) : Int) = (i + m * (k : Int)) + m by rw [Int.natCast_add, Int.mul_add]; omega, per, ih]
  have perz : ∀ (q i : Int), f (i + m * q) = f i := by
    intro q i
    cases q with
    | ofNat k => exact perk k i
    | negSucc k =>
      have h := perk (k + 1) (i + m * Int.negSucc k)
      have e : i + m * Int.negSucc k + m * ((k + 1 : Nat) : Int) = i := by
        rw [Int.add_assoc, ← Int.mul_add, show Int.negSucc k + ((k + 1 : Nat) : Int) = 0 by omega, Int.mul_zero, Int.add_zero]
      rw [e] at h
      exact h.symm
  refine zsum_uniq (f := f) (g := fun n => n / m * nsum f m.toNat + nsum f (n % m).toNat) ?_ (fun n => ?_) n
  · show 0 / m * _ + nsum f (0 % m).toNat = 0
    rw [Int.zero_ediv, Int.zero_emod, Int.zero_mul]
    rfl
  · show (n + 1) / m * nsum f m.toNat + nsum f ((n + 1) % m).toNat = n / m * nsum f m.toNat + nsum f (n % m).toNat + f n
    have r0 := Int.emod_nonneg n (show m ≠ 0 by omega)
    have r1 := Int.emod_lt_of_pos n hm
    have dm := Int.emod_add_mul_ediv n m
    have fn : f n = f (n % m) := by
      have h := perz (n / m) (n % m)
      rw [dm] at h
      exact h
    obtain ⟨k, hk⟩ := Int.eq_ofNat_of_zero_le r0
    by_cases c : n % m + 1 < m
    · have e1 : (n + 1) / m = n / m ∧ (n + 1) % m = n % m + 1 := by
        rw [Int.ediv_emod_unique hm]
        refine ⟨?_, by omega, c⟩
        omega
      rw [e1.1, e1.2, fn, hk]
      show _ + (nsum f k + f k) = _ + nsum f k + f k
      omega
    · have e1 : (n + 1) / m = n / m + 1 ∧ (n + 1) % m = 0 := by
        rw [Int.ediv_emod_unique hm]
        refine ⟨?_, by omega, hm⟩
        rw [Int.mul_add]
        omega
      have em : m.toNat = k + 1 := by omega
      rw [e1.1, e1.2, fn, hk, em]
      show (n / m + 1) * (nsum f k + f k) + 0 = n / m * (nsum f k + f k) + nsum f k + f k
      rw [Int.add_mul, Int.one_mul]
      omega
/-- a whole round is added as often as it is gone -/
theorem zsum_rounds {f : Int → Int} {m : Int} (per : ∀ i, f (i + m) = f i) (a q : Int) : zsum f (a + q * m) = zsum f a + q * (zsum f (a + m) - zsum f a) := by
  have shift : ∀ n, zsum f (n + m) - zsum f n = zsum f m := by
    intro n
    have h := zsum_uniq (f := f) (g := fun n => zsum f (n + m) - zsum f m) (by show zsum f (0 + m) - _ = 0; rw [Int.zero_add]; omega)
      (fun n => by show zsum f (n + 1 + m) - _ = zsum f (n + m) - _ + f n; rw [show n + 1 + m = n + m + 1 by omega, zsum_succ, per]; omega) n
    have h : zsum f (n + m) - zsum f m = zsum f n := h
    omega
  have h : ∀ q : Int, zsum f (a + q * m) - zsum f a = zsum (fun _ => zsum f m) q := by
    intro q
    refine zsum_uniq (f := fun _ => zsum f m) (g := fun q => zsum f (a + q * m) - zsum f a) ?_ (fun q => ?_) q
    · show zsum f (a + 0 * m) - _ = 0
      rw [Int.zero_mul, Int.add_zero]
      omega
    · show zsum f (a + (q + 1) * m) - _ = zsum f (a + q * m) - _ + zsum f m
      have e : a + (q + 1) * m = a + q * m + m := by rw [Int.add_mul, Int.one_mul]; omega
      have := shift (a + q * m)
      rw [e]
      omega
  have h1 := h q
  rw [zsum_const] at h1
  rw [shift a]
  omega
/-! ### headings -/
/-- the number of the heading of a swing -/
def hdg (s p : Int) : Int := s / p % 8
def hxs : List Int := [0, 1, 1, 1, 0, -1, -1, -1]
def hys : List Int := [1, 1, 0, -1, -1, -1, 0, 1]
def dx (s p : Int) : Int := hxs.getD (hdg s p).toNat 0
def dy (s p : Int) : Int := hys.getD (hdg s p).toNat 0
theorem hdg_range (s p : Int) : 0 ≤ hdg s p ∧ hdg s p < 8 := ⟨Int.emod_nonneg _ (by decide), Int.emod_lt_of_pos _ (by decide)⟩
theorem hdg_per {p : Int} (hp : 0 < p) (s k : Int) : hdg (s + 8 * p * k) p = hdg s p := by
  unfold hdg
  rw [show s + 8 * p * k = s + p * (8 * k) by rw [Int.mul_comm 8 p, Int.mul_assoc], Int.add_mul_ediv_left _ _ (by omega), Int.add_mul_emod_self_left]
theorem dx_per {p : Int} (hp : 0 < p) (s k : Int) : dx (s + 8 * p * k) p = dx s p := by unfold dx; rw [hdg_per hp]
theorem dy_per {p : Int} (hp : 0 < p) (s k : Int) : dy (s + 8 * p * k) p = dy s p := by unfold dy; rw [hdg_per hp]
/-- the minutes of a round -/
def roundOf (v p : Int) : Int := 8 * p / ((Nat.gcd v.natAbs (8 * p).natAbs : Nat) : Int)
theorem roundOf_spec {p : Int} (hp : 0 < p) (v : Int) : 0 < roundOf v p ∧ roundOf v p ≤ 8 * p ∧ ∃ k, roundOf v p * v = 8 * p * k := by
  have hc : 0 < 8 * p := by omega
  have g0 : 0 < Nat.gcd v.natAbs (8 * p).natAbs := Nat.gcd_pos_of_pos_right _ (by omega)
  obtain ⟨a, ha⟩ := Nat.gcd_dvd_left v.natAbs (8 * p).natAbs
  obtain ⟨b, hb⟩ := Nat.gcd_dvd_right v.natAbs (8 * p).natAbs
  unfold roundOf
  generalize Nat.gcd v.natAbs (8 * p).natAbs = g at *
  have eb : 8 * p = (g : Int) * (b : Int) := by rw [← Int.natCast_mul, ← hb]; omega
  have er : 8 * p / (g : Int) = (b : Int) := by rw [eb, Int.mul_ediv_cancel_left _ (by omega)]
  rw [er]
  have b0 : b ≠ 0 := fun z => by rw [z, Int.natCast_zero, Int.mul_zero] at eb; omega
  refine ⟨by omega, ?_, ?_⟩
  · rw [eb]
    have : b ≤ g * b := Nat.le_mul_of_pos_left b g0
    rw [← Int.natCast_mul]
    omega
  · obtain ⟨va, hva⟩ : ∃ va : Int, v = (g : Int) * va := by
      rcases Int.natAbs_eq v with z | z
      · exact ⟨a, by rw [z, ha, Int.natCast_mul]⟩
      · exact ⟨-a, by rw [z, ha, Int.natCast_mul, Int.mul_neg]⟩
    refine ⟨va, ?_⟩
    rw [eb, hva, ← Int.mul_assoc, Int.mul_comm (b : Int) (g : Int)]
theorem round_per {h : Int → Int → Int} {p : Int} (hp : 0 < p) (per : ∀ s k, h (s + 8 * p * k) p = h s p) (s v i : Int) : h (s + (i + roundOf v p) * v) p = h (s + i * v) p := by
  obtain ⟨k, hk⟩ := (roundOf_spec hp v).2.2
  rw [show s + (i + roundOf v p) * v = s + i * v + 8 * p * k by rw [Int.add_mul, hk]; omega, per]
/-- where she is: x, y, swing -/
structure Boat where
  x : Int
  y : Int
  s : Int
def sailed (b : Boat) (port star n p : Int) : Boat :=
  ⟨b.x + (port + star) * zsum (fun i => dx (b.s + i * (port - star)) p) n, b.y + (port + star) * zsum (fun i => dy (b.s + i * (port - star)) p) n, b.s + n * (port - star)⟩
theorem sailed_0 (b : Boat) (port star p : Int) : sailed b port star 0 p = b := by
  unfold sailed
  rw [zsum_0, zsum_0, Int.mul_zero, Int.zero_mul, Int.add_zero, Int.add_zero, Int.add_zero]
/-- in pieces -/
theorem sailed_add (b : Boat) (port star m n p : Int) : sailed (sailed b port star m p) port star n p = sailed b port star (m + n) p := by
  unfold sailed
  have e : ∀ i : Int, b.s + m * (port - star) + i * (port - star) = b.s + (m + i) * (port - star) := fun i => by rw [Int.add_mul]; omega
  simp only [e]
  rw [zsum_add _ m n, zsum_add _ m n, Int.mul_add, Int.mul_add, Int.add_assoc, Int.add_assoc]
end RO

namespace RO
open PySem PySem.Spec PyProof.Rows L2 RZ
/-! ### zip of two lists or two tuples, K said -/
theorem k_piZip (K : PySem.W.Frag) {X : Cx} {e e2 : Expr} {ta : TA} {p pos tpos : Pos} {elts : List Expr} {kk : Nat} (hg : Gl X "zip") (hm : X.mg "zip" = none) (ha : PA X [e, e2] ta)
    (hs : starEach [e, e2] X.env = (false, eval e X.env) :: starEach [e2] X.env := by rfl) (hpl : (backTo pos (starEach [e2] X.env)).any (·.1) = false := by rfl) (hK : X.K = K := by rfl) :
    PI X (.Tuple elts kk tpos) (.Call (.Name "zip" p) [e, e2] [] pos) (iZipA K ta) := by
  subst hK
  exact pi_zipA hg hm ha hs hpl
theorem walk_zipT {K : PySem.W.Frag} {a b : Addr} {xs ys : List V} {n : Nat} (hn : n = min xs.length ys.length) : Walk (ItzT K a b) n (fun H => SqT K H a xs ∧ SqT K H b ys) (YPair (fun i => xs[i]?) (fun i => ys[i]?)) := by
  subst hn
  refine ⟨fun i _ hi q => ?_, fun _ q => ⟨xs, ys, q.1, q.2, by omega⟩, fun i H v H' _ q y => ?_⟩
  · have h1 : i < xs.length := by omega
    have h2 : i < ys.length := by omega
    exact ⟨xs, ys, xs[i], ys[i], q.1, q.2, by simp [h1], by simp [h2]⟩
  · obtain ⟨T, x, z, h1, h2, h3, h4, h5⟩ := y
    exact ⟨T, x, z, h1, h2, h3, h4 xs q.1, h5 ys q.2⟩
end RO

namespace PySem.F
theorem zip_no_len : typeLookup (.type "zip") "__len__" = pure none := am_miss_of_fast (by decide +kernel)
theorem zip_no_hint : typeLookup (.type "zip") "__length_hint__" = pure none := am_miss_of_fast (by decide +kernel)
end PySem.F
namespace RO
open PySem PySem.Spec PyProof.Rows L2
/-! ### list(zip(xs, ys)), two lists -/
/-- zip at its turn i, as list(..) walks it; S the list that is made -/
def ZAt (l1 l2 z TI TO i1 i2 S : Addr) (i : Nat) (h : Heap) : Prop :=
  (∀ c ∈ [z, TI, TO, i1, i2], c < h.objs.size) ∧ IsPair h TI (.ref i1) (.ref i2) ∧ h.IsListIter i1 l1 i ∧ h.IsListIter i2 l2 i ∧
  ((IsZip h z TI TO .none ∧ ∃ a b, IsPair h TO a b) ∨ ∃ T f oT, IsZipHeld h z TI TO T f ∧ h.get? T = some oT ∧ T ≠ z ∧ T ≠ i1 ∧ T ≠ i2 ∧ T ≠ S)
def Pairs (H : Hp) (xs ys : List V) (S : Addr) (ps : List Addr) : Prop := ∀ (j : Nat) (p : Addr), ps[j]? = some p → p ≠ S ∧ ∃ x y, xs[j]? = some x ∧ ys[j]? = some y ∧ H p = some (.tup [x, y])
theorem fp_stat {X : Cx} {pins : List (Addr × Obj)} {H H' : Hp} {b : Addr} (h : FpOk X pins H b) (hn : H' b = none) : FpOk X pins H' b := ⟨hn, h.2⟩
section
variable {X : Cx} {pins : List (Addr × Obj)} {σ : L2.St} {l1 l2 z TI TO i1 i2 S : Addr} {xs ys : List V} {R : Result → Shared → Prop} {res : Value} {A : Around}
theorem zip_loop (hA : A.handled = none) (D : ZipApart z TI TO i1 i2 l1 l2) (hS : S ∉ [z, TI, TO, i1, i2]) (H0 : Hp) (hl : min xs.length ys.length ≤ sizeLine) :
    ∀ (k i : Nat) (s : Shared) (H : Hp) (ps : List Addr), min xs.length ys.length - i = k → i ≤ min xs.length ys.length → Inv X pins σ H s → (∀ b ∈ [z, TI, TO, i1, i2], FpOk X pins H b) → ZAt l1 l2 z TI TO i1 i2 S i s.heap →
    SqL X.K H l1 xs → SqL X.K H l2 ys → l1 ≠ S → l2 ≠ S → But S H0 H → H S = some (.lst (ps.map V.ref)) → ps.length = i → Pairs H xs ys S ps →
    (∀ H' s' ps', Inv X pins σ H' s' → But S H0 H' → H' S = some (.lst (ps'.map V.ref)) → ps'.length = min xs.length ys.length → Pairs H' xs ys S ps' → R (.ok (.ret res)) s') →
    codeAny (model X.prog X.w) A (.builtin "list.extend.loop" ⟨[.ref S, .ref z, res], []⟩) R s := by
  intro k
  induction k with
  | zero =>
    intro i s H ps hk hi I hf st hq1 hq2 n1 n2 b0 eS lp hp hR
    have hin : i = min xs.length ys.length := by omega
    refine codeAny_builtin F.entry_extend_loop ?_
    rw [Around.under_plainId F.plain_extend_loop _]
    show wpAny _ A.in1 (pyNext (.ref z) >>= _) _ _ s
    obtain ⟨szs, hTI, h1, h2, hz⟩ := st
    obtain ⟨its, rv, p, _⟩ := I.list hq1
    obtain ⟨its2, rv2, p2, _⟩ := I.list hq2
    have e1 := rv.length
    have e2 := rv2.length
    have he : its.toArray[i]? = none ∨ its2.toArray[i]? = none := by
      rcases Nat.le_total xs.length ys.length with h | h
      · exact .inl (by simp; omega)
      · exact .inr (by simp; omega)
    have fin : ∀ h', (∀ c o, c ≠ z → c ≠ TO → c ≠ i1 → c ≠ i2 → s.heap.get? c = some o → h'.get? c = some o) → Inv X pins σ H { s with heap := h' } := fun h' hk =>
      I.turnedL (t' := s.toks) (ch := [z, TI, TO, i1, i2]) (fun c o hb q => hk c o (fun q' => hb (by simp [q'])) (fun q' => hb (by simp [q'])) (fun q' => hb (by simp [q'])) (fun q' => hb (by simp [q'])) q) hf
    rcases hz with ⟨hz, a, b, hTO⟩ | ⟨T, f, oT, hz, hT, r1, r2, r3, r4⟩
    · refine wpAny_bind (wpAny_pyNext_zip_end (A := A.in1) hA D hz hTI hTO h1 h2 p.isList p2.isList he fun h' hk => ?_)
      exact wpAny_pure (hR H _ ps (fin h' hk) b0 eS (by omega) hp)
    · refine wpAny_bind (wpAny_pyNext_zip_end_held (A := A.in1) hA D hz hT hTI h1 h2 p.isList p2.isList he fun h' hk => ?_)
      exact wpAny_pure (hR H _ ps (fin h' fun c o q1 q2 q3 q4 => hk c o q1 q3 q4) b0 eS (by omega) hp)
  | succ k ih =>
    intro i s H ps hk hi I hf st hq1 hq2 n1 n2 b0 eS lp hp hR
    have hlt : i < min xs.length ys.length := by omega
    refine codeAny_builtin F.entry_extend_loop ?_
    rw [Around.under_plainId F.plain_extend_loop _]
    show wpAny _ A.in1 (pyNext (.ref z) >>= _) _ _ s
    obtain ⟨szs, hTI, h1, h2, hz⟩ := st
    obtain ⟨its, rv, p, _⟩ := I.list hq1
    obtain ⟨its2, rv2, p2, _⟩ := I.list hq2
    obtain ⟨x, hx⟩ : ∃ x, xs[i]? = some x := ⟨_, List.getElem?_eq_getElem (by omega)⟩
    obtain ⟨y, hy⟩ : ∃ y, ys[i]? = some y := ⟨_, List.getElem?_eq_getElem (by omega)⟩
    obtain ⟨u, hu, ru⟩ := rv.get hx
    obtain ⟨u2, hu2, ru2⟩ := rv2.get hy
    have hzl : z < s.heap.objs.size := by
      rcases hz with ⟨hz, _⟩ | ⟨_, _, _, hz, _⟩ <;> exact Heap.lt_size hz
    have lt : ∀ {c o}, s.heap.get? c = some o → s.heap.objs.size ≠ c := fun e => Nat.ne_of_gt (Heap.lt_size e)
    have m1 : s.heap.objs.size ≠ i1 := let ⟨_, e, _⟩ := h1; lt e
    have m2 : s.heap.objs.size ≠ i2 := let ⟨_, e, _⟩ := h2; lt e
    have mz : s.heap.objs.size ≠ z := Nat.ne_of_gt hzl
    have hSs : s.heap.objs.size ≠ S := fun e => by
      have := I.hok.fresh (Nat.le_refl s.heap.objs.size)
      rw [e, eS] at this
      cases this
    have hlz : s.heap.objs.size ≠ TI := lt hTI
    have fpT : ∀ c ∈ [z, TI, TO, i1, i2], c ≠ s.heap.objs.size := fun c hc => Nat.ne_of_lt (szs c hc)
    -- what is put behind
    have put : ∀ (h' : Heap), h'.objs.size = s.heap.objs.size + 1 → (∀ c o, c ≠ z → c ≠ TO → c ≠ i1 → c ≠ i2 → s.heap.get? c = some o → h'.get? c = some o) → IsPair h' s.heap.objs.size u u2 → h'.IsListIter i1 l1 (i + 1) → h'.IsListIter i2 l2 (i + 1) →
        ((IsZip h' z TI TO .none ∧ ∃ a b, IsPair h' TO a b) ∨ ∃ T f oT, IsZipHeld h' z TI TO T f ∧ h'.get? T = some oT ∧ T ≠ z ∧ T ≠ i1 ∧ T ≠ i2 ∧ T ≠ S) →
        wpAny (model X.prog X.w) A.in1 (updateSeq S (·.push (.ref s.heap.objs.size)) >>= fun _ => again (.builtin "list.extend.loop" ⟨[.ref S, .ref z, res], []⟩))
          (fun fin s' => match fin with | .done f => R (.ok f) s' | .again c' => c'.quiet = true ∧ codeAny (model X.prog X.w) A c' R s') (fun e s' => R (.error e) s') { s with heap := h' } := by
      intro h' hsz hk hT a3 a4 hz'
      have new : ObjOk X.prog X.w (upd H s.heap.objs.size (.tup [x, y])) h' s.heap.objs.size (.tup [x, y]) :=
        ⟨by show 2 ≤ sizeLine; decide, [u, u2], .cons ru (.cons ru2 .nil), ⟨_, hT, rfl, _, rfl⟩⟩
      have I1 : Inv X pins σ (upd H s.heap.objs.size (.tup [x, y])) { s with heap := h' } :=
        I.turnedNew (t' := s.toks) (ch := [z, TI, TO, i1, i2]) (fun c o hb q => hk c o (fun q' => hb (by simp [q'])) (fun q' => hb (by simp [q'])) (fun q' => hb (by simp [q'])) (fun q' => hb (by simp [q'])) q) hf (Nat.le_refl _) new
      have eS1 : (upd H s.heap.objs.size (.tup [x, y])) S = some (.lst (ps.map V.ref)) := (upd_ne (Ne.symm hSs)).trans eS
      obtain ⟨lz, its3, n3, rv3, _, hS3⟩ := I1.lstM eS1
      have e3 := rv3.length
      rw [List.length_map, lp] at e3
      have I2 := I1.lset (its' := its3 ++ [.ref s.heap.objs.size]) (f := fun a => a.push (.ref s.heap.objs.size)) (ys := ps.map V.ref ++ [V.ref s.heap.objs.size]) (t' := s.toks) eS1 hS3 (by simp) (rv3.append (.cons (show L2.RelV (V.ref s.heap.objs.size) (.ref s.heap.objs.size) from rfl) .nil)) (by rw [List.length_append, List.length_map, lp]; show i + 1 ≤ _; omega)
      have same1 : Same H (upd H s.heap.objs.size (.tup [x, y])) := same_new (Same.refl _) (I.hok.fresh (Nat.le_refl _))
      refine wpAny_bind ?_
      refine wpAny_updateSeq hS3 rfl (wpAny_pure ⟨plainId_quiet F.plain_extend_loop _, ih (i + 1) _ _ (ps ++ [s.heap.objs.size]) (by omega) hlt I2 (fun c hc => ?_) ⟨fun c hc => ?_, ?_, ?_, ?_, ?_⟩ ?_ ?_ n1 n2 ?_ ?_ ?_ ?_ hR⟩) ?_ ?_
      · have nS : c ≠ S := fun e => hS (e ▸ hc)
        exact fp_stat (hf c hc) (by rw [upd_ne nS, upd_ne (fpT c hc)]; exact (hf c hc).1)
      · rw [Heap.size_update, hsz]
        exact Nat.lt_succ_of_lt (szs c hc)
      · have nS : TI ≠ S := fun e => hS (by simp [← e])
        exact (Heap.get?_update_other _ _ (Ne.symm nS)).trans (hk _ _ D.TIz D.TITO D.TIi1 D.TIi2 hTI)
      · exact a3.at fun o q => (Heap.get?_update_other _ _ (fun e => hS (by simp [e]))).trans q
      · exact a4.at fun o q => (Heap.get?_update_other _ _ (fun e => hS (by simp [e]))).trans q
      · rcases hz' with ⟨hz, a, b, hTO⟩ | ⟨T, f, oT, hz, hT, r1, r2, r3, r4⟩
        · exact .inl ⟨(Heap.get?_update_other _ _ (fun e => hS (by simp [e]))).trans hz, a, b, (Heap.get?_update_other _ _ (fun e => hS (by simp [e]))).trans hTO⟩
        · exact .inr ⟨T, f, oT, (Heap.get?_update_other _ _ (fun e => hS (by simp [e]))).trans hz, (Heap.get?_update_other _ _ (Ne.symm r4)).trans hT, r1, r2, r3, r4⟩
      · exact But.put.seqL n1 (same_seqL same1 hq1)
      · exact But.put.seqL n2 (same_seqL same1 hq2)
      · exact (b0.trans (But.of_same same1)).trans But.put
      · rw [upd_same, List.map_append]
        rfl
      · rw [List.length_append, lp]
        rfl
      · intro j p' hj
        by_cases cc : j < ps.length
        · rw [List.getElem?_append_left cc] at hj
          obtain ⟨q1, x', y', q2, q3, q4⟩ := hp j p' hj
          exact ⟨q1, x', y', q2, q3, (upd_ne q1).trans (same1 _ _ q4)⟩
        · have ej : j = i := by
            obtain ⟨z3, _⟩ := List.getElem?_eq_some_iff.mp hj
            rw [List.length_append] at z3
            have z3 : j < ps.length + 1 := z3
            omega
          subst ej
          rw [List.getElem?_append_right (by omega), lp, Nat.sub_self] at hj
          obtain rfl : s.heap.objs.size = p' := Option.some.inj hj
          exact ⟨hSs, x, y, hx, hy, (upd_ne hSs).trans upd_same⟩
      · rw [List.size_toArray]
        omega
      · show (its3.toArray.push _).size ≤ _
        rw [Array.size_push, List.size_toArray]
        omega
    rcases hz with ⟨hz, a, b, hTO⟩ | ⟨T, f, oT, hz, hT, r1, r2, r3, r4⟩
    · refine wpAny_bind (wpAny_pyNext_zip_item D hz hTI hTO h1 h2 p.isList p2.isList (x := u) (y := u2) (by simpa using hu) (by simpa using hu2) fun h' a1 a2 a3 a4 a5 a6 hk => ?_)
      exact put h' a6 hk a5 a3 a4 (.inr ⟨s.heap.objs.size, false, _, a1, a5, mz, m1, m2, hSs⟩)
    · refine wpAny_bind (wpAny_pyNext_zip_item_held D hz hT hTI h1 h2 p.isList p2.isList (x := u) (y := u2) (by simpa using hu) (by simpa using hu2) fun h' a1 a3 a4 a5 a6 hk => ?_)
      exact put h' a6 (fun c o q1 q2 q3 q4 => hk c o q1 q3 q4) a5 a3 a4 (.inr ⟨T, true, oT, a1, hk _ _ r1 r2 r3 hT, r1, r2, r3, r4⟩)
theorem zip_extend (hA : A.handled = none) (D : ZipApart z TI TO i1 i2 l1 l2) (hS : S ∉ [z, TI, TO, i1, i2]) (H0 : Hp) (hl : min xs.length ys.length ≤ sizeLine) (s : Shared) (H : Hp) (I : Inv X pins σ H s) (hf : ∀ b ∈ [z, TI, TO, i1, i2], FpOk X pins H b)
    (st : ZAt l1 l2 z TI TO i1 i2 S 0 s.heap) (hz : IsZip s.heap z TI TO .none) (hq1 : SqL X.K H l1 xs) (hq2 : SqL X.K H l2 ys) (n1 : l1 ≠ S) (n2 : l2 ≠ S) (b0 : But S H0 H) (eS : H S = some (.lst []))
    (hR : ∀ H' s' ps', Inv X pins σ H' s' → But S H0 H' → H' S = some (.lst (ps'.map V.ref)) → ps'.length = min xs.length ys.length → Pairs H' xs ys S ps' → R (.ok (.ret res)) s') :
    wpAny (model X.prog X.w) A.in1 (Builtin.List.listExtendWith (.ref S) (.ref z) res)
      (fun fin s' => match fin with | .done f => R (.ok f) s' | .again c' => c'.quiet = true ∧ codeAny (model X.prog X.w) A c' R s') (fun e s' => R (.error e) s') s := by
  have hT : s.TypeIs (.ref z) "zip" := ⟨_, hz, rfl⟩
  have hSz : S ≠ z := fun e => hS (by simp [e])
  obtain ⟨_, its0, n0, rv0, e0, hS0⟩ := I.lstM eS
  have e0 : its0 = [] := by
    cases its0 with
    | nil => rfl
    | cons a b => simp at e0
  subst e0
  unfold Builtin.List.listExtendWith
  refine wpAny_bind (wpAny_typeOf hT ?_)
  have h1 : Builtin.List.listSameRef (.ref S) (.ref z) = false := by simp [Builtin.List.listSameRef, hSz]
  have h2 : (Value.type "zip" == Value.type "list") = false := by decide
  have h3 : (Value.type "zip" == Value.type "tuple") = false := by decide
  simp only [h1, h2, h3, Bool.or_false, Bool.false_eq_true, if_false]
  refine wpAny_bind (wpAny_pyIter_zip hz ?_)
  refine wpAny_bind (wpAny_holding ?_)
  unfold Builtin.List.listLengthHint
  refine wpAny_bind (wpAny_specialOf hT F.zip_no_len ?_)
  show wpAny _ A.in1 (specialOf (Value.ref z) (Str.ofString "__length_hint__") >>= _) _ _ _
  refine wpAny_bind (wpAny_specialOf hT F.zip_no_hint ?_)
  refine wpAny_pure ?_
  show wpAny _ A.in1 (rule "list.extend.makes-room" >>= fun _ => Builtin.List.listTouch (.ref S) >>= fun _ =>
    again (.builtin "list.extend.loop" ⟨[.ref S, .ref z, res], []⟩)) _ _ _
  refine wpAny_bind (wpAny_rule ?_)
  refine wpAny_bind ?_
  show wpAny _ A.in1 (updateSeq S (·.push .none) >>= fun _ => updateSeq S (·.pop)) _ _ _
  refine wpAny_bind (wpAny_updateSeq hS0 rfl ?_)
  have hS2 := Heap.get?_update_self (Obj.mapSeq (·.push Value.none)) hS0 rfl
  refine wpAny_updateSeq (hz := by seq_fits) hS2 rfl ?_
  have hS3 := Heap.get?_update_self (Obj.mapSeq (·.pop)) hS2 rfl
  have oth : ∀ b o, b ≠ S → s.heap.get? b = some o → ((s.heap.update S (Obj.mapSeq (·.push Value.none))).update S (Obj.mapSeq (·.pop))).get? b = some o :=
    fun b o hb e => (Heap.get?_update_other _ _ (Ne.symm hb)).trans ((Heap.get?_update_other _ _ (Ne.symm hb)).trans e)
  have I3 : Inv X pins σ (upd H S (.lst [])) { s with heap := (s.heap.update S (Obj.mapSeq (·.push Value.none))).update S (Obj.mapSeq (·.pop)), toks := s.toks } :=
    I.write (x := S) (e := S) (by rw [eS]; exact trivial) (.inl rfl) oth ⟨_, hS3⟩ ⟨Nat.zero_le _, [], _, .nil, hS3⟩
  have hcell : ∀ c ∈ [z, TI, TO, i1, i2], c ≠ S := fun c hc e => hS (e ▸ hc)
  obtain ⟨szs, hTI, q1, q2, q3⟩ := st
  refine wpAny_pure ⟨plainId_quiet F.plain_extend_loop _, zip_loop hA D hS H0 hl _ 0 _ _ [] rfl (Nat.zero_le _) I3 (fun c hc' => fp_stat (hf c hc') (by rw [upd_ne (hcell c hc')]; exact (hf c hc').1)) ⟨fun c hc' => ?_, ?_, ?_, ?_, ?_⟩ (But.put.seqL n1 hq1) (But.put.seqL n2 hq2) n1 n2 (b0.trans But.put) upd_same rfl (fun j p hj => by simp at hj) hR⟩
  · rw [Heap.size_update, Heap.size_update]
    exact szs c hc'
  · exact oth _ _ (hcell _ (by simp)) hTI
  · exact q1.at fun o q => oth _ _ (hcell _ (by simp)) q
  · exact q2.at fun o q => oth _ _ (hcell _ (by simp)) q
  · rcases q3 with ⟨hz, a, b, hTO⟩ | ⟨T, f, oT, hz, hT, r1, r2, r3, r4⟩
    · exact .inl ⟨oth _ _ (hcell _ (by simp)) hz, a, b, oth _ _ (hcell _ (by simp)) hTO⟩
    · exact .inr ⟨T, f, oT, oth _ _ (hcell _ (by simp)) hz, oth _ _ r4 hT, r1, r2, r3, r4⟩
theorem call_list_zip {Q : VK} (hc : X.calm = true) (D : ZipApart z TI TO i1 i2 l1 l2) {s : Shared} {H : Hp} (I : Inv X pins σ H s) (hf : ∀ b ∈ [z, TI, TO, i1, i2], FpOk X pins H b)
    (szs : ∀ c ∈ [z, TI, TO, i1, i2], c < s.heap.objs.size) (hz : IsZip s.heap z TI TO .none) (hTI : IsPair s.heap TI (.ref i1) (.ref i2)) (hTO : ∃ a b, IsPair s.heap TO a b) (h1 : s.heap.IsListIter i1 l1 0) (h2 : s.heap.IsListIter i2 l2 0)
    (hq1 : SqL X.K H l1 xs) (hq2 : SqL X.K H l2 ys)
    (hQ : ∀ H' q ps, Same H H' → H q = none → H' q = some (.lst (ps.map V.ref)) → ps.length = min xs.length ys.length → Pairs H' xs ys q ps → Q (.ref q) H') :
    wpAny (model X.prog X.w) X.A (call (.type "list") [.ref z]) (EP X pins σ Q) X.xe s := by
  obtain ⟨its, rv, p1, zz1⟩ := I.list hq1
  obtain ⟨its2, rv2, p2, zz2⟩ := I.list hq2
  have hl : min xs.length ys.length ≤ sizeLine := Nat.le_trans (Nat.min_le_left ..) zz1
  have fr : H s.heap.objs.size = none := I.hok.fresh (Nat.le_refl _)
  have hS : s.heap.objs.size ∉ [z, TI, TO, i1, i2] := fun hm => Nat.lt_irrefl _ (szs _ hm)
  refine callType_codes (Q₁ := fun obj s₁ => obj = .ref s.heap.objs.size ∧ s₁ = { s with heap := s.heap.push { cls := .type "list", data := .seq #[] } }) F.called_list (F.typeCall_list_1 _) F.entry_list_init
    (code_list_new _ ⟨rfl, rfl⟩) fun obj s₁ h₁ => ?_
  obtain ⟨rfl, rfl⟩ := h₁
  have hSS : (s.heap.push { cls := .type "list", data := .seq #[] }).get? s.heap.objs.size = some { cls := .type "list", data := .seq #[] } := Heap.get?_push_size _ rfl
  refine ⟨⟨_, hSS, rfl⟩, F.args_list_init_2 _ _, ?_⟩
  have I1 : Inv X pins σ (upd H s.heap.objs.size (.lst [])) { s with heap := s.heap.push { cls := .type "list", data := .seq #[] }, toks := s.toks } := I.lnew (its := []) (ys := []) .nil (Nat.zero_le _)
  show wpAny _ X.A.in1.in1 (do let old ← Builtin.List.listItems (.ref s.heap.objs.size); Builtin.List.listUpdate (.ref s.heap.objs.size) (fun _ => #[]); letGo old.toList.reverse; Builtin.List.listExtendWith (.ref s.heap.objs.size) (.ref z) .none) _ _ _
  refine wpAny_bind ?_
  unfold Builtin.List.listItems
  refine wpAny_bind (wpAny_seqItems hSS rfl (wpAny_pure ?_))
  show wpAny _ X.A.in1.in1 (updateSeq s.heap.objs.size (fun _ => #[]) >>= fun _ => letGo (#[] : Array Value).toList.reverse >>= fun _ => Builtin.List.listExtendWith (.ref s.heap.objs.size) (.ref z) .none) _ _ _
  refine wpAny_bind (wpAny_updateSeq hSS rfl ?_)
  have hS2 := Heap.get?_update_self (Obj.mapSeq (fun _ => (#[] : Array Value))) hSS rfl
  have oth : ∀ b o, b ≠ s.heap.objs.size → s.heap.get? b = some o → ((s.heap.push { cls := .type "list", data := .seq #[] }).update s.heap.objs.size (Obj.mapSeq (fun _ => (#[] : Array Value)))).get? b = some o :=
    fun b o hb e => (Heap.get?_update_other _ _ (Ne.symm hb)).trans (Heap.get?_push_of_some _ e)
  refine wpAny_bind (wpAny_letGo ?_)
  have I2 : Inv X pins σ (upd (upd H s.heap.objs.size (.lst [])) s.heap.objs.size (.lst [])) { s with heap := (s.heap.push { cls := .type "list", data := .seq #[] }).update s.heap.objs.size (Obj.mapSeq (fun _ => (#[] : Array Value))), toks := s.toks } :=
    I1.write (x := s.heap.objs.size) (e := s.heap.objs.size) (by rw [upd_same]; exact trivial) (.inl rfl) (fun b u hb hu => (Heap.get?_update_other _ _ (Ne.symm hb)).trans hu) ⟨_, hS2⟩ ⟨Nat.zero_le _, [], _, .nil, hS2⟩
  have n1 : l1 ≠ s.heap.objs.size := Nat.ne_of_lt p1.lt
  have n2 : l2 ≠ s.heap.objs.size := Nat.ne_of_lt p2.lt
  have same2 : Same H (upd (upd H s.heap.objs.size (.lst [])) s.heap.objs.size (.lst [])) := fun b o e => by
    have n := ne_of_none e fr
    rw [upd_ne n, upd_ne n]
    exact e
  have ncell : ∀ c ∈ [z, TI, TO, i1, i2], c ≠ s.heap.objs.size := fun c hc e => hS (e ▸ hc)
  refine zip_extend (S := s.heap.objs.size) (A := X.A.in1) (I.ok.hd hc) D hS H hl _ _ I2 (fun c hc' => fp_stat (hf c hc') (by rw [upd_ne (ncell c hc'), upd_ne (ncell c hc')]; exact (hf c hc').1)) ⟨fun c hc' => ?_, ?_, ?_, ?_, .inl ⟨?_, ?_⟩⟩ ?_
    (same_seqL same2 hq1) (same_seqL same2 hq2) n1 n2 (But.of_same same2) upd_same fun H' s' ps I' b' e' lp pr => ⟨rfl, .ref s.heap.objs.size, H', I', rfl, hQ H' s.heap.objs.size ps (fun b o e => b' b o (ne_of_none e fr) e) fr e' lp pr⟩
  · rw [Heap.size_update, Heap.size_push]
    exact Nat.lt_succ_of_lt (szs c hc')
  · exact oth _ _ (ncell _ (by simp)) hTI
  · exact h1.at fun o q => oth _ _ (ncell _ (by simp)) q
  · exact h2.at fun o q => oth _ _ (ncell _ (by simp)) q
  · exact oth _ _ (ncell _ (by simp)) hz
  · obtain ⟨a, b, hTO⟩ := hTO
    exact ⟨a, b, oth _ _ (ncell _ (by simp)) hTO⟩
  · exact oth _ _ (ncell _ (by simp)) hz
def tLstZip (K : PySem.W.Frag) (ta : TA) : TE := fun σ H Q => ta σ H fun vs H1 => ∃ a b xs ys, vs = [.ref a, .ref b] ∧ SqL K H1 a xs ∧ SqL K H1 b ys ∧
  ∀ H' q ps, Same H1 H' → H1 q = none → H' q = some (.lst (ps.map V.ref)) → ps.length = min xs.length ys.length → Pairs H' xs ys q ps → Q (.ref q) H'
theorem pe_listZip (K : PySem.W.Frag) {e e2 : Expr} {ta : TA} {p pos p' pos' : Pos} (hc : X.calm = true) (hg : Gl X "list") (hm : X.mg "list" = none) (hg2 : Gl X "zip") (hm2 : X.mg "zip" = none) (ha : PA X [e, e2] ta)
    (hs : starEach [e, e2] X.env = (false, eval e X.env) :: starEach [e2] X.env := by rfl) (hpl : (backTo pos' (starEach [e2] X.env)).any (·.1) = false := by rfl)
    (na : starEach [.Call (.Name "zip" p') [e, e2] [] pos'] X.env = (false, eval (.Call (.Name "zip" p') [e, e2] [] pos') X.env) :: starEach [] X.env := by rfl) (hK : X.K = K := by rfl) :
    PE X (.Call (.Name "list" p) [.Call (.Name "zip" p') [e, e2] [] pos'] [] pos) (tLstZip K ta) := by
  subst hK
  refine ⟨fun pins s σ H Q I h => ?_⟩
  refine Call_ (ld_blt I hg hm boot_list (PyProof.Rows.callWith_type1 (args_cons ?_ na) na))
  refine Call_ (ld_blt I hg2 hm2 PyProof.Rows.boot_zip (PyProof.Rows.callWith_type1 (thn (ha.run pos' pins s σ H _ I h) fun us s1 ⟨vs, H1, I1, r1, q1⟩ => ?_) hs hpl))
  obtain ⟨a, b, xs, ys, ex, hqx, hqy, q⟩ := q1
  subst ex
  cases r1 with
  | cons r rr =>
    cases rr with
    | cons r' rr =>
      cases rr
      cases r
      cases r'
      obtain ⟨its, rv, p1, _⟩ := I1.list hqx
      obtain ⟨its2, rv2, p2, _⟩ := I1.list hqy
      refine call_zip_2 p1.isList p2.isList fun h' hz hTI hTO h1 h2 hsz hk => args_nil ?_
      have I2 : Inv X pins σ H1 { s1 with heap := h' } := I1.kept (t' := s1.toks) hk
      have cs : ∀ c, c ∈ [s1.heap.objs.size + 4, s1.heap.objs.size + 2, s1.heap.objs.size + 3, s1.heap.objs.size, s1.heap.objs.size + 1] → s1.heap.objs.size ≤ c ∧ c < s1.heap.objs.size + 5 := fun c hcm => by
        have e' : c = s1.heap.objs.size + 4 ∨ c = s1.heap.objs.size + 2 ∨ c = s1.heap.objs.size + 3 ∨ c = s1.heap.objs.size ∨ c = s1.heap.objs.size + 1 := by simpa using hcm
        omega
      exact call_list_zip hc (PySem.W.ktu_apart s1.heap.objs.size a b p1.lt p2.lt) I2 (fun c hcm => I1.fpOk (cs c hcm).1 (I1.hok.fresh (cs c hcm).1)) (fun c hcm => by show c < h'.objs.size; rw [hsz]; exact (cs c hcm).2) hz hTI ⟨_, _, hTO⟩ h1 h2 hqx hqy q
end
end RO

namespace RO
open PySem PySem.Spec PyProof.Rows L2
/-! ### xs[::2], a list of three -/
def tStep2 (K : PySem.W.Frag) (te : TE) : TE := fun σ H Q => te σ H fun v H1 => ∃ a x y z, v = .ref a ∧ SqL K H1 a [x, y, z] ∧ ∀ p, H1 p = none → Q (.ref p) (upd H1 p (.lst [x, z]))
theorem pick3 (u1 u2 u3 : Value) : slicePick [u1, u2, u3].toArray none none (some 2) = [u1, u3].toArray := by
  have b : sliceBounds none none (some 2) [u1, u2, u3].toArray.size = (0, 3, 2) := by rfl
  have r : sliceRange 0 3 2 = [0, 2] := by decide
  unfold slicePick
  rw [b]
  show ((sliceRange 0 3 2).filterMap _).toArray = _
  rw [r]
  rfl
theorem pe_step2 (K : PySem.W.Frag) {X : Cx} {e : Expr} {te : TE} {k : Nat} {p1 p3 pos : Pos} (he : PE X e te) (hK : X.K = K := by rfl) : PE X (.Subscript e (.Slice none none (some (.Constant (.int 2) k p1)) p3) pos) (tStep2 K te) := by
  subst hK
  refine ⟨fun pins s σ H Q I h => ?_⟩
  refine Subscript_ (thn (he.run pins s σ H _ I h) fun v s1 ⟨x0, H1, I1, r1, q1⟩ => ?_)
  obtain ⟨a, x, y, z, ex, hx, q⟩ := q1
  subst ex
  cases r1
  have hst : PO X (some (.Constant (.int 2) k p1)) (tPart (tC (.int 2))) := po_some pe_int
  refine wpAny_Slice (thn (po_none.run pins s1 σ H1 (fun o H2 => o = none ∧ H2 = H1) I1 ⟨rfl, rfl⟩) fun vl s2 ⟨l, H2, I2, pl, el, e2⟩ => ?_)
  subst el e2
  refine thn (po_none.run pins s2 σ H2 (fun o H3 => o = none ∧ H3 = H2) I2 ⟨rfl, rfl⟩) fun vu s3 ⟨u, H3, I3, pu, eu, e3⟩ => ?_
  subst eu e3
  refine thn (hst.run pins s3 σ H3 (fun o H4 => o = some 2 ∧ H4 = H3) I3 ⟨2, rfl, rfl, rfl⟩) fun vs s4 ⟨o, H4, I4, ps, eo, e4⟩ => ?_
  subst eo e4
  have I5 : Inv X pins σ H4 { s4 with heap := s4.heap.push { cls := .type "slice", data := .fields #[vl, vu, vs] } } := I4.kept (t' := s4.toks) fun b ob q => Heap.get?_push_of_some _ q
  obtain ⟨its, r, ht, hz⟩ := I5.list hx
  have hlen := r.length
  obtain ⟨u1, u2, u3, rfl, q1, q2, q3⟩ : ∃ u1 u2 u3, its = [u1, u2, u3] ∧ RelV x u1 ∧ RelV y u2 ∧ RelV z u3 := by
    cases r with
    | cons p q =>
      cases q with
      | cons p' q' =>
        cases q' with
        | cons p'' q'' =>
          cases q''
          exact ⟨_, _, _, rfl, p, p', p''⟩
  show wpAny (model X.prog X.w) X.A (subscriptTail e (.Slice none none (some (.Constant (.int 2) k p1)) p3) (.ref a) (.ref s4.heap.objs.size)) (EP X pins σ Q) X.xe { s4 with heap := s4.heap.push { cls := .type "slice", data := .fields #[vl, vu, vs] } }
  refine tail_any (ops := [.ref a, .ref s4.heap.objs.size]) ht.isList.typeIs (PySem.slot_list_getitem.lookup) ?_ (by with_unfolding_all rfl)
  refine wpAny_getItem_list_slice ht.isList (Heap.IsSliceOf.new _ vl vu vs) pl pu ps (by decide) ?_ (by rw [List.size_toArray]; omega)
  rw [pick3]
  refine ⟨.ref _, _, I5.laid (t' := s4.toks) (o := .lst [x, z]) (fun b ob q => Heap.get?_push_of_some _ q) (Nat.le_refl _) ?_, rfl, q _ (I5.hok.fresh (Nat.le_refl _))⟩
  exact ⟨by show 2 ≤ sizeLine; decide, _, 0, .cons q1 (.cons q3 .nil), Heap.get?_push_size _ rfl⟩
end RO

namespace RO
open PySem PySem.Spec PyProof.Rows L2 PySem.W
/-! ### min, max of a list of numbers, default= -/
theorem reads_ints {h : Heap} : ∀ {vs : List Value} {ns : List Int}, IntsAre vs ns → ReadsAll h vs (ns.map PyData.int) []
  | _, _, .nil => .nil
  | _, _, .cons n t r => .cons (as := []) (bs := []) (.int n t) (reads_ints r)
theorem alike_ints (ns : List Int) : AlikeAll (ns.map PyData.int) := by
  refine ⟨fun x hx y hy => ?_, fun x hx => ?_⟩
  · obtain ⟨a, _, rfl⟩ := List.mem_map.mp hx
    obtain ⟨b, _, rfl⟩ := List.mem_map.mp hy
    rfl
  · obtain ⟨a, _, rfl⟩ := List.mem_map.mp hx
    intro z
    cases z
theorem depth_ints : ∀ ns : List Int, PyData.depthAll (ns.map PyData.int) ≤ 1
  | [] => Nat.zero_le _
  | n :: r => Nat.max_le.mpr ⟨Nat.zero_le _, depth_ints r⟩
theorem min_fold (n : Int) (ns : List Int) : ns.foldl min n ∈ n :: ns ∧ ∀ y ∈ n :: ns, ns.foldl min n ≤ y := by
  induction ns generalizing n with
  | nil => exact ⟨by simp, fun y hy => by simp at hy; rw [hy]; exact Int.le_refl _⟩
  | cons k r ih =>
    obtain ⟨h1, h2⟩ := ih (min n k)
    show r.foldl min (min n k) ∈ _ ∧ _
    refine ⟨?_, fun y hy => ?_⟩
    · rcases List.mem_cons.mp h1 with z | z
      · rw [z]
        by_cases c : n ≤ k
        · rw [Int.min_eq_left c]; simp
        · rw [Int.min_eq_right (by omega)]; simp
      · exact List.mem_cons_of_mem _ (List.mem_cons_of_mem _ z)
    · have m := h2 (min n k) (List.mem_cons_self ..)
      show r.foldl min (min n k) ≤ y
      rcases List.mem_cons.mp hy with rfl | hy
      · omega
      · rcases List.mem_cons.mp hy with rfl | hy
        · omega
        · exact h2 y (List.mem_cons_of_mem _ hy)
theorem max_fold (n : Int) (ns : List Int) : ns.foldl max n ∈ n :: ns ∧ ∀ y ∈ n :: ns, y ≤ ns.foldl max n := by
  induction ns generalizing n with
  | nil => exact ⟨by simp, fun y hy => by simp at hy; rw [hy]; exact Int.le_refl _⟩
  | cons k r ih =>
    obtain ⟨h1, h2⟩ := ih (max n k)
    show r.foldl max (max n k) ∈ _ ∧ _
    refine ⟨?_, fun y hy => ?_⟩
    · rcases List.mem_cons.mp h1 with z | z
      · rw [z]
        by_cases c : n ≤ k
        · rw [Int.max_eq_right c]; simp
        · rw [Int.max_eq_left (by omega)]; simp
      · exact List.mem_cons_of_mem _ (List.mem_cons_of_mem _ z)
    · have m := h2 (max n k) (List.mem_cons_self ..)
      show y ≤ r.foldl max (max n k)
      rcases List.mem_cons.mp hy with rfl | hy
      · omega
      · rcases List.mem_cons.mp hy with rfl | hy
        · omega
        · exact h2 y (List.mem_cons_of_mem _ hy)
def rMinDef (K : PySem.W.Frag) (lt : Int → Int → Prop) : List V → List V → Hp → VK → Prop := fun vs zs H Q => ∃ (a : Addr) (ns : List Int) (d : Int), vs = [V.ref a] ∧ zs = [V.int d] ∧ SqL K H a (ns.map V.int) ∧ ∀ m, (ns = [] ∧ m = d ∨ m ∈ ns ∧ ∀ y ∈ ns, lt m y) → Q (.int m) H
theorem k_minDef (K : PySem.W.Frag) {X : Cx} (hc : X.calm = true) (hu : X.A.units + 64 < cLine) (hK : X.K = K := by rfl) : CallRK X (.builtin "min") [Str.ofString "default"] (rMinDef K fun m y => m ≤ y) := by
  subst hK
  intro pins s σ H vs zs us ws Q I r rz h
  obtain ⟨a, ns, d, rfl, rfl, hs, q⟩ := h
  obtain ⟨its, rv, hl, _⟩ := I.list hs
  rw [Vals.ref1 r]
  obtain ⟨w1, rfl, td, rfl⟩ := vals1 rz
  have dl := depth_ints ns
  refine min_list_default (I.ok.hd hc) hl.isList (reads_ints rv.ints) (alike_ints ns) (by omega) (fun e h' tk hk => ?_) fun y ys i v h' tk bs e hv rd hk => ?_
  · exact ⟨.int d, H, I.kept hk, ⟨_, rfl⟩, q d (.inl ⟨(by cases ns with | nil => rfl | cons a b => cases e), rfl⟩)⟩
  · cases ns with
    | nil => cases e
    | cons n r =>
      cases e
      rw [minD_ints] at rd
      obtain ⟨m1, m2⟩ := min_fold n r
      generalize r.foldl min n = m at *
      cases rd
      exact ⟨.int m, H, I.kept hk, ⟨_, rfl⟩, q m (.inr ⟨m1, m2⟩)⟩
theorem k_maxDef (K : PySem.W.Frag) {X : Cx} (hc : X.calm = true) (hu : X.A.units + 64 < cLine) (hK : X.K = K := by rfl) : CallRK X (.builtin "max") [Str.ofString "default"] (rMinDef K fun m y => y ≤ m) := by
  subst hK
  intro pins s σ H vs zs us ws Q I r rz h
  obtain ⟨a, ns, d, rfl, rfl, hs, q⟩ := h
  obtain ⟨its, rv, hl, _⟩ := I.list hs
  rw [Vals.ref1 r]
  obtain ⟨w1, rfl, td, rfl⟩ := vals1 rz
  have dl := depth_ints ns
  refine max_list_default (I.ok.hd hc) hl.isList (reads_ints rv.ints) (alike_ints ns) (by omega) (fun e h' tk hk => ?_) fun y ys i v h' tk bs e hv rd hk => ?_
  · exact ⟨.int d, H, I.kept hk, ⟨_, rfl⟩, q d (.inl ⟨(by cases ns with | nil => rfl | cons a b => cases e), rfl⟩)⟩
  · cases ns with
    | nil => cases e
    | cons n r =>
      cases e
      rw [maxD_ints] at rd
      obtain ⟨m1, m2⟩ := max_fold n r
      generalize r.foldl max n = m at *
      cases rd
      exact ⟨.int m, H, I.kept hk, ⟨_, rfl⟩, q m (.inr ⟨m1, m2⟩)⟩
end RO

namespace RO
open PySem PySem.Spec PyProof.Rows L2
def top (i : Nat) : Stmt := PySem.Challenge.pw_ringorders_k10_whole_steps_and_what_stan.main.body.getD i (.Pass ⟨0, 0, 0, 0⟩)
abbrev s_standing : Stmt := top 1
theorem sc_standing : FnScope ["log", "line", "minute", "none", "order", "when", "where", "what"] ["log", "line", "minute", "none"] (defScope s_standing) := ⟨rfl, rfl, rfl, by decide +kernel, rfl, by decide +kernel, by decide +kernel⟩
abbrev s_steps : Stmt := top 2
theorem sc_steps : FnScope ["log", "line", "told", "stood", "minute", "order", "row"] ["log", "line"] (defScope s_steps) := ⟨rfl, rfl, rfl, by decide +kernel, rfl, by decide +kernel, by decide +kernel⟩
abbrev s_pen : Stmt := top 4
theorem sc_pen : FnScope ["_law_script"] ["_law_script"] (defScope s_pen) := ⟨rfl, rfl, rfl, by decide +kernel, rfl, by decide +kernel, by decide +kernel⟩
abbrev s_draw : Stmt := top 5
theorem sc_draw : FnScope ["_law_pen_here", "_law_many", "_law_found", "_law_at", "_law_cell", "_law_mixed"] ["_law_pen_here", "_law_many"] (defScope s_draw) := ⟨rfl, rfl, rfl, by decide +kernel, rfl, by decide +kernel, by decide +kernel⟩
abbrev s_pick : Stmt := top 6
theorem sc_pick : FnScope ["_law_pen_here", "_law_some"] ["_law_pen_here", "_law_some"] (defScope s_pick) := ⟨rfl, rfl, rfl, by decide +kernel, rfl, by decide +kernel, by decide +kernel⟩
abbrev s_word : Stmt := top 7
theorem sc_word : FnScope ["_law_pen_here", "_law_letters", "_law_some", "_law_k"] ["_law_pen_here"] (defScope s_word) := ⟨rfl, rfl, rfl, by decide +kernel, rfl, by decide +kernel, by decide +kernel⟩
abbrev s_log : Stmt := top 8
theorem sc_log : FnScope ["_law_pen_here", "_law_most", "_law_many", "_law_every", "_law_lines", "_law_words", "_law_orders", "_law_minute", "_law_rows", "_law_k", "_law_line", "_law_what"] ["_law_pen_here", "_law_most"] (defScope s_log) := ⟨rfl, rfl, rfl, by decide +kernel, rfl, by decide +kernel, by decide +kernel⟩
abbrev s_steps_right : Stmt := top 9
theorem sc_steps_right : FnScope ["_law_log_here", "_law_line", "_law_found", "_law_ends", "_law_last", "_law_row", "_law_beyond", "_law_minute"] ["_law_log_here", "_law_line"] (defScope s_steps_right) := ⟨rfl, rfl, rfl, by decide +kernel, rfl, by decide +kernel, by decide +kernel⟩
abbrev s_put_in : Stmt := top 10
theorem sc_put_in : FnScope ["_law_log_here", "_law_row", "_law_at", "_law_other"] ["_law_log_here", "_law_row"] (defScope s_put_in) := ⟨rfl, rfl, rfl, by decide +kernel, rfl, by decide +kernel, by decide +kernel⟩
abbrev s_more_right : Stmt := top 11
theorem sc_more_right : FnScope ["_law_log_here", "_law_row", "_law_line", "_law_more", "_law_later", "_law_beyond", "_law_minutes", "_law_minute", "_law_due", "_law_other"] ["_law_log_here", "_law_row", "_law_line"] (defScope s_more_right) := ⟨rfl, rfl, rfl, by decide +kernel, rfl, by decide +kernel, by decide +kernel⟩
abbrev s_later_right : Stmt := top 12
theorem sc_later_right : FnScope ["_law_pen_here", "_law_log_here", "_law_line", "_law_room", "_law_many", "_law_later", "_law_minute", "_law_row", "_law_order"] ["_law_pen_here", "_law_log_here", "_law_line"] (defScope s_later_right) := ⟨rfl, rfl, rfl, by decide +kernel, rfl, by decide +kernel, by decide +kernel⟩
abbrev s_law : Stmt := top 13
theorem sc_law : FnScope ["_law_script", "_law_pen_here", "_law_turn", "_law_log_here", "_law_line", "_law_bare", "_law_order", "_law_row"] ["_law_script"] (defScope s_law) := ⟨rfl, rfl, rfl, by decide +kernel, rfl, by decide +kernel, by decide +kernel⟩
structure Txt (w : World) (K : PySem.W.Frag) (mg : Str → Option Value) where
  a_standing : Addr
  d_standing : FuncData
  F_standing : FunD K "standing" "standing" (defArgs s_standing) (defBody s_standing) (defScope s_standing) [V.non] [] a_standing d_standing
  ds3_standing : List Value
  v3_standing : Vals ([V.non] : List V) ds3_standing
  b3_standing : Binds K d_standing ["log", "line", "minute", "none"] ds3_standing
  g_standing : mg "standing" = some (.ref a_standing)
  a_steps : Addr
  d_steps : FuncData
  F_steps : Fun K "steps" "steps" s_steps a_steps d_steps
  b_steps : Binds K d_steps ["log", "line"] []
  g_steps : mg "steps" = some (.ref a_steps)
  a_pen : Addr
  d_pen : FuncData
  F_pen : Fun K "_law_pen" "_law_pen" s_pen a_pen d_pen
  b_pen : Binds K d_pen ["_law_script"] []
  g_pen : mg "_law_pen" = some (.ref a_pen)
  a_draw : Addr
  d_draw : FuncData
  F_draw : Fun K "_law_draw" "_law_draw" s_draw a_draw d_draw
  b_draw : Binds K d_draw ["_law_pen_here", "_law_many"] []
  g_draw : mg "_law_draw" = some (.ref a_draw)
  a_pick : Addr
  d_pick : FuncData
  F_pick : Fun K "_law_pick" "_law_pick" s_pick a_pick d_pick
  b_pick : Binds K d_pick ["_law_pen_here", "_law_some"] []
  g_pick : mg "_law_pick" = some (.ref a_pick)
  a_word : Addr
  d_word : FuncData
  F_word : Fun K "_law_word" "_law_word" s_word a_word d_word
  b_word : Binds K d_word ["_law_pen_here"] []
  g_word : mg "_law_word" = some (.ref a_word)
  a_log : Addr
  d_log : FuncData
  F_log : Fun K "_law_log" "_law_log" s_log a_log d_log
  b_log : Binds K d_log ["_law_pen_here", "_law_most"] []
  g_log : mg "_law_log" = some (.ref a_log)
  a_steps_right : Addr
  d_steps_right : FuncData
  F_steps_right : Fun K "_law_steps_right" "_law_steps_right" s_steps_right a_steps_right d_steps_right
  b_steps_right : Binds K d_steps_right ["_law_log_here", "_law_line"] []
  g_steps_right : mg "_law_steps_right" = some (.ref a_steps_right)
  a_put_in : Addr
  d_put_in : FuncData
  F_put_in : Fun K "_law_put_in" "_law_put_in" s_put_in a_put_in d_put_in
  b_put_in : Binds K d_put_in ["_law_log_here", "_law_row"] []
  g_put_in : mg "_law_put_in" = some (.ref a_put_in)
  a_more_right : Addr
  d_more_right : FuncData
  F_more_right : Fun K "_law_more_right" "_law_more_right" s_more_right a_more_right d_more_right
  b_more_right : Binds K d_more_right ["_law_log_here", "_law_row", "_law_line"] []
  g_more_right : mg "_law_more_right" = some (.ref a_more_right)
  a_later_right : Addr
  d_later_right : FuncData
  F_later_right : Fun K "_law_later_right" "_law_later_right" s_later_right a_later_right d_later_right
  b_later_right : Binds K d_later_right ["_law_pen_here", "_law_log_here", "_law_line"] []
  g_later_right : mg "_law_later_right" = some (.ref a_later_right)
  a_law : Addr
  d_law : FuncData
  F_law : Fun K "law" "law" s_law a_law d_law
  b_law : Binds K d_law ["_law_script"] []
  g_law : mg "law" = some (.ref a_law)
  z_abs : mg "abs" = none
  z_len : mg "len" = none
  z_max : mg "max" = none
  z_min : mg "min" = none
  z_range : mg "range" = none
  z_repr : mg "repr" = none
  z_sorted : mg "sorted" = none
  z_tuple : mg "tuple" = none
  z_zip : mg "zip" = none
/-! a step of a reading whose answer is fixed: a name, a number's operation -/
local macro_rules | `(tactic| walk_at "rd") => `(tactic| (first
  | refine ⟨_, rfl, ?_⟩
  | refine ⟨_, _, rfl, rfl, ?_⟩
  | (refine And.intro ?rdc ?_; (case rdc => first | decide | omega | exact ⟨by omega, by omega⟩ | exact ⟨by decide, by decide, by omega⟩ | exact .inl ⟨by omega, by omega⟩ | exact .inr ⟨by omega, by omega⟩))))
section
variable {P : Program} {w : World} {K : PySem.W.Frag} {mg : Str → Option Value} {base : Heap}
/-! ### the pen -/
def spDraw (K : PySem.W.Frag) : Sp := fun vs H Q _ => ∃ (p c : Addr) (n : Nat) (m : Int), vs = [.ref p, .int m] ∧ PenAt H p c n ∧ Cells K H p c ∧ n ≤ 1000000 ∧ 1 ≤ m ∧ m < 1073741824 ∧
  ∀ H' r, Go K p c H (n + 1) H' → 0 ≤ r → r < m → Q (.int r) H'
theorem ok_draw (T : Txt w K mg) : FnOk P w K mg base CX0 1 T.a_draw T.d_draw ["_law_pen_here", "_law_many"] (spDraw K) := by
  refine T.F_draw.ok sc_draw (fun vs H Q E h => ?_) (fun cdv A outer s H vs Q E hr h => ?_)
  · obtain ⟨p, c, n, m, rfl, _⟩ := h
    rfl
  · obtain ⟨p, c, n, m, rfl, hp, hc, hn, hm1, hm2, q⟩ := h
    obtain ⟨at_, cy, e, h0, h1, h2⟩ := id hp
    obtain ⟨ne, ns, hS, hl⟩ := id hc
    refine ⟨_, (pss_cons (ps_if (pt_cmpR op_gt (pe_ix (kx_list K) (pv 0) pe_int (fun _ _ => rfl)) pe_int (nomark _)) (pss_cons (ps_set (i := 2) sc_draw.nd rfl (by first | exact Or.inl rfl | exact Or.inr rfl) (pe_op op_modN (pe_ix (kx_list K) (pv 0) pe_int (fun _ _ => rfl)) (pv 1)))
  (pss_cons (ps_asg (pe_op op_fdivN (pe_ix (kx_list K) (pv 0) pe_int (fun _ _ => rfl)) (pv 1)) (pg_sub (pv 0) pe_int set_list))
  (pss_one (ps_ret (pv 2))))) pss_nil)
  (pss_cons (ps_set (i := 3) sc_draw.nd rfl (by first | exact Or.inl rfl | exact Or.inr rfl) (pe_ix (kx_list K) (pv 0) pe_int (fun _ _ => rfl)))
  (pss_cons (ps_asg (pe_op op_add (pv 3) pe_int) (pg_sub (pv 0) pe_int set_list))
  (pss_cons (ps_set (i := 4) sc_draw.nd rfl (by first | exact Or.inl rfl | exact Or.inr rfl) (pe_op op_add (pe_op op_mul pe_int (pv 3)) pe_int))
  (C8.pss_cut (ps_if (pt_cmpR op_gt (pe_callB (k_len K) (by rfl) T.z_len (by decide +kernel) (pa_cons (pe_ix (kx_list K) (pv 0) pe_int (fun _ _ => rfl)) pa_nil)) pe_int (nomark _)) (pss_one (ps_set (i := 4) sc_draw.nd rfl (by first | exact Or.inl rfl | exact Or.inr rfl) (pe_ix (kx_list K) (pe_ix (kx_list K) (pv 0) pe_int (fun _ _ => rfl)) (pe_op op_modN (pv 3) (pe_callB (k_len K) (by rfl) T.z_len (by decide +kernel) (pa_cons (pe_ix (kx_list K) (pv 0) pe_int (fun _ _ => rfl)) pa_nil))) (fun _ _ => rfl)))) pss_nil)
  (C8.pss_cut (ps_if (PW.pt (pw_and (pt_cmpR op_lt (pv 3) (pe_callB (k_len K) (by rfl) T.z_len (by decide +kernel) (pa_cons (pe_ix (kx_list K) (pv 0) pe_int (fun _ _ => rfl)) pa_nil)) (nomark _)) (pw_and1 (pt_cmpR op_ge (pe_callB call_abs (by rfl) T.z_abs (by decide +kernel) (pa_cons (pv 4) pa_nil)) (pe_op op_pow pe_int pe_int) (nomark _))))) (pss_cons (ps_asg (pe_op op_fdivN (pe_callB call_abs (by rfl) T.z_abs (by decide +kernel) (pa_cons (pv 4) pa_nil)) (pv 1)) (pg_sub (pv 0) pe_int set_list))
  (pss_one (ps_ret (pe_op op_modN (pe_callB call_abs (by rfl) T.z_abs (by decide +kernel) (pa_cons (pv 4) pa_nil)) (pv 1))))) pss_nil)
  (pss_cons (ps_set (i := 5) sc_draw.nd rfl (by first | exact Or.inl rfl | exact Or.inr rfl) (pe_op op_modN (pe_op op_pow (pe_op op_add (pe_op op_add (pe_op op_add (pe_op op_modN (pv 4) pe_int) (pe_op op_mul (pe_op op_mul pe_int (pv 3)) (pv 3))) (pe_op op_mul pe_int (pv 3))) pe_int) pe_int) pe_int))
  (pss_cons (ps_set (i := 5) sc_draw.nd rfl (by first | exact Or.inl rfl | exact Or.inr rfl) (pe_op op_modN (pe_op op_mul (pe_op op_pow (pe_op op_add (pe_op op_add (pv 5) (pe_op op_mul pe_int (pv 3))) pe_int) pe_int) (pe_op op_add (pe_op op_modN (pv 5) pe_int) pe_int)) pe_int))
  (pss_one (ps_ret (pe_op op_modN (pe_op op_fdivN (pv 5) pe_int) (pv 1)))))))))))), ?_⟩
    refine ⟨_, rfl, p, _, 2, _, rfl, rfl, SqL.of e, rfl, _, _, rfl, rfl, _, rfl, ite2 (fun t => ?_) (fun t => ?_)⟩
    · -- a rest is left
      have t' : 0 < cy := of_decide_eq_true t
      refine ⟨_, rfl, p, _, 2, _, rfl, rfl, SqL.of e, rfl, _, rfl, _, _, rfl, rfl, (by omega), ?_⟩
      refine ⟨_, rfl, p, _, 2, _, rfl, rfl, SqL.of e, rfl, _, rfl, _, _, rfl, rfl, ⟨by omega, by omega⟩, ?_⟩
      refine ⟨_, rfl, p, _, 2, 2, rfl, rfl, e, rfl, ?_⟩
      refine ⟨_, rfl, q _ _ (Go.make hc But.put upd_same h0 (by omega) (fdiv_ge h2 (by omega))) (fmod_ge (by omega)) (fmod_lt (by omega))⟩
    · refine ⟨_, rfl, p, _, 1, _, rfl, rfl, SqL.of e, rfl, ?_⟩
      refine ⟨_, rfl, _, _, rfl, rfl, _, rfl, p, _, 1, 1, rfl, rfl, e, rfl, ?_⟩
      -- the place goes on
      have e1 : upd H p (.lst ([V.ref c, V.int at_, V.int cy].set 1 (V.int (at_ + 1)))) p = some (.lst [V.ref c, V.int (at_ + 1), V.int cy]) := upd_same
      have b1 : But p H (upd H p (.lst ([V.ref c, V.int at_, V.int cy].set 1 (V.int (at_ + 1))))) := But.put
      generalize upd H p (.lst ([V.ref c, V.int at_, V.int cy].set 1 (V.int (at_ + 1)))) = H1 at e1 b1 ⊢
      have hS1 := b1.seqL ne hS
      refine ⟨_, rfl, _, _, rfl, rfl, .inl ⟨by omega, by omega⟩, _, _, rfl, rfl, ?_⟩
      refine ⟨fun σ' H' => ∃ cell : Int, σ' = [some (.ref p), some (.int m), none, some (.int at_), some (.int cell), none] ∧ H' = H1, ?_, ?_⟩
      · refine ⟨_, rfl, p, _, 0, _, rfl, rfl, SqL.of e1, rfl, c, _, rfl, .inl hS1, _, _, rfl, rfl, _, rfl, ite2 (fun t2 => ?_) (fun t2 => ⟨_, rfl, rfl⟩)⟩
        have l0 : (0 : Int) < ((ns.map V.int).length : Int) := of_decide_eq_true t2
        obtain ⟨v, hv, ev⟩ := atI_fmod (xs := ns.map V.int) (i := at_) (by omega)
        obtain ⟨z, _, rfl⟩ := List.mem_map.mp hv
        exact ⟨_, rfl, p, _, 0, _, rfl, rfl, SqL.of e1, rfl, _, rfl, _, rfl, p, _, 0, _, rfl, rfl, SqL.of e1, rfl, c, _, rfl, .inl hS1, _, _, rfl, rfl, (by omega), c, _, _, _, rfl, rfl, hS1, ev, z, rfl, rfl⟩
      · rintro σ' H' ⟨cell, rfl, rfl⟩
        refine ⟨fun σ2 H2 => σ2 = [some (.ref p), some (.int m), none, some (.int at_), some (.int cell), none] ∧ H2 = H', ?_, ?_⟩
        · refine ⟨_, rfl, _, rfl, p, _, 0, _, rfl, rfl, SqL.of e1, rfl, c, _, rfl, .inl hS1, _, _, rfl, rfl, _, rfl, ite2 (fun t3 => ?_) (fun t3 => iteF ⟨rfl, rfl⟩)⟩
          refine ⟨_, rfl, _, rfl, _, _, rfl, rfl, ⟨by decide, by decide, by decide⟩, _, _, rfl, rfl, _, rfl, ite2 (fun t4 => ?_) (fun t4 => ⟨rfl, rfl⟩)⟩
          have habs : (0 : Int) ≤ if cell < 0 then -cell else cell := by
            split <;> omega
          refine ⟨_, rfl, _, rfl, _, rfl, _, _, rfl, rfl, ⟨by omega, by omega⟩, _, rfl, p, _, 2, 2, rfl, rfl, e1, rfl, ?_⟩
          exact ⟨_, rfl, _, rfl, _, rfl, _, _, rfl, rfl, (by omega), q _ _ (Go.make hc (b1.trans But.put) upd_same (by omega) (by omega) (fdiv_ge habs (by omega))) (fmod_ge (by omega)) (fmod_lt (by omega))⟩
        · rintro σ2 H2 ⟨rfl, rfl⟩
          have a1 := fmod_ge (a := cell) (b := 2147483549) (by decide)
          have a2 := fmod_lt (a := cell) (b := 2147483549) (by decide)
          have a3 : 0 ≤ 50023 * at_ * at_ := Int.mul_nonneg (by omega) h0
          have a4 : 50023 * at_ * at_ ≤ 50023000000 * 1000000 := Int.mul_le_mul (by omega) (by omega) h0 (by decide)
          have z1 := fmod_ge (a := (cell.fmod 2147483549 + 50023 * at_ * at_ + 40063 * at_ + 11) ^ Int.toNat 3) (b := 2147483629) (by decide)
          have z2 := fmod_lt (a := (cell.fmod 2147483549 + 50023 * at_ * at_ + 40063 * at_ + 11) ^ Int.toNat 3) (b := 2147483629) (by decide)
          have z3 := fmod_ge (a := ((cell.fmod 2147483549 + 50023 * at_ * at_ + 40063 * at_ + 11) ^ Int.toNat 3).fmod 2147483629) (b := 60013) (by decide)
          have z4 := fmod_lt (a := ((cell.fmod 2147483549 + 50023 * at_ * at_ + 40063 * at_ + 11) ^ Int.toNat 3).fmod 2147483629) (b := 60013) (by decide)
          repeat (walk_at "rd")
          exact q _ _ (Go.make hc b1 e1 (by omega) (by omega) h2) (fmod_ge (by omega)) (fmod_lt (by omega))
/-! ### one of some -/
def spPick (K : PySem.W.Frag) : Sp := fun vs H Q _ => ∃ (p c q : Addr) (n : Nat) (xs : List V), vs = [.ref p, .ref q] ∧ PenAt H p c n ∧ Cells K H p c ∧ n ≤ 1000000 ∧ (SqL K H q xs ∧ q ≠ p ∨ SqT K H q xs) ∧ xs ≠ [] ∧ xs.length ≤ 1000000 ∧
  ∀ H' v, Go K p c H (n + 1) H' → v ∈ xs → Q v H'
theorem ok_pick (T : Txt w K mg) : FnOk P w K mg base CX0 2 T.a_pick T.d_pick ["_law_pen_here", "_law_some"] (spPick K) := by
  have G_draw := ok_draw (P := P) (base := base) T
  refine T.F_pick.ok sc_pick (fun vs H Q E h => ?_) (fun cdv A outer s H vs Q E hr h => ?_)
  · obtain ⟨p, c, q, n, xs, rfl, _⟩ := h
    rfl
  · obtain ⟨p, c, q, n, xs, rfl, hp, hc, hn, hq, hx, hl, k⟩ := h
    have hr_draw := hr
    have l0 : 0 < xs.length := List.length_pos_iff.mpr hx
    refine ⟨_, (pss_one (ps_ret (pe_ix (kx_seq K) (pv 1) (pe_call G_draw hr_draw (by rfl) T.g_draw T.F_draw.kp T.b_draw .nil pass0 (pa_cons (pv 0) (pa_cons (pe_callB (k_len K) (by rfl) T.z_len (by decide +kernel) (pa_cons (pv 1) pa_nil)) pa_nil))) (fun _ _ => rfl)))), ?_⟩
    refine ⟨_, rfl, _, rfl, _, rfl, q, xs, rfl, hq.imp And.left id, p, c, n, _, rfl, hp, hc, hn, by omega, by omega, fun H' r g r0 r1 => ?_⟩
    obtain ⟨v, hv, ev⟩ := atI_lt r0 r1
    rcases hq with ⟨hq, nq⟩ | hq
    · exact .inl ⟨q, xs, r, v, rfl, rfl, g.but.seqL nq hq, ev, k _ _ g hv⟩
    · exact .inr (.inl ⟨q, xs, r, v, rfl, rfl, seqT_go hq hp g.but, ev, k _ _ g hv⟩)

/-! ### a word -/
theorem letter_ok {c : Nat} (h : c ∈ ("abcdefghijklmnopqrstuvwxyz" : Str).cps.toList) : TOk 1 ⟨#[c]⟩ := by
  refine ⟨Nat.le_refl _, fun d hd => ?_⟩
  have e : d = c := by simpa using hd
  subst e
  exact (show ∀ c ∈ ("abcdefghijklmnopqrstuvwxyz" : Str).cps.toList, c < 128 by decide +kernel) d h
def spWord (K : PySem.W.Frag) : Sp := fun vs H Q _ => ∃ (p c : Addr) (n : Nat), vs = [.ref p] ∧ PenAt H p c n ∧ Cells K H p c ∧ n ≤ 900000 ∧
  ∀ H' t, Go K p c H (n + 10) H' → TOk 8 t → Q (.str t) H'
theorem ok_word (T : Txt w K mg) : FnOk P w K mg base CX0 3 T.a_word T.d_word ["_law_pen_here"] (spWord K) := by
  have G_draw := ok_draw (P := P) (base := base) T
  have G_pick := ok_pick (P := P) (base := base) T
  refine T.F_word.ok sc_word (fun vs H Q E h => ?_) (fun cdv A outer s H vs Q E hr h => ?_)
  · obtain ⟨p, c, n, rfl, _⟩ := h
    rfl
  · obtain ⟨p, c, n, rfl, hp, hc, hn, k⟩ := h
    have hr_pick := hr
    have hr_draw := hr.mono (show 1 ≤ 2 by decide)
    refine ⟨_, (pss_cons (ps_set (i := 1) sc_word.nd rfl (by first | exact Or.inl rfl | exact Or.inr rfl) pe_str)
  (pss_cons (ps_set (i := 2) sc_word.nd rfl (by first | exact Or.inl rfl | exact Or.inr rfl) (pe_join pe_str (pe_lc (own := [("_law_k", 3)]) rfl sc_word.nd (pi_range1 (by rfl) T.z_range (pa_cons (pe_op op_add pe_int (pe_call G_draw hr_draw (by rfl) T.g_draw T.F_draw.kp T.b_draw .nil pass0 (pa_cons (pv 0) (pa_cons pe_int pa_nil)))) pa_nil)) (blkOk_by (own := [("_law_k", 3)]) (N := ["_law_pen_here", "_law_letters", "_law_some", "_law_k"]) (sc := defScope s_word) (by decide +kernel)) (fun _ _ _ _ _ => (pg_name (i := 3) sc_word.nd rfl (by first | exact Or.inl rfl | exact Or.inr rfl))) (fun _ _ _ _ _ => pts_nil) (fun _ _ _ _ _ => (pe_ix ix_str (pv 1) (pe_call G_draw hr_draw (by rfl) T.g_draw T.F_draw.kp T.b_draw .nil pass0 (pa_cons (pv 0) (pa_cons pe_int pa_nil))) (fun _ _ => rfl))))))
  (pss_one (ps_ret (pe_call G_pick hr_pick (by rfl) T.g_pick T.F_pick.kp T.b_pick .nil pass0 (pa_cons (pv 0) (pa_cons (pe_lst (pa_cons pe_str (pa_cons pe_str (pa_cons pe_str (pa_cons pe_str (pa_cons (pv 2) (pa_cons (pv 2) (pa_cons (pe_slice sl_str (pv 2) po_none (po_some pe_int)) pa_nil)))))))) pa_nil))))))), ?_⟩
    refine ⟨⟨_, rfl⟩, ?_⟩
    refine ⟨_, rfl, p, c, n, _, rfl, hp, hc, by omega, by decide, by decide, fun H1 r g1 r0 r1 => ?_⟩
    refine ⟨_, _, rfl, rfl, _, rfl, by omega, by omega, fun D hD => ?_⟩
    have hD0 := g1.free hD
    have nD : D ≠ p := Ne.symm (g1.ne_new hD)
    refine lc_it walk_range (fun i H' => Go K p c H (n + 1 + i) H' ∧ ∃ ws : List Str, H' D = some (.lst (ws.map V.str)) ∧ ws.length = i ∧ ∀ x ∈ ws, TOk 1 x)
      ⟨g1.new hD, [], upd_same, rfl, fun x hx => nomatch hx⟩ (fun _ _ _ _ => trivial) ?_ ?_
    · rintro i x H2 H3 hi ⟨g2, ws, e2, l2, o2⟩ ⟨rfl, rfl⟩
      refine ⟨rfl, _, rfl, _, rfl, p, c, n + 1 + i, 26, rfl, g2.pen, g2.cel, by omega, by decide, by decide, fun H4 r4 g4 q0 q1 => ?_⟩
      have e4 := g4.but D _ nD e2
      obtain ⟨c4, hc4, ec4⟩ := atI_lt (xs := ("abcdefghijklmnopqrstuvwxyz" : Str).cps.toList) q0 (show r4 < ((26 : Nat) : Int) from q1)
      refine ⟨_, r4, c4, rfl, rfl, by decide +kernel, ec4, _, e4, ?_, ?_⟩
      · rw [List.length_map]
        exact small1000 (by omega)
      · refine ⟨((g2.trans g4).own hD0 nD hc).mono (by omega), ws ++ [⟨#[c4]⟩], ?_, by rw [List.length_append, l2]; rfl, fun x hx => ?_⟩
        · rw [upd_same, List.map_append]
          rfl
        · rcases List.mem_append.mp hx with hx | hx
          · exact o2 x hx
          · have : x = ⟨#[c4]⟩ := by simpa using hx
            subst this
            exact letter_ok hc4
    · rintro H2 ⟨g2, ws, e2, l2, o2⟩
      have j1 := join_ok o2
      have sum1 : (ws.map (·.length)).sum ≤ ws.length := by
        clear e2 l2 j1
        induction ws with
        | nil => exact Nat.le_refl _
        | cons x r ih =>
          have a := (o2 x (List.mem_cons_self ..)).1
          have b := ih fun y hy => o2 y (List.mem_cons_of_mem _ hy)
          simp only [List.map_cons, List.sum_cons, List.length_cons]
          omega
      have j2 : TOk 8 (Txt.join (Str.ofString "") ws) := by
        rw [TL.join_eq]
        exact j1.mono (by omega)
      refine ⟨_, D, ws, rfl, rfl, .inl (SqL.of e2), ?_, ?_⟩
      · have : (Str.ofString "").length = 0 := by decide +kernel
        rw [this]
        omega
      generalize Txt.join (Str.ofString "") ws = t1 at j2 ⊢
      refine ⟨_, rfl, _, rfl, _, rfl, _, rfl, 1, rfl, t1, rfl, Nat.le_trans j2.1 (by decide), (by show 7 ≤ sizeLine; decide), fun l hl => ?_⟩
      have g3 := g2.new hl (o := .lst [V.str (Str.ofString "port"), V.str (Str.ofString "stop"), V.str (Str.ofString "up"), V.str (Str.ofString "zzzzzzzz"), V.str t1, V.str t1, V.str (cutS t1 none (some 1))])
      refine ⟨p, c, l, _, _, rfl, g3.pen, g3.cel, by omega, .inl ⟨SqL.of upd_same, Ne.symm (g2.ne_new hl)⟩, by simp, (by show 7 ≤ 1000000; decide), fun H4 v g4 hv => ?_⟩
      have hv2 : ∃ t, v = V.str t ∧ TOk 8 t := by
        have z : v = V.str (Str.ofString "port") ∨ v = V.str (Str.ofString "stop") ∨ v = V.str (Str.ofString "up") ∨ v = V.str (Str.ofString "zzzzzzzz") ∨ v = V.str t1 ∨ v = V.str (cutS t1 none (some 1)) := by
          have z0 := hv
          simp only [List.mem_cons, List.not_mem_nil, or_false] at z0
          rcases z0 with z | z | z | z | z | z | z <;> simp [z]
        rcases z with z | z | z | z | z | z
        · exact ⟨_, z, by decide +kernel, by decide +kernel⟩
        · exact ⟨_, z, by decide +kernel, by decide +kernel⟩
        · exact ⟨_, z, by decide +kernel, by decide +kernel⟩
        · exact ⟨_, z, by decide +kernel, by decide +kernel⟩
        · exact ⟨_, z, j2⟩
        · exact ⟨_, z, cut_ok j2 _ _⟩
      obtain ⟨t2, rfl, o3⟩ := hv2
      exact k _ _ ((g3.trans g4).mono (by omega)) o3

/-! ### a log -/
/-- minutes that go up -/
def Rising : List Row → Prop := List.Pairwise fun r r2 => r.m ≤ r2.m
theorem rising_snoc {rs : List Row} {r : Row} (h : Rising rs) (l : ∀ q ∈ rs, q.m ≤ r.m) : Rising (rs ++ [r]) := by
  refine List.pairwise_append.mpr ⟨h, List.pairwise_singleton .., fun q hq y hy => ?_⟩
  have : y = r := by simpa using hy
  subst this
  exact l q hq
def spLog (K : PySem.W.Frag) : Sp := fun vs H Q _ => ∃ (p c : Addr) (n : Nat) (m : Int), vs = [.ref p, .int m] ∧ PenAt H p c n ∧ Cells K H p c ∧ n ≤ 800000 ∧ 4 ≤ m ∧ m ≤ 40 ∧
  ∀ H' t rs, Go K p c H (n + 1000) H' → H t = none → LogAt K H' t rs → rs.length ≤ 40 → (∀ r ∈ rs, r.Ok) → Rising rs → Q (.ref t) H'
theorem ok_log (T : Txt w K mg) : FnOk P w K mg base CX0 4 T.a_log T.d_log ["_law_pen_here", "_law_most"] (spLog K) := by
  have G_draw := ok_draw (P := P) (base := base) T
  have G_pick := ok_pick (P := P) (base := base) T
  have G_word := ok_word (P := P) (base := base) T
  refine T.F_log.ok sc_log (fun vs H Q E h => ?_) (fun cdv A outer s H vs Q E hr h => ?_)
  · obtain ⟨p, c, n, m, rfl, _⟩ := h
    rfl
  · obtain ⟨p, c, n, m, rfl, hp, hc, hn, m1, m2, k⟩ := h
    have hr_word := hr
    have hr_pick := hr.mono (show 2 ≤ 3 by decide)
    have hr_draw := hr.mono (show 1 ≤ 3 by decide)
    refine ⟨_, (pss_cons (ps_set (i := 2) sc_log.nd rfl (by first | exact Or.inl rfl | exact Or.inr rfl) (pe_ix (kx_list K) (pe_lst (pa_cons (pe_call G_draw hr_draw (by rfl) T.g_draw T.F_draw.kp T.b_draw .nil pass0 (pa_cons (pv 0) (pa_cons (pe_op op_add (pv 1) pe_int) pa_nil))) (pa_cons (pe_call G_draw hr_draw (by rfl) T.g_draw T.F_draw.kp T.b_draw .nil pass0 (pa_cons (pv 0) (pa_cons pe_int pa_nil))) (pa_cons (pv 1) pa_nil)))) (pe_op op_fdivN (pe_call G_draw hr_draw (by rfl) T.g_draw T.F_draw.kp T.b_draw .nil pass0 (pa_cons (pv 0) (pa_cons pe_int pa_nil))) pe_int) (fun _ _ => rfl)))
  (pss_cons (ps_set (i := 3) sc_log.nd rfl (by first | exact Or.inl rfl | exact Or.inr rfl) (pe_tup (pa_cons pe_str (pa_cons pe_str (pa_cons pe_str (pa_cons pe_str (pa_cons pe_str (pa_cons pe_str pa_nil))))))))
  (pss_cons (ps_set (i := 4) sc_log.nd rfl (by first | exact Or.inl rfl | exact Or.inr rfl) (pe_call G_pick hr_pick (by rfl) T.g_pick T.F_pick.kp T.b_pick .nil pass0 (pa_cons (pv 0) (pa_cons (pe_lst (pa_cons (pv 3) (pa_cons (pe_tup (pa_cons pe_str (pa_cons pe_str pa_nil))) (pa_cons (pe_tup (pa_cons pe_str (pa_cons pe_str pa_nil))) (pa_cons (pe_tup (pa_cons pe_str (pa_cons pe_str (pa_cons pe_str (pa_cons pe_str pa_nil))))) pa_nil))))) pa_nil))))
  (pss_cons (ps_setLc (i := 5) (own := [("_law_k", 9)]) rfl sc_log.nd rfl rfl (sw_true rfl rfl rfl (by decide +kernel)) (pi_range1 (by rfl) T.z_range (pa_cons pe_int pa_nil)) (blkOk_by (own := [("_law_k", 9)]) (N := ["_law_pen_here", "_law_most", "_law_many", "_law_every", "_law_lines", "_law_words", "_law_orders", "_law_minute", "_law_rows", "_law_k", "_law_line", "_law_what"]) (sc := defScope s_log) (by decide +kernel)) (fun _ _ _ _ _ => (pg_name (i := 9) sc_log.nd rfl (by first | exact Or.inl rfl | exact Or.inr rfl))) (fun _ _ _ _ _ => pts_nil) (fun _ _ _ _ _ => (pe_call G_word hr_word (by rfl) T.g_word T.F_word.kp T.b_word .nil pass0 (pa_cons (pv 0) pa_nil))))
  (pss_cons (ps_setLc (i := 6) (own := [("_law_k", 9)]) rfl sc_log.nd rfl rfl (sw_true rfl rfl rfl (by decide +kernel)) (pi_range1 (by rfl) T.z_range (pa_cons (pe_op op_add pe_int (pe_call G_draw hr_draw (by rfl) T.g_draw T.F_draw.kp T.b_draw .nil pass0 (pa_cons (pv 0) (pa_cons pe_int pa_nil)))) pa_nil)) (blkOk_by (own := [("_law_k", 9)]) (N := ["_law_pen_here", "_law_most", "_law_many", "_law_every", "_law_lines", "_law_words", "_law_orders", "_law_minute", "_law_rows", "_law_k", "_law_line", "_law_what"]) (sc := defScope s_log) (by decide +kernel)) (fun _ _ _ _ _ => (pg_name (i := 9) sc_log.nd rfl (by first | exact Or.inl rfl | exact Or.inr rfl))) (fun _ _ _ _ _ => pts_nil) (fun _ _ _ _ _ => (pe_op op_sub (pe_call G_draw hr_draw (by rfl) T.g_draw T.F_draw.kp T.b_draw .nil pass0 (pa_cons (pv 0) (pa_cons pe_int pa_nil))) pe_int)))
  (pss_cons (ps_set (i := 7) sc_log.nd rfl (by first | exact Or.inl rfl | exact Or.inr rfl) (pe_call G_pick hr_pick (by rfl) T.g_pick T.F_pick.kp T.b_pick .nil pass0 (pa_cons (pv 0) (pa_cons (pe_lst (pa_cons pe_int (pa_cons pe_int (pa_cons (pe_call G_draw hr_draw (by rfl) T.g_draw T.F_draw.kp T.b_draw .nil pass0 (pa_cons (pv 0) (pa_cons pe_int pa_nil))) (pa_cons (pe_op op_sub pe_int (pe_call G_draw hr_draw (by rfl) T.g_draw T.F_draw.kp T.b_draw .nil pass0 (pa_cons (pv 0) (pa_cons pe_int pa_nil)))) pa_nil))))) pa_nil))))
  (pss_cons (ps_set (i := 8) sc_log.nd rfl (by first | exact Or.inl rfl | exact Or.inr rfl) (pe_lst pa_nil))
  (pss_cons (ps_for PassesOwn.never rfl (pi_range1 (by rfl) T.z_range (pa_cons (pv 2) pa_nil)) (pg_name (i := 9) sc_log.nd rfl (by first | exact Or.inl rfl | exact Or.inr rfl)) (pss_cons (ps_set (i := 7) sc_log.nd rfl (by first | exact Or.inl rfl | exact Or.inr rfl) (pe_callB (call_min2 rfl) (by rfl) T.z_min (by decide +kernel) (pa_cons pe_int (pa_cons (pe_op op_add (pv 7) (pe_ix (kx_list K) (pe_lst (pa_cons pe_int (pa_cons pe_int (pa_cons pe_int (pa_cons (pe_call G_draw hr_draw (by rfl) T.g_draw T.F_draw.kp T.b_draw .nil pass0 (pa_cons (pv 0) (pa_cons pe_int pa_nil))) (pa_cons (pe_call G_draw hr_draw (by rfl) T.g_draw T.F_draw.kp T.b_draw .nil pass0 (pa_cons (pv 0) (pa_cons pe_int pa_nil))) (pa_cons pe_int pa_nil))))))) (pe_call G_draw hr_draw (by rfl) T.g_draw T.F_draw.kp T.b_draw .nil pass0 (pa_cons (pv 0) (pa_cons pe_int pa_nil))) (fun _ _ => rfl))) pa_nil))))
  (pss_cons (ps_set (i := 10) sc_log.nd rfl (by first | exact Or.inl rfl | exact Or.inr rfl) (pe_call G_pick hr_pick (by rfl) T.g_pick T.F_pick.kp T.b_pick .nil pass0 (pa_cons (pv 0) (pa_cons (pv 4) pa_nil))))
  (pss_cons (ps_set (i := 11) sc_log.nd rfl (by first | exact Or.inl rfl | exact Or.inr rfl) (pe_call G_pick hr_pick (by rfl) T.g_pick T.F_pick.kp T.b_pick .nil pass0 (pa_cons (pv 0) (pa_cons (pv 6) pa_nil))))
  (C8.pss_cut (ps_if (pt_cmpR (k_in K) (pv 10) (pe_tup (pa_cons pe_str (pa_cons pe_str pa_nil))) (by rfl)) (pss_one (ps_set (i := 11) sc_log.nd rfl (by first | exact Or.inl rfl | exact Or.inr rfl) (pe_call G_pick hr_pick (by rfl) T.g_pick T.F_pick.kp T.b_pick .nil pass0 (pa_cons (pv 0) (pa_cons (pv 5) pa_nil))))) pss_nil)
  (pss_one (ps_expr (pe_bm PySem.F.plainAttrs_list PySem.F.slot_list_append PySem.F.type_list_append mt_append (pv 8) (pa_cons (pe_tup (pa_cons (pv 7) (pa_cons (pv 10) (pa_cons (pv 11) pa_nil)))) pa_nil)))))))))
  (pss_one (ps_ret (pe_callTy (k_tupOf K) (by rfl) T.z_tuple (by decide +kernel) (pa_cons (pv 8) pa_nil)))))))))))), ?_⟩
    have g0 := Go.refl hp hc
    -- how many
    refine ⟨_, rfl, _, rfl, _, _, rfl, rfl, p, c, n, _, rfl, hp, hc, by omega, by omega, by omega, fun H1 r1 g1 a1 b1 => ?_⟩
    refine ⟨_, rfl, p, c, n + 1, _, rfl, g1.pen, g1.cel, by omega, by decide, by decide, fun H2 r2 g2 a2 b2 => ?_⟩
    refine ⟨_, rfl, (by show 3 ≤ sizeLine; decide), fun l1 hl1 => ?_⟩
    have G2 := (g1.trans g2).new hl1 (o := .lst [V.int r1, V.int r2, V.int m])
    have f2 : (upd H2 l1 (.lst [V.int r1, V.int r2, V.int m])) l1 = some (.lst [V.int r1, V.int r2, V.int m]) := upd_same
    generalize upd H2 l1 (.lst [V.int r1, V.int r2, V.int m]) = H3 at G2 f2 ⊢
    have nl1 : l1 ≠ p := Ne.symm ((g1.trans g2).ne_new hl1)
    refine ⟨_, rfl, p, c, n + 1 + 1, _, rfl, G2.pen, G2.cel, by omega, by decide, by decide, fun H4 r4 g4 a4 b4 => ?_⟩
    have q0 : 0 ≤ Int.fdiv r4 4 := fdiv_ge a4 (by decide)
    have q1 : Int.fdiv r4 4 < 3 := by
      rw [Int.fdiv_eq_ediv_of_nonneg _ (by decide)]
      omega
    obtain ⟨v0, hv0, ev0⟩ := atI_lt (xs := [V.int r1, V.int r2, V.int m]) q0 (by show Int.fdiv r4 4 < ((3 : Nat) : Int); exact q1)
    obtain ⟨many, rfl, mn0, mn1⟩ : ∃ many : Int, v0 = .int many ∧ 0 ≤ many ∧ many ≤ 40 := by
      have z : v0 = V.int r1 ∨ v0 = V.int r2 ∨ v0 = V.int m := by simpa using hv0
      rcases z with z | z | z <;> exact ⟨_, z, by omega, by omega⟩
    refine ⟨_, _, rfl, rfl, ⟨by omega, by omega⟩, l1, _, _, _, rfl, rfl, g4.but.seqL nl1 (SqL.of f2), ev0, ?_⟩
    have G4 := G2.trans g4
    clear ev0 hv0 f2 G2 g4 g1 g2
    -- the lines
    refine ⟨(by show 6 ≤ sizeLine; decide), fun e0 he0 => ?_⟩
    generalize hX : upd H4 e0 _ = H5
    obtain ⟨S5, f5⟩ := alloc he0 hX
    have G5 := G4.same S5
    clear hX
    refine ⟨_, rfl, _, rfl, (by show 2 ≤ sizeLine; decide), fun t1 ht1 => ?_⟩
    generalize hX : upd H5 t1 _ = H6
    obtain ⟨S6, f6⟩ := alloc ht1 hX
    have G6 := G5.same S6
    clear hX
    refine ⟨(by show 2 ≤ sizeLine; decide), fun t2 ht2 => ?_⟩
    generalize hX : upd H6 t2 _ = H7
    obtain ⟨S7, f7⟩ := alloc ht2 hX
    have G7 := G6.same S7
    clear hX
    refine ⟨(by show 4 ≤ sizeLine; decide), fun t3 ht3 => ?_⟩
    generalize hX : upd H7 t3 _ = H8
    obtain ⟨S8, f8⟩ := alloc ht3 hX
    have G8 := G7.same S8
    clear hX
    refine ⟨(by show 4 ≤ sizeLine; decide), fun l2 hl2 => ?_⟩
    generalize hX : upd H8 l2 _ = H9
    obtain ⟨S9, f9⟩ := alloc hl2 hX
    have G9 := G8.same S9
    have nl2 := Ne.symm (G8.ne_new hl2)
    clear hX
    have S69 := (S7.trans S8).trans S9
    refine ⟨p, c, l2, _, _, rfl, G9.pen, G9.cel, by omega, .inl ⟨SqL.of f9, nl2⟩, by simp, (by show 4 ≤ 1000000; decide), fun H10 v10 g10 hv10 => ?_⟩
    have G10 := G9.trans g10
    obtain ⟨ql, lns, rfl, hql, hlne, hllen, hlsub⟩ : ∃ (ql : Addr) (lns : List Str), v10 = .ref ql ∧ SqT K H10 ql (lns.map V.str) ∧ lns ≠ [] ∧ lns.length ≤ 6 ∧ ∀ l ∈ lns, l ∈ lines6 := by
      obtain ⟨_, _, ep, _⟩ := id G9.pen
      have z : v10 = V.ref e0 ∨ v10 = V.ref t1 ∨ v10 = V.ref t2 ∨ v10 = V.ref t3 := by simpa using hv10
      rcases z with z | z | z | z
      · exact ⟨e0, ["port", "star", "down", "aport", "astar", "up"], z, seqT_lst (SqT.of (S69 _ _ (S6 _ _ f5))) ep g10.but, by simp, by decide, by simp [lines6]⟩
      · exact ⟨t1, ["port", "aport"], z, seqT_lst (SqT.of (S69 _ _ f6)) ep g10.but, by simp, by decide, by simp [lines6]⟩
      · exact ⟨t2, ["port", "star"], z, seqT_lst (SqT.of (S9 _ _ (S8 _ _ f7))) ep g10.but, by simp, by decide, by simp [lines6]⟩
      · exact ⟨t3, ["star", "astar", "aport", "port"], z, seqT_lst (SqT.of (S9 _ _ f8)) ep g10.but, by simp, by decide, by simp [lines6]⟩
    clear hv10 f5 f6 f7 f8 f9 S5 S6 S7 S8 S9 S69 g10 G4 G5 G6 G7 G8 G9
    -- the words
    refine ⟨2, rfl, by decide, by decide, fun W hW => ?_⟩
    have hW0 := G10.free hW
    have nW : W ≠ p := Ne.symm (G10.ne_new hW)
    refine lc_it walk_range (fun i H' => Go K p c H (n + 4 + 10 * i) H' ∧ SqT K H' ql (lns.map V.str) ∧ ∃ ws : List Str, H' W = some (.lst (ws.map V.str)) ∧ ws.length = i ∧ ∀ x ∈ ws, TOk 8 x)
      ⟨G10.new hW, same_seqT (same_new (Same.refl _) hW) hql, [], upd_same, rfl, fun x hx => nomatch hx⟩ (fun _ _ _ _ => trivial) ?_ ?_
    · rintro i x Ha Hb hi ⟨g2, hs2, ws, e2, l2', o2⟩ ⟨rfl, rfl⟩
      refine ⟨rfl, _, rfl, p, c, n + 4 + 10 * i, rfl, g2.pen, g2.cel, by omega, fun Hc t gc ot => ?_⟩
      have ec := gc.but W _ nW e2
      refine ⟨_, ec, ?_, ((g2.trans gc).own hW0 nW hc).mono (by omega), seqT_lst (seqT_go hs2 g2.pen gc.but) ec But.put, ws ++ [t], ?_, by rw [List.length_append, l2']; rfl, fun x hx => ?_⟩
      · rw [List.length_map]
        exact small1000 (by omega)
      · rw [upd_same, List.map_append]
        rfl
      · rcases List.mem_append.mp hx with hx | hx
        · exact o2 x hx
        · have : x = t := by simpa using hx
          subst this
          exact ot
    rintro H11 ⟨G11, hs11, ws, e11, lws, ows⟩
    -- the orders
    refine ⟨_, rfl, p, c, n + 24, _, rfl, G11.pen, G11.cel, by omega, by decide, by decide, fun H12 r12 g12 a12 b12 => ?_⟩
    refine ⟨_, _, rfl, rfl, _, rfl, by omega, by omega, fun O hO => ?_⟩
    have G12 := G11.trans g12
    have hO0 := G12.free hO
    have nO : O ≠ p := Ne.symm (G12.ne_new hO)
    have nWO : W ≠ O := ne_of_none (g12.but W _ nW e11) hO
    refine lc_it walk_range (fun i H' => Go K p c H (n + 25 + i) H' ∧ SqT K H' ql (lns.map V.str) ∧ H' W = some (.lst (ws.map V.str)) ∧ ∃ os : List Int, H' O = some (.lst (os.map V.int)) ∧ os.length = i ∧ ∀ x ∈ os, -4 ≤ x ∧ x ≤ 4)
      ⟨G12.new hO, same_seqT (same_new (Same.refl _) hO) (seqT_go hs11 G11.pen g12.but), (upd_ne nWO).trans (g12.but W _ nW e11), [], upd_same, rfl, fun x hx => nomatch hx⟩ (fun _ _ _ _ => trivial) ?_ ?_
    · rintro i x Ha Hb hi ⟨g2, hs2, w2, os, e2, l2', o2⟩ ⟨rfl, rfl⟩
      refine ⟨rfl, _, rfl, p, c, n + 25 + i, _, rfl, g2.pen, g2.cel, by omega, by decide, by decide, fun Hc rc gc ac bc => ?_⟩
      have ec := gc.but O _ nO e2
      have wc := gc.but W _ nW w2
      refine ⟨_, _, rfl, rfl, _, ec, ?_, ((g2.trans gc).own hO0 nO hc).mono (by omega), seqT_lst (seqT_go hs2 g2.pen gc.but) ec But.put, (upd_ne nWO).trans wc, os ++ [rc - 4], ?_, by rw [List.length_append, l2']; rfl, fun x hx => ?_⟩
      · rw [List.length_map]
        exact small1000 (by omega)
      · rw [upd_same, List.map_append]
        rfl
      · rcases List.mem_append.mp hx with hx | hx
        · exact o2 x hx
        · have : x = rc - 4 := by simpa using hx
          omega
    rintro H13 ⟨G13, hs13, w13, os, e13, los, oos⟩
    have hos : os ≠ [] := fun z => by
      rw [z] at los
      have : ([] : List Int).length = 0 := rfl
      omega
    have hws : ws ≠ [] := fun z => by
      rw [z] at lws
      have : ([] : List Str).length = 0 := rfl
      omega
    -- the first minute
    refine ⟨_, rfl, _, rfl, p, c, _, _, rfl, G13.pen, G13.cel, by omega, by decide, by decide, fun H14 r14 g14 a14 b14 => ?_⟩
    refine ⟨_, rfl, p, c, _, _, rfl, g14.pen, g14.cel, by omega, by decide, by decide, fun H15 r15 g15 a15 b15 => ?_⟩
    refine ⟨_, _, rfl, rfl, (by show 4 ≤ sizeLine; decide), fun l3 hl3 => ?_⟩
    have G15 := G13.trans (g14.trans g15)
    have b15' := g14.but.trans g15.but
    generalize hX : upd H15 l3 _ = H16
    obtain ⟨S16, f16⟩ := alloc hl3 hX
    have G16 := G15.same S16
    have nl3 := Ne.symm (G15.ne_new hl3)
    clear hX
    refine ⟨p, c, l3, _, _, rfl, G16.pen, G16.cel, by omega, .inl ⟨SqL.of f16, nl3⟩, by simp, (by show 4 ≤ 1000000; decide), fun H17 v17 g17 hv17 => ?_⟩
    obtain ⟨time, rfl, tm0, tm1⟩ : ∃ time : Int, v17 = .int time ∧ 0 ≤ time ∧ time ≤ 99999 := by
      have z : v17 = V.int 0 ∨ v17 = V.int r14 ∨ v17 = V.int (99999 - r15) := by
        have z0 := hv17
        simp only [List.mem_cons, List.not_mem_nil, or_false] at z0
        rcases z0 with z | z | z | z <;> simp [z]
      rcases z with z | z | z <;> exact ⟨_, z, by omega, by omega⟩
    have G17 := G16.trans g17
    have hs17 : SqT K H17 ql (lns.map V.str) := seqT_go (same_seqT S16 (seqT_go hs13 G13.pen b15')) G16.pen g17.but
    have w17 : H17 W = some (.lst (ws.map V.str)) := g17.but _ _ nW (S16 _ _ (b15' _ _ nW w13))
    have o17 : H17 O = some (.lst (os.map V.int)) := g17.but _ _ nO (S16 _ _ (b15' _ _ nO e13))
    -- the rows
    refine ⟨(by show 0 ≤ sizeLine; decide), fun R hR => ?_⟩
    have nR := Ne.symm (G17.ne_new hR)
    generalize hX : upd H17 R _ = H18
    obtain ⟨S18, f18⟩ := alloc hR hX
    have G18 := G17.same S18
    clear hX
    refine ⟨_, rfl, _, rfl, by omega, by omega, ?_⟩
    refine for_it walk_range (fun i σ H' => ∃ (tm : Int) (x9 x10 x11 : Option V) (as : List Addr) (rs : List Row), σ = [some (.ref p), some (.int m), some (.int many), some (.ref e0), some (.ref ql), some (.ref W), some (.ref O), some (.int tm), some (.ref R), x9, x10, x11] ∧
        Go K p c H17 (n + 40 + 6 * i) H' ∧ SqT K H' ql (lns.map V.str) ∧ H' W = some (.lst (ws.map V.str)) ∧ H' O = some (.lst (os.map V.int)) ∧ H' R = some (.lst (as.map V.ref)) ∧ RowsAt K H' as rs ∧ rs.length = i ∧ (∀ r ∈ rs, r.Ok) ∧ (Rising rs ∧ ∀ r ∈ rs, r.m ≤ tm) ∧ 0 ≤ tm ∧ tm ≤ 99999)
      ⟨time, none, none, none, [], [], rfl, (G17.self.same S18).mono (by omega), same_seqT S18 hs17, S18 _ _ w17, S18 _ _ o17, f18, .nil, rfl, (fun r hr => nomatch hr), ⟨.nil, fun r hr => nomatch hr⟩, tm0, tm1⟩ (fun _ _ _ _ _ => trivial) ?_ ?_
    · rintro i x σ Ha Hb hi ⟨tm, x9, x10, x11, as, rs, rfl, ga, sa, wa, oa, ra, rowsa, lrs, oks, ⟨ris, rlt⟩, h70, h71⟩ ⟨rfl, rfl⟩
      have ei : i < 40 := by omega
      -- the minute
      refine ⟨_, rfl, _, rfl, p, c, _, _, rfl, ga.pen, ga.cel, by omega, by decide, by decide, fun Hc rc gc ac bc => ?_⟩
      refine ⟨_, rfl, p, c, _, _, rfl, gc.pen, gc.cel, by omega, by decide, by decide, fun Hd rd gd ad bd => ⟨(by show 6 ≤ sizeLine; decide), fun l4 hl4 => ?_⟩⟩
      have nl4 := Ne.symm ((gc.trans gd).ne_new hl4)
      generalize hX : upd Hd l4 _ = He
      obtain ⟨Se, fe⟩ := alloc hl4 hX
      have ge := (gc.trans gd).same Se
      clear hX
      refine ⟨_, rfl, p, c, _, _, rfl, ge.pen, ge.cel, by omega, by decide, by decide, fun Hf rf gf af bf => ?_⟩
      obtain ⟨v4, hv4, ev4⟩ := atI_lt (xs := [V.int 0, V.int 0, V.int 1, V.int rc, V.int rd, V.int 20000]) af (by show rf < ((6 : Nat) : Int); exact bf)
      obtain ⟨more, rfl, mo0⟩ : ∃ more : Int, v4 = .int more ∧ 0 ≤ more := by
        have z : v4 = V.int 0 ∨ v4 = V.int 1 ∨ v4 = V.int rc ∨ v4 = V.int rd ∨ v4 = V.int 20000 := by simpa using hv4
        rcases z with z | z | z | z | z <;> exact ⟨_, z, by omega⟩
      refine ⟨l4, _, _, _, rfl, rfl, gf.but.seqL nl4 (SqL.of fe), ev4, _, _, rfl, rfl, _, _, rfl, ?_⟩
      have gF := ge.trans gf
      obtain ⟨tm2, etm2, tm20, tm21⟩ : ∃ tm2 : Int, tm2 = (if tm + more < 99999 then tm + more else 99999) ∧ 0 ≤ tm2 ∧ tm2 ≤ 99999 := ⟨_, rfl, by split <;> omega, by split <;> omega⟩
      have tmle : tm ≤ tm2 := by rw [etm2]; split <;> omega
      have bF := gF.but
      have sF := seqT_go sa ga.pen bF
      have wF := bF _ _ nW wa
      have oF := bF _ _ nO oa
      have rF := bF _ _ nR ra
      have rowsF := rowsa.go ga.pen bF
      have GF := ga.trans gF
      -- the line
      refine ⟨_, rfl, _, rfl, p, c, ql, _, _, rfl, gF.pen, gF.cel, by omega, .inr sF, (by simpa using hlne), (by rw [List.length_map]; omega), fun Hg v5 gg hv5 => ?_⟩
      obtain ⟨wire, hwire, rfl⟩ := List.mem_map.mp hv5
      -- what it bears
      refine ⟨_, rfl, _, rfl, p, c, O, _, _, rfl, gg.pen, gg.cel, by omega, .inl ⟨SqL.of (gg.but _ _ nO oF), nO⟩, (by simpa using hos), (by rw [List.length_map]; omega), fun Hh v6 gh hv6 => ?_⟩
      obtain ⟨ord, hord, rfl⟩ := List.mem_map.mp hv6
      have gH := gg.trans gh
      have GH := GF.trans gH
      have wH := gH.but _ _ nW wF
      have rH := gH.but _ _ nR rF
      have sH := seqT_go sF gF.pen gH.but
      have oH := gH.but _ _ nO oF
      have rowsH := rowsF.go gF.pen gH.but
      have l6 := hlsub _ hwire
      have o9 := oos _ hord
      -- on a tube
      refine ⟨fun σ2 H2 => ∃ what : What, σ2 = [some (.ref p), some (.int m), some (.int many), some (.ref e0), some (.ref ql), some (.ref W), some (.ref O), some (.int tm2), some (.ref R), some (.int (0 + (i : Nat))), some (.str wire), some what.v] ∧
        Go K p c H17 (n + 40 + 6 * (i + 1)) H2 ∧ SqT K H2 ql (lns.map V.str) ∧ H2 W = some (.lst (ws.map V.str)) ∧ H2 O = some (.lst (os.map V.int)) ∧ H2 R = some (.lst (as.map V.ref)) ∧ RowsAt K H2 as rs ∧
        ((wire ∈ tubes ∧ ∃ t, what = .name t ∧ TOk 8 t) ∨ (wire ∉ tubes ∧ ∃ i, what = .order i ∧ -4 ≤ i ∧ i ≤ 4)), ?_, ?_⟩
      · refine ⟨_, rfl, (by show 2 ≤ sizeLine; decide), fun t4 ht4 => ?_⟩
        generalize hX : upd Hh t4 _ = Hi
        obtain ⟨Si, fi⟩ := alloc ht4 hX
        clear hX
        have gi := gH.same Si
        have GI := GH.same Si
        refine ⟨t4, _, rfl, .inr (SqT.of fi), rfl, rfl, _, rfl, ?_⟩
        have inT : inV (V.str wire) [V.str (Str.ofString "down"), V.str (Str.ofString "up")] = decide (wire ∈ tubes) := by
          rw [Bool.eq_iff_iff]
          simp only [inV, List.any_cons, List.any_nil, Bool.or_false, eqV, Bool.or_eq_true, beq_iff_eq, decide_eq_true_eq, tubes, List.mem_cons, List.not_mem_nil, or_false]
          constructor
          · rintro (z | z)
            · exact .inl z.symm
            · exact .inr z.symm
          · rintro (z | z)
            · exact .inl z.symm
            · exact .inr z.symm
        show if inV (V.str wire) [V.str (Str.ofString "down"), V.str (Str.ofString "up")] = true then _ else _
        rw [inT]
        refine ite2 (fun z => ?_) (fun z => ?_)
        · have z' : wire ∈ tubes := of_decide_eq_true z
          have wI := Si _ _ wH
          refine ⟨_, rfl, _, rfl, p, c, W, _, _, rfl, GI.pen, GI.cel, by omega, .inl ⟨SqL.of wI, nW⟩, (by simpa using hws), (by rw [List.length_map, lws]; decide), fun Hj v7 gj hv7 => ?_⟩
          obtain ⟨nm, hnm, rfl⟩ := List.mem_map.mp hv7
          exact ⟨.name nm, by rw [etm2]; rfl, (GI.trans gj).mono (by omega), seqT_go (same_seqT Si sH) GI.pen gj.but, gj.but _ _ nW wI, gj.but _ _ nO (Si _ _ oH), gj.but _ _ nR (Si _ _ rH), (rowsH.same Si).go GI.pen gj.but, .inl ⟨z', nm, rfl, ows _ hnm⟩⟩
        · have z' : wire ∉ tubes := fun y => z (decide_eq_true y)
          exact ⟨.order ord, by rw [etm2]; rfl, GI.mono (by omega), same_seqT Si sH, Si _ _ wH, Si _ _ oH, Si _ _ rH, rowsH.same Si, .inr ⟨z', ord, rfl, o9.1, o9.2⟩⟩
      · rintro σ2 H2 ⟨what, rfl, g2, s2, w2, o2, r2, rows2, hw⟩
        -- rows.append((time, wire, what))
        refine ⟨_, rfl, .inl ⟨rfl, _, SqL.of r2⟩, _, rfl, _, rfl, _, rfl, (by show 3 ≤ sizeLine; decide), fun a ha => ?_⟩
        generalize hX : upd H2 a _ = H2'
        obtain ⟨S3, f3⟩ := alloc ha hX
        clear hX
        have nRa : R ≠ a := ne_of_none r2 ha
        refine ⟨R, _, _, rfl, rfl, S3 _ _ r2, (by rw [List.length_map, rowsH.length, lrs]; exact small1000 (by omega)), ?_⟩
        have b3 : But R H2' (upd H2' R (.lst (as.map V.ref ++ [V.ref a]))) := But.put
        refine ⟨tm2, _, _, _, as ++ [a], rs ++ [⟨tm2, wire, what⟩], rfl, (g2.same S3).own hR nR G17.cel, ?_, ?_, ?_, ?_, ?_, by rw [List.length_append, lrs]; rfl, ?_, ⟨rising_snoc ris fun q hq => Int.le_trans (rlt q hq) tmle, fun q hq => ?_⟩, tm20, tm21⟩
        · exact seqT_lst (same_seqT S3 s2) (S3 _ _ r2) b3
        · exact b3 _ _ (ne_of_none w17 hR) (S3 _ _ w2)
        · exact b3 _ _ (ne_of_none o17 hR) (S3 _ _ o2)
        · rw [upd_same, List.map_append]
          rfl
        · exact ((rows2.same S3).snoc (SqT.of f3)).lst (S3 _ _ r2) b3
        · intro r hr'
          rcases List.mem_append.mp hr' with z | z
          · exact oks r z
          · have z' : r = ⟨tm2, wire, what⟩ := by simpa using z
            subst z'
            exact ⟨tm20, tm21, l6, hw⟩
        · rcases List.mem_append.mp hq with z | z
          · exact Int.le_trans (rlt q z) tmle
          · obtain rfl : q = ⟨tm2, wire, what⟩ := by simpa using z
            exact Int.le_refl _
    · rintro σ Ha ⟨tm, x9, x10, x11, as, rs, rfl, ga, sa, wa, oa, ra, rowsa, lrs, oks, ⟨ris, rlt⟩, h70, h71⟩
      refine ⟨_, rfl, R, _, rfl, .inl ⟨SqL.of ra, fun l hl => ?_⟩⟩
      have S4 : Same Ha (upd Ha l (.tup (as.map V.ref))) := same_new (Same.refl _) hl
      have GA := G17.trans ga
      exact k _ l rs ((GA.same S4).mono (by omega)) (GA.free hl) ⟨as, SqT.of upd_same, rowsa.same S4⟩ (by omega) oks ris
def spPen (K : PySem.W.Frag) : Sp := fun vs H Q _ => ∃ (a : Addr) (ns : List Int), vs = [.ref a] ∧ SqL K H a (ns.map V.int) ∧ ns.length ≤ 63 ∧ ∀ H' p c, Same H H' → H p = none → PenAt H' p c 0 → Cells K H' p c → Q (.ref p) H'
theorem ok_pen (T : Txt w K mg) : FnOk P w K mg base CX0 1 T.a_pen T.d_pen ["_law_script"] (spPen K) := by
  refine T.F_pen.ok sc_pen (fun vs H Q E h => ?_) (fun cdv A outer s H vs Q E hr h => ?_)
  · obtain ⟨a, ns, rfl, _⟩ := h
    rfl
  · obtain ⟨a, ns, rfl, hS, hl, k⟩ := h
    refine ⟨_, (pss_one (ps_ret (pe_lst (pa_cons (pe_slice (k_slL K) (pv 0) po_none (po_some pe_int)) (pa_cons pe_int (pa_cons pe_int pa_nil)))))), ?_⟩
    refine ⟨_, rfl, _, rfl, a, _, rfl, hS, fun c hc => ?_⟩
    generalize hX : upd H c _ = H1
    obtain ⟨S1, f1⟩ := alloc hc hX
    clear hX
    refine ⟨(by show 3 ≤ sizeLine; decide), fun p hp => ?_⟩
    generalize hX : upd H1 p _ = H2
    obtain ⟨S2, f2⟩ := alloc hp hX
    clear hX
    have e : cutV (ns.map V.int) none (some 63) = (ns.take (min 63 ns.length)).map V.int := by
      show cutV (ns.map V.int) none (some ((63 : Nat) : Int)) = _
      unfold cutV
      rw [HT.sIx_none, HT.sIx_nat, List.drop_zero, Nat.sub_zero, List.length_map, List.map_take]
    rw [e] at f1
    exact k H2 p c (S1.trans S2) (S1.free hp) ⟨0, 0, f2, by decide, by decide, by decide⟩ ⟨ne_of_none f1 hp, _, SqL.of (S2 _ _ f1), by rw [List.length_take]; omega⟩

def spLaw (K : PySem.W.Frag) : Sp := fun vs H Q _ => ∃ (a : Addr) (ns : List Int), vs = [.ref a] ∧ SqL K H a (ns.map V.int) ∧ ns.length ≤ 63 ∧ ∀ H', Q (.bl true) H'
theorem law_in (K : PySem.W.Frag) (H : Hp) (a : Addr) (ns : List Int) (h1 : ns.length ≤ 63) (_ : ∀ k ∈ ns, Builtin.Int.intBits k ≤ 1048576) (_ : Only H) (h2 : SqL K H a (ns.map V.int)) : spLaw K [.ref a] H (fun v _ => v = .bl true) fun _ _ _ => False :=
  ⟨a, ns, rfl, h2, h1, fun _ => rfl⟩
/-! ### what stands -/
def standStep (l : Str) (m : Int) (st : Option What) (r : Row) : Option What := if r.l = l ∧ r.m ≤ m then some r.w else st
def standTo (rs : List Row) (l : Str) (m : Int) : Nat → Option What
  | 0 => none
  | i + 1 => match rs[i]? with
    | some r => standStep l m (standTo rs l m i) r
    | none => standTo rs l m i
def ovOr (d : V) : Option What → V
  | none => d
  | some x => x.v
def spStand (K : PySem.W.Frag) : Sp := fun vs H Q _ => ∃ (t : Addr) (rs : List Row) (l : Str) (m : Int) (d : V), vs = [.ref t, .str l, .int m, d] ∧ LogAt K H t rs ∧ Q (ovOr d (standTo rs l m rs.length)) H
theorem ok_standing (T : Txt w K mg) : FnOk P w K mg base CX0 1 T.a_standing T.d_standing ["log", "line", "minute", "none"] (spStand K) := by
  refine FunD_okN T.F_standing sc_standing (fun vs H Q E h => ?_) (fun cdv A outer s H vs Q E hr h => ?_)
  · obtain ⟨t, rs, l, m, d, rfl, _⟩ := h
    rfl
  · obtain ⟨t, rs, l, m, d, rfl, hL, k⟩ := h
    obtain ⟨as, hT, hR⟩ := id hL
    refine ⟨_, (pss_cons (ps_set (i := 4) sc_standing.nd rfl (by first | exact Or.inl rfl | exact Or.inr rfl) (pv 3))
  (pss_cons (ps_for PassesOwn.never rfl (k_piT K (pv 0)) (k_pgT (n := 3) K rfl (pgs_cons (pg_name (i := 5) sc_standing.nd rfl (by first | exact Or.inl rfl | exact Or.inr rfl)) (pgs_cons (pg_name (i := 6) sc_standing.nd rfl (by first | exact Or.inl rfl | exact Or.inr rfl)) (pgs_cons (pg_name (i := 7) sc_standing.nd rfl (by first | exact Or.inl rfl | exact Or.inr rfl)) pgs_nil)))) (pss_one (ps_if (PW.pt (pw_and (pt_cmpR op_eq (pv 6) (pv 1) (nomark _)) (pw_and1 (pt_cmpR op_le (pv 5) (pv 2) (nomark _))))) (pss_one (ps_set (i := 4) sc_standing.nd rfl (by first | exact Or.inl rfl | exact Or.inr rfl) (pv 7))) pss_nil)))
  (pss_one (ps_ret (pv 4))))), ?_⟩
    refine ⟨_, rfl, _, rfl, t, rfl, ⟨_, hT⟩, ?_⟩
    refine for_it walk_tup (fun i σ H' => ∃ (x5 x6 x7 : Option V), σ = [some (.ref t), some (.str l), some (.int m), some d, some (ovOr d (standTo rs l m i)), x5, x6, x7] ∧ H' = H)
      ⟨none, none, none, rfl, rfl⟩ (fun i σ H' _ ⟨_, _, _, _, q⟩ => q ▸ hT) ?_ ?_
    · rintro i x σ _ H2 hi ⟨x5, x6, x7, rfl, hHH⟩ ⟨rfl, hx⟩
      subst hHH
      obtain ⟨a, ha, rfl⟩ : ∃ a, as[i]? = some a ∧ x = V.ref a := by
        rw [List.getElem?_map] at hx
        cases z : as[i]? with
        | none => rw [z] at hx; cases hx
        | some a => rw [z] at hx; exact ⟨a, rfl, (Option.some.inj hx).symm⟩
      obtain ⟨r, hr1, row⟩ := hR.get' ha
      have step : standTo rs l m (i + 1) = standStep l m (standTo rs l m i) r := by
        show (match rs[i]? with | some r => standStep l m (standTo rs l m i) r | none => standTo rs l m i) = _
        rw [hr1]
      refine ⟨a, _, rfl, row, rfl, _, _, rfl, _, _, rfl, _, _, rfl, rfl, ?_⟩
      refine ⟨_, rfl, _, rfl, rfl, _, rfl, ite2 (fun z => ?_) (fun z => ?_)⟩
      · have z' : r.l = l := V.str.inj (of_decide_eq_true z)
        refine ⟨_, rfl, _, rfl, _, _, rfl, rfl, _, rfl, ite2 (fun y => ?_) (fun y => ?_)⟩
        · have y' : r.m ≤ m := of_decide_eq_true y
          refine ⟨_, rfl, some (.int r.m), some (.str r.l), some r.w.v, ?_, rfl⟩
          rw [step, standStep, if_pos ⟨z', y'⟩]
          rfl
        · have y' : ¬ r.m ≤ m := fun w => y (decide_eq_true w)
          refine ⟨some (.int r.m), some (.str r.l), some r.w.v, ?_, rfl⟩
          rw [step, standStep, if_neg fun w => y' w.2]
          rfl
      · have z' : ¬ r.l = l := fun w => z (decide_eq_true (by rw [w]))
        refine ⟨some (.int r.m), some (.str r.l), some r.w.v, ?_, rfl⟩
        rw [step, standStep, if_neg fun w => z' w.1]
        rfl
    · rintro σ H2 ⟨x5, x6, x7, rfl, rfl⟩
      rw [List.length_map, hR.length]
      exact ⟨_, rfl, k⟩
theorem standTo_mem {rs : List Row} {l : Str} {m : Int} {w : What} : ∀ {i : Nat}, standTo rs l m i = some w → ∃ r ∈ rs, r.w = w ∧ r.l = l ∧ r.m ≤ m
  | 0, h => nomatch h
  | i + 1, h => by
    have h2 : (match rs[i]? with | some r => standStep l m (standTo rs l m i) r | none => standTo rs l m i) = some w := h
    cases z : rs[i]? with
    | none =>
      rw [z] at h2
      exact standTo_mem h2
    | some r =>
      rw [z] at h2
      simp only [standStep] at h2
      split at h2
      · rename_i q
        exact ⟨r, List.mem_of_getElem? z, Option.some.inj h2, q⟩
      · exact standTo_mem h2
/-! ### steps -/
structure Mins (rs : List Row) (l : Str) (ns : List Int) : Prop where
  asc : ns.Pairwise (· < ·)
  mem : ∀ k, k ∈ ns ↔ ∃ r ∈ rs, r.l = l ∧ r.m = k
theorem Mins.one {rs : List Row} {l : Str} {a b : List Int} (h : Mins rs l a) (h2 : Mins rs l b) : a = b := asc_ext h.asc h2.asc fun k => (h.mem k).trans (h2.mem k).symm
theorem standTo_congr {rs : List Row} {l : Str} {m m' : Int} (h : ∀ r ∈ rs, r.l = l → (r.m ≤ m ↔ r.m ≤ m')) : ∀ i, standTo rs l m i = standTo rs l m' i
  | 0 => rfl
  | i + 1 => by
    show (match rs[i]? with | some r => standStep l m (standTo rs l m i) r | none => standTo rs l m i) = (match rs[i]? with | some r => standStep l m' (standTo rs l m' i) r | none => standTo rs l m' i)
    rw [standTo_congr h i]
    cases z : rs[i]? with
    | none => rfl
    | some r =>
      have q := h r (List.mem_of_getElem? z)
      show (if r.l = l ∧ r.m ≤ m then some r.w else _) = (if r.l = l ∧ r.m ≤ m' then some r.w else _)
      by_cases hl : r.l = l
      · by_cases hm : r.m ≤ m
        · rw [if_pos ⟨hl, hm⟩, if_pos ⟨hl, (q hl).mp hm⟩]
        · rw [if_neg fun y => hm y.2, if_neg fun y => hm ((q hl).mpr y.2)]
      · rw [if_neg fun y => hl y.1, if_neg fun y => hl y.1]
theorem standTo_some {rs : List Row} {l : Str} {m : Int} {r : Row} {j : Nat} (hr : rs[j]? = some r) (h1 : r.l = l) (h2 : r.m ≤ m) : ∀ i, j < i → ∃ w, standTo rs l m i = some w
  | 0, h => nomatch h
  | i + 1, h => by
    have e : standTo rs l m (i + 1) = (match rs[i]? with | some r => standStep l m (standTo rs l m i) r | none => standTo rs l m i) := rfl
    by_cases z : j = i
    · subst z
      rw [e, hr]
      show ∃ w, (if r.l = l ∧ r.m ≤ m then some r.w else _) = some w
      rw [if_pos ⟨h1, h2⟩]
      exact ⟨_, rfl⟩
    · obtain ⟨w, hw⟩ := standTo_some hr h1 h2 i (by omega)
      rw [e, hw]
      cases rs[i]? with
      | none => exact ⟨_, rfl⟩
      | some r2 =>
        show ∃ x, (if r2.l = l ∧ r2.m ≤ m then some r2.w else some w) = some x
        split <;> exact ⟨_, rfl⟩
theorem Mins.has {rs : List Row} {l : Str} {ns : List Int} (h : Mins rs l ns) {m : Int} (hm : m ∈ ns) : ∃ w, standTo rs l m rs.length = some w := by
  obtain ⟨r, hr, h1, h2⟩ := (h.mem m).mp hm
  obtain ⟨j, lt, e⟩ := List.getElem_of_mem hr
  exact standTo_some (by rw [List.getElem?_eq_getElem lt, e]) h1 (by omega) _ lt
theorem Mins.first {rs : List Row} {l : Str} {ns : List Int} (h : Mins rs l ns) {m : Int} (hm : ns[0]? = some m) : standTo rs l (m - 1) rs.length = none := by
  cases z : standTo rs l (m - 1) rs.length with
  | none => rfl
  | some w =>
    obtain ⟨r, hr, _, h1, h2⟩ := standTo_mem z
    have q := (h.mem r.m).mpr ⟨r, hr, h1, rfl⟩
    cases ns with
    | nil => cases hm
    | cons x xs =>
      obtain rfl : x = m := by simpa using hm
      rcases List.mem_cons.mp q with q | q
      · omega
      · have := (List.pairwise_cons.mp h.asc).1 _ q
        omega
theorem Mins.next {rs : List Row} {l : Str} {ns : List Int} (h : Mins rs l ns) {j : Nat} {m0 m : Int} (h0 : ns[j]? = some m0) (hm : ns[j + 1]? = some m) : standTo rs l (m - 1) rs.length = standTo rs l m0 rs.length := by
  refine standTo_congr (fun r hr h1 => ?_) _
  obtain ⟨q, lt, e⟩ := List.getElem_of_mem ((h.mem r.m).mpr ⟨r, hr, h1, rfl⟩)
  have asc := List.pairwise_iff_getElem.mp h.asc
  obtain ⟨lj, ej⟩ := List.getElem?_eq_some_iff.mp h0
  obtain ⟨lm, em⟩ := List.getElem?_eq_some_iff.mp hm
  have mm := asc j (j + 1) lj lm (by omega)
  rw [ej, em] at mm
  rcases Nat.lt_trichotomy q j with z | z | z
  · have := asc q j lt lj z
    rw [ej, e] at this
    omega
  · subst z
    rw [ej] at e
    omega
  · rcases Nat.lt_or_ge (j + 1) q with y | y
    · have := asc (j + 1) q lm lt y
      rw [em, e] at this
      omega
    · obtain rfl : q = j + 1 := by omega
      rw [em] at e
      omega
def stepsTo (rs : List Row) (l : Str) (ns : List Int) : Nat → List (Int × What)
  | 0 => []
  | i + 1 => match ns[i]? with
    | none => stepsTo rs l ns i
    | some m => match standTo rs l m rs.length with
      | none => stepsTo rs l ns i
      | some w => if standTo rs l (m - 1) rs.length = some w then stepsTo rs l ns i else stepsTo rs l ns i ++ [(m, w)]
theorem stepsTo_succ {rs : List Row} {l : Str} {ns : List Int} {i : Nat} {m : Int} {w : What} (hm : ns[i]? = some m) (hw : standTo rs l m rs.length = some w) :
    stepsTo rs l ns (i + 1) = if standTo rs l (m - 1) rs.length = some w then stepsTo rs l ns i else stepsTo rs l ns i ++ [(m, w)] := by
  show (match ns[i]? with | none => _ | some m => match standTo rs l m rs.length with | none => _ | some w => _) = _
  rw [hm]
  show (match standTo rs l m rs.length with | none => _ | some w => _) = _
  rw [hw]
theorem stepsTo_len {rs : List Row} {l : Str} {ns : List Int} : ∀ i, (stepsTo rs l ns i).length ≤ i
  | 0 => Nat.le_refl _
  | i + 1 => by
    have := stepsTo_len (rs := rs) (l := l) (ns := ns) i
    unfold stepsTo
    split
    · omega
    · split
      · omega
      · split
        · omega
        · rw [List.length_append]
          show _ + 1 ≤ i + 1
          omega
theorem stepsTo_mem {rs : List Row} {l : Str} {ns : List Int} {x : Int × What} : ∀ {i : Nat}, x ∈ stepsTo rs l ns i → x.1 ∈ ns ∧ standTo rs l x.1 rs.length = some x.2
  | 0, h => by simp [stepsTo] at h
  | i + 1, h => by
    unfold stepsTo at h
    split at h
    · exact stepsTo_mem h
    · rename_i m hm
      split at h
      · exact stepsTo_mem h
      · rename_i w hw
        split at h
        · exact stepsTo_mem h
        · rcases List.mem_append.mp h with h | h
          · exact stepsTo_mem h
          · obtain rfl : x = (m, w) := by simpa using h
            exact ⟨List.mem_of_getElem? hm, hw⟩
def stepD (x : Int × What) : PyData := .tuple [.int x.1, x.2.d]
theorem steps_rep {rs : List Row} {l : Str} {ns : List Int} (h : Mins rs l ns) (ok : ∀ r ∈ rs, r.Ok) {i : Nat} : ∀ d ∈ (stepsTo rs l ns i).map stepD, RepOk d 1 18 := by
  intro d hd
  obtain ⟨x, hx, rfl⟩ := List.mem_map.mp hd
  obtain ⟨m1, m2⟩ := stepsTo_mem hx
  obtain ⟨r, hr, _, e⟩ := (h.mem _).mp m1
  have okr := ok r hr
  obtain ⟨r2, hr2, e2, _, _⟩ := standTo_mem m2
  refine (RepOk.tuple (k := 0) (n := 8) fun d hd => ?_).mono (Nat.le_refl _) (by show 2 * 9 ≤ 18; decide)
  have z : d = .int x.1 ∨ d = x.2.d := by simpa using hd
  rcases z with rfl | rfl
  · exact (RepOk.int (by have := okr.m0; have := okr.m1; omega)).mono (Nat.le_refl _) (by decide)
  · rw [← e2]
    refine What.rep ?_
    rcases (ok r2 hr2).wh with ⟨_, t, e, q⟩ | ⟨_, i, e, q1, q2⟩
    · exact .inr ⟨t, e, q⟩
    · exact .inl ⟨i, e, q1, q2⟩
/-- the steps stand in tuples -/
inductive StepsAt (K : PySem.W.Frag) (H : Hp) : List Addr → List (Int × What) → Prop
  | nil : StepsAt K H [] []
  | snoc {as : List Addr} {xs : List (Int × What)} {a : Addr} {m : Int} {w : What} : StepsAt K H as xs → SqT K H a [.int m, w.v] → StepsAt K H (as ++ [a]) (xs ++ [(m, w)])
section
variable {K : PySem.W.Frag} {H H1 : Hp} {as : List Addr} {xs : List (Int × What)}
theorem StepsAt.imp (h : StepsAt K H as xs) (f : ∀ a ys, SqT K H a ys → SqT K H1 a ys) : StepsAt K H1 as xs := by
  induction h with
  | nil => exact .nil
  | snoc _ h2 ih => exact .snoc ih (f _ _ h2)
theorem StepsAt.same (h : StepsAt K H as xs) (s : Same H H1) : StepsAt K H1 as xs := h.imp fun _ _ q => same_seqT s q
theorem StepsAt.len (h : StepsAt K H as xs) : as.length = xs.length := by
  induction h with
  | nil => rfl
  | snoc _ _ ih => simp [ih]
theorem dpAll_app {vs : List V} {ds : List PyData} {v : V} {d : PyData} (h : DpAll K H vs ds) (h2 : Dp K H v d) : DpAll K H (vs ++ [v]) (ds ++ [d]) := by
  induction vs generalizing ds with
  | nil =>
    cases h
    exact .cons h2 .nil
  | cons x r ih =>
    cases h with
    | cons a b => exact .cons a (ih b)
theorem StepsAt.dp (h : StepsAt K H as xs) : DpAll K H (as.map V.ref) (xs.map stepD) := by
  induction h with
  | nil => exact .nil
  | @snoc as xs a m w _ h2 ih =>
    rw [List.map_append, List.map_append]
    exact dpAll_app ih (.tup h2 (.cons (.int _) (.cons w.dp .nil)))
end
theorem scal_ov (x y : Option What) : scal (ovOr .non x) (ovOr .non y) = true := by
  cases x with
  | none =>
    cases y with
    | none => rfl
    | some y => cases y <;> rfl
  | some x =>
    cases y with
    | none => cases x <;> rfl
    | some y => exact scal_what x y
theorem ov_inj {x y : Option What} (h : ovOr .non x = ovOr .non y) : x = y := by
  cases x with
  | none =>
    cases y with
    | none => rfl
    | some y => cases y <;> cases h
  | some x =>
    cases y with
    | none => cases x <;> cases h
    | some y => exact congrArg some (What.v_inj h)
/-- the minutes of a line are met, row by row -/
def SetTo (rs : List Row) (l : Str) (i : Nat) (S : Int → Bool) : Prop := ∀ k, S k = true ↔ ∃ j r, j < i ∧ rs[j]? = some r ∧ r.l = l ∧ r.m = k
theorem SetTo.yes {rs : List Row} {l : Str} {i : Nat} {S : Int → Bool} {r : Row} (h : SetTo rs l i S) (hr : rs[i]? = some r) (hl : r.l = l) : SetTo rs l (i + 1) (fun j => S j || decide (j = r.m)) := fun k => by
  rw [Bool.or_eq_true, h k, decide_eq_true_eq]
  constructor
  · rintro (⟨j, r2, lt, e⟩ | rfl)
    · exact ⟨j, r2, by omega, e⟩
    · exact ⟨i, r, by omega, hr, hl, rfl⟩
  · rintro ⟨j, r2, lt, e, e1, e2⟩
    by_cases z : j = i
    · subst z
      rw [hr] at e
      cases e
      exact .inr e2.symm
    · exact .inl ⟨j, r2, by omega, e, e1, e2⟩
theorem SetTo.no {rs : List Row} {l : Str} {i : Nat} {S : Int → Bool} {r : Row} (h : SetTo rs l i S) (hr : rs[i]? = some r) (hl : ¬ r.l = l) : SetTo rs l (i + 1) S := fun k => by
  rw [h k]
  constructor
  · rintro ⟨j, r2, lt, e⟩
    exact ⟨j, r2, by omega, e⟩
  · rintro ⟨j, r2, lt, e, e1, e2⟩
    by_cases z : j = i
    · subst z
      rw [hr] at e
      cases e
      exact absurd e1 hl
    · exact ⟨j, r2, by omega, e, e1, e2⟩
theorem SetTo.mins {rs : List Row} {l : Str} {S : Int → Bool} {ns : List Int} (h : SetTo rs l rs.length S) (asc : ns.Pairwise (· < ·)) (mem : ∀ k : Int, k ∈ ns ↔ S k = true) : Mins rs l ns := ⟨asc, fun k => by
  rw [mem k, h k]
  constructor
  · rintro ⟨j, r, _, e, e1, e2⟩
    exact ⟨r, List.mem_of_getElem? e, e1, e2⟩
  · rintro ⟨r, hr, e1, e2⟩
    obtain ⟨j, lt, e⟩ := List.getElem_of_mem hr
    exact ⟨j, r, lt, by rw [List.getElem?_eq_getElem lt, e], e1, e2⟩⟩
def spSteps (K : PySem.W.Frag) : Sp := fun vs H Q _ => ∃ (t : Addr) (rs : List Row) (l : Str), vs = [.ref t, .str l] ∧ LogAt K H t rs ∧ rs.length ≤ 41 ∧
  ∀ H' q as ns, Same H H' → H q = none → H' q = some (.lst (as.map V.ref)) → Mins rs l ns → StepsAt K H' as (stepsTo rs l ns ns.length) → ns.length ≤ 41 → Q (.ref q) H'
theorem ok_steps (T : Txt w K mg) : FnOk P w K mg base CX0 2 T.a_steps T.d_steps ["log", "line"] (spSteps K) := by
  have G_standing := ok_standing (P := P) (base := base) T
  refine T.F_steps.ok sc_steps (fun vs H Q E h => ?_) (fun cdv A outer s H vs Q E hr h => ?_)
  · obtain ⟨t, rs, l, rfl, _⟩ := h
    rfl
  · obtain ⟨t, rs, l, rfl, hL, hlen, k⟩ := h
    obtain ⟨as, hT, hR⟩ := id hL
    have la := hR.length
    have hr_standing := hr
    refine ⟨_, (pss_cons (ps_set (i := 2) sc_steps.nd rfl (by first | exact Or.inl rfl | exact Or.inr rfl) (pe_lst pa_nil))
  (pss_cons (ps_set (i := 3) sc_steps.nd rfl (by first | exact Or.inl rfl | exact Or.inr rfl) pe_non)
  (pss_cons (ps_for PassesOwn.never rfl (k_piL K (pe_callB (k_sortedSet w rfl) (by rfl) T.z_sorted (by decide +kernel) (pa_cons (pe_scI (own := [("row", 6)]) rfl sc_steps.nd (k_piT K (pv 0)) (blkOk_by (own := [("row", 6)]) (N := ["log", "line", "told", "stood", "minute", "order", "row"]) (sc := defScope s_steps) (by decide +kernel)) (fun _ _ _ _ _ => (pg_name (i := 6) sc_steps.nd rfl (by first | exact Or.inl rfl | exact Or.inr rfl))) (fun _ _ _ _ _ => (pts_one (pt_cmpR op_eq (pe_ix (kx_tup K) (pv 6) pe_int (fun _ _ => rfl)) (pv 1) (nomark _)))) (fun _ _ _ _ _ => (pe_ix (kx_tup K) (pv 6) pe_int (fun _ _ => rfl)))) pa_nil))) (pg_name (i := 4) sc_steps.nd rfl (by first | exact Or.inl rfl | exact Or.inr rfl)) (pss_cons (ps_set (i := 5) sc_steps.nd rfl (by first | exact Or.inl rfl | exact Or.inr rfl) (pe_call G_standing hr_standing (by rfl) T.g_standing T.F_standing.kp T.b3_standing T.v3_standing pass0 (pa_cons (pv 0) (pa_cons (pv 1) (pa_cons (pv 4) pa_nil)))))
  (pss_cons (ps_if (pt_cmpR op_ne (pv 5) (pv 3) (nomark _)) (pss_one (ps_expr (pe_bm PySem.F.plainAttrs_list PySem.F.slot_list_append PySem.F.type_list_append mt_append (pv 2) (pa_cons (pe_tup (pa_cons (pv 4) (pa_cons (pv 5) pa_nil))) pa_nil)))) pss_nil)
  (pss_one (ps_set (i := 3) sc_steps.nd rfl (by first | exact Or.inl rfl | exact Or.inr rfl) (pv 5))))))
  (pss_one (ps_ret (pv 2)))))), ?_⟩
    refine ⟨(by show 0 ≤ sizeLine; decide), fun D hD => ?_⟩
    generalize hX : upd H D _ = H1
    obtain ⟨S1, f1⟩ := alloc hD hX
    clear hX
    refine ⟨_, rfl, t, rfl, ⟨_, same_seqT S1 hT⟩, fun D2 hD2 => ?_⟩
    refine sc_it walk_tup (fun i H' => ∃ (S : Int → Bool) (n : Nat), Same H1 H' ∧ H' D2 = some (SetO w D2 S n) ∧ n ≤ i ∧ SetTo rs l i S) ⟨_, 0, same_new (Same.refl _) hD2, upd_same, Nat.le_refl _, fun k => ⟨fun z => Bool.noConfusion z, fun ⟨_, _, z, _⟩ => absurd z (Nat.not_lt_zero _)⟩⟩
      (fun i H' _ ⟨_, _, q, _⟩ => same_seqT (S1.trans q) hT) ?_ ?_
    · rintro i x H2 H3 hi ⟨S, n, s2, e2, hn, hS⟩ ⟨rfl, hx⟩
      obtain ⟨a, ha, rfl⟩ : ∃ a, as[i]? = some a ∧ x = V.ref a := by
        have hx : (as.map V.ref)[i]? = some x := hx
        rw [List.getElem?_map] at hx
        cases z : as[i]? with
        | none => rw [z] at hx; cases hx
        | some a => rw [z] at hx; exact ⟨a, rfl, (Option.some.inj hx).symm⟩
      obtain ⟨r, hr1, hr2⟩ := hR.get' ha
      rw [List.length_map, la] at hi
      have row := same_seqT (S1.trans s2) hr2
      refine ⟨rfl, _, rfl, a, _, _, _, rfl, rfl, row, rfl, _, rfl, rfl, _, rfl, ite2 (fun z => ?_) (fun z => ?_)⟩
      · have z' : r.l = l := V.str.inj (of_decide_eq_true z)
        refine ⟨_, rfl, a, _, _, _, rfl, rfl, row, rfl, r.m, S, n, rfl, e2, Nat.lt_of_le_of_lt (show n + 1 ≤ 42 by omega) (by decide), _, _, same_own s2 hD2, upd_same, ?_, hS.yes hr1 z'⟩
        split <;> omega
      · have z' : ¬ r.l = l := fun y => z (decide_eq_true (by rw [y]))
        exact ⟨S, n, s2, e2, by omega, hS.no hr1 z'⟩
    · rintro H2 ⟨S, n, s2, e2, hn, hS⟩
      rw [List.length_map, la] at hn hS
      refine ⟨D2, S, n, rfl, e2, by omega, fun ns q asc mem nl hq => ?_⟩
      have hm := hS.mins asc mem
      generalize hX : upd H2 q _ = H3
      obtain ⟨S3, f3⟩ := alloc hq hX
      clear hX
      have s3 := s2.trans S3
      have hD0 : H D = none := hD
      refine ⟨q, rfl, ⟨_, SqL.of f3⟩, ?_⟩
      have nqD : q ≠ D := fun z => by
        rw [z, s2 _ _ f1] at hq
        cases hq
      refine for_it walk_list (fun i σ H' => ∃ (so : Option What) (x4 x5 x6 : Option V) (bs : List Addr), σ = [some (.ref t), some (.str l), some (.ref D), some (ovOr .non so), x4, x5, x6] ∧ Same H H' ∧ H' q = some (.lst (ns.map V.int)) ∧ H' D = some (.lst (bs.map V.ref)) ∧ StepsAt K H' bs (stepsTo rs l ns i) ∧
          ((i = 0 ∧ so = none) ∨ ∃ j m0, i = j + 1 ∧ ns[j]? = some m0 ∧ so = standTo rs l m0 rs.length))
        ⟨none, none, none, none, [], rfl, S1.trans s3, f3, s3 _ _ f1, .nil, .inl ⟨rfl, rfl⟩⟩ (fun i σ H' _ ⟨_, _, _, _, _, _, _, e, _⟩ => SqL.of e) ?_ ?_
      · rintro i x σ _ H4 hi ⟨so, x4, x5, x6, bs, rfl, s4, eq4, eD4, st4, hso⟩ ⟨rfl, hx⟩
        obtain ⟨m, hm1, rfl⟩ : ∃ m, ns[i]? = some m ∧ x = V.int m := by
          have hx : (ns.map V.int)[i]? = some x := hx
          rw [List.getElem?_map] at hx
          cases z : ns[i]? with
          | none => rw [z] at hx; cases hx
          | some a => rw [z] at hx; exact ⟨a, rfl, (Option.some.inj hx).symm⟩
        obtain ⟨wh, hw⟩ := hm.has (List.mem_of_getElem? hm1)
        have ahead : standTo rs l (m - 1) rs.length = so := by
          rcases hso with ⟨rfl, rfl⟩ | ⟨j, m0, rfl, h0, rfl⟩
          · exact hm.first hm1
          · exact hm.next h0 hm1
        refine ⟨_, rfl, _, rfl, _, rfl, t, rs, l, m, .non, rfl, hL.same s4, ?_⟩
        rw [hw]
        refine ⟨_, rfl, _, rfl, scal_ov (some wh) so, _, rfl, ?_⟩
        have next : (i = 0 → False) ∨ True := .inr trivial
        have sxx := stepsTo_succ hm1 hw
        rw [ahead] at sxx
        refine ite2 (fun z => ?_) (fun z => ?_)
        · have z' : ¬ so = some wh := fun y => by
            rw [y] at z
            simp [ovOr] at z
          rw [if_neg z'] at sxx
          refine ⟨_, rfl, .inl ⟨rfl, _, SqL.of eD4⟩, _, rfl, _, rfl, (by show 2 ≤ sizeLine; decide), fun a ha => ?_⟩
          generalize hX : upd H4 a _ = H6
          obtain ⟨S6, f6⟩ := alloc ha hX
          clear hX
          have e6 := S6 _ _ eD4
          have bl := st4.len
          have sl := stepsTo_len (rs := rs) (l := l) (ns := ns) i
          have i41 : i < 64 := by
            have := (List.getElem?_eq_some_iff.mp hm1).1
            omega
          refine ⟨D, _, _, rfl, rfl, e6, by rw [List.length_map]; exact small1000 (by omega), ?_⟩
          have b6 : But D H6 (upd H6 D (.lst (bs.map V.ref ++ [V.ref a]))) := But.put
          refine ⟨_, rfl, some wh, _, _, x6, bs ++ [a], rfl, same_own (s4.trans S6) hD0, (upd_ne nqD).trans (S6 _ _ eq4), by rw [upd_same, List.map_append]; rfl, ?_, .inr ⟨i, m, rfl, hm1, hw.symm⟩⟩
          rw [sxx]
          exact ((st4.same S6).snoc (SqT.of f6)).imp fun _ _ q => seqT_lst q e6 b6
        · have z' : so = some wh := by
            have y : ¬ (!decide (ovOr .non (some wh) = ovOr .non so)) = true := z
            simp only [Bool.not_eq_true', decide_eq_false_iff_not, Decidable.not_not] at y
            exact (ov_inj y).symm
          rw [if_pos z'] at sxx
          refine ⟨_, rfl, some wh, _, _, x6, bs, rfl, s4, eq4, eD4, ?_, .inr ⟨i, m, rfl, hm1, hw.symm⟩⟩
          rw [sxx]
          exact st4
      · rintro σ H4 ⟨so, x4, x5, x6, bs, rfl, s4, eq4, eD4, st4, hso⟩
        rw [List.length_map] at st4
        exact ⟨_, rfl, k H4 D bs ns s4 hD0 eD4 hm st4 (by omega)⟩
/-! ### what stands from step to step -/
/-- the steps st tell what stands at every minute -/
structure StepsTell (rs : List Row) (l : Str) (st : List (Int × What)) : Prop where
  none_ : ∀ m, (∀ x ∈ st, m < x.1) → standTo rs l m rs.length = none
  last : ∀ a m, st[st.length - 1]? = some a → a.1 ≤ m → standTo rs l m rs.length = some a.2
  mid : ∀ (j : Nat) a b, st[j]? = some a → st[j + 1]? = some b → a.1 < b.1 ∧ a.2 ≠ b.2 ∧ ∀ m, a.1 ≤ m → m < b.1 → standTo rs l m rs.length = some a.2
theorem stand_none {rs : List Row} {l : Str} {m : Int} (h : ∀ r ∈ rs, r.l = l → m < r.m) : standTo rs l m rs.length = none := by
  cases z : standTo rs l m rs.length with
  | none => rfl
  | some w =>
    obtain ⟨r, hr, _, e, le⟩ := standTo_mem z
    have := h r hr e
    omega
theorem last_snoc {α : Type} (xs : List α) (a : α) : (xs ++ [a])[(xs ++ [a]).length - 1]? = some a := by
  rw [List.length_append]
  show (xs ++ [a])[xs.length + 1 - 1]? = _
  rw [Nat.add_sub_cancel, List.getElem?_append_right (Nat.le_refl _), Nat.sub_self]
  rfl
/-- the first i minutes' steps tell what stands ahead of the next minute -/
structure TellTo (rs : List Row) (l : Str) (ns : List Int) (i : Nat) (st : List (Int × What)) : Prop where
  none_ : ∀ m, (∀ x ∈ st, m < x.1) → (∀ n, ns[i]? = some n → m < n) → standTo rs l m rs.length = none
  last : ∀ a m, st[st.length - 1]? = some a → a.1 ≤ m → (∀ n, ns[i]? = some n → m < n) → standTo rs l m rs.length = some a.2
  mid : ∀ (j : Nat) a b, st[j]? = some a → st[j + 1]? = some b → a.1 < b.1 ∧ a.2 ≠ b.2 ∧ ∀ m, a.1 ≤ m → m < b.1 → standTo rs l m rs.length = some a.2
  lt : ∀ x ∈ st, ∀ n, ns[i]? = some n → x.1 < n
theorem tell_all {rs : List Row} {l : Str} {ns : List Int} (h : Mins rs l ns) : ∀ i, i ≤ ns.length → TellTo rs l ns i (stepsTo rs l ns i)
  | 0, _ => by
    refine ⟨fun m _ hn => stand_none fun r hr e => ?_, fun a m z => (nomatch z), fun j a b z => (nomatch z), fun x hx => (nomatch hx)⟩
    obtain ⟨j, lj, ej⟩ := List.getElem_of_mem ((h.mem r.m).mpr ⟨r, hr, e, rfl⟩)
    obtain ⟨n0, hn0⟩ : ∃ n, ns[0]? = some n := ⟨_, List.getElem?_eq_getElem (by omega)⟩
    have := hn n0 hn0
    obtain ⟨l0, e0⟩ := List.getElem?_eq_some_iff.mp hn0
    rcases Nat.eq_zero_or_pos j with z | z
    · subst z
      rw [e0] at ej
      omega
    · have := List.pairwise_iff_getElem.mp h.asc 0 j l0 lj z
      rw [e0, ej] at this
      omega
  | i + 1, hi => by
    have ih := tell_all h i (by omega)
    obtain ⟨n, hn⟩ : ∃ n, ns[i]? = some n := ⟨_, List.getElem?_eq_getElem (by omega)⟩
    obtain ⟨w, hw⟩ := h.has (List.mem_of_getElem? hn)
    rw [stepsTo_succ hn hw]
    -- from n on w stands, ahead of the next minute
    have from_ : ∀ m, n ≤ m → (∀ n', ns[i + 1]? = some n' → m < n') → standTo rs l m rs.length = some w := fun m h1 h2 => by
      rw [← hw]
      refine standTo_congr (fun r hr e => ?_) _
      obtain ⟨j, lj, ej⟩ := List.getElem_of_mem ((h.mem r.m).mpr ⟨r, hr, e, rfl⟩)
      obtain ⟨li, ei⟩ := List.getElem?_eq_some_iff.mp hn
      have pw := List.pairwise_iff_getElem.mp h.asc
      rcases Nat.lt_trichotomy j i with z | z | z
      · have := pw j i lj li z
        rw [ej, ei] at this
        omega
      · subst z
        rw [ei] at ej
        omega
      · obtain ⟨n', hn'⟩ : ∃ n', ns[i + 1]? = some n' := ⟨_, List.getElem?_eq_getElem (by omega)⟩
        have := h2 n' hn'
        obtain ⟨l2, e2⟩ := List.getElem?_eq_some_iff.mp hn'
        have q : n' ≤ r.m := by
          rcases Nat.lt_or_ge (i + 1) j with y | y
          · have := pw (i + 1) j l2 lj y
            rw [e2, ej] at this
            omega
          · obtain rfl : j = i + 1 := by omega
            rw [e2] at ej
            omega
        have := pw i (i + 1) li l2 (by omega)
        rw [ei, e2] at this
        omega
    have next : ∀ n', ns[i + 1]? = some n' → n < n' := fun n' hn' => by
      obtain ⟨l2, e2⟩ := List.getElem?_eq_some_iff.mp hn'
      obtain ⟨li, ei⟩ := List.getElem?_eq_some_iff.mp hn
      have := List.pairwise_iff_getElem.mp h.asc i (i + 1) li l2 (by omega)
      rw [ei, e2] at this
      exact this
    generalize stepsTo rs l ns i = st at ih ⊢
    have ahead : ∀ m, m < n → ∀ n', ns[i]? = some n' → m < n' := fun m hm n' z => by
      rw [hn] at z
      obtain rfl := Option.some.inj z
      exact hm
    by_cases c : standTo rs l (n - 1) rs.length = some w
    · rw [if_pos c]
      refine ⟨fun m h1 h2 => ?_, fun a m h1 h2 h3 => ?_, ih.mid, fun x hx n' hn' => by have := ih.lt x hx n hn; have := next n' hn'; omega⟩
      · by_cases cm : m < n
        · exact ih.none_ m h1 (ahead m cm)
        · -- something stands at n - 1, so there is a step
          have e := ih.none_ (n - 1) (fun x hx => by have := h1 x hx; have := ih.lt x hx n hn; omega) (ahead _ (by omega))
          rw [c] at e
          cases e
      · by_cases cm : m < n
        · exact ih.last a m h1 h2 (ahead m cm)
        · have hl := ih.lt a (List.mem_of_getElem? h1) n hn
          have e := ih.last a (n - 1) h1 (by omega) (ahead _ (by omega))
          rw [c] at e
          rw [from_ m (by omega) h3]
          exact e
    · rw [if_neg c]
      refine ⟨fun m h1 h2 => ?_, fun a m h1 h2 h3 => ?_, fun j a b h1 h2 => ?_, fun x hx n' hn' => ?_⟩
      · have := h1 (n, w) (by simp)
        exact ih.none_ m (fun x hx => h1 x (List.mem_append_left _ hx)) (ahead m this)
      · rw [last_snoc] at h1
        obtain rfl := Option.some.inj h1
        exact from_ m h2 h3
      · by_cases cj : j + 1 < st.length
        · rw [List.getElem?_append_left (by omega)] at h1
          rw [List.getElem?_append_left cj] at h2
          exact ih.mid j a b h1 h2
        · obtain ⟨l2, _⟩ := List.getElem?_eq_some_iff.mp h2
          rw [List.length_append] at l2
          have l2 : j + 1 < st.length + 1 := l2
          have ej : j = st.length - 1 := by omega
          rw [List.getElem?_append_left (by omega)] at h1
          rw [List.getElem?_append_right (by omega), show j + 1 - st.length = 0 by omega] at h2
          obtain rfl := Option.some.inj h2
          have hl := ih.lt a (List.mem_of_getElem? h1) n hn
          rw [ej] at h1
          refine ⟨hl, fun z => c ?_, fun m h3 h4 => ih.last a m h1 h3 (ahead m h4)⟩
          have z : a.2 = w := z
          rw [← z]
          exact ih.last a (n - 1) h1 (by omega) (ahead _ (by omega))
      · have := next n' hn'
        rcases List.mem_append.mp hx with z | z
        · have := ih.lt x z n hn
          omega
        · obtain rfl : x = (n, w) := by simpa using z
          exact this
theorem steps_tell {rs : List Row} {l : Str} {ns : List Int} (h : Mins rs l ns) : StepsTell rs l (stepsTo rs l ns ns.length) := by
  have t := tell_all h ns.length (Nat.le_refl _)
  have no : ∀ (m n : Int), ns[ns.length]? = some n → m < n := fun m n z => by
    rw [List.getElem?_eq_none (Nat.le_refl _)] at z
    cases z
  exact ⟨fun m h1 => t.none_ m h1 (no m), fun a m h1 h2 => t.last a m h1 h2 (no m), t.mid⟩
theorem StepsAt.at_ {K : PySem.W.Frag} {H : Hp} {as : List Addr} {xs : List (Int × What)} (h : StepsAt K H as xs) : ∀ {j : Nat} {x : Int × What}, xs[j]? = some x → ∃ a, as[j]? = some a ∧ SqT K H a [.int x.1, x.2.v] := by
  induction h with
  | nil => intro j x z; cases z
  | @snoc as xs a m w h1 h2 ih =>
    intro j x z
    have le := h1.len
    by_cases c : j < xs.length
    · rw [List.getElem?_append_left c] at z
      obtain ⟨b, e1, e2⟩ := ih z
      exact ⟨b, by rw [List.getElem?_append_left (by omega)]; exact e1, e2⟩
    · obtain ⟨l2, _⟩ := List.getElem?_eq_some_iff.mp z
      rw [List.length_append] at l2
      have l2 : j < xs.length + 1 := l2
      obtain rfl : j = xs.length := by omega
      rw [List.getElem?_append_right (by omega), Nat.sub_self] at z
      obtain rfl := Option.some.inj z
      exact ⟨a, by rw [List.getElem?_append_right (by omega), show xs.length - as.length = 0 by omega]; rfl, h2⟩
theorem tell_first {rs : List Row} {l : Str} {st : List (Int × What)} (h : StepsTell rs l st) {a : Int × What} (ha : st[0]? = some a) : ∀ (j : Nat) (x : Int × What), st[j]? = some x → a.1 ≤ x.1
  | 0, x, hx => by
    rw [ha] at hx
    obtain rfl := Option.some.inj hx
    exact Int.le_refl _
  | j + 1, x, hx => by
    obtain ⟨l2, _⟩ := List.getElem?_eq_some_iff.mp hx
    obtain ⟨y, hy⟩ : ∃ y, st[j]? = some y := ⟨_, List.getElem?_eq_getElem (by omega)⟩
    have := tell_first h ha j y hy
    have := (h.mid j y x hy hx).1
    omega
/-- until when the step j lasts -/
def beyondOf (st : List (Int × What)) (j : Nat) : Int := match st[j + 1]? with
  | some b => b.1
  | none => 100000000000000000000
theorem beyond_tell {rs : List Row} {l : Str} {st : List (Int × What)} (h : StepsTell rs l st) (small : ∀ x ∈ st, x.1 ≤ 99999) {j : Nat} {a : Int × What} (ha : st[j]? = some a) :
    a.1 < beyondOf st j ∧ ∀ m, a.1 ≤ m → m < beyondOf st j → standTo rs l m rs.length = some a.2 := by
  unfold beyondOf
  cases z : st[j + 1]? with
  | some b => exact ⟨(h.mid j a b ha z).1, (h.mid j a b ha z).2.2⟩
  | none =>
    have := small a (List.mem_of_getElem? ha)
    have l1 := List.getElem?_eq_none_iff.mp z
    obtain ⟨l2, _⟩ := List.getElem?_eq_some_iff.mp ha
    have ej : j = st.length - 1 := by omega
    rw [ej] at ha
    refine ⟨?_, fun m h1 _ => h.last a m ha h1⟩
    show a.1 < (100000000000000000000 : Int)
    omega
def spSR (K : PySem.W.Frag) : Sp := fun vs H Q _ => ∃ (t : Addr) (rs : List Row) (l : Str), vs = [.ref t, .str l] ∧ LogAt K H t rs ∧ rs.length ≤ 41 ∧ (∀ r ∈ rs, r.Ok) ∧ ∀ H', Same H H' → Q (.bl true) H'
theorem ok_steps_right (T : Txt w K mg) : FnOk P w K mg base CX0 3 T.a_steps_right T.d_steps_right ["_law_log_here", "_law_line"] (spSR K) := by
  have G_steps := ok_steps (P := P) (base := base) T
  have G_standing := ok_standing (P := P) (base := base) T
  refine T.F_steps_right.ok sc_steps_right (fun vs H Q E h => ?_) (fun cdv A outer s H vs Q E hr h => ?_)
  · obtain ⟨t, rs, l, rfl, _⟩ := h
    rfl
  · obtain ⟨t, rs, l, rfl, hL, hlen, oks, k⟩ := h
    have hr_steps := hr
    have hr_standing := hr.mono (show 1 ≤ 2 by decide)
    refine ⟨_, (pss_cons (ps_set (i := 2) sc_steps_right.nd rfl (by first | exact Or.inl rfl | exact Or.inr rfl) (pe_call G_steps hr_steps (by rfl) T.g_steps T.F_steps.kp T.b_steps .nil pass0 (pa_cons (pv 0) (pa_cons (pv 1) pa_nil))))
  (pss_cons (ps_if (pt_cmpR (k_eqD K hr.units) (pv 2) (pe_lst pa_nil) (nomark _)) (pss_one (ps_ret (pe_cmpR op_isN (pe_call G_standing hr_standing (by rfl) T.g_standing T.F_standing.kp T.b3_standing T.v3_standing pass0 (pa_cons (pv 0) (pa_cons (pv 1) (pa_cons pe_int pa_nil)))) pe_non (nomark _)))) pss_nil)
  (pss_cons (ps_if (pt_cmpR op_notN (pe_call G_standing hr_standing (by rfl) T.g_standing T.F_standing.kp T.b3_standing T.v3_standing pass0 (pa_cons (pv 0) (pa_cons (pv 1) (pa_cons (pe_op op_sub (pe_ix (kx_tup K) (pe_ix (kx_list K) (pv 2) pe_int (fun _ _ => rfl)) pe_int (fun _ _ => rfl)) pe_int) pa_nil)))) pe_non (nomark _)) (pss_one (ps_ret pe_bl)) pss_nil)
  (pss_cons (ps_set (i := 3) sc_steps_right.nd rfl (by first | exact Or.inl rfl | exact Or.inr rfl) (pe_op op_cat (pe_lc (own := [("_law_row", 5)]) rfl sc_steps_right.nd (k_piL K (pe_slice (k_slL K) (pv 2) (po_some pe_int) po_none)) (blkOk_by (own := [("_law_row", 5)]) (N := ["_law_log_here", "_law_line", "_law_found", "_law_ends", "_law_last", "_law_row", "_law_beyond", "_law_minute"]) (sc := defScope s_steps_right) (by decide +kernel)) (fun _ _ _ _ _ => (pg_name (i := 5) sc_steps_right.nd rfl (by first | exact Or.inl rfl | exact Or.inr rfl))) (fun _ _ _ _ _ => pts_nil) (fun _ _ _ _ _ => (pe_ix (kx_tup K) (pv 5) pe_int (fun _ _ => rfl)))) (pe_lst (pa_cons (pe_op op_pow pe_int pe_int) pa_nil))))
  (pss_cons (ps_set (i := 4) sc_steps_right.nd rfl (by first | exact Or.inl rfl | exact Or.inr rfl) pe_non)
  (pss_cons (ps_for PassesOwn.never rfl (k_piZip K (by rfl) T.z_zip (pa_cons (pv 2) (pa_cons (pv 3) pa_nil))) (k_pgT (n := 2) K rfl (pgs_cons (pg_name (i := 5) sc_steps_right.nd rfl (by first | exact Or.inl rfl | exact Or.inr rfl)) (pgs_cons (pg_name (i := 6) sc_steps_right.nd rfl (by first | exact Or.inl rfl | exact Or.inr rfl)) pgs_nil))) (pss_cons (ps_for PassesOwn.never rfl (k_piT K (pe_tup (pa_cons (pe_ix (kx_tup K) (pv 5) pe_int (fun _ _ => rfl)) (pa_cons (pe_op op_fdiv (pe_op op_add (pe_ix (kx_tup K) (pv 5) pe_int (fun _ _ => rfl)) (pv 6)) pe_int) (pa_cons (pe_op op_sub (pv 6) pe_int) pa_nil))))) (pg_name (i := 7) sc_steps_right.nd rfl (by first | exact Or.inl rfl | exact Or.inr rfl)) (pss_one (ps_if (pt_cmpR op_ne (pe_ix (kx_tup K) (pv 5) pe_int (fun _ _ => rfl)) (pe_call G_standing hr_standing (by rfl) T.g_standing T.F_standing.kp T.b3_standing T.v3_standing pass0 (pa_cons (pv 0) (pa_cons (pv 1) (pa_cons (pv 7) pa_nil)))) (nomark _)) (pss_one (ps_ret pe_bl)) pss_nil)))
  (pss_cons (ps_if (PW.pt (pw_or (PW.pt (pw_and (pt_cmpR op_notN (pv 4) pe_non (nomark _)) (pw_and1 (pt_cmpR op_eq (pv 4) (pe_ix (kx_tup K) (pv 5) pe_int (fun _ _ => rfl)) (nomark _))))) (pw_or1 (pt_cmpR op_ge (pe_ix (kx_tup K) (pv 5) pe_int (fun _ _ => rfl)) (pv 6) (nomark _))))) (pss_one (ps_ret pe_bl)) pss_nil)
  (pss_one (ps_set (i := 4) sc_steps_right.nd rfl (by first | exact Or.inl rfl | exact Or.inr rfl) (pe_ix (kx_tup K) (pv 5) pe_int (fun _ _ => rfl)))))))
  (pss_one (ps_ret pe_bl)))))))), ?_⟩
    refine ⟨_, rfl, _, rfl, t, rs, l, rfl, hL, hlen, fun H1 q as ns S1 hq0 e1 hm hst lns => ?_⟩
    have tell := steps_tell hm
    have srep := steps_rep hm oks (i := ns.length)
    have smem : ∀ x ∈ stepsTo rs l ns ns.length, x.1 ≤ 99999 := fun x hx => by
      obtain ⟨m1, _⟩ := stepsTo_mem hx
      obtain ⟨r, hr, _, e⟩ := (hm.mem _).mp m1
      have := (oks r hr).m1
      omega
    have slen := stepsTo_len (rs := rs) (l := l) (ns := ns) ns.length
    generalize stepsTo rs l ns ns.length = st at *
    have lst := hst.len
    refine ⟨_, rfl, (by show 0 ≤ sizeLine; decide), fun z hz => ?_⟩
    generalize hX : upd H1 z _ = H2
    obtain ⟨S2, f2⟩ := alloc hz hX
    clear hX
    have rep : RepOk (.list (st.map stepD)) 2 800 := (RepOk.list srep).mono (Nat.le_refl _) (by rw [List.length_map]; omega)
    refine ⟨.list (st.map stepD), .list [], .lst (SqL.of (S2 _ _ e1)) (hst.same S2).dp, .lst (SqL.of f2) .nil, rep.shaped (by decide), by decide +kernel, _, rfl, ?_⟩
    by_cases hne : st = []
    · rw [show PyData.eqv (.list (st.map stepD)) (.list []) = true by rw [hne]; rfl]
      show if true = true then _ else _
      refine ⟨_, rfl, _, rfl, t, rs, l, 99999, .non, rfl, hL.same (S1.trans S2), ?_⟩
      rw [tell.none_ 99999 (fun x hx => by rw [hne] at hx; cases hx)]
      exact ⟨rfl, k _ (S1.trans S2)⟩
    rw [show PyData.eqv (.list (st.map stepD)) (.list []) = false by
      cases st with
      | nil => exact absurd rfl hne
      | cons y ys => rfl]
    show if false = true then _ else _
    have pos := List.length_pos_iff.mpr hne
    obtain ⟨x0, hx0⟩ : ∃ x, st[0]? = some x := ⟨_, List.getElem?_eq_getElem pos⟩
    obtain ⟨a0, ha0, ra0⟩ := (hst.same S2).at_ hx0
    have ea0 : atI (as.map V.ref) 0 = some (.ref a0) := atI_nat (j := 0) (by rw [List.getElem?_map, ha0]; rfl)
    have e2 := S2 _ _ e1
    refine ⟨_, rfl, _, rfl, _, rfl, q, _, _, _, rfl, rfl, SqL.of e2, ea0, a0, _, _, _, rfl, rfl, ra0, rfl, _, _, rfl, rfl, t, rs, l, x0.1 - 1, .non, rfl, hL.same (S1.trans S2), ?_⟩
    rw [tell.none_ (x0.1 - 1) (fun x hx => by
      obtain ⟨j, lj, ej⟩ := List.getElem_of_mem hx
      have := tell_first tell hx0 j x (by rw [List.getElem?_eq_getElem lj, ej])
      omega)]
    refine ⟨rfl, _, rfl, ?_⟩
    show if false = true then _ else _
    -- the ends
    refine ⟨_, rfl, 1, rfl, q, _, rfl, SqL.of e2, fun u hu => ?_⟩
    generalize hX : upd H2 u _ = H3
    obtain ⟨S3, f3⟩ := alloc hu hX
    clear hX
    rw [show (some (1 : Int)) = some ((1 : Nat) : Int) from rfl, cut_drop, ← List.map_drop] at f3
    have st3 := hst.same (S2.trans S3)
    refine ⟨u, rfl, ⟨_, SqL.of f3⟩, fun D hD => ?_⟩
    refine lc_it (walk_list (xs := (as.drop 1).map V.ref)) (fun i H' => Same H3 H' ∧ H' D = some (.lst ((((st.drop 1).map (·.1)).take i).map V.int))) ⟨same_new (Same.refl _) hD, by rw [List.take_zero]; exact upd_same⟩ (fun i H' _ q => SqL.of (q.1 _ _ f3)) ?_ ?_
    · rintro i x H4 H5 hi ⟨s4, e4⟩ ⟨rfl, hx⟩
      have hx : ((as.drop 1).map V.ref)[i]? = some x := hx
      rw [List.getElem?_map, List.getElem?_drop] at hx
      obtain ⟨y, hy⟩ : ∃ y, st[1 + i]? = some y := ⟨_, List.getElem?_eq_getElem (by rw [List.length_map, List.length_drop] at hi; omega)⟩
      obtain ⟨a, ha, ra⟩ := (st3.same s4).at_ hy
      rw [ha] at hx
      obtain rfl : V.ref a = x := Option.some.inj hx
      refine ⟨rfl, _, rfl, a, _, _, _, rfl, rfl, ra, rfl, _, e4, ?_, same_own s4 hD, ?_⟩
      · rw [List.length_map, List.length_take]
        exact small1000 (by rw [List.length_map, List.length_drop]; omega)
      · rw [upd_same]
        have ey : ((st.drop 1).map (·.1))[i]? = some y.1 := by rw [List.getElem?_map, List.getElem?_drop, hy]; rfl
        rw [List.take_succ, ey, List.map_append]
        rfl
    rintro H4 ⟨s4, e4⟩
    rw [List.length_map, List.length_drop, List.take_of_length_le (by rw [List.length_map, List.length_drop]; omega)] at e4
    refine ⟨_, _, rfl, rfl, ⟨by decide, by decide, by decide⟩, (by show 1 ≤ sizeLine; decide), fun u2 hu2 => ?_⟩
    generalize hX : upd H4 u2 _ = H5
    obtain ⟨S5, f5⟩ := alloc hu2 hX
    clear hX
    have f5 : H5 u2 = some (.lst [V.int 100000000000000000000]) := f5
    refine ⟨D, u2, _, _, rfl, rfl, S5 _ _ e4, f5, Nat.le_trans (show _ ≤ 42 by rw [List.length_map, List.length_map, List.length_drop]; show _ + 1 ≤ 42; omega) (by decide), fun u3 hu3 => ?_⟩
    generalize hX : upd H5 u3 _ = H6
    obtain ⟨S6, f6⟩ := alloc hu3 hX
    clear hX
    have S26 := S3.trans (s4.trans (S5.trans S6))
    have e6 := S26 _ _ e2
    have st6 := hst.same (S2.trans S26)
    have S16 := S1.trans (S2.trans S26)
    have bey : ∀ j, j < st.length → (((st.drop 1).map (·.1)).map V.int ++ [V.int 100000000000000000000])[j]? = some (V.int (beyondOf st j)) := fun j hj => by
      unfold beyondOf
      have ll : (((st.drop 1).map (·.1)).map V.int).length = st.length - 1 := by rw [List.length_map, List.length_map, List.length_drop]
      by_cases c : j + 1 < st.length
      · rw [List.getElem?_append_left (by omega), List.getElem?_map, List.getElem?_map, List.getElem?_drop, Nat.add_comm 1 j, List.getElem?_eq_getElem c]
        rfl
      · have z : st[j + 1]? = none := List.getElem?_eq_none (by omega)
        rw [z, List.getElem?_append_right (by omega), show j - (((st.drop 1).map (·.1)).map V.int).length = 0 by omega]
        rfl
    refine ⟨_, rfl, _, rfl, q, u3, _, _, rfl, .inl ⟨SqL.of e6, SqL.of f6, ?_⟩⟩
    refine for_it (walk_zip (n := st.length) (by rw [List.length_append, List.length_map, List.length_map, List.length_map, List.length_drop]; show st.length = min as.length (st.length - 1 + 1); omega)) (fun j σ H' => ∃ (so : Option What) (x5 x6 x7 : Option V), σ = [some (.ref t), some (.str l), some (.ref q), some (.ref u3), some (ovOr .non so), x5, x6, x7] ∧ Same H6 H' ∧ ((j = 0 ∧ so = none) ∨ ∃ i x, j = i + 1 ∧ st[i]? = some x ∧ so = some x.2))
      ⟨none, none, none, none, rfl, Same.refl _, .inl ⟨rfl, rfl⟩⟩ (fun j σ H' _ ⟨_, _, _, _, _, p, _⟩ => ⟨SqL.of (p _ _ e6), SqL.of (p _ _ f6)⟩) ?_ ?_
    · rintro j x σ _ H8 hj ⟨so, x5, x6, x7, rfl, S7, hso⟩ ⟨tt, y1, y2, rfl, htt, rfl, hy1, hy2⟩
      generalize hX : upd _ tt _ = H9
      obtain ⟨S9, f9⟩ := alloc htt hX
      clear hX
      have S79 := S7.trans S9
      obtain ⟨y, hy⟩ : ∃ y, st[j]? = some y := ⟨_, List.getElem?_eq_getElem hj⟩
      obtain ⟨a, ha, ra⟩ := (st6.same S79).at_ hy
      have hy1 : (as.map V.ref)[j]? = some y1 := hy1
      rw [List.getElem?_map, ha] at hy1
      obtain rfl : V.ref a = y1 := Option.some.inj hy1
      obtain rfl : V.int (beyondOf st j) = y2 := Option.some.inj ((bey j hj).symm.trans hy2)
      obtain ⟨lt, con⟩ := beyond_tell tell smem hy
      have L9 := hL.same (S16.trans S79)
      generalize beyondOf st j = b at *
      refine ⟨tt, _, rfl, SqT.of f9, rfl, _, _, rfl, _, _, rfl, rfl, ?_⟩
      -- three minutes of the step
      refine ⟨_, rfl, a, _, _, _, rfl, rfl, ra, rfl, ?_⟩
      refine ⟨_, rfl, a, _, _, _, rfl, rfl, ra, rfl, _, rfl, _, _, rfl, rfl, _, _, rfl, rfl, ⟨by decide, by decide⟩, ?_⟩
      refine ⟨_, rfl, _, _, rfl, rfl, (by show 3 ≤ sizeLine; decide), fun u4 hu4 => ?_⟩
      generalize hX : upd H9 u4 _ = H10
      obtain ⟨S10, f10⟩ := alloc hu4 hX
      clear hX
      refine ⟨u4, rfl, ⟨_, SqT.of f10⟩, ?_⟩
      have ra10 := same_seqT S10 ra
      have L10 := L9.same S10
      refine for_it (walk_tup (xs := [V.int y.1, V.int ((y.1 + b) / 2), V.int (b - 1)])) (fun i σ H' => ∃ x7 : Option V, σ = [some (.ref t), some (.str l), some (.ref q), some (.ref u3), some (ovOr .non so), some (.ref a), some (.int b), x7] ∧ H' = H10) ⟨x7, rfl, rfl⟩ (fun i σ H' _ ⟨_, _, q⟩ => q ▸ SqT.of f10) ?_ ?_
      · rintro i x σ _ H11 hi ⟨x7, rfl, rfl⟩ ⟨rfl, hx⟩
        obtain ⟨m, rfl, m1, m2⟩ : ∃ m : Int, x = V.int m ∧ y.1 ≤ m ∧ m < b := by
          have z : x = V.int y.1 ∨ x = V.int ((y.1 + b) / 2) ∨ x = V.int (b - 1) := by simpa using List.mem_of_getElem? hx
          rcases z with rfl | rfl | rfl <;> exact ⟨_, rfl, by omega, by omega⟩
        refine ⟨_, rfl, a, _, _, _, rfl, rfl, ra10, rfl, _, rfl, _, rfl, _, rfl, t, rs, l, m, .non, rfl, L10, ?_⟩
        rw [con m m1 m2]
        refine ⟨scal_what _ _, _, rfl, ?_⟩
        show if (!decide (y.2.v = y.2.v)) = true then _ else _
        rw [decide_eq_true rfl]
        exact ⟨_, rfl, rfl⟩
      · rintro σ H11 ⟨x7, rfl, rfl⟩
        have fin : ∃ (so' : Option What) (x5 x6 x7' : Option V), ([some (.ref t), some (.str l), some (.ref q), some (.ref u3), some y.2.v, some (.ref a), some (.int b), x7] : List (Option V)) = [some (.ref t), some (.str l), some (.ref q), some (.ref u3), some (ovOr .non so'), x5, x6, x7'] ∧ Same H6 H11 ∧ ((j + 1 = 0 ∧ so' = none) ∨ ∃ i x, j + 1 = i + 1 ∧ st[i]? = some x ∧ so' = some x.2) :=
          ⟨some y.2, _, _, _, rfl, S79.trans S10, .inr ⟨j, y, rfl, hy, rfl⟩⟩
        rcases hso with ⟨rfl, rfl⟩ | ⟨i, x, rfl, hx, rfl⟩
        · refine ⟨_, rfl, rfl, _, rfl, ?_⟩
          show if false = true then _ else _
          refine iteF ?_
          refine ⟨_, rfl, a, _, _, _, rfl, rfl, ra10, rfl, _, rfl, _, _, rfl, rfl, _, rfl, ?_⟩
          rw [decide_eq_false (show ¬ b ≤ y.1 by omega)]
          show if false = true then _ else _
          exact ⟨_, rfl, a, _, _, _, rfl, rfl, ra10, rfl, fin⟩
        · have nv := (tell.mid i x y hx hy).2.1
          obtain ⟨xm, xw⟩ := x
          cases xw with
          | order i' =>
            refine ⟨_, rfl, rfl, _, rfl, ?_⟩
            show if true = true then _ else _
            refine ⟨_, rfl, _, rfl, a, _, _, _, rfl, rfl, ra10, rfl, scal_what (.order i') _, _, rfl, ?_⟩
            rw [decide_eq_false (show ¬ (ovOr V.non (some (xm, What.order i').2) = y.2.v) from fun z => nv (What.v_inj (a := .order i') z))]
            show if false = true then _ else _
            refine ⟨_, rfl, a, _, _, _, rfl, rfl, ra10, rfl, _, rfl, _, _, rfl, rfl, _, rfl, ?_⟩
            rw [decide_eq_false (show ¬ b ≤ y.1 by omega)]
            show if false = true then _ else _
            exact ⟨_, rfl, a, _, _, _, rfl, rfl, ra10, rfl, fin⟩
          | name i' =>
            refine ⟨_, rfl, rfl, _, rfl, ?_⟩
            show if true = true then _ else _
            refine ⟨_, rfl, _, rfl, a, _, _, _, rfl, rfl, ra10, rfl, scal_what (.name i') _, _, rfl, ?_⟩
            rw [decide_eq_false (show ¬ (ovOr V.non (some (xm, What.name i').2) = y.2.v) from fun z => nv (What.v_inj (a := .name i') z))]
            show if false = true then _ else _
            refine ⟨_, rfl, a, _, _, _, rfl, rfl, ra10, rfl, _, rfl, _, _, rfl, rfl, _, rfl, ?_⟩
            rw [decide_eq_false (show ¬ b ≤ y.1 by omega)]
            show if false = true then _ else _
            exact ⟨_, rfl, a, _, _, _, rfl, rfl, ra10, rfl, fin⟩
    · rintro σ H8 ⟨so, x5, x6, x7, rfl, S7, hso⟩
      exact k _ (S16.trans S7)
theorem RowsAt.app {K : PySem.W.Frag} {H : Hp} {as bs : List Addr} {rs qs : List Row} (h : RowsAt K H as rs) (h2 : RowsAt K H bs qs) : RowsAt K H (as ++ bs) (rs ++ qs) := by
  induction h with
  | nil => exact h2
  | cons x _ ih => exact .cons x ih
/-- how many rows are no later than m -/
def upTo (rs : List Row) (m : Int) : Nat := (rs.filter fun r => decide (r.m ≤ m)).length
theorem upTo_le (rs : List Row) (m : Int) : upTo rs m ≤ rs.length := List.length_filter_le ..
/-- the log with a row more -/
def putIn (rs : List Row) (r : Row) : List Row := rs.take (upTo rs r.m) ++ [r] ++ rs.drop (upTo rs r.m)
def spPut (K : PySem.W.Frag) : Sp := fun vs H Q _ => ∃ (t a : Addr) (rs : List Row) (r : Row), vs = [.ref t, .ref a] ∧ LogAt K H t rs ∧ rs.length ≤ 40 ∧ RowAt K H a r ∧ ∀ H' q, Same H H' → LogAt K H' q (putIn rs r) → Q (.ref q) H'
theorem ok_put_in (T : Txt w K mg) : FnOk P w K mg base CX0 1 T.a_put_in T.d_put_in ["_law_log_here", "_law_row"] (spPut K) := by
  refine T.F_put_in.ok sc_put_in (fun vs H Q E h => ?_) (fun cdv A outer s H vs Q E hr h => ?_)
  · obtain ⟨t, a, rs, r, rfl, _⟩ := h
    rfl
  · obtain ⟨t, a, rs, r, rfl, hL, hlen, hr0, k⟩ := h
    refine ⟨_, (pss_cons (ps_set (i := 2) sc_put_in.nd rfl (by first | exact Or.inl rfl | exact Or.inr rfl) (pe_callB (k_len K) (by rfl) T.z_len (by decide +kernel) (pa_cons (pe_lc (own := [("_law_other", 3)]) rfl sc_put_in.nd (k_piT K (pv 0)) (blkOk_by (own := [("_law_other", 3)]) (N := ["_law_log_here", "_law_row", "_law_at", "_law_other"]) (sc := defScope s_put_in) (by decide +kernel)) (fun _ _ _ _ _ => (pg_name (i := 3) sc_put_in.nd rfl (by first | exact Or.inl rfl | exact Or.inr rfl))) (fun _ _ _ _ _ => (pts_one (pt_cmpR op_le (pe_ix (kx_tup K) (pv 3) pe_int (fun _ _ => rfl)) (pe_ix (kx_tup K) (pv 1) pe_int (fun _ _ => rfl)) (nomark _)))) (fun _ _ _ _ _ => (pv 3))) pa_nil)))
  (pss_one (ps_ret (pe_op (k_catU K) (pe_op (k_catU K) (pe_slice (k_slU K) (pv 0) po_none (po_some (pv 2))) (pe_tup (pa_cons (pv 1) pa_nil))) (pe_slice (k_slU K) (pv 0) (po_some (pv 2)) po_none))))), ?_⟩
    obtain ⟨as, hT, hR⟩ := id hL
    have la := hR.length
    refine ⟨_, rfl, t, rfl, ⟨_, hT⟩, fun D hD => ?_⟩
    refine lc_it walk_tup (fun i H' => Same H H' ∧ ∃ bs : List V, H' D = some (.lst bs) ∧ bs.length ≤ i ∧ bs.length = upTo (rs.take i) r.m) ⟨same_new (Same.refl _) hD, [], upd_same, Nat.le_refl _, by rw [List.take_zero]; rfl⟩ (fun i H' _ q => same_seqT q.1 hT) ?_ ?_
    · rintro i x H3 H4 hi ⟨s3, bs, e3, l3, r3⟩ ⟨rfl, hx⟩
      obtain ⟨a', ha, rfl⟩ : ∃ a, as[i]? = some a ∧ x = V.ref a := by
        have hx : (as.map V.ref)[i]? = some x := hx
        rw [List.getElem?_map] at hx
        cases z : as[i]? with
        | none => rw [z] at hx; cases hx
        | some a => rw [z] at hx; exact ⟨a, rfl, (Option.some.inj hx).symm⟩
      obtain ⟨r1, hr1, hr2⟩ := hR.get' ha
      rw [List.length_map, la] at hi
      have row := same_seqT s3 hr2
      have own := same_seqT s3 hr0
      have et : rs.take (i + 1) = rs.take i ++ [r1] := by rw [List.take_succ, hr1]; rfl
      refine ⟨rfl, _, rfl, a', _, _, _, rfl, rfl, row, rfl, _, rfl, a, _, _, _, rfl, rfl, own, rfl, _, _, rfl, rfl, _, rfl, ?_⟩
      rw [et, upTo, List.filter_append, List.length_append]
      refine ite2 (fun y => ?_) (fun y => ?_)
      · refine ⟨_, rfl, _, e3, small1000 (by omega), same_own s3 hD, bs ++ [V.ref a'], by rw [upd_same], by rw [List.length_append]; show _ + 1 ≤ i + 1; omega, ?_⟩
        rw [List.filter_cons_of_pos (p := fun q : Row => decide (q.m ≤ r.m)) y, List.length_append, r3]
        rfl
      · refine ⟨s3, bs, e3, by omega, ?_⟩
        rw [List.filter_cons_of_neg (p := fun q : Row => decide (q.m ≤ r.m)) y, List.filter_nil, r3]
        rfl
    rintro H3 ⟨s3, bs, e3, l3, r3⟩
    rw [List.length_map, la, List.take_length] at r3
    refine ⟨D, _, rfl, .inl (SqL.of e3), ?_⟩
    rw [r3]
    have ul := upTo_le rs r.m
    generalize hn : upTo rs r.m = n at *
    have hT3 := same_seqT s3 hT
    refine ⟨_, rfl, _, rfl, _, rfl, t, _, rfl, hT3, fun q1 H4 S4 sq1 => ?_⟩
    rw [cut_take _ _ (by rw [List.length_map]; omega), ← List.map_take] at sq1
    refine ⟨_, rfl, (by show 1 ≤ sizeLine; decide), fun u hu => ?_⟩
    generalize hX : upd H4 u _ = H5
    obtain ⟨S5, f5⟩ := alloc hu hX
    clear hX
    refine ⟨q1, u, _, _, rfl, rfl, same_seqT S5 sq1, SqT.of f5, by rw [List.length_map, List.length_take]; exact Nat.le_trans (show _ ≤ 42 by show _ + 1 ≤ 42; omega) (by decide), fun q2 H6 S6 sq2 => ?_⟩
    have S46 := S4.trans (S5.trans S6)
    refine ⟨_, rfl, _, rfl, _, rfl, t, _, rfl, same_seqT S46 hT3, fun q3 H7 S7 sq3 => ?_⟩
    rw [cut_drop, ← List.map_drop] at sq3
    refine ⟨q2, q3, _, _, rfl, rfl, same_seqT S7 sq2, sq3, by rw [List.length_append, List.length_map, List.length_map, List.length_take, List.length_drop]; exact Nat.le_trans (show _ ≤ 84 by show _ + 1 + _ ≤ 84; omega) (by decide), fun q4 H8 S8 sq4 => ?_⟩
    have S := s3.trans (S46.trans (S7.trans S8))
    refine k H8 q4 S ⟨as.take n ++ [a] ++ as.drop n, ?_, ?_⟩
    · rw [List.map_append, List.map_append]
      exact sq4
    · unfold putIn
      rw [hn]
      exact ((((hR.same S).take n).snoc (same_seqT S hr0))).app ((hR.same S).drop n)
theorem rising_tail {r : Row} {rs : List Row} (h : Rising (r :: rs)) : Rising rs := (List.pairwise_cons.mp h).2
theorem put_parts : ∀ {rs : List Row}, Rising rs → ∀ m : Int, (∀ x ∈ rs.take (upTo rs m), x.m ≤ m) ∧ ∀ x ∈ rs.drop (upTo rs m), m < x.m
  | [], _, m => ⟨fun x hx => (by simp at hx), fun x hx => (by simp at hx)⟩
  | r :: rs, h, m => by
    have ih := put_parts (rising_tail h) m
    by_cases c : r.m ≤ m
    · have e : upTo (r :: rs) m = upTo rs m + 1 := by
        unfold upTo
        rw [List.filter_cons_of_pos (by simpa using c)]
        rfl
      rw [e]
      refine ⟨fun x hx => ?_, ih.2⟩
      rcases List.mem_cons.mp hx with z | z
      · rw [z]
        exact c
      · exact ih.1 x z
    · have e : upTo (r :: rs) m = 0 := by
        unfold upTo
        rw [List.filter_cons_of_neg (by simpa using c), List.length_eq_zero_iff, List.filter_eq_nil_iff]
        intro x hx
        have := (List.pairwise_cons.mp h).1 x hx
        simp
        omega
      rw [e]
      refine ⟨fun x hx => (by simp at hx), fun x hx => ?_⟩
      rcases List.mem_cons.mp (show x ∈ r :: rs from hx) with z | z
      · rw [z]
        omega
      · have := (List.pairwise_cons.mp h).1 x z
        omega
theorem fold_none {l : Str} {m : Int} : ∀ {rs : List Row} (o : Option What), (∀ x ∈ rs, ¬ (x.l = l ∧ x.m ≤ m)) → rs.foldl (standStep l m) o = o
  | [], o, _ => rfl
  | r :: rs, o, h => by
    show rs.foldl (standStep l m) (standStep l m o r) = o
    rw [show standStep l m o r = o from if_neg (h r (by simp))]
    exact fold_none o fun x hx => h x (by simp [hx])
theorem fold_some {l : Str} {m : Int} : ∀ {rs : List Row} (o o' : Option What), (∃ x ∈ rs, x.l = l ∧ x.m ≤ m) → rs.foldl (standStep l m) o = rs.foldl (standStep l m) o'
  | [], o, o', ⟨x, hx, _⟩ => by simp at hx
  | r :: rs, o, o', ⟨x, hx, h⟩ => by
    show rs.foldl (standStep l m) (standStep l m o r) = rs.foldl (standStep l m) (standStep l m o' r)
    by_cases c : r.l = l ∧ r.m ≤ m
    · rw [show standStep l m o r = some r.w from if_pos c, show standStep l m o' r = some r.w from if_pos c]
    · rcases List.mem_cons.mp hx with z | z
      · subst z
        exact absurd h c
      · exact fold_some _ _ ⟨x, z, h⟩
theorem standTo_fold (rs : List Row) (l : Str) (m : Int) : ∀ i, standTo rs l m i = (rs.take i).foldl (standStep l m) none
  | 0 => rfl
  | i + 1 => by
    show (match rs[i]? with | some r => standStep l m (standTo rs l m i) r | none => standTo rs l m i) = _
    rw [standTo_fold rs l m i]
    cases z : rs[i]? with
    | none =>
      have ge : rs.length ≤ i := List.getElem?_eq_none_iff.mp z
      rw [List.take_of_length_le ge, List.take_of_length_le (by omega)]
    | some r =>
      rw [List.take_succ, z]
      show _ = (List.take i rs ++ [r]).foldl _ _
      rw [List.foldl_append]
      rfl
theorem stand_fold (rs : List Row) (l : Str) (m : Int) : standTo rs l m rs.length = rs.foldl (standStep l m) none := by
  rw [standTo_fold, List.take_length]
/-- the minutes behind a row's on its bell -/
def laterOf (rs : List Row) (l : Str) (m : Int) : List Int := (rs.filter fun r => decide (r.l = l) && decide (m < r.m)).map (·.m)
theorem laterOf_mem {rs : List Row} {l : Str} {m k : Int} : k ∈ laterOf rs l m ↔ ∃ x ∈ rs, x.l = l ∧ m < x.m ∧ x.m = k := by
  unfold laterOf
  rw [List.mem_map]
  constructor
  · rintro ⟨x, hx, rfl⟩
    obtain ⟨h1, h2⟩ := List.mem_filter.mp hx
    simp only [Bool.and_eq_true, decide_eq_true_eq] at h2
    exact ⟨x, h1, h2.1, h2.2, rfl⟩
  · rintro ⟨x, h1, h2, h3, rfl⟩
    exact ⟨x, List.mem_filter.mpr ⟨h1, by simp [h2, h3]⟩, rfl⟩
/-- what stands with a row more -/
theorem stand_put {rs : List Row} (h : Rising rs) (r : Row) (l : Str) (m : Int) : standTo (putIn rs r) l m (putIn rs r).length = if r.l = l ∧ r.m ≤ m ∧ ∀ k ∈ laterOf rs l r.m, m < k then some r.w else standTo rs l m rs.length := by
  rw [stand_fold, stand_fold, show rs.foldl (standStep l m) none = (rs.take (upTo rs r.m) ++ rs.drop (upTo rs r.m)).foldl (standStep l m) none by rw [List.take_append_drop]]
  unfold putIn
  rw [List.foldl_append, List.foldl_append, List.foldl_append]
  obtain ⟨p1, p2⟩ := put_parts h r.m
  generalize List.foldl (standStep l m) none (rs.take (upTo rs r.m)) = o
  show List.foldl (standStep l m) (standStep l m o r) _ = _
  have dm : ∀ x ∈ rs, r.m < x.m → x ∈ rs.drop (upTo rs r.m) := fun x hx lt => by
    have z : x ∈ rs.take (upTo rs r.m) ++ rs.drop (upTo rs r.m) := by rw [List.take_append_drop]; exact hx
    rcases List.mem_append.mp z with z | z
    · have := p1 x z
      omega
    · exact z
  have md : ∀ x ∈ rs.drop (upTo rs r.m), x ∈ rs := fun x hx => List.mem_of_mem_drop hx
  generalize rs.drop (upTo rs r.m) = B at *
  by_cases c : r.l = l ∧ r.m ≤ m
  · rw [show standStep l m o r = some r.w from if_pos c]
    by_cases d : ∀ k ∈ laterOf rs l r.m, m < k
    · rw [if_pos ⟨c.1, c.2, d⟩]
      refine fold_none _ fun x hx q => ?_
      have := d x.m (laterOf_mem.mpr ⟨x, md x hx, q.1, p2 x hx, rfl⟩)
      omega
    · rw [if_neg (fun q => d q.2.2)]
      refine fold_some _ _ ?_
      by_cases e : ∃ x ∈ B, x.l = l ∧ x.m ≤ m
      · exact e
      · refine absurd (fun k hk => ?_) d
        obtain ⟨x, h1, h2, h3, rfl⟩ := laterOf_mem.mp hk
        by_cases f : m < x.m
        · exact f
        · exact absurd ⟨x, dm x h1 h3, h2, by omega⟩ e
  · rw [show standStep l m o r = o from if_neg c, if_neg (fun q => c ⟨q.1, q.2.1⟩)]
def ovD : Option What → PyData
  | none => .none
  | some x => x.d
theorem ov_dp {K : PySem.W.Frag} {H : Hp} (x : Option What) : Dp K H (ovOr .non x) (ovD x) := by
  cases x with
  | none => exact .non
  | some x => exact x.dp
theorem ov_rep {rs : List Row} {l : Str} {m : Int} (ok : ∀ r ∈ rs, r.Ok) : RepOk (ovD (standTo rs l m rs.length)) 0 8 := by
  cases z : standTo rs l m rs.length with
  | none => exact RepOk.none.mono (by decide) (by decide)
  | some x =>
    obtain ⟨r, hr, e, _⟩ := standTo_mem z
    refine What.rep ?_
    rcases (ok r hr).wh with ⟨_, t, q, w⟩ | ⟨_, i, q, w⟩
    · exact .inr ⟨t, by rw [← e, q], w⟩
    · exact .inl ⟨i, by rw [← e, q], w⟩
theorem put_ok {rs : List Row} {r : Row} (ok : ∀ r ∈ rs, r.Ok) (h : r.Ok) : ∀ x ∈ putIn rs r, x.Ok := fun x hx => by
  unfold putIn at hx
  rcases List.mem_append.mp hx with z | z
  · rcases List.mem_append.mp z with z | z
    · exact ok x (List.mem_of_mem_take z)
    · obtain rfl : x = r := by simpa using z
      exact h
  · exact ok x (List.mem_of_mem_drop z)
theorem eqv_nil (ds : List PyData) : PyData.eqv (.list ds) (.list []) = decide (ds = []) := by
  cases ds <;> rfl
def spMore (K : PySem.W.Frag) : Sp := fun vs H Q _ => ∃ (t a : Addr) (rs : List Row) (r : Row) (l : Str), vs = [.ref t, .ref a, .str l] ∧ LogAt K H t rs ∧ rs.length ≤ 40 ∧ (∀ r ∈ rs, r.Ok) ∧ Rising rs ∧ RowAt K H a r ∧ r.Ok ∧ ∀ H', Same H H' → Q (.bl true) H'
theorem ok_more_right (T : Txt w K mg) : GOk P w K mg base CX0 2 T.a_more_right T.d_more_right ["_law_log_here", "_law_row", "_law_line"] (spMore K) := by
  have G_put_in := ok_put_in (P := P) (base := base) T
  have G_standing := ok_standing (P := P) (base := base) T
  refine GOk.body T.F_more_right sc_more_right (fun vs H Q E h => ?_) (fun cdv A outer s H vs Q E hr hG h => ?_)
  · obtain ⟨t, a, rs, r, l, rfl, _⟩ := h
    rfl
  · obtain ⟨t, a, rs, r, l, rfl, hL, hlen, oks, ris, hr0, okr, k⟩ := h
    have hr_put_in := hr
    have hr_standing := hr
    refine ⟨_, (pss_cons (ps_set (i := 3) sc_more_right.nd rfl (by first | exact Or.inl rfl | exact Or.inr rfl) (pe_call G_put_in hr_put_in (by rfl) T.g_put_in T.F_put_in.kp T.b_put_in .nil pass0 (pa_cons (pv 0) (pa_cons (pv 1) pa_nil))))
  (pss_cons (ps_setLc (i := 4) (own := [("_law_other", 9)]) rfl sc_more_right.nd rfl rfl (sw_true rfl rfl rfl (by decide +kernel)) (k_piT K (pv 0)) (blkOk_by (own := [("_law_other", 9)]) (N := ["_law_log_here", "_law_row", "_law_line", "_law_more", "_law_later", "_law_beyond", "_law_minutes", "_law_minute", "_law_due", "_law_other"]) (sc := defScope s_more_right) (by decide +kernel)) (fun _ _ _ _ _ => (pg_name (i := 9) sc_more_right.nd rfl (by first | exact Or.inl rfl | exact Or.inr rfl))) (fun _ _ _ _ _ => (pts_one (PW.pt (pw_and (pt_cmpR op_eq (pe_ix (kx_tup K) (pv 9) pe_int (fun _ _ => rfl)) (pv 2) (nomark _)) (pw_and1 (pt_cmpR op_gt (pe_ix (kx_tup K) (pv 9) pe_int (fun _ _ => rfl)) (pe_ix (kx_tup K) (pv 1) pe_int (fun _ _ => rfl)) (nomark _))))))) (fun _ _ _ _ _ => (pe_ix (kx_tup K) (pv 9) pe_int (fun _ _ => rfl))))
  (pss_cons (ps_set (i := 5) sc_more_right.nd rfl (by first | exact Or.inl rfl | exact Or.inr rfl) (pe_callBK (k_minDef K rfl hr.units) (by rfl) T.z_min (by decide +kernel) (pa_cons (pv 4) pa_nil) (pk_cons (pe_op op_pow pe_int pe_int) pk_nil)))
  (pss_cons (ps_set (i := 6) sc_more_right.nd rfl (by first | exact Or.inl rfl | exact Or.inr rfl) (pe_op op_cat (pe_lc (own := [("_law_other", 9)]) rfl sc_more_right.nd (k_piT K (pv 0)) (blkOk_by (own := [("_law_other", 9)]) (N := ["_law_log_here", "_law_row", "_law_line", "_law_more", "_law_later", "_law_beyond", "_law_minutes", "_law_minute", "_law_due", "_law_other"]) (sc := defScope s_more_right) (by decide +kernel)) (fun _ _ _ _ _ => (pg_name (i := 9) sc_more_right.nd rfl (by first | exact Or.inl rfl | exact Or.inr rfl))) (fun _ _ _ _ _ => pts_nil) (fun _ _ _ _ _ => (pe_ix (kx_tup K) (pv 9) pe_int (fun _ _ => rfl)))) (pe_lst (pa_cons (pe_ix (kx_tup K) (pv 1) pe_int (fun _ _ => rfl)) (pa_cons (pe_op op_sub (pe_ix (kx_tup K) (pv 1) pe_int (fun _ _ => rfl)) pe_int) (pa_cons (pe_op op_add (pe_ix (kx_tup K) (pv 1) pe_int (fun _ _ => rfl)) pe_int) (pa_cons (pv 5) (pa_cons (pe_op op_sub (pv 5) pe_int) (pa_cons pe_int pa_nil)))))))))
  (pss_cons (ps_for PassesOwn.never rfl (k_piL K (pv 6)) (pg_name (i := 7) sc_more_right.nd rfl (by first | exact Or.inl rfl | exact Or.inr rfl)) (pss_cons (ps_set (i := 8) sc_more_right.nd rfl (by first | exact Or.inl rfl | exact Or.inr rfl) (pe_call G_standing hr_standing (by rfl) T.g_standing T.F_standing.kp T.b3_standing T.v3_standing pass0 (pa_cons (pv 0) (pa_cons (pv 2) (pa_cons (pv 7) pa_nil)))))
  (C8.pss_cut (ps_if (PW.pt (pw_and (pt_cmpR op_eq (pe_ix (kx_tup K) (pv 1) pe_int (fun _ _ => rfl)) (pv 2) (nomark _)) (pw_and (pt_cmpR op_le (pe_ix (kx_tup K) (pv 1) pe_int (fun _ _ => rfl)) (pv 7) (nomark _)) (pw_and1 (PW.pt (pw_or (pt_cmpR (k_eqD K hr.units) (pv 4) (pe_lst pa_nil) (nomark _)) (pw_or1 (pt_cmpR op_lt (pv 7) (pv 5) (nomark _))))))))) (pss_one (ps_set (i := 8) sc_more_right.nd rfl (by first | exact Or.inl rfl | exact Or.inr rfl) (pe_ix (kx_tup K) (pv 1) pe_int (fun _ _ => rfl)))) pss_nil)
  (pss_one (ps_if (pt_cmpR op_ne (pe_callB (k_repr K hG hr.units) (by rfl) T.z_repr (by decide +kernel) (pa_cons (pe_call G_standing hr_standing (by rfl) T.g_standing T.F_standing.kp T.b3_standing T.v3_standing pass0 (pa_cons (pv 3) (pa_cons (pv 2) (pa_cons (pv 7) pa_nil)))) pa_nil)) (pe_callB (k_repr K hG hr.units) (by rfl) T.z_repr (by decide +kernel) (pa_cons (pv 8) pa_nil)) (nomark _)) (pss_one (ps_ret pe_bl)) pss_nil)))))
  (pss_one (ps_ret pe_bl))))))), ?_⟩
    refine ⟨_, rfl, _, rfl, t, a, rs, r, rfl, hL, hlen, hr0, fun H1 t2 S1 L1 => ?_⟩
    obtain ⟨as, hT, hR⟩ := id (hL.same S1)
    have la := hR.length
    have hr1 := same_seqT S1 hr0
    -- the minutes behind
    refine ⟨_, rfl, t, rfl, ⟨_, hT⟩, fun D hD => ?_⟩
    refine lc_it walk_tup (fun i H' => Same H1 H' ∧ ∃ ns : List Int, H' D = some (.lst (ns.map V.int)) ∧ ns.length ≤ i ∧ ns = laterOf (rs.take i) l r.m) ⟨same_new (Same.refl _) hD, [], upd_same, Nat.le_refl _, by rw [List.take_zero]; rfl⟩ (fun i H' _ q => same_seqT q.1 hT) ?_ ?_
    · rintro i x H3 H4 hi ⟨s3, bs, e3, l3, r3⟩ ⟨rfl, hx⟩
      obtain ⟨a', ha, rfl⟩ : ∃ a, as[i]? = some a ∧ x = V.ref a := by
        have hx : (as.map V.ref)[i]? = some x := hx
        rw [List.getElem?_map] at hx
        cases z : as[i]? with
        | none => rw [z] at hx; cases hx
        | some a => rw [z] at hx; exact ⟨a, rfl, (Option.some.inj hx).symm⟩
      obtain ⟨r1, hq1, hq2⟩ := hR.get' ha
      rw [List.length_map, la] at hi
      have row := same_seqT s3 hq2
      have own := same_seqT s3 hr1
      have et : laterOf (rs.take (i + 1)) l r.m = laterOf (rs.take i) l r.m ++ (if (decide (r1.l = l) && decide (r.m < r1.m)) = true then [r1.m] else []) := by
        rw [List.take_succ, hq1]
        show laterOf (rs.take i ++ [r1]) l r.m = _
        unfold laterOf
        rw [List.filter_append, List.map_append]
        congr 1
        by_cases z : (decide (r1.l = l) && decide (r.m < r1.m)) = true
        · rw [List.filter_cons_of_pos (p := fun q : Row => decide (q.l = l) && decide (r.m < q.m)) z, if_pos z]
          rfl
        · rw [List.filter_cons_of_neg (p := fun q : Row => decide (q.l = l) && decide (r.m < q.m)) z, if_neg z]
          rfl
      rw [et, ← r3]
      refine ⟨rfl, _, rfl, a', _, _, _, rfl, rfl, row, rfl, _, rfl, rfl, _, rfl, ?_⟩
      have es : decide (V.str r1.l = V.str l) = decide (r1.l = l) := by
        rw [Bool.eq_iff_iff, decide_eq_true_iff, decide_eq_true_iff]
        exact ⟨fun z => (V.str.inj z), fun z => congrArg V.str z⟩
      rw [es]
      refine ite2 (fun y => ?_) (fun y => ?_)
      · refine ⟨_, rfl, a', _, _, _, rfl, rfl, row, rfl, _, rfl, a, _, _, _, rfl, rfl, own, rfl, _, _, rfl, rfl, _, rfl, ?_⟩
        refine ite2 (fun y2 => ?_) (fun y2 => ?_)
        · rw [if_pos (show (decide (r1.l = l) && decide (r.m < r1.m)) = true by rw [y, y2]; rfl)]
          refine ⟨_, rfl, a', _, _, _, rfl, rfl, row, rfl, _, e3, by rw [List.length_map]; exact small1000 (by omega), same_own s3 hD, bs ++ [r1.m], by rw [upd_same, List.map_append]; rfl, by rw [List.length_append]; show _ + 1 ≤ i + 1; omega, rfl⟩
        · rw [if_neg (fun z => y2 ((Bool.and_eq_true_iff.mp z).2)), List.append_nil]
          exact ⟨s3, bs, e3, by omega, rfl⟩
      · rw [if_neg (fun z => y ((Bool.and_eq_true_iff.mp z).1)), List.append_nil]
        exact ⟨s3, bs, e3, by omega, rfl⟩
    rintro H3 ⟨s3, bs, e3, l3, r3⟩
    rw [List.length_map, la, List.take_length] at r3
    refine ⟨_, rfl, _, _, rfl, rfl, ⟨by decide, by decide, by decide⟩, D, bs, _, rfl, rfl, SqL.of e3, fun b hb => ?_⟩
    have h3 := same_seqT s3 hT
    have own3 := same_seqT s3 hr1
    -- the minutes that are looked at
    refine ⟨_, rfl, t, rfl, ⟨_, h3⟩, fun M0 hM0 => ?_⟩
    refine lc_it walk_tup (fun i H' => Same H3 H' ∧ ∃ ns : List Int, H' M0 = some (.lst (ns.map V.int)) ∧ ns.length ≤ i) ⟨same_new (Same.refl _) hM0, [], upd_same, Nat.le_refl _⟩ (fun i H' _ q => same_seqT q.1 h3) ?_ ?_
    · rintro i x H4 H5 hi ⟨s4, ns, e4, l4⟩ ⟨rfl, hx⟩
      obtain ⟨a', ha, rfl⟩ : ∃ a, as[i]? = some a ∧ x = V.ref a := by
        have hx : (as.map V.ref)[i]? = some x := hx
        rw [List.getElem?_map] at hx
        cases z : as[i]? with
        | none => rw [z] at hx; cases hx
        | some a => rw [z] at hx; exact ⟨a, rfl, (Option.some.inj hx).symm⟩
      obtain ⟨r1, hq1, hq2⟩ := hR.get' ha
      rw [List.length_map, la] at hi
      have row := same_seqT (s3.trans s4) hq2
      exact ⟨rfl, _, rfl, a', _, _, _, rfl, rfl, row, rfl, _, e4, by rw [List.length_map]; exact small1000 (by omega), same_own s4 hM0, ns ++ [r1.m], by rw [upd_same, List.map_append]; rfl, by rw [List.length_append]; show _ + 1 ≤ i + 1; omega⟩
    rintro H4 ⟨s4, ns, e4, l4⟩
    rw [List.length_map, la] at l4
    have own4 := same_seqT s4 own3
    refine ⟨_, rfl, a, _, _, _, rfl, rfl, own4, rfl, _, rfl, a, _, _, _, rfl, rfl, own4, rfl, _, _, rfl, rfl, _, rfl, a, _, _, _, rfl, rfl, own4, rfl, _, _, rfl, rfl, _, rfl, _, rfl, _, _, rfl, rfl, (by show 6 ≤ sizeLine; decide), fun u hu => ?_⟩
    generalize hX : upd H4 u _ = H5
    obtain ⟨S5, f5⟩ := alloc hu hX
    clear hX
    have f5 : H5 u = some (.lst ([r.m, r.m - 1, r.m + 1, b, b - 1, 99999].map V.int)) := f5
    refine ⟨M0, u, _, _, rfl, rfl, S5 _ _ e4, f5, Nat.le_trans (show _ ≤ 46 by rw [List.length_map, List.length_map]; show _ + 6 ≤ 46; omega) (by decide), fun u2 hu2 => ?_⟩
    rw [← List.map_append]
    generalize hX : upd H5 u2 _ = H6
    obtain ⟨S6, f6⟩ := alloc hu2 hX
    clear hX
    generalize ns ++ [r.m, r.m - 1, r.m + 1, b, b - 1, 99999] = ms at f6
    have S36 := s4.trans (S5.trans S6)
    have S16 := s3.trans S36
    have L6 := (hL.same S1).same S16
    have L26 := L1.same S16
    have own6 := same_seqT S16 hr1
    have e6 := S36 _ _ e3
    have oks2 := put_ok oks okr
    have stp := fun m => stand_put ris r l m
    rw [List.length_map, la] at l3
    have lb : bs.length ≤ 40 := by omega
    -- what is the least of them
    have least : ∀ m : Int, (∀ k ∈ bs, m < k) ↔ (bs = [] ∨ m < b) := fun m => by
      rcases hb with ⟨z, _⟩ | ⟨z1, z2⟩
      · rw [z]
        exact ⟨fun _ => .inl rfl, fun _ k hk => (by simp at hk)⟩
      · constructor
        · exact fun q => .inr (q b z1)
        · rintro (q | q) k hk
          · rw [q] at hk
            simp at hk
          · have := z2 k hk
            omega
    rw [← r3] at stp
    have bsm : ∀ x ∈ bs, 0 ≤ x ∧ x ≤ 99999 := fun x hx => by
      rw [r3] at hx
      obtain ⟨y, h1, _, _, rfl⟩ := laterOf_mem.mp hx
      exact ⟨(oks y h1).m0, (oks y h1).m1⟩
    clear hb r3
    refine ⟨_, rfl, u2, rfl, ⟨_, SqL.of f6⟩, ?_⟩
    refine for_it (walk_list (xs := ms.map V.int)) (fun i σ H' => ∃ (x7 x8 : Option V), σ = [some (.ref t), some (.ref a), some (.str l), some (.ref t2), some (.ref D), some (.int b), some (.ref u2), x7, x8, none] ∧ Same H6 H') ⟨_, _, rfl, Same.refl _⟩ (fun i σ H' _ ⟨_, _, _, q⟩ => SqL.of (q _ _ f6)) ?_ ?_
    · rintro i x σ _ H7 hi ⟨x7, x8, rfl, S7⟩ ⟨rfl, hx⟩
      have hx : (ms.map V.int)[i]? = some x := hx
      obtain ⟨m, rfl⟩ : ∃ m : Int, x = V.int m := by
        obtain ⟨m, _, e⟩ := List.mem_map.mp (List.mem_of_getElem? hx)
        exact ⟨m, e.symm⟩
      have own7 := same_seqT S7 own6
      refine ⟨_, rfl, _, rfl, _, rfl, t, rs, l, m, .non, rfl, L6.same S7, ?_⟩
      have st := stp m
      have lst := least m
      refine ⟨fun σ2 H2 => ∃ x8 : Option V, σ2 = [some (.ref t), some (.ref a), some (.str l), some (.ref t2), some (.ref D), some (.int b), some (.ref u2), some (.int m), some (ovOr .non (standTo (putIn rs r) l m (putIn rs r).length)), none] ∧ Same H6 H2, ?_, ?_⟩
      · refine ⟨_, rfl, a, _, _, _, rfl, rfl, own7, rfl, _, rfl, rfl, _, rfl, ?_⟩
        have es : decide (V.str r.l = V.str l) = decide (r.l = l) := by
          rw [Bool.eq_iff_iff, decide_eq_true_iff, decide_eq_true_iff]
          exact ⟨fun z => (V.str.inj z), fun z => congrArg V.str z⟩
        rw [es]
        refine ite2 (fun y => ?_) (fun y => ?_)
        · have y := of_decide_eq_true y
          refine ⟨_, rfl, a, _, _, _, rfl, rfl, own7, rfl, _, rfl, _, _, rfl, rfl, _, rfl, ite2 (fun y2 => ?_) (fun y2 => ?_)⟩
          · have y2 := of_decide_eq_true y2
            refine ⟨_, rfl, (by show 0 ≤ sizeLine; decide), fun z hz => ?_⟩
            generalize hX : upd H7 z _ = H8
            obtain ⟨S8, f8⟩ := alloc hz hX
            clear hX
            have S68 := S7.trans S8
            have own8 := same_seqT S8 own7
            refine ⟨.list (bs.map PyData.int), .list [], .lst (SqL.of (S68 _ _ e6)) (dpAll_ints bs), .lst (SqL.of f8) .nil, (ints_rep (fun n hn => by have := bsm n hn; exact Nat.lt_of_le_of_lt (show n.natAbs ≤ 99999 by omega) (by decide +kernel)) lb).shaped (by decide), by decide +kernel, _, rfl, ?_⟩
            rw [eqv_nil]
            show if decide (bs.map PyData.int = []) = true then _ else _
            refine ite2 (fun y3 => ?_) (fun y3 => ?_)
            · have y3 : bs = [] := List.map_eq_nil_iff.mp (of_decide_eq_true y3)
              rw [if_pos ⟨y, y2, lst.mpr (.inl y3)⟩] at st
              exact ⟨_, rfl, a, _, _, _, rfl, rfl, own8, rfl, none, by rw [st]; rfl, S68⟩
            · have y3 : ¬ bs = [] := fun z => y3 (by rw [z]; rfl)
              refine ⟨_, rfl, _, rfl, _, _, rfl, rfl, _, rfl, ite2 (fun y4 => ?_) (fun y4 => ?_)⟩
              · rw [if_pos ⟨y, y2, lst.mpr (.inr (of_decide_eq_true y4))⟩] at st
                exact ⟨_, rfl, a, _, _, _, rfl, rfl, own8, rfl, none, by rw [st]; rfl, S68⟩
              · rw [if_neg (fun q => (lst.mp q.2.2).elim y3 fun z => y4 (decide_eq_true z))] at st
                exact ⟨none, by rw [st]; rfl, S68⟩
          · rw [if_neg (fun q => y2 (decide_eq_true q.2.1))] at st
            exact ⟨none, by rw [st]; rfl, S7⟩
        · rw [if_neg (fun q => y (decide_eq_true q.1))] at st
          exact ⟨none, by rw [st]; rfl, S7⟩
      · rintro σ2 H2 ⟨x8, rfl, S8⟩
        refine ⟨_, rfl, _, rfl, _, rfl, t2, putIn rs r, l, m, .non, rfl, L26.same S8, ?_⟩
        refine ⟨_, _, _, _, rfl, ov_dp _, ov_rep oks2, by decide, by decide, ?_⟩
        refine ⟨_, rfl, _, _, _, _, rfl, ov_dp _, ov_rep oks2, by decide, by decide, rfl, _, rfl, ?_⟩
        rw [decide_eq_true rfl]
        show if false = true then _ else _
        exact ⟨_, _, rfl, S8⟩
    · rintro σ H7 ⟨x7, x8, rfl, S7⟩
      exact k _ (S1.trans (S16.trans S7))
theorem eqv_rep {d : PyData} {k n : Nat} (h : RepOk d k n) : PyData.eqv d d = true := PySem.SeqAt.eqv_refl d h.cl
def Row.by (r : Row) (k : Int) : Row := ⟨r.m + k, r.l, r.w⟩
theorem stand_by (rs : List Row) (l : Str) (m k : Int) : standTo (rs.map fun r => r.by k) l (m + k) (rs.map fun r => r.by k).length = standTo rs l m rs.length := by
  rw [stand_fold, stand_fold, List.foldl_map]
  congr 1
  funext o r
  show (if r.l = l ∧ r.m + k ≤ m + k then some r.w else o) = (if r.l = l ∧ r.m ≤ m then some r.w else o)
  by_cases c : r.l = l ∧ r.m ≤ m
  · rw [if_pos c, if_pos ⟨c.1, by omega⟩]
  · rw [if_neg c, if_neg fun q => c ⟨q.1, by omega⟩]
theorem Mins.by {rs : List Row} {l : Str} {ns : List Int} (h : Mins rs l ns) (k : Int) : Mins (rs.map fun r => r.by k) l (ns.map (· + k)) := ⟨by
  rw [List.pairwise_map]
  exact h.asc.imp fun q => by omega, fun m => by
  rw [List.mem_map]
  constructor
  · rintro ⟨n, hn, rfl⟩
    obtain ⟨r, h1, h2, h3⟩ := (h.mem n).mp hn
    exact ⟨r.by k, List.mem_map.mpr ⟨r, h1, rfl⟩, h2, by show r.m + k = n + k; omega⟩
  · rintro ⟨r, hr, h2, h3⟩
    obtain ⟨q, hq, rfl⟩ := List.mem_map.mp hr
    exact ⟨q.m, (h.mem q.m).mpr ⟨q, hq, h2, rfl⟩, h3⟩⟩
def stBy (k : Int) (x : Int × What) : Int × What := (x.1 + k, x.2)
theorem steps_by {rs : List Row} {l : Str} {ns : List Int} (h : Mins rs l ns) (k : Int) : ∀ i, i ≤ ns.length → stepsTo (rs.map fun r => r.by k) l (ns.map (· + k)) i = (stepsTo rs l ns i).map (stBy k)
  | 0, _ => rfl
  | i + 1, hi => by
    have ih := steps_by h k i (by omega)
    obtain ⟨n, hn⟩ : ∃ n, ns[i]? = some n := ⟨_, List.getElem?_eq_getElem (by omega)⟩
    obtain ⟨w, hw⟩ := h.has (List.mem_of_getElem? hn)
    have hn' : (ns.map (· + k))[i]? = some (n + k) := by rw [List.getElem?_map, hn]; rfl
    rw [stepsTo_succ hn hw, stepsTo_succ hn' (by rw [stand_by]; exact hw), ih, show n + k - 1 = n - 1 + k by omega, stand_by]
    split
    · rfl
    · rw [List.map_append]
      rfl
def spLater (K : PySem.W.Frag) : Sp := fun vs H Q _ => ∃ (p c t : Addr) (n : Nat) (rs : List Row) (l : Str), vs = [.ref p, .ref t, .str l] ∧ PenAt H p c n ∧ Cells K H p c ∧ n ≤ 900000 ∧ LogAt K H t rs ∧ rs.length ≤ 40 ∧ (∀ r ∈ rs, r.Ok) ∧ ∀ H', Go K p c H (n + 2) H' → Q (.bl true) H'
theorem ok_later_right (T : Txt w K mg) : GOk P w K mg base CX0 3 T.a_later_right T.d_later_right ["_law_pen_here", "_law_log_here", "_law_line"] (spLater K) := by
  have G_draw := ok_draw (P := P) (base := base) T
  have G_steps := ok_steps (P := P) (base := base) T
  have G_standing := ok_standing (P := P) (base := base) T
  refine GOk.body T.F_later_right sc_later_right (fun vs H Q E h => ?_) (fun cdv A outer s H vs Q E hr hG h => ?_)
  · obtain ⟨p, c, t, n, rs, l, rfl, _⟩ := h
    rfl
  · obtain ⟨p, c, t, n, rs, l, rfl, hp, hc, hn, hL, hlen, oks, k⟩ := h
    have hr_steps := hr
    have hr_draw := hr.mono (show 1 ≤ 2 by decide)
    have hr_standing := hr_draw
    refine ⟨_, (pss_cons (ps_set (i := 3) sc_later_right.nd rfl (by first | exact Or.inl rfl | exact Or.inr rfl) (pe_op op_sub pe_int (pe_callBK (k_maxDef K rfl hr.units) (by rfl) T.z_max (by decide +kernel) (pa_cons (pe_lc (own := [("_law_row", 7)]) rfl sc_later_right.nd (k_piT K (pv 1)) (blkOk_by (own := [("_law_row", 7)]) (N := ["_law_pen_here", "_law_log_here", "_law_line", "_law_room", "_law_many", "_law_later", "_law_minute", "_law_row", "_law_order"]) (sc := defScope s_later_right) (by decide +kernel)) (fun _ _ _ _ _ => (pg_name (i := 7) sc_later_right.nd rfl (by first | exact Or.inl rfl | exact Or.inr rfl))) (fun _ _ _ _ _ => pts_nil) (fun _ _ _ _ _ => (pe_ix (kx_tup K) (pv 7) pe_int (fun _ _ => rfl)))) pa_nil) (pk_cons pe_int pk_nil))))
  (pss_cons (ps_set (i := 4) sc_later_right.nd rfl (by first | exact Or.inl rfl | exact Or.inr rfl) (pe_call G_draw hr_draw (by rfl) T.g_draw T.F_draw.kp T.b_draw .nil pass0 (pa_cons (pv 0) (pa_cons (pe_op op_add (pv 3) pe_int) pa_nil))))
  (pss_cons (ps_set (i := 5) sc_later_right.nd rfl (by first | exact Or.inl rfl | exact Or.inr rfl) (pe_callTy (k_tupOf K) (by rfl) T.z_tuple (by decide +kernel) (pa_cons (pe_lc (own := [("_law_row", 7)]) rfl sc_later_right.nd (k_piT K (pv 1)) (blkOk_by (own := [("_law_row", 7)]) (N := ["_law_pen_here", "_law_log_here", "_law_line", "_law_room", "_law_many", "_law_later", "_law_minute", "_law_row", "_law_order"]) (sc := defScope s_later_right) (by decide +kernel)) (fun _ _ _ _ _ => (pg_name (i := 7) sc_later_right.nd rfl (by first | exact Or.inl rfl | exact Or.inr rfl))) (fun _ _ _ _ _ => pts_nil) (fun _ _ _ _ _ => (pe_tup (pa_cons (pe_op op_add (pe_ix (kx_tup K) (pv 7) pe_int (fun _ _ => rfl)) (pv 4)) (pa_cons (pe_ix (kx_tup K) (pv 7) pe_int (fun _ _ => rfl)) (pa_cons (pe_ix (kx_tup K) (pv 7) pe_int (fun _ _ => rfl)) pa_nil)))))) pa_nil)))
  (pss_cons (ps_if (pt_cmpR (k_neD K hr.units) (pe_lc (own := [("_law_minute", 6), ("_law_order", 8)]) rfl sc_later_right.nd (k_piL K (pe_call G_steps hr_steps (by rfl) T.g_steps T.F_steps.kp T.b_steps .nil pass0 (pa_cons (pv 1) (pa_cons (pv 2) pa_nil)))) (blkOk_by (own := [("_law_minute", 6), ("_law_order", 8)]) (N := ["_law_pen_here", "_law_log_here", "_law_line", "_law_room", "_law_many", "_law_later", "_law_minute", "_law_row", "_law_order"]) (sc := defScope s_later_right) (by decide +kernel)) (fun _ _ _ _ _ => (k_pgT (n := 2) K rfl (pgs_cons (pg_name (i := 6) sc_later_right.nd rfl (by first | exact Or.inl rfl | exact Or.inr rfl)) (pgs_cons (pg_name (i := 8) sc_later_right.nd rfl (by first | exact Or.inl rfl | exact Or.inr rfl)) pgs_nil)))) (fun _ _ _ _ _ => pts_nil) (fun _ _ _ _ _ => (pe_tup (pa_cons (pe_op op_add (pv 6) (pv 4)) (pa_cons (pv 8) pa_nil))))) (pe_call G_steps hr_steps (by rfl) T.g_steps T.F_steps.kp T.b_steps .nil pass0 (pa_cons (pv 5) (pa_cons (pv 2) pa_nil))) (nomark _)) (pss_one (ps_ret pe_bl)) pss_nil)
  (pss_cons (ps_for PassesOwn.never rfl (k_piL K (pe_op op_cat (pe_lc (own := [("_law_row", 7)]) rfl sc_later_right.nd (k_piT K (pv 1)) (blkOk_by (own := [("_law_row", 7)]) (N := ["_law_pen_here", "_law_log_here", "_law_line", "_law_room", "_law_many", "_law_later", "_law_minute", "_law_row", "_law_order"]) (sc := defScope s_later_right) (by decide +kernel)) (fun _ _ _ _ _ => (pg_name (i := 7) sc_later_right.nd rfl (by first | exact Or.inl rfl | exact Or.inr rfl))) (fun _ _ _ _ _ => pts_nil) (fun _ _ _ _ _ => (pe_ix (kx_tup K) (pv 7) pe_int (fun _ _ => rfl)))) (pe_lst (pa_cons (pe_call G_draw hr_draw (by rfl) T.g_draw T.F_draw.kp T.b_draw .nil pass0 (pa_cons (pv 0) (pa_cons pe_int pa_nil))) pa_nil)))) (pg_name (i := 6) sc_later_right.nd rfl (by first | exact Or.inl rfl | exact Or.inr rfl)) (pss_one (ps_if (pt_cmpR op_ne (pe_callB (k_repr K hG hr.units) (by rfl) T.z_repr (by decide +kernel) (pa_cons (pe_call G_standing hr_standing (by rfl) T.g_standing T.F_standing.kp T.b3_standing T.v3_standing pass0 (pa_cons (pv 1) (pa_cons (pv 2) (pa_cons (pv 6) pa_nil)))) pa_nil)) (pe_callB (k_repr K hG hr.units) (by rfl) T.z_repr (by decide +kernel) (pa_cons (pe_call G_standing hr_standing (by rfl) T.g_standing T.F_standing.kp T.b3_standing T.v3_standing pass0 (pa_cons (pv 5) (pa_cons (pv 2) (pa_cons (pe_op op_add (pv 6) (pv 4)) pa_nil)))) pa_nil)) (nomark _)) (pss_one (ps_ret pe_bl)) pss_nil)))
  (pss_one (ps_ret pe_bl))))))), ?_⟩
    obtain ⟨as, hT, hR⟩ := id hL
    have la := hR.length
    refine ⟨_, rfl, t, rfl, ⟨_, hT⟩, fun D hD => ?_⟩
    refine lc_it walk_tup (fun i H' => Same H H' ∧ ∃ ns : List Int, H' D = some (.lst (ns.map V.int)) ∧ ns.length ≤ i ∧ ns = (rs.take i).map (·.m)) ⟨same_new (Same.refl _) hD, [], upd_same, Nat.le_refl _, by rw [List.take_zero]; rfl⟩ (fun i H' _ q => same_seqT q.1 hT) ?_ ?_
    · rintro i x H3 H4 hi ⟨s3, bs, e3, l3, r3⟩ ⟨rfl, hx⟩
      obtain ⟨a', ha, rfl⟩ : ∃ a, as[i]? = some a ∧ x = V.ref a := by
        have hx : (as.map V.ref)[i]? = some x := hx
        rw [List.getElem?_map] at hx
        cases z : as[i]? with
        | none => rw [z] at hx; cases hx
        | some a => rw [z] at hx; exact ⟨a, rfl, (Option.some.inj hx).symm⟩
      obtain ⟨r1, hq1, hq2⟩ := hR.get' ha
      rw [List.length_map, la] at hi
      have row := same_seqT s3 hq2
      refine ⟨rfl, _, rfl, a', _, _, _, rfl, rfl, row, rfl, _, e3, by rw [List.length_map]; exact small1000 (by omega), same_own s3 hD, bs ++ [r1.m], by rw [upd_same, List.map_append]; rfl, by rw [List.length_append]; show _ + 1 ≤ i + 1; omega, ?_⟩
      rw [List.take_succ, hq1, List.map_append, ← r3]
      rfl
    rintro H1 ⟨S1, bs, e1, l1, r1⟩
    rw [List.length_map, la, List.take_length] at r1
    refine ⟨D, bs, 0, rfl, rfl, SqL.of e1, fun b hb => ?_⟩
    have b01 : 0 ≤ b ∧ b ≤ 99999 := by
      rcases hb with ⟨_, rfl⟩ | ⟨z, _⟩
      · exact ⟨by decide, by decide⟩
      · rw [r1] at z
        obtain ⟨r, hr, rfl⟩ := List.mem_map.mp z
        exact ⟨(oks r hr).m0, (oks r hr).m1⟩
    have top : ∀ r ∈ rs, r.m ≤ b := fun r hr => by
      have z : r.m ∈ bs := by rw [r1]; exact List.mem_map.mpr ⟨r, hr, rfl⟩
      rcases hb with ⟨e, _⟩ | ⟨_, q⟩
      · rw [e] at z
        simp at z
      · exact q _ z
    clear hb r1
    have g1 := (Go.refl hp hc).same S1
    refine ⟨_, _, rfl, rfl, _, rfl, _, rfl, _, _, rfl, rfl, p, c, n, _, rfl, g1.pen, g1.cel, by omega, by omega, by omega, fun H2 ml g2 ml0 ml1 => ?_⟩
    have gg2 := g1.trans g2
    have L2' := hL.go hp gg2.but
    obtain ⟨as, hT, hR⟩ := id L2'
    have la := hR.length
    -- the log made later
    refine ⟨_, rfl, t, rfl, ⟨_, hT⟩, fun D2 hD2 => ?_⟩
    refine lc_it walk_tup (fun i H' => Same H2 H' ∧ ∃ bs : List Addr, H' D2 = some (.lst (bs.map V.ref)) ∧ bs.length = i ∧ RowsAt K H' bs ((rs.take i).map fun r => r.by ml)) ⟨same_new (Same.refl _) hD2, [], upd_same, rfl, by rw [List.take_zero]; exact .nil⟩ (fun i H' _ q => same_seqT q.1 hT) ?_ ?_
    · rintro i x H3 H4 hi ⟨s3, bs, e3, l3, r3⟩ ⟨rfl, hx⟩
      obtain ⟨a', ha, rfl⟩ : ∃ a, as[i]? = some a ∧ x = V.ref a := by
        have hx : (as.map V.ref)[i]? = some x := hx
        rw [List.getElem?_map] at hx
        cases z : as[i]? with
        | none => rw [z] at hx; cases hx
        | some a => rw [z] at hx; exact ⟨a, rfl, (Option.some.inj hx).symm⟩
      obtain ⟨r1, hq1, hq2⟩ := hR.get' ha
      rw [List.length_map, la] at hi
      have row := same_seqT s3 hq2
      refine ⟨rfl, _, rfl, a', _, _, _, rfl, rfl, row, rfl, _, rfl, _, _, rfl, rfl, _, rfl, a', _, _, _, rfl, rfl, row, rfl, _, rfl, a', _, _, _, rfl, rfl, row, rfl, (by show 3 ≤ sizeLine; decide), fun v hv => ?_⟩
      generalize hX : upd H4 v _ = H5
      obtain ⟨S5, f5⟩ := alloc hv hX
      clear hX
      have e5 := S5 _ _ e3
      refine ⟨_, e5, by rw [List.length_map]; exact small1000 (by omega), same_own (s3.trans S5) hD2, bs ++ [v], by rw [upd_same, List.map_append]; rfl, by rw [List.length_append, l3]; rfl, ?_⟩
      rw [List.take_succ, hq1, List.map_append]
      exact ((r3.same S5).snoc (show RowAt K H5 v (r1.by ml) from SqT.of f5)).lst e5 But.put
    rintro H3 ⟨s3, bs, e3, l3, r3⟩
    rw [List.length_map, la, List.take_length] at r3
    refine ⟨D2, _, rfl, .inl ⟨SqL.of e3, fun t2 ht2 => ?_⟩⟩
    generalize hX : upd H3 t2 _ = H4
    obtain ⟨S4, f4⟩ := alloc ht2 hX
    clear hX
    have S24 := s3.trans S4
    have Lt : LogAt K H4 t2 (rs.map fun r => r.by ml) := ⟨bs, SqT.of f4, r3.same S4⟩
    have L4 := L2'.same S24
    have okb : ∀ r ∈ rs.map (fun r => r.by ml), r.Ok := fun r hr => by
      obtain ⟨q, hq, rfl⟩ := List.mem_map.mp hr
      have := top q hq
      have o := oks q hq
      have := o.m0
      exact ⟨by show 0 ≤ q.m + ml; omega, by show q.m + ml ≤ 99999; omega, o.ln, o.wh⟩
    have lb : (rs.map fun r => r.by ml).length ≤ 41 := by rw [List.length_map]; omega
    have gg4 := gg2.same S24
    clear r3 hT hR
    -- the steps
    refine ⟨_, rfl, _, rfl, t, rs, l, rfl, L4, by omega, fun H5 q as ns S5 hq0 e5 hm hst lns => ?_⟩
    have sby := steps_by hm ml ns.length (Nat.le_refl _)
    have mby := hm.by ml
    have srep := steps_rep mby okb (i := ns.length)
    have slen := stepsTo_len (rs := rs) (l := l) (ns := ns) ns.length
    rw [sby] at srep
    have lst := hst.len
    generalize hst0 : stepsTo rs l ns ns.length = st at *
    refine ⟨q, rfl, ⟨_, SqL.of e5⟩, fun D3 hD3 => ?_⟩
    refine lc_it (walk_list (xs := as.map V.ref)) (fun i H' => Same H5 H' ∧ ∃ bs : List Addr, H' D3 = some (.lst (bs.map V.ref)) ∧ bs.length = i ∧ StepsAt K H' bs ((st.take i).map (stBy ml))) ⟨same_new (Same.refl _) hD3, [], upd_same, rfl, by rw [List.take_zero]; exact .nil⟩ (fun i H' _ q => SqL.of (q.1 _ _ e5)) ?_ ?_
    · rintro i x H6 H7 hi ⟨s6, bs, e6, l6, r6⟩ ⟨rfl, hx⟩
      have hx : (as.map V.ref)[i]? = some x := hx
      rw [List.length_map, lst] at hi
      obtain ⟨y, hy⟩ : ∃ y, st[i]? = some y := ⟨_, List.getElem?_eq_getElem hi⟩
      obtain ⟨a', ha, ra⟩ := (hst.same s6).at_ hy
      rw [List.getElem?_map, ha] at hx
      obtain rfl : V.ref a' = x := Option.some.inj hx
      refine ⟨a', _, rfl, ra, rfl, _, _, rfl, _, _, rfl, rfl, rfl, _, rfl, _, rfl, _, _, rfl, rfl, _, rfl, (by show 2 ≤ sizeLine; decide), fun v hv => ?_⟩
      generalize hX : upd H7 v _ = H8
      obtain ⟨S8, f8⟩ := alloc hv hX
      clear hX
      have e8 := S8 _ _ e6
      refine ⟨_, e8, by rw [List.length_map]; exact small1000 (by omega), same_own (s6.trans S8) hD3, bs ++ [v], by rw [upd_same, List.map_append]; rfl, by rw [List.length_append, l6]; rfl, ?_⟩
      rw [List.take_succ, hy, List.map_append]
      refine StepsAt.imp (H := H8) (.snoc (r6.same S8) (SqT.of f8)) fun a ys z => seqT_lst z e8 But.put
    rintro H6 ⟨s6, bs, e6, l6, r6⟩
    rw [List.length_map, lst, List.take_length] at r6
    refine ⟨_, rfl, _, rfl, t2, _, l, rfl, (Lt.same S5).same s6, lb, fun H7 q2 as2 ns2 S7 hq20 e7 hm2 hst2 lns2 => ?_⟩
    obtain rfl := hm2.one mby
    rw [List.length_map, sby] at hst2
    have rep : RepOk (.list ((st.map (stBy ml)).map stepD)) 2 800 := (RepOk.list srep).mono (Nat.le_refl _) (by rw [List.length_map, List.length_map]; omega)
    refine ⟨_, _, .lst (SqL.of (S7 _ _ e6)) (r6.same S7).dp, .lst (SqL.of e7) hst2.dp, rep.shaped (by decide), rep.shaped (by decide), _, rfl, ?_⟩
    rw [eqv_rep rep]
    show if false = true then _ else _
    have S47 := S5.trans (s6.trans S7)
    have g7 := gg4.same S47
    have L7 := L4.same S47
    have Lt7 := Lt.same S47
    clear hst hst2 r6 e5 e6 e7 rep srep
    obtain ⟨as, hT, hR⟩ := id L7
    have la := hR.length
    refine ⟨_, rfl, t, rfl, ⟨_, hT⟩, fun M0 hM0 => ?_⟩
    refine lc_it walk_tup (fun i H' => Same H7 H' ∧ ∃ ns : List Int, H' M0 = some (.lst (ns.map V.int)) ∧ ns.length ≤ i) ⟨same_new (Same.refl _) hM0, [], upd_same, Nat.le_refl _⟩ (fun i H' _ q => same_seqT q.1 hT) ?_ ?_
    · rintro i x H8 H9 hi ⟨s8, ns, e8, l8⟩ ⟨rfl, hx⟩
      obtain ⟨a', ha, rfl⟩ : ∃ a, as[i]? = some a ∧ x = V.ref a := by
        have hx : (as.map V.ref)[i]? = some x := hx
        rw [List.getElem?_map] at hx
        cases z : as[i]? with
        | none => rw [z] at hx; cases hx
        | some a => rw [z] at hx; exact ⟨a, rfl, (Option.some.inj hx).symm⟩
      obtain ⟨r1, hq1, hq2⟩ := hR.get' ha
      rw [List.length_map, la] at hi
      have row := same_seqT s8 hq2
      exact ⟨rfl, _, rfl, a', _, _, _, rfl, rfl, row, rfl, _, e8, by rw [List.length_map]; exact small1000 (by omega), same_own s8 hM0, ns ++ [r1.m], by rw [upd_same, List.map_append]; rfl, by rw [List.length_append]; show _ + 1 ≤ i + 1; omega⟩
    rintro H8 ⟨s8, ns3, e8, l8⟩
    rw [List.length_map, la] at l8
    have g8 := g7.same s8
    have nM : M0 ≠ p := Ne.symm (g7.ne_new hM0)
    refine ⟨_, rfl, p, c, _, _, rfl, g8.pen, g8.cel, by omega, by decide, by decide, fun H9 dm g9 d0 d1 => ?_⟩
    refine ⟨(by show 1 ≤ sizeLine; decide), fun u hu => ?_⟩
    generalize hX : upd H9 u _ = H10
    obtain ⟨S10, f10⟩ := alloc hu hX
    clear hX
    have f10 : H10 u = some (.lst ([dm].map V.int)) := f10
    have e9 := g9.but _ _ nM e8
    refine ⟨M0, u, _, _, rfl, rfl, S10 _ _ e9, f10, Nat.le_trans (show _ ≤ 41 by rw [List.length_map, List.length_map]; show _ + 1 ≤ 41; omega) (by decide), fun u2 hu2 => ?_⟩
    rw [← List.map_append]
    generalize hX : upd H10 u2 _ = H11
    obtain ⟨S11, f11⟩ := alloc hu2 hX
    clear hX
    generalize ns3 ++ [dm] = ms at f11
    have g11 := (g8.trans g9).same (S10.trans S11)
    have L11 := ((L7.same s8).go g8.pen g9.but).same (S10.trans S11)
    have Lt11 := ((Lt7.same s8).go g8.pen g9.but).same (S10.trans S11)
    clear e8 e9 hT hR f10
    refine ⟨u2, rfl, ⟨_, SqL.of f11⟩, ?_⟩
    refine for_it (walk_list (xs := ms.map V.int)) (fun i σ H' => ∃ (x6 : Option V), σ = [some (.ref p), some (.ref t), some (.str l), some (.int (99999 - b)), some (.int ml), some (.ref t2), x6, none, none] ∧ H' = H11) ⟨_, rfl, rfl⟩ (fun i σ H' _ ⟨_, _, q⟩ => q ▸ SqL.of f11) ?_ ?_
    · rintro i x σ _ _ hi ⟨x6, rfl, rfl⟩ ⟨rfl, hx⟩
      have hx : (ms.map V.int)[i]? = some x := hx
      obtain ⟨m, rfl⟩ : ∃ m : Int, x = V.int m := by
        obtain ⟨m, _, e⟩ := List.mem_map.mp (List.mem_of_getElem? hx)
        exact ⟨m, e.symm⟩
      refine ⟨_, rfl, _, rfl, _, rfl, t, rs, l, m, .non, rfl, L11, ?_⟩
      refine ⟨_, _, _, _, rfl, ov_dp _, ov_rep oks, by decide, by decide, ?_⟩
      refine ⟨_, rfl, _, rfl, _, rfl, _, rfl, _, _, rfl, rfl, t2, _, l, m + ml, .non, rfl, Lt11, ?_⟩
      rw [stand_by]
      refine ⟨_, _, _, _, rfl, ov_dp _, ov_rep oks, by decide, by decide, rfl, _, rfl, ?_⟩
      rw [decide_eq_true rfl]
      show if false = true then _ else _
      exact ⟨_, rfl, rfl⟩
    · rintro σ _ ⟨x6, rfl, rfl⟩
      exact k _ (g11.mono (by omega))
theorem stand_filter {rs : List Row} {P : Row → Bool} {l : Str} (h : ∀ r : Row, r.l = l → P r = true) (m : Int) : standTo (rs.filter P) l m (rs.filter P).length = standTo rs l m rs.length := by
  rw [stand_fold, stand_fold]
  generalize (none : Option What) = o
  induction rs generalizing o with
  | nil => rfl
  | cons r rs ih =>
    cases z : P r with
    | true =>
      rw [List.filter_cons_of_pos z]
      exact ih _
    | false =>
      rw [List.filter_cons_of_neg (by rw [z]; exact Bool.false_ne_true), ih]
      have n : ¬ r.l = l := fun e => by rw [h r e] at z; cases z
      show _ = rs.foldl (standStep l m) (standStep l m o r)
      rw [show standStep l m o r = o from if_neg fun q => n q.1]
theorem steps_congr {rs qs : List Row} {l : Str} (h : ∀ m, standTo qs l m qs.length = standTo rs l m rs.length) (ns : List Int) : ∀ i, stepsTo qs l ns i = stepsTo rs l ns i
  | 0 => rfl
  | i + 1 => by
    unfold stepsTo
    rw [steps_congr h ns i]
    cases ns[i]? with
    | none => rfl
    | some m =>
      show (match standTo qs l m qs.length with | none => _ | some w => _) = (match standTo rs l m rs.length with | none => _ | some w => _)
      rw [h m, h (m - 1)]
theorem Mins.filter {rs : List Row} {l : Str} {ns : List Int} (h : Mins (rs.filter fun r => decide (r.l = l)) l ns) : Mins rs l ns := ⟨h.asc, fun k => by
  rw [h.mem k]
  constructor
  · rintro ⟨r, hr, h1, h2⟩
    exact ⟨r, (List.mem_filter.mp hr).1, h1, h2⟩
  · rintro ⟨r, hr, h1, h2⟩
    exact ⟨r, List.mem_filter.mpr ⟨hr, decide_eq_true h1⟩, h1, h2⟩⟩
theorem ok_law (T : Txt w K mg) : GOk P w K mg base CX0 6 T.a_law T.d_law ["_law_script"] (spLaw K) := by
  have G_pen := ok_pen (P := P) (base := base) T
  have G_draw := ok_draw (P := P) (base := base) T
  have G_pick := ok_pick (P := P) (base := base) T
  have G_log := ok_log (P := P) (base := base) T
  have G_steps := ok_steps (P := P) (base := base) T
  have G_steps_right := ok_steps_right (P := P) (base := base) T
  have G_more_right := ok_more_right (P := P) (base := base) T
  have G_later_right := ok_later_right (P := P) (base := base) T
  refine GOk.body T.F_law sc_law (fun vs H Q E h => ?_) (fun cdv A outer s H vs Q E hr hG h => ?_)
  · obtain ⟨a, ns, rfl, _⟩ := h
    rfl
  · obtain ⟨a, ns, rfl, hS, hl, k⟩ := h
    have hr_log := hr.mono (show 4 ≤ 5 by decide)
    have hr_pen := hr.mono (show 1 ≤ 5 by decide)
    have hr_draw := hr_pen
    have hr_pick := hr.mono (show 2 ≤ 5 by decide)
    have hr_steps := hr_pick
    have hr_more_right := hr_pick
    have hr_steps_right := hr.mono (show 3 ≤ 5 by decide)
    have hr_later_right := hr_steps_right
    refine ⟨_, (pss_cons (ps_set (i := 1) sc_law.nd rfl (by first | exact Or.inl rfl | exact Or.inr rfl) (pe_call G_pen hr_pen (by rfl) T.g_pen T.F_pen.kp T.b_pen .nil pass0 (pa_cons (pv 0) pa_nil)))
  (pss_cons (ps_for PassesOwn.never rfl (pi_range1 (by rfl) T.z_range (pa_cons pe_int pa_nil)) (pg_name (i := 2) sc_law.nd rfl (by first | exact Or.inl rfl | exact Or.inr rfl)) (pss_cons (ps_set (i := 3) sc_law.nd rfl (by first | exact Or.inl rfl | exact Or.inr rfl) (pe_call G_log hr_log (by rfl) T.g_log T.F_log.kp T.b_log .nil pass0 (pa_cons (pv 1) (pa_cons pe_int pa_nil))))
  (pss_cons (ps_set (i := 4) sc_law.nd rfl (by first | exact Or.inl rfl | exact Or.inr rfl) (pe_call G_pick hr_pick (by rfl) T.g_pick T.F_pick.kp T.b_pick .nil pass0 (pa_cons (pv 1) (pa_cons (pe_lst (pa_cons pe_str (pa_cons pe_str pa_nil))) pa_nil))))
  (pss_cons (ps_set (i := 5) sc_law.nd rfl (by first | exact Or.inl rfl | exact Or.inr rfl) (pe_callTy (k_tupOf K) (by rfl) T.z_tuple (by decide +kernel) (pa_cons (pe_lc (own := [("_law_row", 7)]) rfl sc_law.nd (k_piT K (pv 3)) (blkOk_by (own := [("_law_row", 7)]) (N := ["_law_script", "_law_pen_here", "_law_turn", "_law_log_here", "_law_line", "_law_bare", "_law_order", "_law_row"]) (sc := defScope s_law) (by decide +kernel)) (fun _ _ _ _ _ => (pg_name (i := 7) sc_law.nd rfl (by first | exact Or.inl rfl | exact Or.inr rfl))) (fun _ _ _ _ _ => (pts_one (pt_cmpR op_eq (pe_ix (kx_tup K) (pv 7) pe_int (fun _ _ => rfl)) (pv 4) (nomark _)))) (fun _ _ _ _ _ => (pv 7))) pa_nil)))
  (pss_cons (ps_if (PW.pt (pw_or (pt_not (pt_val (pe_call G_steps_right hr_steps_right (by rfl) T.g_steps_right T.F_steps_right.kp T.b_steps_right .nil pass0 (pa_cons (pv 3) (pa_cons (pv 4) pa_nil))))) (pw_or1 (pt_cmpR (k_neD K hr.units) (pe_call G_steps hr_steps (by rfl) T.g_steps T.F_steps.kp T.b_steps .nil pass0 (pa_cons (pv 5) (pa_cons (pv 4) pa_nil))) (pe_call G_steps hr_steps (by rfl) T.g_steps T.F_steps.kp T.b_steps .nil pass0 (pa_cons (pv 3) (pa_cons (pv 4) pa_nil))) (nomark _))))) (pss_one (ps_ret pe_bl)) pss_nil)
  (pss_cons (ps_set (i := 6) sc_law.nd rfl (by first | exact Or.inl rfl | exact Or.inr rfl) (pe_tup (pa_cons (pe_call G_draw hr_draw (by rfl) T.g_draw T.F_draw.kp T.b_draw .nil pass0 (pa_cons (pv 1) (pa_cons pe_int pa_nil))) (pa_cons (pe_call G_pick hr_pick (by rfl) T.g_pick T.F_pick.kp T.b_pick .nil pass0 (pa_cons (pv 1) (pa_cons (pe_lst (pa_cons pe_str (pa_cons pe_str (pa_cons pe_str (pa_cons pe_str pa_nil))))) pa_nil))) (pa_cons (pe_op op_sub (pe_call G_draw hr_draw (by rfl) T.g_draw T.F_draw.kp T.b_draw .nil pass0 (pa_cons (pv 1) (pa_cons pe_int pa_nil))) pe_int) pa_nil)))))
  (C8.pss_cut (ps_if (PW.pt (pw_and (pt_cmpR op_gt (pe_callB (k_len K) (by rfl) T.z_len (by decide +kernel) (pa_cons (pv 3) pa_nil)) pe_int (nomark _)) (pw_and1 (pt_cmpR op_eq (pe_call G_draw hr_draw (by rfl) T.g_draw T.F_draw.kp T.b_draw .nil pass0 (pa_cons (pv 1) (pa_cons pe_int pa_nil))) pe_int (nomark _))))) (pss_one (ps_set (i := 6) sc_law.nd rfl (by first | exact Or.inl rfl | exact Or.inr rfl) (pe_op (k_catU K) (pe_tup (pa_cons (pe_ix (kx_tup K) (pe_call G_pick hr_pick (by rfl) T.g_pick T.F_pick.kp T.b_pick .nil pass0 (pa_cons (pv 1) (pa_cons (pv 3) pa_nil))) pe_int (fun _ _ => rfl)) pa_nil)) (pe_slice (k_slU K) (pv 6) (po_some pe_int) po_none)))) pss_nil)
  (pss_one (ps_if (PW.pt (pw_or (pt_not (pt_val (pe_callG G_more_right hr_more_right hG (by rfl) T.g_more_right T.F_more_right.kp T.b_more_right .nil pass0 (pa_cons (pv 3) (pa_cons (pv 6) (pa_cons (pv 4) pa_nil)))))) (pw_or1 (pt_not (pt_val (pe_callG G_later_right hr_later_right hG (by rfl) T.g_later_right T.F_later_right.kp T.b_later_right .nil pass0 (pa_cons (pv 1) (pa_cons (pv 3) (pa_cons (pv 4) pa_nil))))))))) (pss_one (ps_ret pe_bl)) pss_nil)))))))))
  (pss_one (ps_ret pe_bl)))), ?_⟩
    refine ⟨_, rfl, a, ns, rfl, hS, hl, fun H1 p c S1 hp0 hp hc => ?_⟩
    refine ⟨3, rfl, by decide, by decide, ?_⟩
    refine for_it walk_range (fun i σ H' => ∃ (x2 x3 x4 x5 x6 x7 : Option V), σ = [some (.ref a), some (.ref p), x2, x3, x4, x5, x6, x7] ∧ PenAt H' p c (1100 * i) ∧ Cells K H' p c)
      ⟨none, none, none, none, none, none, rfl, hp, hc⟩ (fun _ _ _ _ _ => trivial) ?_ ?_
    · rintro i x σ _ H2 hi ⟨x2, x3, x4, x5, x6, x7, rfl, hp2, hc2⟩ ⟨rfl, rfl⟩
      have hi4 : i < 3 := hi
      refine ⟨_, rfl, p, c, _, 12, rfl, hp2, hc2, by omega, by decide, by decide, fun H3 t rs g3 ht hL hlen oks ris => ?_⟩
      refine ⟨_, rfl, (by show 2 ≤ sizeLine; decide), fun l0 hl0 => ?_⟩
      generalize hX : upd H3 l0 _ = H4
      obtain ⟨S4, f4⟩ := alloc hl0 hX
      clear hX
      have g4 := g3.same S4
      have nl := Ne.symm (g3.ne_new hl0)
      refine ⟨p, c, l0, _, _, rfl, g4.pen, g4.cel, by omega, .inl ⟨SqL.of f4, nl⟩, by simp, (by show 2 ≤ 1000000; decide), fun H5 v g5 hv => ?_⟩
      obtain ⟨l, rfl⟩ : ∃ l : Str, v = V.str l := by
        have z : v = V.str (Str.ofString "port") ∨ v = V.str (Str.ofString "star") := by simpa using hv
        rcases z with z | z <;> exact ⟨_, z⟩
      clear hv
      have gg5 := g4.trans g5
      have L5 := (hL.same S4).go g4.pen g5.but
      clear f4
      obtain ⟨as, hT, hR⟩ := id L5
      have la := hR.length
      -- the rows on the bell
      refine ⟨_, rfl, t, rfl, ⟨_, hT⟩, fun D hD => ?_⟩
      refine lc_it walk_tup (fun i H' => Same H5 H' ∧ ∃ bs : List Addr, H' D = some (.lst (bs.map V.ref)) ∧ bs.length ≤ i ∧ RowsAt K H' bs ((rs.take i).filter fun r => decide (r.l = l))) ⟨same_new (Same.refl _) hD, [], upd_same, Nat.le_refl _, by rw [List.take_zero]; exact .nil⟩ (fun i H' _ q => same_seqT q.1 hT) ?_ ?_
      · rintro i x H6 H7 hi ⟨s6, bs, e6, l6, r6⟩ ⟨rfl, hx⟩
        obtain ⟨a', ha, rfl⟩ : ∃ a, as[i]? = some a ∧ x = V.ref a := by
          have hx : (as.map V.ref)[i]? = some x := hx
          rw [List.getElem?_map] at hx
          cases z : as[i]? with
          | none => rw [z] at hx; cases hx
          | some a => rw [z] at hx; exact ⟨a, rfl, (Option.some.inj hx).symm⟩
        obtain ⟨r1, hq1, hq2⟩ := hR.get' ha
        rw [List.length_map, la] at hi
        have row := same_seqT s6 hq2
        have et : rs.take (i + 1) = rs.take i ++ [r1] := by rw [List.take_succ, hq1]; rfl
        refine ⟨rfl, _, rfl, a', _, _, _, rfl, rfl, row, rfl, _, rfl, rfl, _, rfl, ?_⟩
        have es : decide (V.str r1.l = V.str l) = decide (r1.l = l) := by
          rw [Bool.eq_iff_iff, decide_eq_true_iff, decide_eq_true_iff]
          exact ⟨fun z => (V.str.inj z), fun z => congrArg V.str z⟩
        rw [es, et, List.filter_append]
        refine ite2 (fun y => ?_) (fun y => ?_)
        · refine ⟨_, rfl, _, e6, by rw [List.length_map]; exact small1000 (by omega), same_own s6 hD, bs ++ [a'], by rw [upd_same, List.map_append]; rfl, by rw [List.length_append]; show _ + 1 ≤ i + 1; omega, ?_⟩
          rw [List.filter_cons_of_pos (p := fun r : Row => decide (r.l = l)) y]
          exact (r6.snoc row).lst e6 But.put
        · refine ⟨s6, bs, e6, by omega, ?_⟩
          rw [List.filter_cons_of_neg (p := fun r : Row => decide (r.l = l)) y, List.filter_nil, List.append_nil]
          exact r6
      rintro H6 ⟨s6, bs, e6, l6, r6⟩
      rw [List.length_map, la, List.take_length] at r6
      refine ⟨D, _, rfl, .inl ⟨SqL.of e6, fun t2 ht2 => ?_⟩⟩
      generalize hX : upd H6 t2 _ = H7
      obtain ⟨S7, f7⟩ := alloc ht2 hX
      clear hX
      have S57 := s6.trans S7
      have Lb : LogAt K H7 t2 (rs.filter fun r => decide (r.l = l)) := ⟨bs, SqT.of f7, r6.same S7⟩
      have lb : (rs.filter fun r => decide (r.l = l)).length ≤ 41 := Nat.le_trans (List.length_filter_le ..) (by omega)
      have L7 := L5.same S57
      have gg7 := gg5.same S57
      clear hT hR r6 e6
      -- what stands goes by the steps
      refine ⟨_, rfl, _, rfl, t, rs, l, rfl, L7, by omega, oks, fun H8 S8 => ?_⟩
      refine ⟨_, rfl, ?_⟩
      show if false = true then _ else _
      refine ⟨_, rfl, _, rfl, t2, _, l, rfl, Lb.same S8, lb, fun H9 q as ns2 S9 hq0 e9 hm hst lns => ?_⟩
      refine ⟨_, rfl, _, rfl, t, rs, l, rfl, (L7.same S8).same S9, by omega, fun H10 q3 as3 ns3 S10 hq30 e10 hm3 hst3 lns3 => ?_⟩
      obtain rfl := hm3.one hm.filter
      rw [steps_congr (fun m => stand_filter (fun r e => decide_eq_true e) m)] at hst
      have rep : RepOk (.list ((stepsTo rs l ns3 ns3.length).map stepD)) 2 800 := (RepOk.list (steps_rep hm3 oks)).mono (Nat.le_refl _) (by rw [List.length_map]; have := stepsTo_len (rs := rs) (l := l) (ns := ns3) ns3.length; omega)
      refine ⟨_, _, .lst (SqL.of (S10 _ _ e9)) (hst.same S10).dp, .lst (SqL.of e10) hst3.dp, rep.shaped (by decide), rep.shaped (by decide), _, rfl, ?_⟩
      rw [eqv_rep rep]
      show if false = true then _ else _
      have S710 := S8.trans (S9.trans S10)
      have L10 := L7.same S710
      have g10 := gg7.same S710
      clear hst hst3 hm hm3 e9 e10 rep Lb L7
      -- an order more
      refine ⟨_, rfl, p, c, _, _, rfl, g10.pen, g10.cel, by omega, by decide, by decide, fun H11 d1 g11 a1 b1 => ?_⟩
      refine ⟨_, rfl, (by show 4 ≤ sizeLine; decide), fun l2 hl2 => ?_⟩
      generalize hX : upd H11 l2 _ = H12
      obtain ⟨S12, f12⟩ := alloc hl2 hX
      clear hX
      have g11' := g10.trans g11
      have g12 := g11'.same S12
      refine ⟨p, c, l2, _, _, rfl, g12.pen, g12.cel, by omega, .inl ⟨SqL.of f12, Ne.symm (g11'.ne_new hl2)⟩, by simp, (by show 4 ≤ 1000000; decide), fun H13 v g13 hv => ?_⟩
      obtain ⟨l', rfl, ol1, ol2⟩ : ∃ l' : Str, v = V.str l' ∧ l' ∈ lines6 ∧ l' ∉ tubes := by
        have z : v = V.str (Str.ofString "port") ∨ v = V.str (Str.ofString "star") ∨ v = V.str (Str.ofString "aport") ∨ v = V.str (Str.ofString "astar") := by simpa using hv
        rcases z with z | z | z | z <;> exact ⟨_, z, by decide +kernel, by decide +kernel⟩
      clear hv f12
      have g13' := g12.trans g13
      refine ⟨_, rfl, p, c, _, _, rfl, g13'.pen, g13'.cel, by omega, by decide, by decide, fun H14 d2 g14 a2 b2 => ?_⟩
      have g14' := g13'.trans g14
      refine ⟨_, _, rfl, rfl, (by show 3 ≤ sizeLine; decide), fun oa hoa => ?_⟩
      generalize hX : upd H14 oa _ = H15
      obtain ⟨S15, f15⟩ := alloc hoa hX
      clear hX
      have g15 := g14'.same S15
      have L15 := ((((L10.go g10.pen g11.but).same S12).go g12.pen g13.but).go g13'.pen g14.but).same S15
      have ro : RowAt K H15 oa ⟨d1, l', .order (d2 - 4)⟩ := SqT.of f15
      have ok0 : Row.Ok ⟨d1, l', .order (d2 - 4)⟩ := ⟨a1, by show d1 ≤ 99999; omega, ol1, .inr ⟨ol2, _, rfl, by omega, by omega⟩⟩
      refine ⟨fun σ2 H2 => ∃ (oa : Addr) (r0 : Row), σ2 = [some (.ref a), some (.ref p), some (.int (0 + (i : Nat))), some (.ref t), some (.str l), some (.ref t2), some (.ref oa), x7] ∧ PenAt H2 p c (1100 * i + 1020) ∧ Cells K H2 p c ∧ LogAt K H2 t rs ∧ RowAt K H2 oa r0 ∧ r0.Ok, ?_, ?_⟩
      · obtain ⟨as, hT, hR⟩ := id L15
        have la := hR.length
        have none_ : ∃ (oa' : Addr) (r0 : Row), ([some (.ref a), some (.ref p), some (.int (0 + (i : Nat))), some (.ref t), some (.str l), some (.ref t2), some (.ref oa), x7] : List (Option V)) = [some (.ref a), some (.ref p), some (.int (0 + (i : Nat))), some (.ref t), some (.str l), some (.ref t2), some (.ref oa'), x7] ∧ PenAt H15 p c (1100 * i + 1020) ∧ Cells K H15 p c ∧ LogAt K H15 t rs ∧ RowAt K H15 oa' r0 ∧ r0.Ok := ⟨oa, _, rfl, g15.pen.mono (by omega), g15.cel, L15, ro, ok0⟩
        refine ⟨_, rfl, t, _, rfl, .inr hT, _, _, rfl, rfl, _, rfl, ite2 (fun y => ?_) (fun y => none_)⟩
        have y0 : 0 < as.length := by
          have := of_decide_eq_true y
          rw [List.length_map] at this
          omega
        refine ⟨_, rfl, p, c, _, _, rfl, g15.pen, g15.cel, by omega, by decide, by decide, fun H16 d3 g16 a3 b3 => ?_⟩
        refine ⟨rfl, _, rfl, ite2 (fun y => ?_) (fun y => ?_)⟩
        · have g16' := g15.trans g16
          have hT16 := seqT_go hT g15.pen g16.but
          have ro16 := seqT_go ro g15.pen g16.but
          refine ⟨_, rfl, _, rfl, p, c, t, _, _, rfl, g16'.pen, g16'.cel, by omega, .inr hT16, (fun z => by rw [List.map_eq_nil_iff] at z; rw [z] at y0; exact absurd y0 (by decide)), by rw [List.length_map]; omega, fun H17 v g17 hv => ?_⟩
          obtain ⟨a', ha, rfl⟩ := List.mem_map.mp hv
          obtain ⟨j, lj, ej⟩ := List.mem_iff_getElem.mp ha
          obtain ⟨r1, hr1, hr2⟩ := (hR.imp fun _ _ z => seqT_go (seqT_go z g15.pen g16.but) g16'.pen g17.but).get' (show as[j]? = some a' by rw [List.getElem?_eq_getElem lj, ej])
          have o1 := oks r1 (List.mem_of_getElem? hr1)
          have ro17 := seqT_go ro16 g16'.pen g17.but
          refine ⟨a', _, _, _, rfl, rfl, hr2, rfl, (by show 1 ≤ sizeLine; decide), fun u hu => ?_⟩
          generalize hX : upd H17 u _ = H18
          obtain ⟨S18, f18⟩ := alloc hu hX
          clear hX
          refine ⟨_, rfl, _, rfl, oa, _, rfl, same_seqT S18 ro17, fun q1 H19 S19 sq1 => ?_⟩
          refine ⟨u, q1, _, _, rfl, rfl, SqT.of (S19 _ _ f18), sq1, (by show 3 ≤ sizeLine; decide), fun q2 H20 S20 sq2 => ?_⟩
          have S1720 := S18.trans (S19.trans S20)
          have g20 := (g16'.trans g17).same S1720
          exact ⟨q2, ⟨r1.m, l', .order (d2 - 4)⟩, rfl, g20.pen.mono (by omega), g20.cel, ((L15.go g15.pen g16.but).go g16'.pen g17.but).same S1720, sq2, ⟨o1.m0, o1.m1, ol1, .inr ⟨ol2, _, rfl, by omega, by omega⟩⟩⟩
        · exact ⟨oa, _, rfl, (g15.trans g16).pen.mono (by omega), (g15.trans g16).cel, L15.go g15.pen g16.but, seqT_go ro g15.pen g16.but, ok0⟩
      · rintro σ2 H16 ⟨oa, r0, rfl, hp16, hc16, L16, ro, ok0⟩
        refine ⟨_, rfl, _, rfl, _, rfl, t, oa, rs, r0, l, rfl, L16, hlen, oks, ris, ro, ok0, fun H17 S17 => ?_⟩
        refine ⟨_, rfl, ?_⟩
        show if false = true then _ else _
        have g16 := (Go.refl hp16 hc16).same S17
        refine ⟨_, rfl, _, rfl, _, rfl, p, c, t, _, rs, l, rfl, g16.pen, g16.cel, by omega, L16.same S17, hlen, oks, fun H18 g18 => ?_⟩
        refine ⟨_, rfl, ?_⟩
        show if false = true then _ else _
        exact ⟨_, _, _, _, _, _, rfl, g18.pen.mono (by omega), g18.cel⟩
    · rintro σ H2 ⟨x2, x3, x4, x5, x6, x7, rfl, hp2, hc2⟩
      exact k _
end
theorem all_mk {l : PySem.W.OpenLaw} {w : World} {K : PySem.W.Frag} {h : Heap} {mg : Str → Option Value} {fa : Addr} (X : K.In h) (G : h.Ns mainGlobals mg) (hfa : mg "law" = some (.ref fa))
    {f0 T0 : Addr} {tc0 : Value} {td0 : Option Addr} {its0 : Array Value} {tn0 : Nat} {tsl0 : Array (Option Value)} {od0 an0 : Option Addr} {sl0 : Array (Option Value)} {oc0 kV0 dc0 pm0 cd0 ct0 : Value} (a0 : PySem.W.nsIn K mainGlobals "standing" = some (some (.ref f0))) (l0 : K.lookup f0 = some ⟨oc0, od0, .func (PySem.W.fnOf "standing" "standing" (defArgs s_standing) (defBody s_standing) (defScope s_standing) (.ref T0) kV0 dc0 pm0 an0 cd0 ct0), sl0⟩) (c0 : PySem.W.codeIn K cd0 "standing" = true) (k0 : PySem.W.keepIn K (.ref f0) = true) (lt0 : K.lookup T0 = some ⟨tc0, td0, .seq its0 tn0, tsl0⟩) (vt0 : Vals [V.non] its0.toList)
    {f1 : Addr} {od1 an1 : Option Addr} {sl1 : Array (Option Value)} {oc1 kV1 dc1 pm1 cd1 ct1 : Value} (a1 : PySem.W.nsIn K mainGlobals "steps" = some (some (.ref f1))) (l1 : K.lookup f1 = some ⟨oc1, od1, .func (PySem.W.fnOf "steps" "steps" (defArgs s_steps) (defBody s_steps) (defScope s_steps) .none kV1 dc1 pm1 an1 cd1 ct1), sl1⟩) (c1 : PySem.W.codeIn K cd1 "steps" = true) (k1 : PySem.W.keepIn K (.ref f1) = true)
    {f2 : Addr} {od2 an2 : Option Addr} {sl2 : Array (Option Value)} {oc2 kV2 dc2 pm2 cd2 ct2 : Value} (a2 : PySem.W.nsIn K mainGlobals "_law_pen" = some (some (.ref f2))) (l2 : K.lookup f2 = some ⟨oc2, od2, .func (PySem.W.fnOf "_law_pen" "_law_pen" (defArgs s_pen) (defBody s_pen) (defScope s_pen) .none kV2 dc2 pm2 an2 cd2 ct2), sl2⟩) (c2 : PySem.W.codeIn K cd2 "_law_pen" = true) (k2 : PySem.W.keepIn K (.ref f2) = true)
    {f3 : Addr} {od3 an3 : Option Addr} {sl3 : Array (Option Value)} {oc3 kV3 dc3 pm3 cd3 ct3 : Value} (a3 : PySem.W.nsIn K mainGlobals "_law_draw" = some (some (.ref f3))) (l3 : K.lookup f3 = some ⟨oc3, od3, .func (PySem.W.fnOf "_law_draw" "_law_draw" (defArgs s_draw) (defBody s_draw) (defScope s_draw) .none kV3 dc3 pm3 an3 cd3 ct3), sl3⟩) (c3 : PySem.W.codeIn K cd3 "_law_draw" = true) (k3 : PySem.W.keepIn K (.ref f3) = true)
    {f4 : Addr} {od4 an4 : Option Addr} {sl4 : Array (Option Value)} {oc4 kV4 dc4 pm4 cd4 ct4 : Value} (a4 : PySem.W.nsIn K mainGlobals "_law_pick" = some (some (.ref f4))) (l4 : K.lookup f4 = some ⟨oc4, od4, .func (PySem.W.fnOf "_law_pick" "_law_pick" (defArgs s_pick) (defBody s_pick) (defScope s_pick) .none kV4 dc4 pm4 an4 cd4 ct4), sl4⟩) (c4 : PySem.W.codeIn K cd4 "_law_pick" = true) (k4 : PySem.W.keepIn K (.ref f4) = true)
    {f5 : Addr} {od5 an5 : Option Addr} {sl5 : Array (Option Value)} {oc5 kV5 dc5 pm5 cd5 ct5 : Value} (a5 : PySem.W.nsIn K mainGlobals "_law_word" = some (some (.ref f5))) (l5 : K.lookup f5 = some ⟨oc5, od5, .func (PySem.W.fnOf "_law_word" "_law_word" (defArgs s_word) (defBody s_word) (defScope s_word) .none kV5 dc5 pm5 an5 cd5 ct5), sl5⟩) (c5 : PySem.W.codeIn K cd5 "_law_word" = true) (k5 : PySem.W.keepIn K (.ref f5) = true)
    {f6 : Addr} {od6 an6 : Option Addr} {sl6 : Array (Option Value)} {oc6 kV6 dc6 pm6 cd6 ct6 : Value} (a6 : PySem.W.nsIn K mainGlobals "_law_log" = some (some (.ref f6))) (l6 : K.lookup f6 = some ⟨oc6, od6, .func (PySem.W.fnOf "_law_log" "_law_log" (defArgs s_log) (defBody s_log) (defScope s_log) .none kV6 dc6 pm6 an6 cd6 ct6), sl6⟩) (c6 : PySem.W.codeIn K cd6 "_law_log" = true) (k6 : PySem.W.keepIn K (.ref f6) = true)
    {f7 : Addr} {od7 an7 : Option Addr} {sl7 : Array (Option Value)} {oc7 kV7 dc7 pm7 cd7 ct7 : Value} (a7 : PySem.W.nsIn K mainGlobals "_law_steps_right" = some (some (.ref f7))) (l7 : K.lookup f7 = some ⟨oc7, od7, .func (PySem.W.fnOf "_law_steps_right" "_law_steps_right" (defArgs s_steps_right) (defBody s_steps_right) (defScope s_steps_right) .none kV7 dc7 pm7 an7 cd7 ct7), sl7⟩) (c7 : PySem.W.codeIn K cd7 "_law_steps_right" = true) (k7 : PySem.W.keepIn K (.ref f7) = true)
    {f8 : Addr} {od8 an8 : Option Addr} {sl8 : Array (Option Value)} {oc8 kV8 dc8 pm8 cd8 ct8 : Value} (a8 : PySem.W.nsIn K mainGlobals "_law_put_in" = some (some (.ref f8))) (l8 : K.lookup f8 = some ⟨oc8, od8, .func (PySem.W.fnOf "_law_put_in" "_law_put_in" (defArgs s_put_in) (defBody s_put_in) (defScope s_put_in) .none kV8 dc8 pm8 an8 cd8 ct8), sl8⟩) (c8 : PySem.W.codeIn K cd8 "_law_put_in" = true) (k8 : PySem.W.keepIn K (.ref f8) = true)
    {f9 : Addr} {od9 an9 : Option Addr} {sl9 : Array (Option Value)} {oc9 kV9 dc9 pm9 cd9 ct9 : Value} (a9 : PySem.W.nsIn K mainGlobals "_law_more_right" = some (some (.ref f9))) (l9 : K.lookup f9 = some ⟨oc9, od9, .func (PySem.W.fnOf "_law_more_right" "_law_more_right" (defArgs s_more_right) (defBody s_more_right) (defScope s_more_right) .none kV9 dc9 pm9 an9 cd9 ct9), sl9⟩) (c9 : PySem.W.codeIn K cd9 "_law_more_right" = true) (k9 : PySem.W.keepIn K (.ref f9) = true)
    {f10 : Addr} {od10 an10 : Option Addr} {sl10 : Array (Option Value)} {oc10 kV10 dc10 pm10 cd10 ct10 : Value} (a10 : PySem.W.nsIn K mainGlobals "_law_later_right" = some (some (.ref f10))) (l10 : K.lookup f10 = some ⟨oc10, od10, .func (PySem.W.fnOf "_law_later_right" "_law_later_right" (defArgs s_later_right) (defBody s_later_right) (defScope s_later_right) .none kV10 dc10 pm10 an10 cd10 ct10), sl10⟩) (c10 : PySem.W.codeIn K cd10 "_law_later_right" = true) (k10 : PySem.W.keepIn K (.ref f10) = true)
    {f11 : Addr} {od11 an11 : Option Addr} {sl11 : Array (Option Value)} {oc11 kV11 dc11 pm11 cd11 ct11 : Value} (a11 : PySem.W.nsIn K mainGlobals "law" = some (some (.ref f11))) (l11 : K.lookup f11 = some ⟨oc11, od11, .func (PySem.W.fnOf "law" "law" (defArgs s_law) (defBody s_law) (defScope s_law) .none kV11 dc11 pm11 an11 cd11 ct11), sl11⟩) (c11 : PySem.W.codeIn K cd11 "law" = true) (k11 : PySem.W.keepIn K (.ref f11) = true)
    (z_abs : PySem.W.nsIn K mainGlobals "abs" = some none)
    (z_len : PySem.W.nsIn K mainGlobals "len" = some none)
    (z_max : PySem.W.nsIn K mainGlobals "max" = some none)
    (z_min : PySem.W.nsIn K mainGlobals "min" = some none)
    (z_range : PySem.W.nsIn K mainGlobals "range" = some none)
    (z_repr : PySem.W.nsIn K mainGlobals "repr" = some none)
    (z_sorted : PySem.W.nsIn K mainGlobals "sorted" = some none)
    (z_tuple : PySem.W.nsIn K mainGlobals "tuple" = some none)
    (z_zip : PySem.W.nsIn K mainGlobals "zip" = some none) :
    ∃ fd : FuncData, (∀ (s : Shared) (v : Value), BindsTo s fd ⟨[v], []⟩ [("_law_script", v)]) ∧ ∀ base : Heap, K.In base → base.Ns mainGlobals mg → GOk l.prog w K mg base CX0 6 fa fd ["_law_script"] (spLaw K) := by
  have e := hfa.symm.trans (PySem.W.mg_of X G a11)
  cases e
  have F0 := FunD_mk (x := "standing") (params := defArgs s_standing) (body := defBody s_standing) (scope := defScope s_standing) (dvs := [V.non]) l0 c0 k0 lt0 vt0 (by simp)
  obtain ⟨ds3_0, v3_0, b3_0⟩ := F0.binds1 (ps := ["log", "line", "minute", "none"]) 3 0 (by simp) (by simp) (fun T kV doc pm an cdv ct us its hu hi => match us, hu, its, hi with | [_, _, _], _, [_], _ => ⟨_, rfl, rfl⟩)
  have F1 := fun_mk (st := s_steps) l1 c1 k1
  have F2 := fun_mk (st := s_pen) l2 c2 k2
  have F3 := fun_mk (st := s_draw) l3 c3 k3
  have F4 := fun_mk (st := s_pick) l4 c4 k4
  have F5 := fun_mk (st := s_word) l5 c5 k5
  have F6 := fun_mk (st := s_log) l6 c6 k6
  have F7 := fun_mk (st := s_steps_right) l7 c7 k7
  have F8 := fun_mk (st := s_put_in) l8 c8 k8
  have F9 := fun_mk (st := s_more_right) l9 c9 k9
  have F10 := fun_mk (st := s_later_right) l10 c10 k10
  have F11 := fun_mk (st := s_law) l11 c11 k11
  let T : Txt w K mg := {
    a_standing := f0, d_standing := _, F_standing := F0, ds3_standing := ds3_0, v3_standing := v3_0, b3_standing := b3_0, g_standing := PySem.W.mg_of X G a0,
    a_steps := f1, d_steps := _, F_steps := F1, b_steps := F1.binds (ps := ["log", "line"]) (fun _ _ _ _ _ _ us hl => match us, hl with | [_, _], _ => rfl), g_steps := PySem.W.mg_of X G a1,
    a_pen := f2, d_pen := _, F_pen := F2, b_pen := F2.binds (ps := ["_law_script"]) (fun _ _ _ _ _ _ us hl => match us, hl with | [_], _ => rfl), g_pen := PySem.W.mg_of X G a2,
    a_draw := f3, d_draw := _, F_draw := F3, b_draw := F3.binds (ps := ["_law_pen_here", "_law_many"]) (fun _ _ _ _ _ _ us hl => match us, hl with | [_, _], _ => rfl), g_draw := PySem.W.mg_of X G a3,
    a_pick := f4, d_pick := _, F_pick := F4, b_pick := F4.binds (ps := ["_law_pen_here", "_law_some"]) (fun _ _ _ _ _ _ us hl => match us, hl with | [_, _], _ => rfl), g_pick := PySem.W.mg_of X G a4,
    a_word := f5, d_word := _, F_word := F5, b_word := F5.binds (ps := ["_law_pen_here"]) (fun _ _ _ _ _ _ us hl => match us, hl with | [_], _ => rfl), g_word := PySem.W.mg_of X G a5,
    a_log := f6, d_log := _, F_log := F6, b_log := F6.binds (ps := ["_law_pen_here", "_law_most"]) (fun _ _ _ _ _ _ us hl => match us, hl with | [_, _], _ => rfl), g_log := PySem.W.mg_of X G a6,
    a_steps_right := f7, d_steps_right := _, F_steps_right := F7, b_steps_right := F7.binds (ps := ["_law_log_here", "_law_line"]) (fun _ _ _ _ _ _ us hl => match us, hl with | [_, _], _ => rfl), g_steps_right := PySem.W.mg_of X G a7,
    a_put_in := f8, d_put_in := _, F_put_in := F8, b_put_in := F8.binds (ps := ["_law_log_here", "_law_row"]) (fun _ _ _ _ _ _ us hl => match us, hl with | [_, _], _ => rfl), g_put_in := PySem.W.mg_of X G a8,
    a_more_right := f9, d_more_right := _, F_more_right := F9, b_more_right := F9.binds (ps := ["_law_log_here", "_law_row", "_law_line"]) (fun _ _ _ _ _ _ us hl => match us, hl with | [_, _, _], _ => rfl), g_more_right := PySem.W.mg_of X G a9,
    a_later_right := f10, d_later_right := _, F_later_right := F10, b_later_right := F10.binds (ps := ["_law_pen_here", "_law_log_here", "_law_line"]) (fun _ _ _ _ _ _ us hl => match us, hl with | [_, _, _], _ => rfl), g_later_right := PySem.W.mg_of X G a10,
    a_law := fa, d_law := _, F_law := F11, b_law := F11.binds (ps := ["_law_script"]) (fun _ _ _ _ _ _ us hl => match us, hl with | [_], _ => rfl), g_law := PySem.W.mg_of X G a11,
    z_abs := PySem.W.mg_none_of X G z_abs,
    z_len := PySem.W.mg_none_of X G z_len,
    z_max := PySem.W.mg_none_of X G z_max,
    z_min := PySem.W.mg_none_of X G z_min,
    z_range := PySem.W.mg_none_of X G z_range,
    z_repr := PySem.W.mg_none_of X G z_repr,
    z_sorted := PySem.W.mg_none_of X G z_sorted,
    z_tuple := PySem.W.mg_none_of X G z_tuple,
    z_zip := PySem.W.mg_none_of X G z_zip }
  exact ⟨PySem.W.fnOf "law" "law" (defArgs s_law) (defBody s_law) (defScope s_law) .none kV11 dc11 pm11 an11 cd11 ct11, fun s v => .of_eq rfl, fun base _ _ => ok_law T⟩
end RO
open PySem PySem.W PyProof.Rows in
set_option maxRecDepth 100000 in
set_option maxHeartbeats 0 in
theorem PySem.Challenge.cw_ringorders_k10_whole_steps_and_what_stan_holds : PySem.Challenge.rw_ringorders_k10_whole_steps_and_what_stan.Holds := by
  w_on; o_law; k_head; (case hw => w_witness2)
  k_fill
  refine RO.walk_G (l := PySem.Challenge.rw_ringorders_k10_whole_steps_and_what_stan) (n := 63) (k := 6) (x := "_law_script") (sp := RO.spLaw) rfl (by decide) rfl ⟨rfl, by decide, by decide⟩ (fun w h Y => PySem.W.kIn_of Y) ?F RO.law_in
  case F =>
    intro w mg fa h KX G hmg
    refine' RO.all_mk KX G hmg ?a0 ?l0 ?c0 ?k0 ?lt0 ?vt0 ?a1 ?l1 ?c1 ?k1 ?a2 ?l2 ?c2 ?k2 ?a3 ?l3 ?c3 ?k3 ?a4 ?l4 ?c4 ?k4 ?a5 ?l5 ?c5 ?k5 ?a6 ?l6 ?c6 ?k6 ?a7 ?l7 ?c7 ?k7 ?a8 ?l8 ?c8 ?k8 ?a9 ?l9 ?c9 ?k9 ?a10 ?l10 ?c10 ?k10 ?a11 ?l11 ?c11 ?k11 ?z_abs ?z_len ?z_max ?z_min ?z_range ?z_repr ?z_sorted ?z_tuple ?z_zip
    (case a0 => k_is)
    (case l0 => k_is)
    (case c0 => k_is)
    (case k0 => k_is)
    (case lt0 => k_is)
    (case vt0 => exact .cons rfl (.nil))
    (case a1 => k_is)
    (case l1 => k_is)
    (case c1 => k_is)
    (case k1 => k_is)
    (case a2 => k_is)
    (case l2 => k_is)
    (case c2 => k_is)
    (case k2 => k_is)
    (case a3 => k_is)
    (case l3 => k_is)
    (case c3 => k_is)
    (case k3 => k_is)
    (case a4 => k_is)
    (case l4 => k_is)
    (case c4 => k_is)
    (case k4 => k_is)
    (case a5 => k_is)
    (case l5 => k_is)
    (case c5 => k_is)
    (case k5 => k_is)
    (case a6 => k_is)
    (case l6 => k_is)
    (case c6 => k_is)
    (case k6 => k_is)
    (case a7 => k_is)
    (case l7 => k_is)
    (case c7 => k_is)
    (case k7 => k_is)
    (case a8 => k_is)
    (case l8 => k_is)
    (case c8 => k_is)
    (case k8 => k_is)
    (case a9 => k_is)
    (case l9 => k_is)
    (case c9 => k_is)
    (case k9 => k_is)
    (case a10 => k_is)
    (case l10 => k_is)
    (case c10 => k_is)
    (case k10 => k_is)
    (case a11 => k_is)
    (case l11 => k_is)
    (case c11 => k_is)
    (case k11 => k_is)
    (case z_abs => k_is)
    (case z_len => k_is)
    (case z_max => k_is)
    (case z_min => k_is)
    (case z_range => k_is)
    (case z_repr => k_is)
    (case z_sorted => k_is)
    (case z_tuple => k_is)
    (case z_zip => k_is)
