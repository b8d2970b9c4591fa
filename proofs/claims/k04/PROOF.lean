import PyProof.Rows.All
import Wide.All
import OpenK.AllK
import Wide.FinOn
import HandS.ForMost
import HandS.IsInst
import HandS.Rev
import PyProof.ReprRoads
import PyProof.CallFns
import HandS.EndBits
import HandS.Zip0
import HandS.Walk
import PyProof.Draws
import HandS.More
import HandS.WrittenGet
import HandS.Defaults
import HandS.Wide
import HandS.Conv
import HandS.TupAny
import HandS.Codes
import PyProof.ReprBulk
import HandS.Style
import HandS.NoneIn
import HandS.SortInts
import HandS.RaiseMore
import HandS.Dict
import PyProof.Rows.ReprOcc
import HandS.SetFor
import HandS.SetBool
import HandS.Strs
import HandS.Flow
import HandS.Gcd
import HandS.Zip
import KE.KDictZip
import HandS.TupMul
import KE.DataMinMax
import HandS.SortKw
import HandS.FStr
import KE.KxField
import KE.KDictCopyH
import PySem.Challenge.RW_ringorders_k04_logs_known
set_option Elab.async false
set_option linter.all false
set_option maxRecDepth 100000
set_option maxHeartbeats 4000000
/-! Ringorders, the ground: promises of defs around which no repr runs, calls by keywords alone, repr of data. -/
namespace RO
open PySem PySem.Spec PyProof.Rows L2

/-- what a def keeps where nothing guards a repr around it -/
structure GOk (P : Program) (w : World) (K : PySem.W.Frag) (mg : Str → Option Value) (base : Heap) (CX : CXT) (k : Nat) (f : Addr) (fd : FuncData) (ps : List Str) (sp : Sp) : Prop where
  many : ∀ vs H Q E, sp vs H Q E → vs.length = ps.length
  runs : ∀ (A : Around) (out : List Env) (s : Shared) (H : Hp) (as : Args) (us : List Value) (vs : List V) (Q : VK) (E : XK),
    Room k A → A.guards = some [] → Env0 P w K mg base A out s H → BindsTo s fd as (ps.zip us) → Vals vs us → sp vs H Q E →
      codeAny (model P w) A (.call (.ref f) as) (CR CX out P w H s Q E) s

section
variable {P : Program} {w : World} {K : PySem.W.Frag} {mg : Str → Option Value} {base : Heap}

theorem GOk.of {CX : CXT} {k : Nat} {f : Addr} {fd : FuncData} {ps : List Str} {sp : Sp} (F : FnOk P w K mg base CX k f fd ps sp) : GOk P w K mg base CX k f fd ps sp :=
  { many := F.len
    runs := fun A out s H as us vs Q E hr _ => F.run A out s H as us vs Q E hr }
theorem GOk.up {CX : CXT} {j k : Nat} {f : Addr} {fd : FuncData} {ps : List Str} {sp : Sp} (F : GOk P w K mg base CX j f fd ps sp) (h : j ≤ k) : GOk P w K mg base CX k f fd ps sp :=
  { many := F.many
    runs := fun A out s H as us vs Q E hr => F.runs A out s H as us vs Q E (Room.mono hr h) }

/-- a def by its body, nothing guarding a repr -/
theorem GOk.body {x qual : Str} {st : Stmt} {f : Addr} {fd : FuncData} {N ps : List Str} {k : Nat} {sp : Sp} (F : Fun K x qual st f fd) (S : FnScope N ps (defScope st))
    (many : ∀ vs H Q E, sp vs H Q E → vs.length = ps.length)
    (hb : ∀ (cdv : Value) (A : Around) (out : List Env) (s : Shared) (H : Hp) (vs : List V) (Q : VK) (E : XK),
      Room k (A.deeper (envOfC qual (defScope st) s.heap.objs.size f cdv)) → A.guards = some [] → sp vs H Q E →
        ∃ t, PSs (cxOf CX0 P w K mg base N qual (defScope st) f cdv A out s H E).nox (defBody st) t ∧ t { nx := fun _ H' => Q .non H', rt := Q } (start N vs) H) :
    GOk P w K mg base CX0 (k + 1) f fd ps sp := by
  obtain ⟨oc, od, kV, doc, pm, an, cdv, ct, osl, e, lk, hcd⟩ := F.ex
  subst e
  constructor
  · exact many
  · intro A out s H as us vs Q E hr hG e0 hbd r hsp
    have h0 := many _ _ _ _ hsp
    have old : ∀ b o, base.get? b = some o → s.heap.get? b = some o := fun b o z => (e0.bs b o z).1
    have hK : K.In s.heap := e0.mod.kin.keeps old
    have hL : s.heap.NoLimit := e0.mod.nolimit.keeps old
    have kinds : ∀ y ∈ ps.zip us, (defScope st).names.lookup y.1 = some .local ∨
        ((defScope st).names.lookup y.1 = some .cell ∧ ((cellsFrom (s.heap.objs.size + 1) (defScope st).names []).lookup y.1).isSome = true) := by
      intro y hy
      cases S.par y.1 (List.of_mem_zip (show (y.1, y.2) ∈ ps.zip us from hy)).1 with
      | inl z => exact Or.inl z
      | inr z => exact Or.inr ⟨z, PySem.W.cellsFrom_some _ _ _ (Or.inl z)⟩
    apply codeAny_call_function hr.depth (hK _ _ lk) rfl S.co S.gen rfl (PySem.W.codeRec_of hK hcd)
    apply hbd
    apply wpAny_newFunctionEnv_cells S.kind kinds
    intro env he s1 x
    subst he
    refine ⟨hL.keeps x.toInCall.keep, codeAny_func ?_⟩
    obtain ⟨t, ht, hq⟩ := hb cdv A out s H vs Q E (hr.deeper _) hG hsp
    have J0 := inv_start (E := E) S hr.hd e0 h0 r x (CX := CX0)
    have done : ∀ {σ' : L2.St} {H' : Hp} {v : V} {u : Value} {s' : Shared}, Inv (cxOf CX0 P w K mg base N qual (defScope st) f cdv A out s H E) [] σ' H' s' → RelV v u → Q v H' → CE out P w H s Q u s' :=
      fun {σ' H' v u s'} J rv q => ⟨v, H', J.os, J.bare, J.base, J.hok, rv, q⟩
    apply wpAny_mono (ht.nox.run [] s1 (start N vs) H _ J0 hq)
    · intro fl s' hs
      match fl, hs with
      | .ret u, ⟨v, σ', H', J, rv, q⟩ => exact done J rv q
      | .next, ⟨σ', H', J, q⟩ => exact done (v := V.non) (u := Value.none) J rfl q
      | .brk, ⟨_, _, _, q⟩ => exact q.elim
      | .cont, ⟨_, _, _, q⟩ => exact q.elim
    · exact fun _ _ hs => hs
end

section
variable {X : Cx} {CX : CXT} {k : Nat} {f C : Addr} {fd : FuncData} {ps ks : List Str} {sp : Sp} {dvs : List V} {ds : List Value} {E : XK} {x m : Str} {p pos : Pos} {e o : Expr} {es : List Expr} {kws : List Keyword} {te ta : TE} {t tk : TA}

theorem GOk.goes {pins : List (Addr × Obj)} {σ : L2.St} {H : Hp} {s : Shared} {Q : VK} {as : Args} {us : List Value} {vs : List V} (F : GOk X.prog X.w X.K X.mg X.base CX k f fd ps sp) (hr : Room k X.A) (hG : X.A.guards = some []) (hx : Passes CX X E)
    (hb : BindsTo s fd as (ps.zip us)) (I : Inv X pins σ H s) (r : Vals vs us) (h : sp vs H Q E) : codeAny (model X.prog X.w) X.A (.call (.ref f) as) (fun r s' => match r with | .ok (.ret u) => EP X pins σ Q u s' | .ok _ => False | .error e => X.xe e s') s := by
  apply codeAny_mono (F.runs X.A X.stack s H as us vs Q E hr hG I.env0 hb r h)
  intro r s' hq
  match r, hq with
  | .error e, hq => exact hx pins σ H s e s' I hq
  | .ok (.ret u), hq => exact I.after hq
  | .ok .next, hq => exact hq.elim
  | .ok .brk, hq => exact hq.elim
  | .ok .cont, hq => exact hq.elim

/-- f(e, ..) where f keeps its promise if no repr is guarded -/
theorem pe_callG (F : GOk X.prog X.w X.K X.mg X.base CX k f fd ps sp) (hr : Room k X.A) (hG : X.A.guards = some []) (hg : Gl X x) (hm : X.mg x = some (.ref f)) (hk : PySem.W.keepIn X.K (.ref f) = true) (hb : Binds X.K fd ps ds) (hd : Vals dvs ds) (hx : Passes CX X E)
    (ha : PA X (e :: es) t) (hdb : (x == ("__debug__" : Str)) = false := by decide) (he : starEach (e :: es) X.env = (false, eval e X.env) :: starEach es X.env := by rfl)
    (hpl : (backTo pos (starEach es X.env)).any (·.1) = false := by rfl) : PE X (.Call (.Name x p) (e :: es) [] pos) (tCall sp dvs E t) := by
  constructor
  intro pins s σ H Q I h
  apply wpAny_Call_Name_kw
  apply ld_glob I hg hm _ hdb
  apply PySem.W.callWith_K (h₀ := X.base) I.ok.mod.kin hk _ he hpl
  apply thn (ha.run pos pins s σ H _ I h)
  rintro us s1 ⟨vs, H1, I1, r, q⟩
  refine ⟨I1.kIn, ?_⟩
  have r2 : Vals (vs ++ dvs) (us ++ ds) := r.append hd
  have hl : (us ++ ds).length = ps.length := r2.length.symm.trans (F.many _ _ _ _ q)
  show wpAny _ _ (call (.ref f) us) _ _ s1
  exact wpAny_call (codeAny_mono (F.goes hr hG hx (hb s1 us I1.kIn hl) I1 r2 q) fun r s' hq => by
    match r, hq with
    | .error e, hq => exact hq
    | .ok (.ret u), hq => exact hq)

/-- f(k = v, ..), nothing by place -/
theorem pe_callK0 {g : List Value → List Value → List Value} {gV : List V → List V → List V} (F : FnOk X.prog X.w X.K X.mg X.base CX k f fd ps sp) (hr : Room k X.A) (hg : Gl X x) (hm : X.mg x = some (.ref f)) (hk : PySem.W.keepIn X.K (.ref f) = true)
    (hb : KBinds X.K fd ps ks g gV) (hx : Passes CX X E) (hkw : PK X kws tk) (hall : (backToKw pos (keywordEach kws X.env)).all (·.1.isSome) = true := by rfl) (hks : (backToKw pos (keywordEach kws X.env)).filterMap (·.1) = ks := by rfl)
    (hdb : (x == ("__debug__" : Str)) = false := by decide)
    (hpl : ((backTo pos (starEach [] X.env)).any (·.1) || (backToKw pos (keywordEach kws X.env)).any (·.1.isNone)) = false := by rfl) :
    PE X (.Call (.Name x p) [] kws pos) (tCallK sp gV E tNil tk) := by
  constructor
  intro pins s σ H Q I h
  apply wpAny_Call_Name_kw
  apply ld_glob I hg hm _ hdb
  apply PySem.W.callWith_KW0 (h₀ := X.base) I.ok.mod.kin hk hall _ hpl
  apply thn (hkw.run pos pins s σ H _ I h)
  rintro ws s1 ⟨zs, H1, I1, rz, q⟩
  refine ⟨I1.kIn, ?_⟩
  rw [hks]
  exact run_fnk (us := []) F hr hb hx I1 .nil rz q

/-! ### repr -/
/-- repr of data -/
def rRepr (K : PySem.W.Frag) : List V → Hp → VK → Prop := fun xs H Q => ∃ v d, xs = [v] ∧ Dp K H v d ∧ PyData.showable d = true ∧ d.hasDict = false ∧ d.depth ≤ 40 ∧ d.shown.length ≤ sizeLine ∧ Q (.str d.shown) H
theorem call_repr (hG : X.A.guards = some []) (hu : X.A.units + 64 < cLine) : CallR X (.builtin "repr") (rRepr X.K) := by
  intro pins s σ H xs us Q I r h
  obtain ⟨v, d, rfl, hd, hs, hn, h40, hz, q⟩ := h
  obtain ⟨u, rfl, ru⟩ := vals1 r
  have fin : ∀ (h' : Heap) (tk : Nat) (u : Tok), (∀ b o, s.heap.get? b = some o → h'.get? b = some o) → EP X pins σ Q (.str d.shown u) { s with heap := h', toks := tk } :=
    fun h' tk u hk => ⟨.str d.shown, H, I.un (Un.kept hk) (I.hok.kept hk), ⟨u, rfl⟩, q⟩
  obtain ⟨as, rd⟩ := Dp.reads I d v u hd ru
  cases hd with
  | non =>
    cases ru
    exact P.repr_of_none (fin s.heap _ _ fun _ _ z => z)
  | bl b =>
    cases ru
    refine P.repr_of_bool ?_
    have z := fin s.heap (s.toks + 1) s.toks fun _ _ z => z
    cases b <;> exact z
  | int i =>
    obtain ⟨t, rfl⟩ := ru
    refine P.repr_of_int ?_ ?_
    · simpa [PyData.showable] using hs
    · have z := fin s.heap (s.toks + 1) s.toks fun _ _ z => z
      simpa [PyData.shown] using z
  | str x =>
    obtain ⟨t, rfl⟩ := ru
    have z := fin s.heap (s.toks + 1) s.toks fun _ _ z => z
    simp only [PyData.shown_str] at z hz
    exact P.repr_of_str z hz
  | lst h1 h2 =>
    cases ru
    exact repr_of_reads' rd hs (PyData.noDict_hsm hn) hG (by omega) (fun _ _ z => z) (fun h' u tk hk => fin h' tk u hk) hz
  | tup h1 h2 =>
    cases ru
    exact repr_of_reads' rd hs (PyData.noDict_hsm hn) hG (by omega) (fun _ _ z => z) (fun h' u tk hk => fin h' tk u hk) hz
end
end RO

namespace RO
open PySem PySem.Spec PyProof.Rows L2

/-- the abstract heap at the law's entry: the script alone, locked, where the text itself doesn't hold it -/
def scriptH (K : PySem.W.Frag) (a : Addr) (o : Obj) (ns : List Int) : Hp := fun b => if b = a ∧ K.lookup a = none then some (.frz o (.lst (ns.map V.int))) else none

/-- the law's def is called as TURN's statement calls it -/
theorem law_runs {P : Program} {w : World} {K : PySem.W.Frag} {mg mb : Str → Option Value} {k : Nat} {fa a : Addr} {fd : FuncData} {x : Str} {sp : Sp} {s1 : Shared} {vs : List Value} {ns : List Int}
    (hK : K.In s1.heap) (hm : s1.heap.Ns mainGlobals mg) (hb : s1.heap.Ns builtinsNs mb) (hbb : ∀ y : Str, y ≠ "__name__" → mb y = bootBuiltins y) (hL : s1.heap.NoLimit) (hgn : s1.gens = #[])
    (ha : s1.heap.get? a = some { cls := .type "list", data := .seq vs.toArray }) (hi : IntsAre vs ns) (hn : ns.length ≤ sizeLine) (hr : Room k callerA)
    (F : ∀ base : Heap, K.In base → base.Ns mainGlobals mg → GOk P w K mg base CX0 k fa fd [x] sp) (hbd : ∀ (s : Shared) (u : Value), BindsTo s fd ⟨[u], []⟩ [(x, u)])
    (hsp : ∀ H : Hp, Only H → SqL K H a (ns.map V.int) → sp [.ref a] H (fun v _ => v = .bl true) fun _ _ _ => False) :
    codeAny (model P w) callerA (.call (.ref fa) ⟨[.ref a], []⟩) (fun r s' => r = .ok (.ret (.bool true)) ∧ OldK s1.heap s'.heap ∧ s'.os = s1.os ∧ AllBare s'.gens) s1 := by
  let ob : Obj := { cls := .type "list", data := .seq vs.toArray }
  let H : Hp := scriptH K a ob ns
  have hH : ∀ b u, H b = some u → b = a ∧ K.lookup a = none ∧ u = .frz ob (.lst (ns.map V.int)) := by
    intro b u z
    by_cases c : b = a ∧ K.lookup a = none
    · have z2 : (if b = a ∧ K.lookup a = none then some (HO.frz ob (.lst (ns.map V.int))) else none) = some u := z
      rw [if_pos c] at z2
      cases z2
      exact ⟨c.1, c.2, rfl⟩
    · have z2 : (if b = a ∧ K.lookup a = none then some (HO.frz ob (.lst (ns.map V.int))) else none) = some u := z
      rw [if_neg c] at z2
      cases z2
  have hOnly : Only H := fun b => by
    cases z : H b with
    | none => exact .inl rfl
    | some u => exact .inr ⟨ob, _, congrArg some (hH b u z).2.2⟩
  have rv := vals_ints hi
  have sizes : vs.length = ns.length := hi.length
  have hS : SqL K H a (ns.map V.int) := by
    cases z : K.lookup a with
    | some o =>
      have e := hK a o z
      rw [ha] at e
      cases e
      exact Or.inr ⟨_, vs.toArray, _, z, rfl, rfl, rfl, by rw [List.size_toArray, sizes]; exact hn, by simpa using rv⟩
    | none => exact Or.inl (Or.inr ⟨ob, if_pos ⟨rfl, z⟩⟩)
  have hOk : HOk P w H s1.heap := fun b u z => by
    obtain ⟨e1, _, e3⟩ := hH b u z
    subst e1
    subst e3
    exact ⟨ha, by rw [List.length_map]; exact hn, vs, _, rv, ha⟩
  have stays : ∀ {b : Addr} {o : Obj}, s1.heap.get? b = some o → H b = none → (hidT s1.heap H).get? b = some o := fun e n => hidT_get e n
  have keptK : K.In (hidT s1.heap H) := by
    intro b o z
    refine stays (hK b o z) ?_
    cases q : H b with
    | none => rfl
    | some u =>
      obtain ⟨e1, e2, _⟩ := hH b u q
      rw [e1, e2] at z
      cases z
  have keptN : ∀ {b : Addr} {m : Str → Option Value}, s1.heap.Ns b m → (hidT s1.heap H).Ns b m := by
    rintro b m ⟨o, es, ep, e, d, r⟩
    refine ⟨o, es, ep, stays e ?_, d, r⟩
    cases q : H b with
    | none => rfl
    | some u =>
      obtain ⟨e1, _, _⟩ := hH b u q
      rw [e1, ha] at e
      cases e
      exact nomatch (show Data.seq vs.toArray _ = Data.dict es ep from d)
  obtain ⟨mc, l1, l2⟩ := hL
  have start0 : Env0 P w K mg (hidT s1.heap H) callerA [] s1 H :=
    { frames := rfl
      mod := ⟨keptK, keptN hm, ⟨mb, keptN hb, hbb⟩, ⟨mc, keptN l1, l2⟩⟩
      bs := fun _ _ z => of_hidT z
      bsz := Nat.le_of_eq (hidT_size _ _)
      funs := trivial
      frf := fun b z => absurd (show b ∈ ([] : List Addr) from z) (by simp)
      hok := hOk
      bare := .of_eq hgn }
  apply codeAny_mono ((F _ keptK (keptN hm)).runs callerA [] s1 H ⟨[.ref a], []⟩ [.ref a] [.ref a] _ _ hr rfl start0 (hbd s1 (.ref a)) (.cons rfl .nil) (hsp H hOnly hS))
  intro r s' h
  match r, h with
  | .error _, h => exact h.elim
  | .ok .next, h => exact h.elim
  | .ok .brk, h => exact h.elim
  | .ok .cont, h => exact h.elim
  | .ok (.ret u), ⟨v, H', os, bare, un, hok', r', q⟩ =>
    have q' : v = .bl true := q
    subst q'
    have r2 : u = Value.bool true := r'
    subst r2
    refine ⟨rfl, OldK.of_keep fun b o e => ?_, os, bare⟩
    cases q : H b with
    | none => exact un.keep b o e q (by intro z; exact absurd (show b ∈ ([] : List Addr) from z) (by simp)) (by simp)
    | some t =>
      have q2 := q
      rw [(hH b t q).2.2] at q2
      have f1 := (hOk b _ q2).1
      have f2 := (hok' b _ (un.frzs b ob _ q2)).1
      rw [e] at f1
      rw [f2, f1]

/-- the goal behind the head, from the law's promise; the script's bits told -/
theorem walk_G {l : PySem.W.OpenLaw} {n k : Nat} {q : Program} {loose : List Str} {XP : (Str → Option Value) → Heap → Prop} {YP : World → Heap → Prop} {d : DefRec} {K : Params → PySem.W.Frag} {sp : PySem.W.Frag → Sp} {x : Str}
    (hn : l.most = some n) (hn2 : n ≤ sizeLine) (hdf : d.params.defaults = []) (hr : Room k callerA) (hY : ∀ (w : World) (h : Heap), YP w h → (K w.params).In h)
    (F : ∀ (w : World) (mg : Str → Option Value) (fa : Addr) (h : Heap), (K w.params).In h → h.Ns mainGlobals mg → mg d.name = some (.ref fa) →
      ∃ fd : FuncData, (∀ (s : Shared) (u : Value), BindsTo s fd ⟨[u], []⟩ [(x, u)]) ∧ ∀ base : Heap, (K w.params).In base → base.Ns mainGlobals mg → GOk l.prog w (K w.params) mg base CX0 k fa fd [x] (sp (K w.params)))
    (hsp : ∀ (K : PySem.W.Frag) (H : Hp) (a : Addr) (ns : List Int), ns.length ≤ n → (∀ k ∈ ns, Builtin.Int.intBits k ≤ 1048576) → Only H → SqL K H a (ns.map V.int) → sp K [.ref a] H (fun v _ => v = .bl true) fun _ _ _ => False) :
    PySem.W.WalkO q loose XP YP l.row.toRowW d [] (fun f vs => PySem.call f vs) := by
  apply Att.attach_callB hn hdf
  intro w s0 s1 mg mb fa o pm cd doc a vs ns G Y ho hd hcd hmg hobj hints hlen hbits hg
  have hK := hY w _ Y
  obtain ⟨fd, hb, hF⟩ := F w mg fa _ hK G.T.g hmg
  exact law_runs hK G.T.g G.T.b G.T.builtins G.T.nolimit hg hobj hints (Nat.le_trans hlen hn2) hr hF hb fun H hO hS => hsp (K w.params) H a ns hlen hbits hO hS
end RO

namespace RO
open PySem PySem.Spec PyProof.Rows L2

/-! ### enumerate of a tuple -/
theorem drawsT {prog : Program} {w : World} {A : Around} (hh : A.handled = none) (it t : Addr) (hne : t ≠ it) (items : Array Value) :
    Draws prog w A it [it, t] items.size (fun i v => items[i]? = some v) (fun i h => h.IsTupleIter it t i ∧ h.IsTuple t items) where
  live := fun _ _ st => by
    obtain ⟨⟨o, ho, _⟩, _⟩ := st
    exact ⟨o, ho⟩
  frame := fun i h h' st hk => ⟨Heap.IsTupleIter.at st.1 (hk it (List.mem_cons_self ..)), by
    obtain ⟨o, e, r⟩ := st.2
    exact ⟨o, hk t (by simp) o e, r⟩⟩
  item := fun i s Q E hi st hQ => RZ.nextOf_tuple_item st.1 st.2 (x := items[i]) (by simp [hi]) fun h' hit' sb =>
    hQ _ h' s.toks (by simp [hi]) ⟨hit', by
      obtain ⟨o, e, r⟩ := st.2
      exact ⟨o, (sb.2 t hne).trans e, r⟩⟩ sb
  done := fun s Q E st hE => RZ.nextOf_tuple_end hh st.1 st.2 (by simp) hE

open Sem (wp) in
open AutoSeq1 (wpAny_loadPart') in
theorem meets_enum_newT (l : Addr) (items : Array Value) (n : Nat) (dct : Option Addr) (sl : Array (Option Value)) :
    Meets (Builtin.«enumerate.__new__» ⟨[.type "enumerate", .ref l], []⟩) (fun _ R s => s.heap.get? l = some { cls := .type "tuple", dict := dct, data := .seq items n, slots := sl } ∧
      R (.ok (.ret (.ref (s.heap.push { cls := .type "tuple_iterator", data := .fields #[.ref l, .int 0 0] }).objs.size)))
        { s with heap := (s.heap.push { cls := .type "tuple_iterator", data := .fields #[.ref l, .int 0 0] }).push { cls := .type "enumerate", data := .fields #[.none, .bool false, .ref s.heap.objs.size, rawInt 0, .none, .none] } }) := by
  refine Meets.of_wp fun prog w A R s h => ?_
  obtain ⟨hp, g, d, tk, os⟩ := s
  obtain ⟨hl, h⟩ := h
  have hsub := sub_enumerate
  have hT : Heap.IsTuple (Shared.heap ⟨hp, g, d, tk, os⟩) l items := ⟨_, hl, rfl, n, rfl⟩
  wp_walk using wpAny_loadPart' hl
  refine wpAny_stack_any fun st => wpAny_pure ?_
  split
  · rename_i c _ _ _ _ _
    cases (c == Value.type "enumerate") <;>
      (wp_walk using wpAny_loadPart' hl, wpAny_pyIter_tuple hT; exact ⟨_, rfl, h⟩)
  · wp_walk using wpAny_loadPart' hl, wpAny_pyIter_tuple hT
    exact ⟨_, rfl, h⟩

theorem call_enumT {prog : Program} {w : World} {A : Around} {E : Value → Shared → Prop} {s : Shared} {l : Addr} {items : Array Value} {Q : Value → Shared → Prop} (hT : s.heap.IsTuple l items)
    (h : ∀ h', IsEnum h' (s.heap.objs.size + 1) s.heap.objs.size 0 .none → h'.IsTupleIter s.heap.objs.size l 0 → h'.objs.size = s.heap.objs.size + 2 → (∀ b o, s.heap.get? b = some o → h'.get? b = some o) →
      Q (.ref (s.heap.objs.size + 1)) { s with heap := h' }) : wpAny (model prog w) A (call (.type "enumerate") [.ref l]) Q E s := by
  obtain ⟨⟨c, dct, dt, sl⟩, hl, hc, n, hd⟩ := hT
  have hc' : c = .type "tuple" := hc
  have hd' : dt = .seq items n := hd
  subst hc' hd'
  apply callType_new F.called_enumerate (by decide) (F.typeCall_enumerate_1 _) (F.newCall_enumerate_1 _) (fun obj => F.args_object_init_2 obj _) F.entry_enumerate_new (meets_enum_newT l items n dct sl)
  refine ⟨hl, ?_⟩
  let h1 := s.heap.push { cls := .type "tuple_iterator", data := .fields #[.ref l, .int 0 0] }
  have hz : h1.objs.size = s.heap.objs.size + 1 := Heap.size_push ..
  show _ ∧ _
  rw [show (s.heap.push { cls := .type "tuple_iterator", data := .fields #[.ref l, .int 0 0] }).objs.size = s.heap.objs.size + 1 from hz]
  have he : IsEnum (h1.push { cls := .type "enumerate", data := .fields #[.none, .bool false, .ref s.heap.objs.size, rawInt 0, .none, .none] }) (s.heap.objs.size + 1) s.heap.objs.size 0 .none := by
    have z := Heap.get?_push_size h1 (o := { cls := .type "enumerate", data := .fields #[.none, .bool false, .ref s.heap.objs.size, rawInt 0, .none, .none] }) rfl
    rw [hz] at z
    exact z
  exact ⟨⟨_, he, rfl⟩, h _ he ⟨_, Heap.get?_push_of_some _ (Heap.get?_push_size _ rfl), rfl, rfl⟩ ((Heap.size_push ..).trans (congrArg (· + 1) hz)) fun b o x => Heap.get?_push_of_some _ (Heap.get?_push_of_some _ x)⟩

/-- the tuple at a, each item in a new pair with its number -/
def IteT (K : PySem.W.Frag) (a : Addr) : It where
  go := fun i H => ∃ (xs : List V) (x : V), SqT K H a xs ∧ xs[i]? = some x
  yld := fun i H v H' => ∃ T x, v = .ref T ∧ H T = none ∧ H' = upd H T (.tup [.int (i : Nat), x]) ∧ ∀ xs, SqT K H a xs → xs[i]? = some x
  stop := fun i H => ∃ xs : List V, SqT K H a xs ∧ xs.length = i

theorem turn_enumT {P : Program} {w : World} {K : PySem.W.Frag} {elts : List Expr} {kk : Nat} {tpos : Pos} (a e it : Addr) (hae : a ≠ e) (hai : a ≠ it) (hne : e ≠ it) :
    Turn P w K (.Tuple elts kk tpos) (IteT K a) [e, it] e (fun i h => (∃ old, IsEnum h e it ((i : Nat) : Int) old) ∧ h.IsTupleIter it a i) where
  mem := List.mem_cons_self ..
  obj := fun i h st b hb => by
    obtain ⟨⟨old, he⟩, ⟨o, ho, hc, hd⟩⟩ := st
    rcases List.mem_cons.mp hb with z | z
    · rw [z]
      exact ⟨_, he, fun v q => nomatch q⟩
    · have z' : b = it := by simpa using z
      exact ⟨o, z' ▸ ho, fun v q => by rw [hd] at q; cases q⟩
  keep := fun i h h' st k => by
    obtain ⟨⟨old, he⟩, hi⟩ := st
    exact ⟨⟨old, k e (by simp) _ he⟩, Heap.IsTupleIter.at hi (k it (by simp))⟩
  item := by
    intro X hP hw hK hc i pins s σ H E I hf st hg
    subst hP hw hK
    obtain ⟨⟨old, he⟩, hit⟩ := st
    obtain ⟨xs, x, hq, hx⟩ := hg
    obtain ⟨its, rv, p, hz⟩ := I.tuple hq
    obtain ⟨u, hu, ru⟩ := rv.get hx
    have hlt : i < its.toArray.size := by
      obtain ⟨z, _⟩ := List.getElem?_eq_some_iff.mp hu
      simpa using z
    have hel : e < s.heap.objs.size := Heap.lt_size he
    have hil : it < s.heap.objs.size := by
      obtain ⟨_, q, _⟩ := hit
      exact Heap.lt_size q
    refine wpAny_pyNext_enum_itemD (drawsT (A := X.A.in1) (I.ok.hd hc) it a hai its.toArray) he ⟨hit, p⟩ hlt hne (by simp [hne, Ne.symm hae]) fun y h' tk hy ho hst hT hsz hk => ?_
    have ey : y = u := by
      have z : its.toArray[i]? = some u := by simpa using hu
      exact Option.some.inj (hy.symm.trans z)
    subst ey
    refine ⟨_, rfl, wpAny_letOwnedTupleGo_enum (s := { s with heap := h', toks := tk + 1 }) ho fun h2 he2 sb => ?_⟩
    have hT2 : h2.get? s.heap.objs.size = some { cls := .type "tuple", data := .seq #[.int i tk, y] } := (sb.2 _ (Nat.ne_of_gt hel)).trans hT
    have new : ObjOk X.prog X.w (upd H s.heap.objs.size (.tup [.int (i : Nat), x])) h2 s.heap.objs.size (.tup [.int (i : Nat), x]) := by
      refine ⟨by show 2 ≤ sizeLine; decide, [.int i tk, y], .cons ⟨_, rfl⟩ (.cons ru .nil), ⟨_, hT2, rfl, _, rfl⟩⟩
    have I1 : Inv X pins σ (upd H s.heap.objs.size (.tup [.int (i : Nat), x])) { s with heap := h2, toks := tk + 1 } := by
      refine I.turnedNew (ch := [e, it]) (fun b ob hb q => ?_) hf (Nat.le_refl _) new
      have n1 : b ≠ e := fun z => hb (by simp [z])
      have n2 : b ≠ it := fun z => hb (by simp [z])
      exact (sb.2 b n1).trans (hk b ob n1 n2 q)
    refine ⟨.ref s.heap.objs.size, _, I1, rfl, ⟨_, x, rfl, I.hok.fresh (Nat.le_refl _), rfl, fun ys hy => (I.tuple_inj hy hq).symm ▸ hx⟩, ⟨⟨y, ?_⟩, Heap.IsTupleIter.at hst.1 fun o q => (sb.2 it (Ne.symm hne)).trans q⟩, fun b hb => ?_⟩
    · rw [show ((i + 1 : Nat) : Int) = (i : Int) + 1 from by omega]
      exact he2
    · have hb2 : b = e ∨ b = it := by simpa using hb
      have lt : b < s.heap.objs.size := hb2.elim (fun z => z ▸ hel) fun z => z ▸ hil
      exact (upd_ne (Nat.ne_of_lt lt)).trans (hf b hb).1
  done := by
    intro X hP hw hK hc i pins s σ H E I hf st hg
    subst hP hw hK
    obtain ⟨⟨old, he⟩, hit⟩ := st
    obtain ⟨xs, hq, hx⟩ := hg
    obtain ⟨its, rv, p, hz⟩ := I.tuple hq
    obtain ⟨f0, f1, f2, f3, f4, f5⟩ := hf it (by simp)
    have hl : its.toArray.size = i := by
      rw [List.size_toArray, ← rv.length, hx]
    rw [← hl] at hit
    exact wpAny_pyNext_enum_endD (drawsT (A := X.A.in1) (I.ok.hd hc) it a hai its.toArray) he ⟨hit, p⟩ fun h' eb => ⟨rfl, I.turned (t' := s.toks) (fun b o hb q => eb b o hb q) f0 f1 f3 f4 f5⟩
  self := fun A i s Q E st h => by
    obtain ⟨⟨_, he⟩, _⟩ := st
    exact wpAny_pyIter_enum he h

/-- enumerate(x), x a list or a tuple -/
def iEnumA (K : PySem.W.Frag) (ta : TA) : TI := fun σ H R => ta σ H fun vs H1 => ∃ a xs, vs = [.ref a] ∧ ((SqL K H1 a xs ∧ R (Ite K a) H1) ∨ (SqT K H1 a xs ∧ R (IteT K a) H1))
theorem pi_enumA {X : Cx} {e : Expr} {ta : TA} {p pos tpos : Pos} {elts : List Expr} {kk : Nat} (hg : Gl X "enumerate") (hm : X.mg "enumerate" = none) (ha : PA X [e] ta) (hs : starEach [e] X.env = [(false, eval e X.env)] := by rfl) :
    PI X (.Tuple elts kk tpos) (.Call (.Name "enumerate" p) [e] [] pos) (iEnumA X.K ta) := by
  constructor
  intro pins s σ H R I h
  refine Call_ ?_
  apply ld_blt I hg hm boot_enumerate
  apply PyProof.Rows.callWith_type1 _ hs rfl
  apply thn (ha.run pos pins s σ H _ I h)
  rintro us s1 ⟨vs, H1, I1, r1, a, xs, ex, q⟩
  subst ex
  obtain ⟨u, rfl, ru⟩ := vals1 r1
  obtain rfl : u = Value.ref a := ru
  have hle : ∀ b, b ∈ [s1.heap.objs.size + 1, s1.heap.objs.size] → FpOk X pins H1 b := fun b hb => by
    have z : b = s1.heap.objs.size + 1 ∨ b = s1.heap.objs.size := by simpa using hb
    have l : s1.heap.objs.size ≤ b := by omega
    exact I1.fpOk l (I1.hok.fresh l)
  rcases q with ⟨hq, q⟩ | ⟨hq, q⟩
  · obtain ⟨its, rv, p', hz⟩ := I1.list hq
    refine call_enumerate_list p'.isList fun h' he hit hsz hk => wpAny_pyIter_enum he ?_
    exact ⟨s1.heap.objs.size + 1, [s1.heap.objs.size + 1, s1.heap.objs.size], _, _, H1, rfl, I1.kept (t' := s1.toks) hk, turn_enum a (s1.heap.objs.size + 1) s1.heap.objs.size, ⟨⟨.none, he⟩, hit, Nat.succ_ne_self _⟩, hle, q⟩
  · obtain ⟨its, rv, p', hz⟩ := I1.tuple hq
    obtain ⟨o, ho, _⟩ := id p'
    have hal : a < s1.heap.objs.size := Heap.lt_size ho
    refine call_enumT p' fun h' he hit hsz hk => wpAny_pyIter_enum he ?_
    exact ⟨s1.heap.objs.size + 1, [s1.heap.objs.size + 1, s1.heap.objs.size], _, _, H1, rfl, I1.kept (t' := s1.toks) hk, turn_enumT a (s1.heap.objs.size + 1) s1.heap.objs.size (Nat.ne_of_lt (Nat.lt_succ_of_lt hal)) (Nat.ne_of_lt hal) (Nat.succ_ne_self _), ⟨⟨.none, he⟩, hit⟩, hle, q⟩

section
variable {K : PySem.W.Frag} {a : Addr} {xs : List V}
theorem walk_enumT : Walk (IteT K a) xs.length (fun H => SqT K H a xs) (YPair (fun i => some (.int (i : Nat))) (fun i => xs[i]?)) where
  goes := fun i _ hi q => ⟨xs, xs[i], q, by simp [hi]⟩
  stops := fun _ q => ⟨xs, q, rfl⟩
  yields := fun i H v H' _ q y => by
    obtain ⟨T, x, h1, h2, h3, h4⟩ := y
    exact ⟨T, _, x, h1, h2, h3, rfl, h4 xs q⟩
theorem walk_revT : Walk (RT.ItvT K a xs.length) xs.length (fun H => SqT K H a xs) (fun i H x H' => H' = H ∧ xs[xs.length - 1 - i]? = some x) where
  goes := fun i _ hi q => ⟨hi, xs, xs[xs.length - 1 - i], q, by
    have : xs.length - 1 - i < xs.length := by omega
    simp [this]⟩
  stops := fun _ _ => Nat.le_refl _
  yields := fun i H v H' _ q y => ⟨y.1, y.2 xs q⟩
end
end RO

namespace RO
open PySem PySem.Spec PyProof.Rows L2

/-! ### heaps -/
/-- what is tracked, but at p, is kept -/
def But (p : Addr) (H H' : Hp) : Prop := ∀ b o, b ≠ p → H b = some o → H' b = some o
section
variable {K : PySem.W.Frag} {H H0 H1 H2 : Hp} {p q a c l : Addr} {o : HO} {xs : List V} {n m : Nat}
theorem But.refl : But p H H := fun _ _ _ h => h
theorem But.trans (h : But p H H1) (h2 : But p H1 H2) : But p H H2 := fun b u n e => h2 b u n (h b u n e)
theorem But.of_same (h : Same H H1) : But p H H1 := fun b u _ e => h b u e
theorem But.put : But p H (upd H p o) := fun b u n e => (upd_ne n).trans e
theorem But.new (h : But p H0 H) (hq : H q = none) : But p H0 (upd H q o) := fun b u n e => (upd_ne (ne_of_none (h b u n e) hq)).trans (h b u n e)
/-- a place that was free at the beginning may be written -/
theorem But.own (h : But p H0 H) (hl : H0 l = none) : But p H0 (upd H l o) := fun b u n e => (upd_ne (ne_of_none e hl)).trans (h b u n e)
theorem But.rd {u : HO} (h : But p H H1) (n : a ≠ p) (r : Rd H a u) : Rd H1 a u := by
  rcases r with r | ⟨o, r⟩
  · exact .inl (h _ _ n r)
  · exact .inr ⟨o, h _ _ n r⟩
theorem But.seqL (h : But p H H1) (n : a ≠ p) (r : SqL K H a xs) : SqL K H1 a xs := r.imp (h.rd n) id
theorem But.seqT (h : But p H H1) (n : a ≠ p) (r : SqT K H a xs) : SqT K H1 a xs := r.imp (h.rd n) id
theorem same_rd {u : HO} (h : Same H H1) (r : Rd H a u) : Rd H1 a u := by
  rcases r with r | ⟨o, r⟩
  · exact .inl (h _ _ r)
  · exact .inr ⟨o, h _ _ r⟩
theorem same_seqL (h : Same H H1) (r : SqL K H a xs) : SqL K H1 a xs := r.imp (same_rd h) id
theorem same_seqT (h : Same H H1) (r : SqT K H a xs) : SqT K H1 a xs := r.imp (same_rd h) id
theorem same_new (h : Same H0 H) (hq : H q = none) : Same H0 (upd H q o) := fun b u e => (upd_ne (ne_of_none (h b u e) hq)).trans (h b u e)
theorem same_own (h : Same H0 H) (hl : H0 l = none) : Same H0 (upd H l o) := fun b u e => (upd_ne (ne_of_none e hl)).trans (h b u e)

theorem alloc (hl : H l = none) (e : upd H l o = H1) : Same H H1 ∧ H1 l = some o := by
  subst e
  exact ⟨same_new (Same.refl _) hl, upd_same⟩

theorem owned (S : Same H0 H) (hl : H0 l = none) (e : upd H l o = H1) : Same H0 H1 ∧ H1 l = some o := by
  subst e
  exact ⟨same_own S hl, upd_same⟩

/-! ### the law's pen: a list of the script's cells, a place, a rest -/
def PenAt (H : Hp) (p c : Addr) (n : Nat) : Prop := ∃ at_ cy : Int, H p = some (.lst [.ref c, .int at_, .int cy]) ∧ 0 ≤ at_ ∧ at_ ≤ n ∧ 0 ≤ cy
def Cells (K : PySem.W.Frag) (H : Hp) (p c : Addr) : Prop := c ≠ p ∧ ∃ ns : List Int, SqL K H c (ns.map V.int) ∧ ns.length ≤ 63
/-- from H0 to H: the pen at p has gone on to n draws at most, all else is kept -/
structure Go (K : PySem.W.Frag) (p c : Addr) (H0 : Hp) (n : Nat) (H : Hp) : Prop where
  but : But p H0 H
  pen : PenAt H p c n
  cel : Cells K H p c
theorem Cells.but (h : Cells K H p c) (b : But p H H1) : Cells K H1 p c := by
  obtain ⟨ne, ns, r, l⟩ := h
  exact ⟨ne, ns, b.seqL ne r, l⟩
theorem PenAt.mono (h : PenAt H p c n) (hm : n ≤ m) : PenAt H p c m := by
  obtain ⟨i, j, e, h1, h2, h3⟩ := h
  exact ⟨i, j, e, h1, by omega, h3⟩
theorem Go.refl (h : PenAt H p c n) (hc : Cells K H p c) : Go K p c H n H := ⟨But.refl, h, hc⟩
theorem Go.self (g : Go K p c H0 n H) : Go K p c H n H := ⟨But.refl, g.pen, g.cel⟩
theorem Go.mono (g : Go K p c H0 n H) (hm : n ≤ m) : Go K p c H0 m H := ⟨g.but, g.pen.mono hm, g.cel⟩
theorem Go.trans (g : Go K p c H0 n H1) (g2 : Go K p c H1 m H2) : Go K p c H0 m H2 := ⟨g.but.trans g2.but, g2.pen, g2.cel⟩
theorem Go.tracked (g : Go K p c H0 n H) : ∃ o, H p = some o := by
  obtain ⟨_, _, e, _⟩ := g.pen
  exact ⟨_, e⟩
theorem Go.ne_new (g : Go K p c H0 n H) (hq : H q = none) : p ≠ q := by
  obtain ⟨o, e⟩ := g.tracked
  exact ne_of_none e hq
theorem Go.make {i j : Int} (hc : Cells K H0 p c) (b : But p H0 H) (e : H p = some (.lst [.ref c, .int i, .int j])) (h1 : 0 ≤ i) (h2 : i ≤ (n : Nat)) (h3 : 0 ≤ j) : Go K p c H0 n H := ⟨b, ⟨i, j, e, h1, h2, h3⟩, hc.but b⟩
theorem Go.free (g : Go K p c H0 n H) (hq : H q = none) : H0 q = none := by
  cases z : H0 q with
  | none => rfl
  | some o => exact absurd (g.but q o (Ne.symm (g.ne_new hq)) z) (by rw [hq]; exact nofun)
/-- a new object -/
theorem Go.new (g : Go K p c H0 n H) (hq : H q = none) : Go K p c H0 n (upd H q o) := by
  have hp := g.ne_new hq
  obtain ⟨i, j, e, r⟩ := id g.pen
  have b1 : But p H (upd H q o) := But.refl.new hq
  exact ⟨g.but.new hq, ⟨i, j, (upd_ne hp).trans e, r⟩, g.cel.but b1⟩
/-- an own object is written: it was free at the beginning; the cells aren't it -/
theorem Go.own (g : Go K p c H0 n H) (hl : H0 l = none) (hp : l ≠ p) (hc : Cells K H0 p c) : Go K p c H0 n (upd H l o) := by
  obtain ⟨i, j, e, r⟩ := id g.pen
  exact ⟨g.but.own hl, ⟨i, j, (upd_ne (Ne.symm hp)).trans e, r⟩, hc.but (g.but.own hl)⟩
theorem Go.same (g : Go K p c H0 n H) (h : Same H H1) : Go K p c H0 n H1 := by
  obtain ⟨i, j, e, r⟩ := id g.pen
  exact ⟨g.but.trans (But.of_same h), ⟨i, j, h _ _ e, r⟩, g.cel.but (But.of_same h)⟩
end

/-! ### numbers -/
theorem fmod_lt {a b : Int} (h : 0 < b) : Int.fmod a b < b := Int.fmod_lt_of_pos a h
theorem fmod_ge {a b : Int} (h : 0 < b) : 0 ≤ Int.fmod a b := Int.fmod_nonneg_of_pos a h
theorem fdiv_ge {a b : Int} (h : 0 ≤ a) (h2 : 0 ≤ b) : 0 ≤ Int.fdiv a b := Int.fdiv_nonneg h h2

theorem atI_fmod {α : Type} {xs : List α} {i : Int} (h : 0 < xs.length) : ∃ v, v ∈ xs ∧ atI xs (Int.fmod i xs.length) = some v := by
  have h0 : (0 : Int) < xs.length := by omega
  have g := fmod_ge (a := i) h0
  have l := fmod_lt (a := i) h0
  obtain ⟨j, e⟩ := Int.eq_ofNat_of_zero_le g
  rw [e] at l ⊢
  have hj : j < xs.length := by omega
  exact ⟨xs[j], List.getElem_mem hj, atI_nat (List.getElem?_eq_getElem hj)⟩
theorem atI_lt {α : Type} {xs : List α} {i : Int} (h0 : 0 ≤ i) (h : i < xs.length) : ∃ v, v ∈ xs ∧ atI xs i = some v := by
  obtain ⟨j, rfl⟩ := Int.eq_ofNat_of_zero_le h0
  have hj : j < xs.length := by omega
  exact ⟨xs[j], List.getElem_mem hj, atI_nat (List.getElem?_eq_getElem hj)⟩

/-! ### data whose repr is short -/
structure RepOk (d : PyData) (k n : Nat) : Prop where
  sh : d.showable = true
  nd : d.hasDict = false
  dp : d.depth ≤ k
  lv : d.leavesShort 400 = true
  cl : d.canLay0 = true
  bk : d.bulk ≤ n
theorem RepOk.mono {d : PyData} {k n k' n' : Nat} (h : RepOk d k n) (hk : k ≤ k') (hn : n ≤ n') : RepOk d k' n' := ⟨h.sh, h.nd, Nat.le_trans h.dp hk, h.lv, h.cl, Nat.le_trans h.bk hn⟩
theorem RepOk.fits {d : PyData} {k n : Nat} (h : RepOk d k n) (hn : n ≤ 40000) : d.shown.length ≤ sizeLine := by
  have e := PyData.shown_le_bulk 400 (by decide) d h.lv
  have b := h.bk
  have : (400 + 2) * d.bulk ≤ 402 * 40000 := Nat.mul_le_mul (by decide) (by omega)
  rw [sizeLine_eq]
  omega
theorem RepOk.none : RepOk .none 0 0 := ⟨rfl, rfl, Nat.le_refl _, by decide +kernel, rfl, Nat.le_refl _⟩
theorem RepOk.bool (b : Bool) : RepOk (.bool b) 0 0 := ⟨rfl, rfl, Nat.le_refl _, by cases b <;> decide +kernel, rfl, Nat.le_refl _⟩
theorem log2_small {i : Int} (h : i.natAbs < 2 ^ 398) : i.natAbs.log2 < 398 := by
  by_cases z : i.natAbs = 0
  · rw [z]
    decide
  · exact (Nat.log2_lt z).mpr h
theorem RepOk.int {i : Int} (h : i.natAbs < 2 ^ 398) : RepOk (.int i) 0 0 := by
  have l := log2_small h
  refine ⟨?_, rfl, Nat.le_refl _, ?_, rfl, Nat.le_refl _⟩
  · simp only [PyData.showable, decide_eq_true_eq]
    omega
  · have e := int_text_length_le (a := i) (k := 398) (by decide) l
    have e2 : (Str.ofString (toString i)).length = (toString i).length := PySem.ofString_length _
    have e3 : (PyData.int i).shown.length ≤ 400 := by
      show (Str.ofString (toString i)).length ≤ 400
      rw [e2]
      exact Nat.le_trans e (by decide)
    unfold PyData.leavesShort
    exact decide_eq_true e3
theorem RepOk.str {x : Str} {n : Nat} (h : x.length ≤ n) (hc : ∀ c ∈ x.cps.toList, c < 16 ^ 8) (ho : (PyData.str x).canLay0 = true) : RepOk (.str x) 0 n := by
  refine ⟨rfl, rfl, Nat.le_refl _, ?_, ho, h⟩
  simp only [PyData.leavesShort, List.all_eq_true, decide_eq_true_eq]
  exact hc
theorem rep_all {ds : List PyData} {k n : Nat} : (∀ d ∈ ds, RepOk d k n) → PyData.showableAll ds = true ∧ PyData.hasDictAll ds = false ∧ PyData.depthAll ds ≤ k ∧ PyData.leavesShortAll 400 ds = true ∧ PyData.canLayAll0 ds = true ∧ PyData.bulkAll ds ≤ ds.length * (n + 1) := by
  induction ds with
  | nil => intro _; exact ⟨rfl, rfl, Nat.zero_le _, rfl, rfl, Nat.zero_le _⟩
  | cons d r ih =>
    intro h
    obtain ⟨h1, h2, h3, h4, h6, h5⟩ := ih fun x hx => h x (List.mem_cons_of_mem _ hx)
    have q := h d (List.mem_cons_self ..)
    refine ⟨?_, ?_, ?_, ?_, ?_, ?_⟩
    · simp only [PyData.showableAll, q.sh, h1, Bool.and_self]
    · simp only [PyData.hasDictAll, q.nd, h2, Bool.or_self]
    · simp only [PyData.depthAll]
      exact Nat.max_le.mpr ⟨q.dp, h3⟩
    · simp only [PyData.leavesShortAll, q.lv, h4, Bool.and_self]
    · simp only [PyData.canLayAll0, q.cl, h6, Bool.and_self]
    · simp only [PyData.bulkAll, List.length_cons]
      have b := q.bk
      have e : (r.length + 1) * (n + 1) = r.length * (n + 1) + (n + 1) := Nat.succ_mul _ _
      omega
theorem RepOk.list {ds : List PyData} {k n : Nat} (h : ∀ d ∈ ds, RepOk d k n) : RepOk (.list ds) (k + 1) (ds.length * (n + 1)) := by
  obtain ⟨h1, h2, h3, h4, h6, h5⟩ := rep_all h
  exact ⟨by simpa only [PyData.showable] using h1, by simpa only [PyData.hasDict] using h2, by simp only [PyData.depth]; omega, by simpa only [PyData.leavesShort] using h4, by simpa only [PyData.canLay0] using h6, by simpa only [PyData.bulk] using h5⟩
theorem RepOk.tuple {ds : List PyData} {k n : Nat} (h : ∀ d ∈ ds, RepOk d k n) : RepOk (.tuple ds) (k + 1) (ds.length * (n + 1)) := by
  obtain ⟨h1, h2, h3, h4, h6, h5⟩ := rep_all h
  exact ⟨by simpa only [PyData.showable] using h1, by simpa only [PyData.hasDict] using h2, by simp only [PyData.depth]; omega, by simpa only [PyData.leavesShort] using h4, by simpa only [PyData.canLay0] using h6, by simpa only [PyData.bulk] using h5⟩

theorem RepOk.shaped {d : PyData} {k n : Nat} (h : RepOk d k n) (hk : k ≤ 64) : SeqAt.shaped d = true := by
  unfold SeqAt.shaped
  rw [h.cl, Bool.true_and]
  exact decide_eq_true (Nat.le_trans h.dp hk)
/-- repr(x): its text, by the data alone -/
def rRepr2 (K : PySem.W.Frag) : List V → Hp → VK → Prop := fun xs H Q => ∃ v d k n, xs = [v] ∧ Dp K H v d ∧ RepOk d k n ∧ k ≤ 40 ∧ n ≤ 40000 ∧ Q (.str d.shown) H
theorem call_reprD {X : Cx} (hG : X.A.guards = some []) (hu : X.A.units + 64 < cLine) : CallR X (.builtin "repr") (rRepr2 X.K) := by
  intro pins s σ H xs us Q I r h
  obtain ⟨v, d, k, n, e, hd, ok, hk, hn, q⟩ := h
  exact call_repr hG hu pins s σ H xs us Q I r ⟨v, d, e, hd, ok.sh, ok.nd, Nat.le_trans ok.dp hk, ok.fits hn, q⟩

/-! data that is read at one heap is read at each that keeps what is tracked -/
section
variable {K : PySem.W.Frag} {H H1 : Hp}
mutual
theorem dp_same (h : Same H H1) : ∀ (d : PyData) (v : V), Dp K H v d → Dp K H1 v d
  | .none, _, q => by
    cases q
    exact .non
  | .bool b, _, q => by
    cases q
    exact .bl b
  | .int i, _, q => by
    cases q
    exact .int i
  | .str x, _, q => by
    cases q
    exact .str x
  | .list ds, _, q => by
    cases q with
    | lst h1 h2 => exact .lst (same_seqL h h1) (dpAll_same h ds _ h2)
  | .tuple ds, _, q => by
    cases q with
    | tup h1 h2 => exact .tup (same_seqT h h1) (dpAll_same h ds _ h2)
  | .dict _, _, q => nomatch q
theorem dpAll_same (h : Same H H1) : ∀ (ds : List PyData) (vs : List V), DpAll K H vs ds → DpAll K H1 vs ds
  | [], _, q => by
    cases q
    exact .nil
  | d :: ds, _, q => by
    cases q with
    | cons h1 h2 => exact .cons (dp_same h d _ h1) (dpAll_same h ds _ h2)
end
/-- flat things as data -/
theorem dpAll_ints : ∀ ns : List Int, DpAll K H (ns.map V.int) (ns.map PyData.int)
  | [] => .nil
  | n :: r => .cons (.int n) (dpAll_ints r)
theorem dpAll_strs : ∀ ns : List Str, DpAll K H (ns.map V.str) (ns.map PyData.str)
  | [] => .nil
  | n :: r => .cons (.str n) (dpAll_strs r)
theorem DpAll.map {α : Type} {f : α → V} {g : α → PyData} : ∀ {l : List α}, (∀ x ∈ l, Dp K H (f x) (g x)) → DpAll K H (l.map f) (l.map g)
  | [], _ => .nil
  | x :: r, h => .cons (h x (List.mem_cons_self ..)) (DpAll.map fun y hy => h y (List.mem_cons_of_mem _ hy))
end
end RO

namespace RO
open PySem PySem.Spec PyProof.Rows L2

/-! ### short texts -/
def TOk (k : Nat) (t : Str) : Prop := t.length ≤ k ∧ ∀ c ∈ t.cps.toList, c < 128
theorem TOk.mono {k j : Nat} {t : Str} (h : TOk k t) (l : k ≤ j) : TOk j t := ⟨Nat.le_trans h.1 l, h.2⟩
theorem str_len (t : Str) : t.length = t.cps.toList.length := by
  show t.cps.size = _
  simp
theorem cut_ok {k : Nat} {t : Str} (h : TOk k t) (lo hi : Option Int) : TOk k (cutS t lo hi) := by
  refine ⟨?_, fun c hc => ?_⟩
  · have e := str_len (cutS t lo hi)
    have e2 := str_len t
    have l := h.1
    rw [e]
    unfold cutS
    simp only [List.length_take, List.length_drop]
    omega
  · unfold cutS at hc
    simp only at hc
    exact h.2 c (List.mem_of_mem_drop (List.mem_of_mem_take hc))
theorem codes_app (a b : Str) : (a ++ b).cps.toList = a.cps.toList ++ b.cps.toList := by
  show (a.cps ++ b.cps).toList = _
  simp
theorem codes_join0 : ∀ l : List Str, (Str.join (Str.ofString "") l).cps.toList = l.flatMap (·.cps.toList)
  | [] => rfl
  | [x] => by
    show x.cps.toList = _
    simp
  | x :: y :: r => by
    show (x ++ Str.ofString "" ++ Str.join (Str.ofString "") (y :: r)).cps.toList = _
    rw [codes_app, codes_app, codes_join0 (y :: r)]
    have : (Str.ofString "").cps.toList = [] := by decide +kernel
    rw [this, List.append_nil]
    simp only [List.flatMap_cons]
/-- signs put together -/
theorem join_ok {l : List Str} (h : ∀ x ∈ l, TOk 1 x) : TOk l.length (Str.join (Str.ofString "") l) := by
  refine ⟨?_, fun c hc => ?_⟩
  · rw [str_len, codes_join0]
    induction l with
    | nil => exact Nat.le_refl _
    | cons x r ih =>
      have a := (h x (List.mem_cons_self ..)).1
      rw [str_len] at a
      have b := ih fun y hy => h y (List.mem_cons_of_mem _ hy)
      rw [List.flatMap_cons, List.length_append, List.length_cons]
      omega
  · rw [codes_join0] at hc
    obtain ⟨x, hx, hc⟩ := List.mem_flatMap.mp hc
    exact (h x hx).2 c hc
theorem RepOk.tok {k : Nat} {t : Str} (h : TOk k t) : RepOk (.str t) 0 k := by
  refine RepOk.str h.1 (fun c hc => Nat.lt_of_lt_of_le (h.2 c hc) (by decide)) ?_
  simp only [PyData.canLay0, PyData.strOk, ← Array.all_toList, List.all_eq_true, decide_eq_true_eq]
  exact fun c hc => Nat.lt_of_lt_of_le (h.2 c hc) (by decide)

/-! ### rows -/
/-- what a row bears -/
inductive What where
  | order (i : Int)
  | name (t : Str)
  deriving DecidableEq
def What.v : What → V
  | .order i => .int i
  | .name t => .str t
def What.d : What → PyData
  | .order i => .int i
  | .name t => .str t
theorem What.v_inj {a b : What} (h : a.v = b.v) : a = b := by
  cases a <;> cases b <;> simp_all [What.v]
theorem What.dp {K : PySem.W.Frag} {H : Hp} (x : What) : Dp K H x.v x.d := by
  cases x with
  | order i => exact .int i
  | name t => exact .str t
theorem What.rep {x : What} (h : (∃ i : Int, x = .order i ∧ -4 ≤ i ∧ i ≤ 4) ∨ ∃ t, x = .name t ∧ TOk 8 t) : RepOk x.d 0 8 := by
  rcases h with ⟨i, rfl, h1, h2⟩ | ⟨t, rfl, h⟩
  · exact (RepOk.int (by omega)).mono (Nat.le_refl _) (by omega)
  · exact RepOk.tok h
theorem scal_what (x y : What) : scal x.v y.v = true := by cases x <;> cases y <;> rfl
theorem What.flat (x : What) : flatV x.v = true := by cases x <;> rfl
structure Row where
  m : Int
  l : Str
  w : What
def lines6 : List Str := ["port", "star", "down", "aport", "astar", "up"]
def tubes : List Str := ["down", "up"]
/-- a row as DOC asks -/
structure Row.Ok (r : Row) : Prop where
  m0 : 0 ≤ r.m
  m1 : r.m ≤ 99999
  ln : r.l ∈ lines6
  wh : (r.l ∈ tubes ∧ ∃ t, r.w = .name t ∧ TOk 8 t) ∨ (r.l ∉ tubes ∧ ∃ i, r.w = .order i ∧ -4 ≤ i ∧ i ≤ 4)
theorem lines6_ok : ∀ l ∈ lines6, TOk 8 l := by
  intro l h
  have h2 : l = "port" ∨ l = "star" ∨ l = "down" ∨ l = "aport" ∨ l = "astar" ∨ l = "up" := by simpa [lines6] using h
  rcases h2 with rfl | rfl | rfl | rfl | rfl | rfl <;> exact ⟨by decide +kernel, by decide +kernel⟩
def Row.d (r : Row) : PyData := .tuple [.int r.m, .str r.l, r.w.d]
theorem Row.Ok.rep {r : Row} (h : r.Ok) : RepOk r.d 1 27 := by
  refine (RepOk.tuple (k := 0) (n := 8) fun d hd => ?_).mono (Nat.le_refl _) (by show 3 * 9 ≤ 27; omega)
  have z : d = .int r.m ∨ d = .str r.l ∨ d = r.w.d := by simpa using hd
  rcases z with rfl | rfl | rfl
  · exact (RepOk.int (by have := h.m0; have := h.m1; omega)).mono (Nat.le_refl _) (by omega)
  · exact RepOk.tok (lines6_ok _ h.ln)
  · refine What.rep ?_
    rcases h.wh with ⟨_, t, e, q⟩ | ⟨_, i, e, q1, q2⟩
    · exact .inr ⟨t, e, q⟩
    · exact .inl ⟨i, e, q1, q2⟩

/-- the row r stands at a -/
def RowAt (K : PySem.W.Frag) (H : Hp) (a : Addr) (r : Row) : Prop := SqT K H a [.int r.m, .str r.l, r.w.v]
/-- rows at places -/
inductive RowsAt (K : PySem.W.Frag) (H : Hp) : List Addr → List Row → Prop
  | nil : RowsAt K H [] []
  | cons {a : Addr} {r : Row} {as : List Addr} {rs : List Row} : RowAt K H a r → RowsAt K H as rs → RowsAt K H (a :: as) (r :: rs)
/-- the log rs stands at t -/
def LogAt (K : PySem.W.Frag) (H : Hp) (t : Addr) (rs : List Row) : Prop := ∃ as : List Addr, SqT K H t (as.map V.ref) ∧ RowsAt K H as rs
section
variable {K : PySem.W.Frag} {H H1 : Hp} {t a : Addr} {as : List Addr} {rs : List Row} {r : Row}
theorem RowsAt.length (h : RowsAt K H as rs) : as.length = rs.length := by
  induction h with
  | nil => rfl
  | cons _ _ ih => exact congrArg (· + 1) ih
theorem RowsAt.get (h : RowsAt K H as rs) : ∀ {i : Nat} {r : Row}, rs[i]? = some r → ∃ a, as[i]? = some a ∧ RowAt K H a r := by
  induction h with
  | nil => intro i r e; simp at e
  | cons h1 _ ih =>
    intro i r e
    cases i with
    | zero =>
      simp at e
      subst e
      exact ⟨_, rfl, h1⟩
    | succ i => exact ih (by simpa using e)
theorem RowsAt.get' (h : RowsAt K H as rs) : ∀ {i : Nat} {a : Addr}, as[i]? = some a → ∃ r, rs[i]? = some r ∧ RowAt K H a r := by
  induction h with
  | nil => intro i r e; simp at e
  | cons h1 _ ih =>
    intro i r e
    cases i with
    | zero =>
      simp at e
      subst e
      exact ⟨_, rfl, h1⟩
    | succ i => exact ih (by simpa using e)
theorem RowsAt.snoc (h : RowsAt K H as rs) (h1 : RowAt K H a r) : RowsAt K H (as ++ [a]) (rs ++ [r]) := by
  induction h with
  | nil => exact .cons h1 .nil
  | cons h2 _ ih => exact .cons h2 ih
theorem RowsAt.imp (h : RowsAt K H as rs) (f : ∀ a r, RowAt K H a r → RowAt K H1 a r) : RowsAt K H1 as rs := by
  induction h with
  | nil => exact .nil
  | cons h2 _ ih => exact .cons (f _ _ h2) ih
theorem RowsAt.same (h : RowsAt K H as rs) (s : Same H H1) : RowsAt K H1 as rs := h.imp fun _ _ q => same_seqT s q
theorem seqT_lst {p : Addr} {xs ys : List V} (h : SqT K H a xs) (hp : H p = some (.lst ys)) (b : But p H H1) : SqT K H1 a xs := by
  rcases h with h | h
  · have n : a ≠ p := by
      rcases h with h | ⟨o, h⟩
      · exact ne_of h hp (by intro z; cases z)
      · exact ne_of h hp (by intro z; cases z)
    exact .inl (b.rd n h)
  · exact .inr h
theorem seqT_go {p c : Addr} {n : Nat} {xs : List V} (h : SqT K H a xs) (hp : PenAt H p c n) (b : But p H H1) : SqT K H1 a xs := by
  obtain ⟨_, _, e, _⟩ := hp
  exact seqT_lst h e b
theorem RowsAt.lst {p : Addr} {ys : List V} (h : RowsAt K H as rs) (hp : H p = some (.lst ys)) (b : But p H H1) : RowsAt K H1 as rs := h.imp fun _ _ q => seqT_lst q hp b
theorem RowsAt.go {p c : Addr} {n : Nat} (h : RowsAt K H as rs) (hp : PenAt H p c n) (b : But p H H1) : RowsAt K H1 as rs := by
  obtain ⟨_, _, e, _⟩ := hp
  exact h.lst e b
theorem LogAt.go {p c : Addr} {n : Nat} (h : LogAt K H t rs) (hp : PenAt H p c n) (b : But p H H1) : LogAt K H1 t rs := by
  obtain ⟨as, h1, h2⟩ := h
  obtain ⟨_, _, e, _⟩ := id hp
  exact ⟨as, seqT_lst h1 e b, h2.go hp b⟩
theorem RowsAt.take (h : RowsAt K H as rs) (n : Nat) : RowsAt K H (as.take n) (rs.take n) := by
  induction h generalizing n with
  | nil => simp; exact .nil
  | cons h2 _ ih =>
    cases n with
    | zero => exact .nil
    | succ n => exact .cons h2 (ih n)
theorem RowsAt.drop (h : RowsAt K H as rs) (n : Nat) : RowsAt K H (as.drop n) (rs.drop n) := by
  induction h generalizing n with
  | nil => simp; exact .nil
  | cons h2 h3 ih =>
    cases n with
    | zero => exact .cons h2 h3
    | succ n => exact ih n
theorem LogAt.same (h : LogAt K H t rs) (s : Same H H1) : LogAt K H1 t rs := by
  obtain ⟨as, h1, h2⟩ := h
  exact ⟨as, same_seqT s h1, h2.same s⟩
theorem RowAt.dp (h : RowAt K H a r) : Dp K H (.ref a) r.d := .tup h (.cons (.int _) (.cons (.str _) (.cons r.w.dp .nil)))
theorem RowsAt.dp (h : RowsAt K H as rs) : DpAll K H (as.map V.ref) (rs.map Row.d) := by
  induction h with
  | nil => exact .nil
  | cons h2 _ ih => exact .cons h2.dp ih
theorem LogAt.dp (h : LogAt K H t rs) : Dp K H (.ref t) (.tuple (rs.map Row.d)) := by
  obtain ⟨as, h1, h2⟩ := h
  exact .tup h1 h2.dp
theorem log_rep (h : ∀ r ∈ rs, r.Ok) (l : rs.length ≤ 41) : RepOk (.tuple (rs.map Row.d)) 2 1148 := by
  refine (RepOk.tuple (k := 1) (n := 27) fun d hd => ?_).mono (Nat.le_refl _) ?_
  · obtain ⟨r, hr, rfl⟩ := List.mem_map.mp hd
    exact (h r hr).rep
  · rw [List.length_map]
    omega
end
theorem ints_rep {ns : List Int} {k : Nat} (h : ∀ n ∈ ns, n.natAbs < 2 ^ 398) (l : ns.length ≤ k) : RepOk (.list (ns.map PyData.int)) 1 k := by
  refine (RepOk.list (k := 0) (n := 0) fun d hd => ?_).mono (Nat.le_refl _) ?_
  · obtain ⟨r, hr, rfl⟩ := List.mem_map.mp hd
    exact RepOk.int (h r hr)
  · rw [List.length_map]
    omega
theorem cut_take (xs : List V) (i : Nat) (h : i ≤ xs.length) : cutV xs none (some (i : Int)) = xs.take i := by
  unfold cutV
  rw [HT.sIx_none, HT.sIx_nat, List.drop_zero, Nat.min_eq_left h, Nat.sub_zero]
theorem cut_drop (xs : List V) (i : Nat) : cutV xs (some (i : Int)) none = xs.drop i := by
  unfold cutV
  rw [HT.sIx_none, HT.sIx_nat]
  by_cases h : i ≤ xs.length
  · rw [Nat.min_eq_left h, List.take_of_length_le (by rw [List.length_drop]; exact Nat.le_refl _)]
  · rw [Nat.min_eq_right (by omega), List.drop_length, List.drop_eq_nil_of_le (by omega)]
    simp
theorem cut_not (xs : List V) (i : Nat) (h : i < xs.length) : ¬(HT.sIx xs.length 0 none = 0 ∧ HT.sIx xs.length xs.length (some (i : Int)) = xs.length) := fun z => by
  rw [HT.sIx_nat] at z
  omega
/-! ### the rules that name the written part, with it said: they stand within comprehensions, too -/
section
variable (K : PySem.W.Frag) {X : Cx}
theorem kx_seq (h : X.K = K := by rfl) : IxR X (rIx K) := by
  subst h
  exact ix_seq
theorem kx_list (h : X.K = K := by rfl) : IxR X (rIxL K) := by
  subst h
  exact ix_list
theorem kx_tup (h : X.K = K := by rfl) : IxR X (rIxT K) := by
  subst h
  exact ix_tup
theorem k_slL (h : X.K = K := by rfl) : SlR X (rSlL K) := by
  subst h
  exact sl_list
theorem k_slT (h : X.K = K := by rfl) : SlR X (rSlT K) := by
  subst h
  exact sl_tup
theorem k_slA (h : X.K = K := by rfl) : SlR X (rSlA K) := by
  subst h
  exact sl_tupA
theorem k_in (h : X.K = K := by rfl) : OpR X (compareOp .In) (rIn K false) := by
  subst h
  exact op_in_seq
theorem k_notin (h : X.K = K := by rfl) : OpR X (compareOp .NotIn) (rIn K true) := by
  subst h
  exact op_notIn_seq
def rLen (K : PySem.W.Frag) : List V → Hp → VK → Prop := fun xs H Q => ∃ p ys, xs = [.ref p] ∧ (SqL K H p ys ∨ SqT K H p ys) ∧ Q (.int ys.length) H
theorem k_len (h : X.K = K := by rfl) : CallR X (.builtin "len") (rLen K) := by
  subst h
  exact call_len_seq
theorem k_isi (h : X.K = K := by rfl) : CallR X (.builtin "isinstance") (rIsi K) := by
  subst h
  exact call_isi
theorem k_eqD (hu : X.A.units + 64 < cLine) (h : X.K = K := by rfl) : OpR X (compareOp .Eq) (rEqD K) := by
  subst h
  exact op_eqD hu
theorem k_neD (hu : X.A.units + 64 < cLine) (h : X.K = K := by rfl) : OpR X (compareOp .NotEq) (rNeD K) := by
  subst h
  exact op_neD hu
theorem k_repr (hG : X.A.guards = some []) (hu : X.A.units + 64 < cLine) (h : X.K = K := by rfl) : CallR X (.builtin "repr") (rRepr2 K) := by
  subst h
  exact call_reprD hG hu
def rTupOf (K : PySem.W.Frag) : List V → Hp → VK → Prop := fun xs H Q => ∃ p ys, xs = [.ref p] ∧ ((SqL K H p ys ∧ ∀ l, H l = none → Q (.ref l) (upd H l (.tup ys))) ∨ (SqT K H p ys ∧ Q (.ref p) H))
theorem k_tupOf (h : X.K = K := by rfl) : CallR X (.type "tuple") (rTupOf K) := by
  subst h
  exact call_tuple_of
def rListOf (K : PySem.W.Frag) : List V → Hp → VK → Prop := fun xs H Q => ∃ p ys, xs = [.ref p] ∧ (SqL K H p ys ∨ SqT K H p ys) ∧ ∀ l, H l = none → Q (.ref l) (upd H l (.lst ys))
theorem k_listOf (h : X.K = K := by rfl) : CallR X (.type "list") (rListOf K) := by
  subst h
  exact call_list_of
theorem k_isiT (h : X.K = K := by rfl) : CallR X (.builtin "isinstance") (rIsiT K) := by
  subst h
  exact call_isiT
theorem k_all (hc : X.calm = true) (h : X.K = K := by rfl) : CallR X (.builtin "all") (rAll K) := by
  subst h
  exact cr_all hc
theorem k_any (hc : X.calm = true) (h : X.K = K := by rfl) : CallR X (.builtin "any") (rAny K) := by
  subst h
  exact cr_any hc
theorem k_sorted (h : X.K = K := by rfl) : CallR X (.builtin "sorted") (rSortedI K) := by
  subst h
  exact cr_sortedI
theorem k_catT (h : X.K = K := by rfl) : OpR X (binaryOp .Add) (rCatT K) := by
  subst h
  exact op_catT
theorem k_pgT {es : List Expr} {k : Nat} {t : TGs} {n : Nat} {pos : Pos} (hc : X.calm = true) (h : PGs X es t) (hn : (assignEach es X.env).length = n := by rfl) (hs : (assignEach es X.env).findIdx? (fun p => p.1) = none := by rfl) (hK : X.K = K := by rfl) : PG X (.Tuple es k pos) (gTup K n t) := by
  subst hK
  exact pg_tup hc h hn hs
theorem k_piL {tg l : Expr} {tl : TE} (hl : PE X l tl) (h : X.K = K := by rfl) : PI X tg l (iList K tl) := by
  subst h
  exact pi_list hl
theorem k_piT {tg l : Expr} {tl : TE} (hl : PE X l tl) (h : X.K = K := by rfl) : PI X tg l (iTup K tl) := by
  subst h
  exact pi_tup hl
end
/-! ### lists and tuples alike -/
/-- a list or a tuple is read -/
def SqE (K : PySem.W.Frag) (H : Hp) (a : Addr) (xs : List V) : Prop := SqL K H a xs ∨ SqT K H a xs
def gEither (K : PySem.W.Frag) (n : Nat) (t : TGs) : TG := fun v σ H Q => ∃ a xs, v = .ref a ∧ SqE K H a xs ∧ xs.length = n ∧ t xs σ H Q
/-- x[i], x a list or a tuple -/
def rIxE (K : PySem.W.Frag) : R2 := fun x y H Q => ∃ p xs i v, x = .ref p ∧ y = .int i ∧ SqE K H p xs ∧ atI xs i = some v ∧ Q v H
theorem kx_E (K : PySem.W.Frag) {X : Cx} (hK : X.K = K := by rfl) : IxR X (rIxE K) := by
  subst hK
  rintro value slice pins s σ H x y v u Q I rx ry ⟨p, xs, i, z, e1, e2, hq | hq, e3, q⟩ hs
  · exact ix_list value slice pins s σ H x y v u Q I rx ry ⟨p, xs, i, z, e1, e2, hq, e3, q⟩ hs
  · exact ix_tup value slice pins s σ H x y v u Q I rx ry ⟨p, xs, i, z, e1, e2, hq, e3, q⟩ hs
/-- for x in v, v a name of a list or of a tuple -/
def iEither (K : PySem.W.Frag) (i : Nat) : TI := fun σ H R => ∃ a, σ[i]? = some (some (V.ref a)) ∧ (((∃ xs, SqL K H a xs) ∧ R (Itl K a) H) ∨ ((∃ xs, SqT K H a xs) ∧ R (Itt K a) H))
theorem k_piV (K : PySem.W.Frag) {X : Cx} {tg l : Expr} {i : Nat} (hl : PE X l (tVar i)) (hK : X.K = K := by rfl) : PI X tg l (iEither K i) := by
  subst hK
  constructor
  rintro pins s σ H R I ⟨a, e, ⟨hq, q⟩ | ⟨hq, q⟩⟩
  · exact (pi_list hl).run pins s σ H R I ⟨_, e, a, rfl, hq, q⟩
  · exact (pi_tup hl).run pins s σ H R I ⟨_, e, a, rfl, hq, q⟩
section
variable {X : Cx} {K : PySem.W.Frag} {H H1 : Hp} {a p : Addr} {xs : List V}
theorem SqE.same (h : SqE K H a xs) (s : Same H H1) : SqE K H1 a xs := h.imp (same_seqL s) (same_seqT s)
theorem k_pgE (K : PySem.W.Frag) {es : List Expr} {k : Nat} {t : TGs} {n : Nat} {pos : Pos} (hc : X.calm = true) (h : PGs X es t) (hn : (assignEach es X.env).length = n := by rfl) (hs : (assignEach es X.env).findIdx? (fun p => p.1) = none := by rfl)
    (hK : X.K = K := by rfl) : PG X (.Tuple es k pos) (gEither K n t) := by
  subst hK
  constructor
  rintro pins s σ H v u Q I r ⟨a, xs, e1, hq | hq, hl, hw⟩
  · exact (pg_unl hc h hn hs).run pins s σ H v u Q I r ⟨a, xs, e1, hq, hl, hw⟩
  · exact (pg_tup hc h hn hs).run pins s σ H v u Q I r ⟨a, xs, e1, hq, hl, hw⟩
theorem seqT_ty (h : SqT K H a xs) : TyX K H (.ref a) (.type "tuple") := by
  rcases h with (h | ⟨o, h⟩) | ⟨o, its, n, e, c, _⟩
  · exact .base (.tup h)
  · exact .fTuple h
  · exact .kTuple e c
theorem seqL_ty (h : SqL K H a xs) : TyX K H (.ref a) (.type "list") := by
  rcases h with (h | ⟨o, h⟩) | ⟨o, its, n, e, c, _⟩
  · exact .base (.lst h)
  · exact .base (.frz h)
  · exact .kList e c
end
/-! ### defs with defaults -/
section
variable {P : Program} {w : World} {K : PySem.W.Frag} {mg : Str → Option Value} {base : Heap} {x qual : Str} {params : Arguments} {body : List Stmt} {scope : Scope} {dvs : List V} {f : Addr} {fd : FuncData} {ps : List Str}
theorem FunD_okN {N : List Str} {k : Nat} {sp : Sp} (F : FunD K x qual params body scope dvs [] f fd) (S : FnScope N ps scope) (len : ∀ vs H Q E, sp vs H Q E → vs.length = ps.length)
    (hb : ∀ (cdv : Value) (A : Around) (outer : List Env) (s : Shared) (H : Hp) (vs : List V) (Q : VK) (E : XK), Room k (A.deeper (envOfC qual scope s.heap.objs.size f cdv)) → sp vs H Q E →
      ∃ t, PSs (cxOf CX0 P w K mg base N qual scope f cdv A outer s H E).nox body t ∧ t { nx := fun _ H' => Q .non H', rt := Q } (start N vs) H) : FnOk P w K mg base CX0 (k + 1) f fd ps sp :=
  F.ok S len fun cdv A outer s H vs Q E hr h => by
    obtain ⟨t, h1, h2⟩ := hb cdv A outer s H vs Q E hr h
    exact ⟨t, h1.nox, h2⟩
theorem FunD_mk {oc : Value} {od an : Option Addr} {T : Addr} {kV doc pm cdv ct : Value} {osl : Array (Option Value)} {tc : Value} {td : Option Addr} {its : Array Value} {n : Nat} {tsl : Array (Option Value)}
    (l : K.lookup f = some ⟨oc, od, .func (PySem.W.fnOf x qual params body scope (.ref T) kV doc pm an cdv ct), osl⟩) (c : PySem.W.codeIn K cdv qual = true) (k : PySem.W.keepIn K (.ref f) = true)
    (lt : K.lookup T = some ⟨tc, td, .seq its n, tsl⟩) (v : Vals dvs its.toList) (hd : dvs ≠ []) : FunD K x qual params body scope dvs [] f (PySem.W.fnOf x qual params body scope (.ref T) kV doc pm an cdv ct) :=
  ⟨⟨oc, od, _, kV, doc, pm, an, cdv, ct, osl, rfl, l, c, .inr ⟨hd, T, _, its.toList, n, rfl, lt, by simp, v⟩, .inl rfl⟩, k⟩
/-- keywords, the defaults filling up what lacks -/
theorem FunD_kb (F : FunD K x qual params body scope dvs [] f fd) (hd : dvs ≠ []) (ks : List Str) (g : List Value → List Value → List Value → List Value) (gV : List V → List V → List V → List V)
    (rel : ∀ {vs ds zs : List V} {us its ws : List Value}, Vals vs us → Vals ds its → Vals zs ws → Vals (gV vs ds zs) (g us its ws))
    (h : ∀ (T : Addr) (kV doc pm : Value) (an : Option Addr) (cdv ct : Value) (us its ws : List Value), its.length = dvs.length → (g us its ws).length = ps.length →
      ∃ k, bindArgs (PySem.W.fnOf x qual params body scope (.ref T) kV doc pm an cdv ct) ⟨us, ks.zip ws⟩ = seqItems? (.ref T) >>= k ∧ k (some its.toArray) = pure (ps.zip (g us its ws))) :
    ∃ its : List Value, KBinds K fd ps ks (fun us ws => g us its ws) (fun vs zs => gV vs dvs zs) := by
  obtain ⟨oc, od, dV, kV, doc, pm, an, cdv, ct, osl, e, lk, hcd, hD, _⟩ := F.ex
  subst e
  rcases hD with ⟨e, _⟩ | ⟨_, T, o, its, m, rfl, lT, oT, rT⟩
  · exact absurd e hd
  · refine ⟨its, fun s us ws X hl => ?_, fun r1 r2 => rel r1 rT r2⟩
    obtain ⟨k, e1, e2⟩ := h T kV doc pm an cdv ct us its ws rT.length.symm hl
    refine BindsTo.of_looks fun M => ?_
    rw [e1]
    exact looks_items X lT oT (.of_pure e2)
end
end RO

namespace RO
open PySem PySem.Spec PyProof.Rows L2

/-! ### dicts of at most one pair, as data -/
/-- a number or a text, as data -/
inductive Sc : V → PyData → Prop
  | int (i : Int) : Sc (.int i) (.int i)
  | str (t : Str) : Sc (.str t) (.str t)
/-- data, or a small dict -/
inductive Dq (K : PySem.W.Frag) (H : Hp) : V → PyData → Prop
  | dp {v : V} {d : PyData} {k n : Nat} : Dp K H v d → RepOk d k n → k ≤ 40 → n ≤ 40000 → Dq K H v d
  | d0 {a : Addr} : H a = some (.dK []) → Dq K H (.ref a) (.dict [])
  | d1 {a : Addr} {t : Str} {x : V} {e : PyData} {n : Nat} : H a = some (.dK [(.inr t, x)]) → Sc x e → RepOk e 0 n → n ≤ 1000 → TOk 8 t → Dq K H (.ref a) (.dict [(.str t, e)])
theorem Dq.same {K : PySem.W.Frag} {H H1 : Hp} {v : V} {d : PyData} (h : Dq K H v d) (s : Same H H1) : Dq K H1 v d := by
  cases h with
  | dp h1 h2 h3 h4 => exact .dp (dp_same s _ _ h1) h2 h3 h4
  | d0 e => exact .d0 (s _ _ e)
  | d1 e a b c l => exact .d1 (s _ _ e) a b c l
theorem shown_short {d : PyData} {k n : Nat} (h : RepOk d k n) (hn : n ≤ 1000) : d.shown.length ≤ 402 * 1001 := by
  have e := PyData.shown_le_bulk 400 (by decide) d h.lv
  have b := h.bk
  have : (400 + 2) * d.bulk ≤ 402 * 1000 := Nat.mul_le_mul (by decide) (by omega)
  omega
theorem str_app (a b : Str) : (a ++ b).length = a.length + b.length := by
  rw [str_len, str_len, str_len, codes_app, List.length_append]
/-- repr(x), x data or a small dict -/
def rRepr4 (K : PySem.W.Frag) : List V → Hp → VK → Prop := fun xs H Q => ∃ v d, xs = [v] ∧ Dq K H v d ∧ Q (.str d.shown) H
theorem sys_ne {a : Addr} (h : (a == sysModules) = false) : a ≠ sysModules := fun z => by
  rw [z] at h
  simp at h
theorem call_repr4 {X : Cx} (hG : X.A.guards = some []) (hu : X.A.units + 64 < cLine) : CallR X (.builtin "repr") (rRepr4 X.K) := by
  intro pins s σ H xs us Q I r h
  obtain ⟨v, d, e, hd, q⟩ := h
  cases hd with
  | dp h1 h2 h3 h4 => exact call_reprD hG hu pins s σ H xs us Q I r ⟨v, d, _, _, e, h1, h2, h3, h4, q⟩
  | @d0 a ha =>
    subst e
    rw [Vals.ref1 r]
    have fin : ∀ (h' : Heap) (u : Tok) (tk : Nat), (∀ b o, s.heap.get? b = some o → h'.get? b = some o) → EP X pins σ Q (.str (PyData.dict []).shown u) { s with heap := h', toks := tk } :=
      fun h' u tk hk => ⟨.str (PyData.dict []).shown, H, I.un (Un.kept hk) (I.hok.kept hk), ⟨u, rfl⟩, q⟩
    obtain ⟨_, hs, vs, rel, o, es, ep, ho, hx, hdat, hk, hp, _⟩ := dk_of I.hok ha
    cases rel
    have he : es.toList = [] := by
      have := hp.length
      exact List.eq_nil_of_length_eq_zero this
    have rd : Reads s.heap (.ref a) (.dict []) (a :: [] ++ []) := Reads.dict ho hx.1 hdat (by rw [he]; exact .nil) (by rw [he]; exact .nil)
    exact repr_of_reads' rd (by decide) (fun _ => by simpa using Ne.symm (sys_ne hs)) hG (by show _ + (1 + 1) < _; omega) (fun _ _ z => z) fin (by decide +kernel)
  | @d1 a t x e' n ha hsc hr hn ht =>
    subst e
    rw [Vals.ref1 r]
    have hts := RepOk.tok ht
    have hsh : (PyData.dict [(.str t, e')]).showable = true := by
      simp [PyData.showable, PyData.showableKv, hr.sh]
    have hdp : (PyData.dict [(.str t, e')]).depth ≤ 1 := by
      have := hr.dp
      simp [PyData.depth, PyData.depthKv]
      omega
    have hlen : (PyData.dict [(.str t, e')]).shown.length ≤ sizeLine := by
      have l1 := shown_short hr hn
      have l2 := shown_short hts (by decide)
      rw [PyData.shown_dict]
      simp only [PyData.shownKv, Str.join]
      simp only [str_app]
      have c1 : ("{" : Str).length = 1 := by decide +kernel
      have c2 : ("}" : Str).length = 1 := by decide +kernel
      have c3 : (": " : Str).length = 2 := by decide +kernel
      rw [c1, c2, c3, sizeLine_eq]
      omega
    have fin : ∀ (h' : Heap) (u : Tok) (tk : Nat), (∀ b o, s.heap.get? b = some o → h'.get? b = some o) → EP X pins σ Q (.str (PyData.dict [(.str t, e')]).shown u) { s with heap := h', toks := tk } :=
      fun h' u tk hk => ⟨.str (PyData.dict [(.str t, e')]).shown, H, I.un (Un.kept hk) (I.hok.kept hk), ⟨u, rfl⟩, q⟩
    obtain ⟨_, hs, vs, rel, o, es, ep, ho, hx, hdat, hk, hp, _⟩ := dk_of I.hok ha
    cases rel with
    | @cons _ qv _ _ r1 r2 =>
      cases r2
      obtain ⟨er, rx⟩ := r1
      generalize hes : es.toList = el at hp
      cases hp with
      | @cons en _ _ _ p1 p2 p3 =>
        cases p3
        obtain ⟨_, _, z, _⟩ | ⟨y, tk, z, ek⟩ := keyIs_shape p1
        · rw [← er] at z
          cases z
        · rw [← er] at z
          cases z
          have rv : Reads s.heap en.val e' [] := by
            rw [p2]
            cases hsc with
            | int i =>
              obtain ⟨tt, ee⟩ := (show ∃ tt, qv.2 = Value.int i tt from rx)
              rw [ee]
              exact .int i tt
            | str y =>
              obtain ⟨tt, ee⟩ := (show ∃ tt, qv.2 = Value.str y tt from rx)
              rw [ee]
              exact .str y tt
          have rk : Reads s.heap en.key (.str t) [] := by
            rw [ek]
            exact .str t tk
          have rd : Reads s.heap (.ref a) (.dict [(.str t, e')]) (a :: ([] ++ []) ++ ([] ++ [])) := Reads.dict ho hx.1 hdat (by rw [hes]; exact .cons rk .nil) (by rw [hes]; exact .cons rv .nil)
          exact repr_of_reads' rd hsh (fun _ => by simpa using Ne.symm (sys_ne hs)) hG (by omega) (fun _ _ z => z) fin hlen
/-! ### texts of numbers, letters -/
theorem int_tok {i : Int} {k : Nat} (h : i.natAbs < 2 ^ k) (hk : 0 < k) : TOk (k + 1) (toString i : String) := by
  refine ⟨?_, fun c hc => ?_⟩
  · have l : i.natAbs.log2 < k := by
      by_cases z : i.natAbs = 0
      · rw [z]
        have : Nat.log2 0 = 0 := by decide
        omega
      · exact (Nat.log2_lt z).mpr h
    have e := int_text_length_le (a := i) hk l
    have e2 : (Str.ofString (toString i)).length = (toString i).length := PySem.ofString_length _
    show (Str.ofString (toString i)).length ≤ k + 1
    omega
  · by_cases z : c ≠ 45 ∧ (c < 48 ∨ 57 < c)
    · exact absurd hc (int_text_free' c z i)
    · omega
def rStrOf : List V → Hp → VK → Prop := fun xs H Q => (∃ i, xs = [.int i] ∧ i.natAbs.log2 < 1920 ∧ Q (.str (toString i : String)) H) ∨ ∃ a, xs = [.str a] ∧ Q (.str a) H
theorem k_strOf {X : Cx} : CallR X (.type "str") rStrOf := by
  rintro pins s σ H xs us Q I r (h | h)
  · exact call_str_int pins s σ H xs us Q I r h
  · exact SkE.call_str_str pins s σ H xs us Q I r h
theorem k_repr4 (K : PySem.W.Frag) {X : Cx} (hG : X.A.guards = some []) (hu : X.A.units + 64 < cLine) (h : X.K = K := by rfl) : CallR X (.builtin "repr") (rRepr4 K) := by
  subst h
  exact call_repr4 hG hu
def CPowW (i j : Int) : Prop := 0 ≤ j ∧ ((Builtin.Int.intBits i : Nat) : Int) * j ≤ 134217728
theorem op_powW {X : Cx} : OpR X (binaryOp .Pow) (rI CPowW fun i j => .int (i ^ j.toNat)) := opI fun _ _ _ _ _ _ _ hc q => pow_int hc.1 hc.2 q
def letter (c : Nat) : Bool := decide (97 ≤ c) && decide (c ≤ 122)
theorem letter_not : ∀ c, c < 128 → (!(!(Builtin.Str.occurrences (Str.ofString "abcdefghijklmnopqrstuvwxyz") ⟨#[c]⟩ 0 (Str.ofString "abcdefghijklmnopqrstuvwxyz").length 1).isEmpty)) = !letter c := by decide +kernel
end RO

namespace RO
open PySem PySem.Spec PyProof.Rows L2

/-! ### set(xs), xs a list of numbers -/
/-- an empty set's object -/
def emptySet (w : World) : Obj := { cls := .type "set", dict := none, data := .set #[] 0 (.fresh 0 0 (!w.params.followText "set-order")) }
section
variable {P : Program} {w : World} {A : Around} {E : Value → Shared → Prop} {s : Shared}
/-- set(v): the empty set, and what its start makes of it -/
theorem set_call {v : Value} {Q : Value → Shared → Prop} {G : Shared → Prop}
    (start : wpAny (model P w) A.in1.in1 (Builtin.«set.__init__» ⟨[.ref s.heap.objs.size, v], []⟩)
      (fun fin s' => match fin with
        | .done f => wants (fun r s₂ => r = .none ∧ G s₂) E (.ok f) s'
        | .again c' => c'.quiet = true ∧ codeAny (model P w) A.in1 c' (wants (fun r s₂ => r = .none ∧ G s₂) E) s')
      (fun e s' => wants (fun r s₂ => r = .none ∧ G s₂) E (.error e) s') { s with heap := s.heap.push (emptySet w) })
    (fin : ∀ s', G s' → Q (.ref s.heap.objs.size) s') : wpAny (model P w) A (call (.type "set") [v]) Q E s := by
  have lk := F.called_set.init.lookup
  have bd := F.called_set.init.bind (.ref s.heap.objs.size)
  have nt := F.called_set.notType
  have cc := F.called_set.canCreate
  have tc := F.typeCall_set_1 v
  have md := F.called_set.made
  have sb := F.called_set.sub
  obtain ⟨c, tl, mro⟩ := F.called_set.mro
  refine wpAny_call (codeAny_of_tree ?_)
  show wpAny _ _ (callAny (.type "set") _) _ _ _
  refine wpAny_pure ⟨Code.quiet_builtin _ (by decide +kernel), codeAny_builtin F.entry_type_call ?_⟩
  rw [Around.under_plain (weight_type_call_type "set" [v] []) rfl]
  repeat (any_goals (first | assumption | wp_step))
  refine codeAny_mono (code_set_led1 v (E := E) (Q₁ := fun obj t => obj = .ref s.heap.objs.size ∧ t = { s with heap := s.heap.push (emptySet w) }) ⟨rfl, rfl⟩) fun r t hr => ?_
  cases r with
  | error e => exact hr
  | ok fl =>
    cases fl with
    | ret obj =>
      obtain ⟨rfl, rfl⟩ := hr
      have ty : Shared.TypeIs { s with heap := s.heap.push (emptySet w) } (.ref s.heap.objs.size) "set" := ⟨_, Heap.get?_push_size _ rfl, rfl⟩
      repeat (any_goals (first | assumption | wp_step))
      refine codeAny_mono (codeAny_call_builtin F.called_set.init.plain F.entry_set_init (check_set_init_1 ty start)) fun r2 t2 h2 => ?_
      cases r2 with
      | error e => exact h2
      | ok fl2 =>
        cases fl2 with
        | ret z =>
          obtain ⟨rfl, g⟩ := h2
          have q := fin _ g
          repeat (any_goals (first | assumption | wp_step))
        | _ => exact h2.elim
    | _ => exact hr.elim
/-- of a list of numbers -/
theorem set_ints {l : Addr} {items : Array Value} {ns : List Int} {Q : Value → Shared → Prop} (hh : A.handled = none) (hl : s.heap.IsList l items) (hit : IntsAre items.toList ns) (hb : ns.length + 1 < scanBound)
    (h : ∀ (h' : Heap) (tk n : Nat), SetR w h' s.heap.objs.size (fun j => decide (j ∈ ns)) n → n ≤ ns.length → (∀ b o, s.heap.get? b = some o → h'.get? b = some o) → Q (.ref s.heap.objs.size) { s with heap := h', toks := tk }) :
    wpAny (model P w) A (call (.type "set") [.ref l]) Q E s := by
  have size : items.size = ns.length := by
    rw [← Array.length_toList]
    exact IntsAre.length hit
  have vals : ∀ (i : Nat) (v : Value), items[i]? = some v → ∃ k t, ns[i]? = some k ∧ v = .int k t := fun i v hv => by
    have lt : i < ns.length := size ▸ (Array.getElem?_eq_some_iff.mp hv).1
    obtain ⟨t, e⟩ := IntsAre.int_at hit i v (by rw [Array.getElem?_toList]; exact hv)
    refine ⟨ns[i], t, List.getElem?_eq_getElem lt, ?_⟩
    rw [e, List.getD_eq_getElem?_getD, List.getElem?_eq_getElem lt]
    rfl
  refine set_call (G := fun s2 => ∃ h' tk n, s2 = { s with heap := h', toks := tk } ∧ SetR w h' s.heap.objs.size (fun j => decide (j ∈ ns)) n ∧ n ≤ ns.length ∧ ∀ b o, s.heap.get? b = some o → h'.get? b = some o) ?_ ?_
  · have l1 : (s.heap.push (emptySet w)).IsList l items := hl.push _
    have lS : l < s.heap.objs.size := by
      obtain ⟨_, e, _⟩ := hl
      exact Heap.lt_size e
    have z1 : (s.heap.push (emptySet w)).objs.size = s.heap.objs.size + 1 := Heap.size_push ..
    obtain ⟨⟨oc, od, odt, osl⟩, hol, hcl, nl, hdl⟩ := id l1
    simp only at hcl hdl
    subst hcl hdl
    have n1 := F.sub_list_set
    have n2 := F.sub_list_frozenset
    have n3 : (Value.type "list" == Value.type "dict") = false := by decide
    unfold Builtin.«set.__init__» noKeywords Builtin.Frozenset.updateFrom
    generalize hPI : pyIter = PI
    wp_walk
    subst hPI
    refine wpAny_pyIter_list l1 ?_
    refine wpAny_bind (wpAny_runValue ?_)
    have apart : l ≠ (s.heap.push (emptySet w)).objs.size := by
      rw [z1]
      exact Nat.ne_of_lt (Nat.lt_succ_of_lt lS)
    have S0 : (s.heap.push (emptySet w)).get? s.heap.objs.size = some (emptySet w) := Heap.get?_push_size _ rfl
    have out : s.heap.objs.size ∉ [(s.heap.push (emptySet w)).objs.size, l] := by
      simp only [List.mem_cons, List.not_mem_nil, or_false, not_or]
      exact ⟨by rw [z1]; exact Nat.ne_of_lt (Nat.lt_succ_self _), Nat.ne_of_gt lS⟩
    refine set_update_ints ((Walks.list (by simp [hh]) _ l apart items).toS) s.heap.objs.size out ns size hb vals (items.size - 0) 0 _ (by omega) (Nat.zero_le _)
      ⟨⟨_, Heap.get?_push_size _ rfl, rfl, rfl⟩, l1.push _⟩ ⟨0, Nat.le_refl 0, setR_new_at (Heap.get?_push_of_some _ S0)⟩ fun s3 n mv hn R => ?_
    obtain ⟨h', g', d', tk', o'⟩ := s3
    have e1 : g' = s.gens := mv.gens
    have e2 : d' = s.drawn := mv.drawn
    have e3 : o' = s.os := mv.os
    subst e1 e2 e3
    refine wpAny_pure (wpAny_pure ⟨rfl, h', tk', n, rfl, R, by omega, fun b o e => ?_⟩)
    have lt := Heap.lt_size e
    exact mv.heap b o (by simp only [List.mem_cons, List.not_mem_nil, or_false, not_or]; exact ⟨Nat.ne_of_lt lt, by rw [z1]; exact Nat.ne_of_lt (Nat.lt_succ_of_lt lt)⟩) (Heap.get?_push_of_some _ (Heap.get?_push_of_some _ e))
  · rintro s2 ⟨h', tk, n, rfl, R, hn, keep⟩
    exact h h' tk n R hn keep
end
section
variable {X : Cx}
/-- set(xs) by values -/
def rSetI (K : PySem.W.Frag) (w : World) : List V → Hp → VK → Prop := fun vs H Q => ∃ (a : Addr) (ns : List Int), vs = [V.ref a] ∧ SqL K H a (ns.map V.int) ∧ ns.length ≤ 1000 ∧
  ∀ p n, H p = none → n ≤ ns.length → Q (.ref p) (upd H p (SetO w p (fun j => decide (j ∈ ns)) n))
theorem cr_setI (hc : X.calm = true) : CallR X (.type "set") (rSetI X.K X.w) := by
  intro pins s σ H vs us Q I r h
  obtain ⟨a, ns, rfl, hs, hl, q⟩ := h
  obtain ⟨its, rv, p, hz⟩ := I.list hs
  rw [Vals.ref1 r]
  have lim : ns.length + 1 < scanBound := Nat.lt_of_le_of_lt (Nat.succ_le_succ hl) (by decide)
  refine set_ints (I.ok.hd hc) p.isList rv.ints lim fun h' tk n R hn keep => ?_
  have fresh : H s.heap.objs.size = none := I.hok.fresh (Nat.le_refl _)
  exact ⟨.ref _, _, I.laid (t' := tk) keep (Nat.le_refl _) (setO_new R), rfl, q _ n fresh hn⟩
end
end RO

namespace RO
open PySem PySem.Spec PyProof.Rows L2 PpSet

/-! ### {k for x in xs if ..}, k a number -/
section
variable {X : Cx}
/-- one turn's end: k joins the set at D -/
def Joins (w : World) (D : Addr) (Nx : Hp → Prop) : VK := fun y H => ∃ (k : Int) (S : Int → Bool) (n : Nat), y = .int k ∧ H D = some (SetO w D S n) ∧ n + 1 < scanBound ∧ Nx (upd H D (SetO w D (fun j => S j || decide (j = k)) (if S k = true then n else n + 1)))
def tScI (w : World) (wi : TI) (g : TG) (tt : TT) (te : TE) (vs : List Nat) : TE := fun σ H Q => wi σ H fun J H1 => ∀ D, H1 D = none → ∃ W : Nat → Nat → Hp → Prop, (∃ m, W 0 m (upd H1 D (SetO w D (fun _ => false) 0))) ∧ ∀ i m H, W i m H →
  (J.stop i H ∧ Q (.ref D) H) ∨ (J.go i H ∧ ∃ Nx : Hp → Prop, (∀ H', Nx H' → ∃ m', m' < m ∧ W (i + 1) m' H') ∧ ∀ x H', J.yld i H x H' → g x (wipe σ vs) H' fun σ2 H2 => wipe σ2 vs = wipe σ vs ∧ tt σ2 H2 fun b H3 =>
    if b = true then te σ2 H3 (Joins w D Nx) else Nx H3)
theorem pe_scI {elt tg iter : Expr} {ifs : List Expr} {scope : Scope} {own : List (PySem.Str × Nat)} {pos : Pos} {wi : TI} {g : TG} {tt : TT} {te : TE} (hc : X.calm = true) (hN : X.N.Nodup) (hi : PI X tg iter wi) (ok : BlkOk X.N X.env.scope scope own)
    (hg : ∀ (s : Shared) (H : Hp) (C : Addr) (cl : List (PySem.Str × Addr)) (fp : List Addr), PG (X.blk s H scope (compEnvC scope cl C X.env) fp) tg g)
    (ht : ∀ (s : Shared) (H : Hp) (C : Addr) (cl : List (PySem.Str × Addr)) (fp : List Addr), PTs (X.blk s H scope (compEnvC scope cl C X.env) fp) ifs tt)
    (he : ∀ (s : Shared) (H : Hp) (C : Addr) (cl : List (PySem.Str × Addr)) (fp : List Addr), PE (X.blk s H scope (compEnvC scope cl C X.env) fp) elt te) (hs : ∀ x, foldedSetIterable iter X.env x = pure x := by intro _; rfl) :
    PE X (.SetComp elt [⟨tg, iter, ifs, 0⟩] scope pos) (tScI X.w wi g tt te (own.map (·.2))) := by
  constructor
  intro pins s σ H Q I h
  rw [eval_SetComp]
  have cells : ∀ y ∈ scope.names, y.2 = .free → ∃ c, X.env.cells.lookup y.1 = some c := fun y hy e =>
    (ok.free y hy e).elim (fun k => I.ok.has _ (.inl k)) fun k => I.ok.has _ (.inr k)
  apply wpAny_comprehension_free (use := none) rfl hs (closure_ok cells) ok.kind (fun y hy e => by rw [ok.uniq y hy, e])
  apply thn (hi.run pins s σ H _ I h)
  intro xv s1 hx
  apply thn hx
  rintro _ s2 ⟨it, fp, tn, J, H2, rfl, I2, T, at2, free2, q⟩
  apply newSet_ok
  apply newEnv_comp
  have below : ∀ b ∈ fp, b < s2.heap.objs.size := fun b hb => (T.obj _ _ at2 b hb).elim fun o e => Heap.lt_size e.1
  have fresh : H2 s2.heap.objs.size = none := I2.hok.fresh (Nat.le_refl _)
  obtain ⟨W, ⟨m0, start⟩, turn⟩ := q _ fresh
  have I3 : Inv X pins σ (upd H2 s2.heap.objs.size (SetO X.w s2.heap.objs.size (fun _ => false) 0)) { s2 with heap := s2.heap.push (emptySet X.w) } :=
    I2.laid (t' := s2.toks) (fun _ _ e => Heap.get?_push_of_some _ e) (Nat.le_refl _) (setO_new (setR_fresh X.w))
  have at3 : tn 0 (s2.heap.push (emptySet X.w)) := T.keep _ _ _ at2 fun _ _ _ e => Heap.get?_push_of_some _ e
  have ok3 : ∀ b ∈ fp, FpOk X pins (upd H2 s2.heap.objs.size (SetO X.w s2.heap.objs.size (fun _ => false) 0)) b ∧ b < (s2.heap.push (emptySet X.w)).objs.size := fun b hb =>
    ⟨⟨by rw [upd_ne (Nat.ne_of_lt (below b hb))]; exact (free2 b hb).1, (free2 b hb).2⟩, by rw [Heap.size_push]; exact Nat.lt_succ_of_lt (below b hb)⟩
  generalize s2.heap.objs.size = D at *
  generalize upd H2 D (SetO X.w D (fun _ => false) 0) = H3 at *
  suffices key : ∀ s3 : Shared, s3 = { s2 with heap := s2.heap.push (emptySet X.w) } →
      codeAny (model X.prog X.w) X.A (.compStart (.SetComp elt [⟨tg, iter, ifs, 0⟩] scope pos) 0 (.ref it) (.ref D) (compEnvC scope (cellsFrom (s3.heap.objs.size + 1) scope.names (cloFrom X.env.cells scope.names [])) s3.heap.objs.size X.env))
        (compPost (model X.prog X.w) X.A X.xe none (EP X pins σ Q) (.ref D) s3.heap.objs.size) { s3 with heap := pushCells (s3.heap.push { cls := .type "dict", data := .dict #[] }) scope.names } from key _ rfl
  intro s3 es3
  have eh : s3.heap = s2.heap.push (emptySet X.w) := by rw [es3]
  rw [← eh] at at3 ok3
  rw [← es3] at I3
  have I4 := block_start I3 ok hN ok3
  have pg := hg s3 H3 s3.heap.objs.size (cellsFrom (s3.heap.objs.size + 1) scope.names (cloFrom X.env.cells scope.names [])) fp
  have pt := ht s3 H3 s3.heap.objs.size (cellsFrom (s3.heap.objs.size + 1) scope.names (cloFrom X.env.cells scope.names [])) fp
  have pe := he s3 H3 s3.heap.objs.size (cellsFrom (s3.heap.objs.size + 1) scope.names (cloFrom X.env.cells scope.names [])) fp
  have locals : (compEnvC scope (cellsFrom (s3.heap.objs.size + 1) scope.names (cloFrom X.env.cells scope.names [])) s3.heap.objs.size X.env).locals = s3.heap.objs.size := rfl
  generalize compEnvC scope (cellsFrom (s3.heap.objs.size + 1) scope.names (cloFrom X.env.cells scope.names [])) s3.heap.objs.size X.env = ce at *
  have at4 : tn 0 ({ s3 with heap := pushCells (s3.heap.push { cls := .type "dict", data := .dict #[] }) scope.names } : Shared).heap := T.keep _ _ _ at3 fun b _ o e => pushCells_keeps _ _ _ _ (Heap.get?_push_of_some _ e)
  generalize ({ s3 with heap := pushCells (s3.heap.push { cls := .type "dict", data := .dict #[] }) scope.names } : Shared) = s4 at *
  let B := X.blk s3 H3 scope ce fp
  have stay : ∀ (σ' : L2.St) (H' : Hp) (s' : Shared), Inv B [] σ' H' s' → (∀ b ∈ fp, H' b = none) → ∀ b ∈ fp, FpOk B [] H' b := fun σ' H' s' J' free b hb =>
    ⟨free b hb, (J'.ok.exf b hb).1, J'.ok.exfs b hb, .inl hb, (J'.ok.exf b hb).2, fun p hp => nomatch (show p ∈ ([] : List (Addr × Obj)) from hp)⟩
  have loop : codeAny (model X.prog X.w) X.A (.compLoop (.SetComp elt [⟨tg, iter, ifs, 0⟩] scope pos) 0 (.ref it) (.ref D) ce) (compPost (model X.prog X.w) X.A X.xe none (EP X pins σ Q) (.ref D) s3.heap.objs.size) s4 := by
    refine compLoopS_any (fun n s' => ∃ i H', Inv B [] (wipe σ (own.map (·.2))) H' s' ∧ tn i s'.heap ∧ (∀ b ∈ fp, H' b = none) ∧ W i n H') ?_ m0 ⟨0, H3, I4, at4, fun b hb => (ok3 b hb).1.1, start⟩
    rintro n s5 ⟨i, H5, I5, at5, free5, w5⟩
    rcases turn i n H5 w5 with ⟨stop, fin⟩ | ⟨go, Nx, less, step⟩
    · apply thnF (T.done B rfl rfl rfl hc i [] s5 _ H5 (fun _ _ => False) I5 (stay _ _ _ I5 free5) at5 stop)
      rintro r s6 ⟨rfl, I6⟩
      have back : Inv X pins σ H5 s6 := I3.call' (ch := fp) I6.os I6.base I6.hok I6.bare fun b hb => ⟨(ok3 b hb).1.2.2.2.1, (ok3 b hb).1.2.1, (ok3 b hb).1.2.2.2.2.1, (ok3 b hb).1.2.2.2.2.2⟩
      have free : H5 s3.heap.objs.size = none := locals ▸ (show H5 ce.locals = none from I6.free)
      obtain ⟨m, hn, _⟩ := I6.loc
      have hn : s6.heap.Ns s3.heap.objs.size m := locals ▸ (show s6.heap.Ns ce.locals m from hn)
      obtain ⟨f0, f1, f2, f3, f4, f5⟩ := I3.fpOk (Nat.le_refl _) free
      exact ⟨m, hn, fun h'' sb => ⟨.ref D, H5, back.turned (t' := s6.toks) (fun b o hb e => (sb.2 b hb).trans e) f0 f1 f3 f4 f5, rfl, fin⟩⟩
    · apply thnF (T.item B rfl rfl rfl hc i [] s5 _ H5 (fun _ _ => False) I5 (stay _ _ _ I5 free5) at5 go)
      rintro r s6 ⟨u, rfl, h6⟩
      apply thnF h6
      rintro _ s7 ⟨x, H7, I7, r7, y7, at7, free7⟩
      apply thnF (pg.run _ s7 _ H7 x u _ (I7.pinned (stay _ _ _ I7 free7) (T.obj _ _ at7)) r7 (step x H7 y7))
      rintro _ s8 ⟨σ8, H8, I8, wiped, q8⟩
      apply thnF (pt.run _ s8 σ8 H8 _ I8 q8)
      rintro b s9 ⟨H9, I9, q9⟩
      have next : ∀ (s' : Shared) (H' : Hp), Inv B ([] ++ pinsAt fp s7.heap) σ8 H' s' → Nx H' → ∃ m, m < n ∧ ∃ i H', Inv B [] (wipe σ (own.map (·.2))) H' s' ∧ tn i s'.heap ∧ (∀ b ∈ fp, H' b = none) ∧ W i m H' := fun s' H' J' nx => by
        obtain ⟨m', lt, w'⟩ := less H' nx
        have pin : ∀ b ∈ fp, ∀ o, s7.heap.get? b = some o → s'.heap.get? b = some o ∧ H' b = none := fun b hb o e =>
          have z := J'.pin (b, o) (List.mem_append_right _ (List.mem_append_right _ (mem_pinsAt hb e)))
          ⟨z.1, z.2.1⟩
        refine ⟨m', lt, i + 1, H', (J'.unpinned (pins := [])).weak (by rw [← wiped, wipe_length]) (fun j v e => ?_), T.keep _ _ _ at7 fun b hb o e => (pin b hb o e).1, fun b hb => ?_, w'⟩
        · rw [← wiped] at e
          exact (wipe_some e).1
        · obtain ⟨o, e, _⟩ := T.obj _ _ at7 b hb
          exact (pin b hb o e).2
      cases b with
      | false => exact next s9 H9 I9 q9
      | true =>
        apply thnF (pe.run _ s9 σ8 H9 _ I9 q9)
        rintro z s10 ⟨yv, H10, I10, r10, k, S, c, rfl, hD, room, nx⟩
        apply thnF (mt_sadd (X := B) _ s10 σ8 H10 (.ref D) [.int k] (.ref D) [z] (fun _ H' => Nx H') I10 rfl (.cons r10 .nil) ⟨D, k, S, c, rfl, rfl, hD, room, nx⟩)
        rintro _ s11 ⟨_, H11, I11, _, nx⟩
        exact next s11 H11 I11 nx
  exact codeAny_compStart_set loop (T.self X.A 0 _ _ _ at4 loop)
end
end RO

namespace RO
open PySem PySem.Spec PyProof.Rows L2
section
variable {J : It} {n : Nat} {G : Hp → Prop} {Y : Nat → Hp → V → Hp → Prop}
/-- a set's comprehension over what is walked: Pv by the turn and the heap -/
theorem sc_it {ww : World} (wk : Walk J n G Y) {g : TG} {tt : TT} {te : TE} {vs : List Nat} {σ : L2.St} {H1 : Hp} {D : Addr} {Qd : Hp → Prop} (Pv : Nat → Hp → Prop) (h0 : Pv 0 (upd H1 D (SetO ww D (fun _ => false) 0))) (hG : ∀ i H, i ≤ n → Pv i H → G H)
    (hs : ∀ i x H H', i < n → Pv i H → Y i H x H' → g x (wipe σ vs) H' fun σ2 H2 => wipe σ2 vs = wipe σ vs ∧ tt σ2 H2 fun b H3 => if b = true then te σ2 H3 (Joins ww D (Pv (i + 1))) else Pv (i + 1) H3) (hd : ∀ H, Pv n H → Qd H) :
    ∃ W : Nat → Nat → Hp → Prop, (∃ m, W 0 m (upd H1 D (SetO ww D (fun _ => false) 0))) ∧ ∀ i m H, W i m H →
      (J.stop i H ∧ Qd H) ∨ (J.go i H ∧ ∃ Nx : Hp → Prop, (∀ H', Nx H' → ∃ m', m' < m ∧ W (i + 1) m' H') ∧ ∀ x H', J.yld i H x H' → g x (wipe σ vs) H' fun σ2 H2 => wipe σ2 vs = wipe σ vs ∧ tt σ2 H2 fun b H3 =>
        if b = true then te σ2 H3 (Joins ww D Nx) else Nx H3) := by
  refine ⟨fun i m H => m = n - i ∧ i ≤ n ∧ Pv i H, ⟨n, by simp, Nat.zero_le _, h0⟩, ?_⟩
  rintro i m H ⟨rfl, le, p⟩
  have q := hG i H le p
  rcases Nat.lt_or_ge i n with lt | ge
  · exact .inr ⟨wk.goes i H lt q, Pv (i + 1), fun H' p' => ⟨n - (i + 1), by omega, rfl, lt, p'⟩, fun x H' y => hs i x H H' lt p (wk.yields i H x H' lt q y)⟩
  · obtain rfl : i = n := by omega
    exact .inl ⟨wk.stops H q, hd H p⟩
end
theorem k_setI (K : PySem.W.Frag) (ww : World) {X : Cx} (hc : X.calm = true) (h : X.K = K := by rfl) (h2 : X.w = ww := by rfl) : CallR X (.type "set") (rSetI K ww) := by
  subst h h2
  exact cr_setI hc
theorem k_sortedSet (ww : World) {X : Cx} (hc : X.calm = true) (h2 : X.w = ww := by rfl) : CallR X (.builtin "sorted") (rSortedSet ww) := by
  subst h2
  exact cr_sortedSet hc
theorem asc_ext : ∀ {a b : List Int}, a.Pairwise (· < ·) → b.Pairwise (· < ·) → (∀ k, k ∈ a ↔ k ∈ b) → a = b
  | [], [], _, _, _ => rfl
  | [], y :: b, _, _, h => nomatch (h y).mpr (List.mem_cons_self ..)
  | x :: a, [], _, _, h => nomatch (h x).mp (List.mem_cons_self ..)
  | x :: a, y :: b, ha, hb, h => by
    obtain ⟨a1, a2⟩ := List.pairwise_cons.mp ha
    obtain ⟨b1, b2⟩ := List.pairwise_cons.mp hb
    have e : x = y := by
      rcases List.mem_cons.mp ((h x).mp (List.mem_cons_self ..)) with q | q
      · exact q
      · rcases List.mem_cons.mp ((h y).mpr (List.mem_cons_self ..)) with z | z
        · exact z.symm
        · have := b1 x q
          have := a1 y z
          omega
    subst e
    refine congrArg (x :: ·) (asc_ext a2 b2 fun k => ⟨fun hk => ?_, fun hk => ?_⟩)
    · rcases List.mem_cons.mp ((h k).mp (List.mem_cons_of_mem _ hk)) with q | q
      · have := a1 k hk
        omega
      · exact q
    · rcases List.mem_cons.mp ((h k).mpr (List.mem_cons_of_mem _ hk)) with q | q
      · have := b1 k hk
        omega
      · exact q
end RO

namespace RO
open PySem PySem.Spec PyProof.Rows L2
/-! ### tuples put together and cut, whatever their lengths -/
/-- x + y, two tuples: a tuple of both, new or one of them -/
def rCatU (K : PySem.W.Frag) : R2 := fun x y H Q => ∃ a b xs ys, x = .ref a ∧ y = .ref b ∧ SqT K H a xs ∧ SqT K H b ys ∧ xs.length + ys.length ≤ sizeLine ∧ ∀ q H', Same H H' → SqT K H' q (xs ++ ys) → Q (.ref q) H'
theorem k_catU (K : PySem.W.Frag) {X : Cx} (h : X.K = K := by rfl) : OpR X (binaryOp .Add) (rCatU K) := by
  subst h
  rintro pins s σ H x y v u Q I rx ry ⟨a, b, xs, ys, rfl, rfl, ha, hb, hz, q⟩
  by_cases hx : xs = []
  · subst hx
    cases rx
    cases ry
    obtain ⟨its, r1, p1, _⟩ := I.tuple ha
    obtain ⟨its2, r2, p2, _⟩ := I.tuple hb
    cases r1
    exact cat_tup0 p1 p2 ⟨.ref b, H, I, rfl, q b H (Same.refl _) hb⟩
  · refine op_catT pins s σ H (.ref a) (.ref b) v u Q I rx ry ⟨a, b, xs, ys, rfl, rfl, ha, hb, hx, hz, fun e => ?_, fun _ p hp => ?_⟩
    · subst e
      exact q a H (Same.refl _) (by rw [List.append_nil]; exact ha)
    · exact q p _ (same_new (Same.refl _) hp) (SqT.of upd_same)
/-- x[lo:hi], x a tuple: a tuple, new or itself -/
def rSlU (K : PySem.W.Frag) : V → Option Int → Option Int → Hp → VK → Prop := fun x lo hi H Q => ∃ a xs, x = .ref a ∧ SqT K H a xs ∧ ∀ q H', Same H H' → SqT K H' q (cutV xs lo hi) → Q (.ref q) H'
theorem k_slU (K : PySem.W.Frag) {X : Cx} (h : X.K = K := by rfl) : SlR X (rSlU K) := by
  subst h
  rintro pins s σ H x v vl vu lo hi sl Q I rx hs pl pu ⟨a, xs, rfl, ha, q⟩
  refine sl_tupA pins s σ H (.ref a) v vl vu lo hi sl Q I rx hs pl pu ⟨a, xs, rfl, ha, fun z => ?_, fun z p hp => ?_⟩
  · refine q a H (Same.refl _) ?_
    have e : cutV xs lo hi = xs := by
      unfold cutV
      rw [z.1, z.2, List.drop_zero, Nat.sub_zero, List.take_length]
    rw [e]
    exact ha
  · exact q p _ (same_new (Same.refl _) hp) (SqT.of upd_same)
theorem k_max (K : PySem.W.Frag) {X : Cx} (hc : X.calm = true) (h : X.K = K := by rfl) : CallR X (.builtin "max") (rMax K) := by
  subst h
  exact cr_max hc
end RO

namespace RO
/-! ### sums over stretches of whole numbers, forward and back -/
def nsum (f : Int → Int) : Nat → Int
  | 0 => 0
  | n + 1 => nsum f n + f n
def zsum (f : Int → Int) : Int → Int
  | .ofNat n => nsum f n
  | .negSucc n => - nsum (fun i => f (-i - 1)) (n + 1)
theorem zsum_nat (f : Int → Int) (n : Nat) : zsum f (n : Int) = nsum f n := rfl
theorem zsum_0 (f : Int → Int) : zsum f 0 = 0 := rfl
theorem zsum_succ (f : Int → Int) (n : Int) : zsum f (n + 1) = zsum f n + f n := by
  cases n with
  | ofNat n => rfl
  | negSucc n =>
    cases n with
    | zero =>
      show (0 : Int) = - (0 + f (-((0 : Nat) : Int) - 1)) + f (-1)
      have e : (-((0 : Nat) : Int) - 1) = -1 := rfl
      rw [e]
      omega
    | succ k =>
      show - nsum (fun i => f (-i - 1)) (k + 1) = - (nsum (fun i => f (-i - 1)) (k + 1) + f (-((k + 1 : Nat) : Int) - 1)) + f (Int.negSucc (k + 1))
      have e : (-((k + 1 : Nat) : Int) - 1) = Int.negSucc (k + 1) := by omega
      rw [e]
      omega
theorem zsum_uniq {f g : Int → Int} (h0 : g 0 = 0) (h : ∀ n, g (n + 1) = g n + f n) (n : Int) : g n = zsum f n := by
  have up : ∀ k : Nat, g (k : Int) = zsum f (k : Int) := by
    intro k
    induction k with
    | zero => exact h0
    | succ i ih => rw [show ((i + 1 : Nat) : Int) = (i : Int) + 1 from rfl, h, ih, zsum_succ]
  have down : ∀ k : Nat, g (-(k : Int)) = zsum f (-(k : Int)) := by
    intro k
    induction k with
    | zero => exact h0
    | succ i ih =>
      have a := h (-(i : Int) - 1)
      have b := zsum_succ f (-(i : Int) - 1)
      have e : -(i : Int) - 1 + 1 = -(i : Int) := by omega
      have e2 : -((i + 1 : Nat) : Int) = -(i : Int) - 1 := by omega
      rw [e] at a b
      rw [e2]
      omega
  rcases Int.natAbs_eq n with e | e
  · rw [e]; exact up _
  · rw [e]; exact down _
theorem zsum_congr {f g : Int → Int} (h : ∀ i, f i = g i) (n : Int) : zsum f n = zsum g n :=
  zsum_uniq (zsum_0 f) (fun i => by rw [zsum_succ, h]) n
theorem zsum_add (f : Int → Int) (a b : Int) : zsum f (a + b) = zsum f a + zsum (fun i => f (a + i)) b := by
  have h := zsum_uniq (f := fun i => f (a + i)) (g := fun i => zsum f (a + i) - zsum f a) (by show zsum f (a + 0) - _ = _; rw [Int.add_zero]; omega)
    (fun n => by show zsum f (a + (n + 1)) - _ = zsum f (a + n) - _ + f (a + n); rw [← Int.add_assoc, zsum_succ]; omega) b
  have h : zsum f (a + b) - zsum f a = _ := h
  omega
theorem zsum_neg (f : Int → Int) (n : Int) : zsum (fun i => - f i) n = - zsum f n :=
  (zsum_uniq (f := fun i => - f i) (g := fun i => - zsum f i) (by show - zsum f 0 = 0; rw [zsum_0]; rfl) (fun i => by show - zsum f (i + 1) = - zsum f i + - f i; rw [zsum_succ]; omega) n).symm
theorem zsum_const (c n : Int) : zsum (fun _ => c) n = n * c :=
  (zsum_uniq (f := fun _ => c) (g := fun i => i * c) (Int.zero_mul c) (fun i => by show (i + 1) * c = i * c + c; rw [Int.add_mul, Int.one_mul]) n).symm
/-- what is told by rounds is the sum -/
theorem rounds_sum {f : Int → Int} {m : Int} (hm : 0 < m) (per : ∀ i, f (i + m) = f i) (n : Int) : n / m * nsum f m.toNat + nsum f (n % m).toNat = zsum f n := by
  have perk : ∀ (k : Nat) (i : Int), f (i + m * k) = f i := by
    intro k
    induction k with
    | zero => intro i; rw [show i + m * ((0 : Nat) : Int) = i by rw [Int.natCast_zero, Int.mul_zero, Int.add_zero]]
    | succ k ih => intro i; rw [show i + m * ((k + 1 : Nat) : Int) = (i + m * (k : Int)) + m by rw [Int.natCast_add, Int.mul_add]; omega, per, ih]
  have perz : ∀ (q i : Int), f (i + m * q) = f i := by
    intro q i
    cases q with
    | ofNat k => exact perk k i
    | negSucc k =>
      have h := perk (k + 1) (i + m * Int.negSucc k)
      have e : i + m * Int.negSucc k + m * ((k + 1 : Nat) : Int) = i := by
        rw [Int.add_assoc, ← Int.mul_add, show Int.negSucc k + ((k + 1 : Nat) : Int) = 0 by omega, Int.mul_zero, Int.add_zero]
      rw [e] at h
      exact h.symm
  refine zsum_uniq (f := f) (g := fun n => n / m * nsum f m.toNat + nsum f (n % m).toNat) ?_ (fun n => ?_) n
  · show 0 / m * _ + nsum f (0 % m).toNat = 0
    rw [Int.zero_ediv, Int.zero_emod, Int.zero_mul]
    rfl
  · show (n + 1) / m * nsum f m.toNat + nsum f ((n + 1) % m).toNat = n / m * nsum f m.toNat + nsum f (n % m).toNat + f n
    have r0 := Int.emod_nonneg n (show m ≠ 0 by omega)
    have r1 := Int.emod_lt_of_pos n hm
    have dm := Int.emod_add_mul_ediv n m
    have fn : f n = f (n % m) := by
      have h := perz (n / m) (n % m)
      rw [dm] at h
      exact h
    obtain ⟨k, hk⟩ := Int.eq_ofNat_of_zero_le r0
    by_cases c : n % m + 1 < m
    · have e1 : (n + 1) / m = n / m ∧ (n + 1) % m = n % m + 1 := by
        rw [Int.ediv_emod_unique hm]
        refine ⟨?_, by omega, c⟩
        omega
      rw [e1.1, e1.2, fn, hk]
      show _ + (nsum f k + f k) = _ + nsum f k + f k
      omega
    · have e1 : (n + 1) / m = n / m + 1 ∧ (n + 1) % m = 0 := by
        rw [Int.ediv_emod_unique hm]
        refine ⟨?_, by omega, hm⟩
        rw [Int.mul_add]
        omega
      have em : m.toNat = k + 1 := by omega
      rw [e1.1, e1.2, fn, hk, em]
      show (n / m + 1) * (nsum f k + f k) + 0 = n / m * (nsum f k + f k) + nsum f k + f k
      rw [Int.add_mul, Int.one_mul]
      omega
/-- a whole round is added as often as it is gone -/
theorem zsum_rounds {f : Int → Int} {m : Int} (per : ∀ i, f (i + m) = f i) (a q : Int) : zsum f (a + q * m) = zsum f a + q * (zsum f (a + m) - zsum f a) := by
  have shift : ∀ n, zsum f (n + m) - zsum f n = zsum f m := by
    intro n
    have h := zsum_uniq (f := f) (g := fun n => zsum f (n + m) - zsum f m) (by show zsum f (0 + m) - _ = 0; rw [Int.zero_add]; omega)
      (fun n => by show zsum f (n + 1 + m) - _ = zsum f (n + m) - _ + f n; rw [show n + 1 + m = n + m + 1 by omega, zsum_succ, per]; omega) n
    have h : zsum f (n + m) - zsum f m = zsum f n := h
    omega
  have h : ∀ q : Int, zsum f (a + q * m) - zsum f a = zsum (fun _ => zsum f m) q := by
    intro q
    refine zsum_uniq (f := fun _ => zsum f m) (g := fun q => zsum f (a + q * m) - zsum f a) ?_ (fun q => ?_) q
    · show zsum f (a + 0 * m) - _ = 0
      rw [Int.zero_mul, Int.add_zero]
      omega
    · show zsum f (a + (q + 1) * m) - _ = zsum f (a + q * m) - _ + zsum f m
      have e : a + (q + 1) * m = a + q * m + m := by rw [Int.add_mul, Int.one_mul]; omega
      have := shift (a + q * m)
      rw [e]
      omega
  have h1 := h q
  rw [zsum_const] at h1
  rw [shift a]
  omega
/-! ### headings -/
/-- the number of the heading of a swing -/
def hdg (s p : Int) : Int := s / p % 8
def hxs : List Int := [0, 1, 1, 1, 0, -1, -1, -1]
def hys : List Int := [1, 1, 0, -1, -1, -1, 0, 1]
def dx (s p : Int) : Int := hxs.getD (hdg s p).toNat 0
def dy (s p : Int) : Int := hys.getD (hdg s p).toNat 0
theorem hdg_range (s p : Int) : 0 ≤ hdg s p ∧ hdg s p < 8 := ⟨Int.emod_nonneg _ (by decide), Int.emod_lt_of_pos _ (by decide)⟩
theorem hdg_per {p : Int} (hp : 0 < p) (s k : Int) : hdg (s + 8 * p * k) p = hdg s p := by
  unfold hdg
  rw [show s + 8 * p * k = s + p * (8 * k) by rw [Int.mul_comm 8 p, Int.mul_assoc], Int.add_mul_ediv_left _ _ (by omega), Int.add_mul_emod_self_left]
theorem dx_per {p : Int} (hp : 0 < p) (s k : Int) : dx (s + 8 * p * k) p = dx s p := by unfold dx; rw [hdg_per hp]
theorem dy_per {p : Int} (hp : 0 < p) (s k : Int) : dy (s + 8 * p * k) p = dy s p := by unfold dy; rw [hdg_per hp]
/-- the minutes of a round -/
def roundOf (v p : Int) : Int := 8 * p / ((Nat.gcd v.natAbs (8 * p).natAbs : Nat) : Int)
theorem roundOf_spec {p : Int} (hp : 0 < p) (v : Int) : 0 < roundOf v p ∧ roundOf v p ≤ 8 * p ∧ ∃ k, roundOf v p * v = 8 * p * k := by
  have hc : 0 < 8 * p := by omega
  have g0 : 0 < Nat.gcd v.natAbs (8 * p).natAbs := Nat.gcd_pos_of_pos_right _ (by omega)
  obtain ⟨a, ha⟩ := Nat.gcd_dvd_left v.natAbs (8 * p).natAbs
  obtain ⟨b, hb⟩ := Nat.gcd_dvd_right v.natAbs (8 * p).natAbs
  unfold roundOf
  generalize Nat.gcd v.natAbs (8 * p).natAbs = g at *
  have eb : 8 * p = (g : Int) * (b : Int) := by rw [← Int.natCast_mul, ← hb]; omega
  have er : 8 * p / (g : Int) = (b : Int) := by rw [eb, Int.mul_ediv_cancel_left _ (by omega)]
  rw [er]
  have b0 : b ≠ 0 := fun z => by rw [z, Int.natCast_zero, Int.mul_zero] at eb; omega
  refine ⟨by omega, ?_, ?_⟩
  · rw [eb]
    have : b ≤ g * b := Nat.le_mul_of_pos_left b g0
    rw [← Int.natCast_mul]
    omega
  · obtain ⟨va, hva⟩ : ∃ va : Int, v = (g : Int) * va := by
      rcases Int.natAbs_eq v with z | z
      · exact ⟨a, by rw [z, ha, Int.natCast_mul]⟩
      · exact ⟨-a, by rw [z, ha, Int.natCast_mul, Int.mul_neg]⟩
    refine ⟨va, ?_⟩
    rw [eb, hva, ← Int.mul_assoc, Int.mul_comm (b : Int) (g : Int)]
theorem round_per {h : Int → Int → Int} {p : Int} (hp : 0 < p) (per : ∀ s k, h (s + 8 * p * k) p = h s p) (s v i : Int) : h (s + (i + roundOf v p) * v) p = h (s + i * v) p := by
  obtain ⟨k, hk⟩ := (roundOf_spec hp v).2.2
  rw [show s + (i + roundOf v p) * v = s + i * v + 8 * p * k by rw [Int.add_mul, hk]; omega, per]
/-- where she is: x, y, swing -/
structure Boat where
  x : Int
  y : Int
  s : Int
def sailed (b : Boat) (port star n p : Int) : Boat :=
  ⟨b.x + (port + star) * zsum (fun i => dx (b.s + i * (port - star)) p) n, b.y + (port + star) * zsum (fun i => dy (b.s + i * (port - star)) p) n, b.s + n * (port - star)⟩
theorem sailed_0 (b : Boat) (port star p : Int) : sailed b port star 0 p = b := by
  unfold sailed
  rw [zsum_0, zsum_0, Int.mul_zero, Int.zero_mul, Int.add_zero, Int.add_zero, Int.add_zero]
/-- in pieces -/
theorem sailed_add (b : Boat) (port star m n p : Int) : sailed (sailed b port star m p) port star n p = sailed b port star (m + n) p := by
  unfold sailed
  have e : ∀ i : Int, b.s + m * (port - star) + i * (port - star) = b.s + (m + i) * (port - star) := fun i => by rw [Int.add_mul]; omega
  simp only [e]
  rw [zsum_add _ m n, zsum_add _ m n, Int.mul_add, Int.mul_add, Int.add_assoc, Int.add_assoc]
end RO

namespace RO
open PySem PySem.Spec PyProof.Rows L2 RZ
/-! ### zip of two lists or two tuples, K said -/
theorem k_piZip (K : PySem.W.Frag) {X : Cx} {e e2 : Expr} {ta : TA} {p pos tpos : Pos} {elts : List Expr} {kk : Nat} (hg : Gl X "zip") (hm : X.mg "zip" = none) (ha : PA X [e, e2] ta)
    (hs : starEach [e, e2] X.env = (false, eval e X.env) :: starEach [e2] X.env := by rfl) (hpl : (backTo pos (starEach [e2] X.env)).any (·.1) = false := by rfl) (hK : X.K = K := by rfl) :
    PI X (.Tuple elts kk tpos) (.Call (.Name "zip" p) [e, e2] [] pos) (iZipA K ta) := by
  subst hK
  exact pi_zipA hg hm ha hs hpl
theorem walk_zipT {K : PySem.W.Frag} {a b : Addr} {xs ys : List V} {n : Nat} (hn : n = min xs.length ys.length) : Walk (ItzT K a b) n (fun H => SqT K H a xs ∧ SqT K H b ys) (YPair (fun i => xs[i]?) (fun i => ys[i]?)) := by
  subst hn
  refine ⟨fun i _ hi q => ?_, fun _ q => ⟨xs, ys, q.1, q.2, by omega⟩, fun i H v H' _ q y => ?_⟩
  · have h1 : i < xs.length := by omega
    have h2 : i < ys.length := by omega
    exact ⟨xs, ys, xs[i], ys[i], q.1, q.2, by simp [h1], by simp [h2]⟩
  · obtain ⟨T, x, z, h1, h2, h3, h4, h5⟩ := y
    exact ⟨T, x, z, h1, h2, h3, h4 xs q.1, h5 ys q.2⟩
end RO

namespace PySem.F
theorem zip_no_len : typeLookup (.type "zip") "__len__" = pure none := am_miss_of_fast (by decide +kernel)
theorem zip_no_hint : typeLookup (.type "zip") "__length_hint__" = pure none := am_miss_of_fast (by decide +kernel)
end PySem.F
namespace RO
open PySem PySem.Spec PyProof.Rows L2
/-! ### list(zip(xs, ys)), two lists -/
/-- zip at its turn i, as list(..) walks it; S the list that is made -/
def ZAt (l1 l2 z TI TO i1 i2 S : Addr) (i : Nat) (h : Heap) : Prop :=
  (∀ c ∈ [z, TI, TO, i1, i2], c < h.objs.size) ∧ IsPair h TI (.ref i1) (.ref i2) ∧ h.IsListIter i1 l1 i ∧ h.IsListIter i2 l2 i ∧
  ((IsZip h z TI TO .none ∧ ∃ a b, IsPair h TO a b) ∨ ∃ T f oT, IsZipHeld h z TI TO T f ∧ h.get? T = some oT ∧ T ≠ z ∧ T ≠ i1 ∧ T ≠ i2 ∧ T ≠ S)
def Pairs (H : Hp) (xs ys : List V) (S : Addr) (ps : List Addr) : Prop := ∀ (j : Nat) (p : Addr), ps[j]? = some p → p ≠ S ∧ ∃ x y, xs[j]? = some x ∧ ys[j]? = some y ∧ H p = some (.tup [x, y])
theorem fp_stat {X : Cx} {pins : List (Addr × Obj)} {H H' : Hp} {b : Addr} (h : FpOk X pins H b) (hn : H' b = none) : FpOk X pins H' b := ⟨hn, h.2⟩
section
variable {X : Cx} {pins : List (Addr × Obj)} {σ : L2.St} {l1 l2 z TI TO i1 i2 S : Addr} {xs ys : List V} {R : Result → Shared → Prop} {res : Value} {A : Around}
theorem zip_loop (hA : A.handled = none) (D : ZipApart z TI TO i1 i2 l1 l2) (hS : S ∉ [z, TI, TO, i1, i2]) (H0 : Hp) (hl : min xs.length ys.length ≤ sizeLine) :
    ∀ (k i : Nat) (s : Shared) (H : Hp) (ps : List Addr), min xs.length ys.length - i = k → i ≤ min xs.length ys.length → Inv X pins σ H s → (∀ b ∈ [z, TI, TO, i1, i2], FpOk X pins H b) → ZAt l1 l2 z TI TO i1 i2 S i s.heap →
    SqL X.K H l1 xs → SqL X.K H l2 ys → l1 ≠ S → l2 ≠ S → But S H0 H → H S = some (.lst (ps.map V.ref)) → ps.length = i → Pairs H xs ys S ps →
    (∀ H' s' ps', Inv X pins σ H' s' → But S H0 H' → H' S = some (.lst (ps'.map V.ref)) → ps'.length = min xs.length ys.length → Pairs H' xs ys S ps' → R (.ok (.ret res)) s') →
    codeAny (model X.prog X.w) A (.builtin "list.extend.loop" ⟨[.ref S, .ref z, res], []⟩) R s := by
  intro k
  induction k with
  | zero =>
    intro i s H ps hk hi I hf st hq1 hq2 n1 n2 b0 eS lp hp hR
    have hin : i = min xs.length ys.length := by omega
    refine codeAny_builtin F.entry_extend_loop ?_
    rw [Around.under_plainId F.plain_extend_loop _]
    show wpAny _ A.in1 (pyNext (.ref z) >>= _) _ _ s
    obtain ⟨szs, hTI, h1, h2, hz⟩ := st
    obtain ⟨its, rv, p, _⟩ := I.list hq1
    obtain ⟨its2, rv2, p2, _⟩ := I.list hq2
    have e1 := rv.length
    have e2 := rv2.length
    have he : its.toArray[i]? = none ∨ its2.toArray[i]? = none := by
      rcases Nat.le_total xs.length ys.length with h | h
      · exact .inl (by simp; omega)
      · exact .inr (by simp; omega)
    have fin : ∀ h', (∀ c o, c ≠ z → c ≠ TO → c ≠ i1 → c ≠ i2 → s.heap.get? c = some o → h'.get? c = some o) → Inv X pins σ H { s with heap := h' } := fun h' hk =>
      I.turnedL (t' := s.toks) (ch := [z, TI, TO, i1, i2]) (fun c o hb q => hk c o (fun q' => hb (by simp [q'])) (fun q' => hb (by simp [q'])) (fun q' => hb (by simp [q'])) (fun q' => hb (by simp [q'])) q) hf
    rcases hz with ⟨hz, a, b, hTO⟩ | ⟨T, f, oT, hz, hT, r1, r2, r3, r4⟩
    · refine wpAny_bind (wpAny_pyNext_zip_end (A := A.in1) hA D hz hTI hTO h1 h2 p.isList p2.isList he fun h' hk => ?_)
      exact wpAny_pure (hR H _ ps (fin h' hk) b0 eS (by omega) hp)
    · refine wpAny_bind (wpAny_pyNext_zip_end_held (A := A.in1) hA D hz hT hTI h1 h2 p.isList p2.isList he fun h' hk => ?_)
      exact wpAny_pure (hR H _ ps (fin h' fun c o q1 q2 q3 q4 => hk c o q1 q3 q4) b0 eS (by omega) hp)
  | succ k ih =>
    intro i s H ps hk hi I hf st hq1 hq2 n1 n2 b0 eS lp hp hR
    have hlt : i < min xs.length ys.length := by omega
    refine codeAny_builtin F.entry_extend_loop ?_
    rw [Around.under_plainId F.plain_extend_loop _]
    show wpAny _ A.in1 (pyNext (.ref z) >>= _) _ _ s
    obtain ⟨szs, hTI, h1, h2, hz⟩ := st
    obtain ⟨its, rv, p, _⟩ := I.list hq1
    obtain ⟨its2, rv2, p2, _⟩ := I.list hq2
    obtain ⟨x, hx⟩ : ∃ x, xs[i]? = some x := ⟨_, List.getElem?_eq_getElem (by omega)⟩
    obtain ⟨y, hy⟩ : ∃ y, ys[i]? = some y := ⟨_, List.getElem?_eq_getElem (by omega)⟩
    obtain ⟨u, hu, ru⟩ := rv.get hx
    obtain ⟨u2, hu2, ru2⟩ := rv2.get hy
    have hzl : z < s.heap.objs.size := by
      rcases hz with ⟨hz, _⟩ | ⟨_, _, _, hz, _⟩ <;> exact Heap.lt_size hz
    have lt : ∀ {c o}, s.heap.get? c = some o → s.heap.objs.size ≠ c := fun e => Nat.ne_of_gt (Heap.lt_size e)
    have m1 : s.heap.objs.size ≠ i1 := let ⟨_, e, _⟩ := h1; lt e
    have m2 : s.heap.objs.size ≠ i2 := let ⟨_, e, _⟩ := h2; lt e
    have mz : s.heap.objs.size ≠ z := Nat.ne_of_gt hzl
    have hSs : s.heap.objs.size ≠ S := fun e => by
      have := I.hok.fresh (Nat.le_refl s.heap.objs.size)
      rw [e, eS] at this
      cases this
    have hlz : s.heap.objs.size ≠ TI := lt hTI
    have fpT : ∀ c ∈ [z, TI, TO, i1, i2], c ≠ s.heap.objs.size := fun c hc => Nat.ne_of_lt (szs c hc)
    -- what is put behind
    have put : ∀ (h' : Heap), h'.objs.size = s.heap.objs.size + 1 → (∀ c o, c ≠ z → c ≠ TO → c ≠ i1 → c ≠ i2 → s.heap.get? c = some o → h'.get? c = some o) → IsPair h' s.heap.objs.size u u2 → h'.IsListIter i1 l1 (i + 1) → h'.IsListIter i2 l2 (i + 1) →
        ((IsZip h' z TI TO .none ∧ ∃ a b, IsPair h' TO a b) ∨ ∃ T f oT, IsZipHeld h' z TI TO T f ∧ h'.get? T = some oT ∧ T ≠ z ∧ T ≠ i1 ∧ T ≠ i2 ∧ T ≠ S) →
        wpAny (model X.prog X.w) A.in1 (updateSeq S (·.push (.ref s.heap.objs.size)) >>= fun _ => again (.builtin "list.extend.loop" ⟨[.ref S, .ref z, res], []⟩))
          (fun fin s' => match fin with | .done f => R (.ok f) s' | .again c' => c'.quiet = true ∧ codeAny (model X.prog X.w) A c' R s') (fun e s' => R (.error e) s') { s with heap := h' } := by
      intro h' hsz hk hT a3 a4 hz'
      have new : ObjOk X.prog X.w (upd H s.heap.objs.size (.tup [x, y])) h' s.heap.objs.size (.tup [x, y]) :=
        ⟨by show 2 ≤ sizeLine; decide, [u, u2], .cons ru (.cons ru2 .nil), ⟨_, hT, rfl, _, rfl⟩⟩
      have I1 : Inv X pins σ (upd H s.heap.objs.size (.tup [x, y])) { s with heap := h' } :=
        I.turnedNew (t' := s.toks) (ch := [z, TI, TO, i1, i2]) (fun c o hb q => hk c o (fun q' => hb (by simp [q'])) (fun q' => hb (by simp [q'])) (fun q' => hb (by simp [q'])) (fun q' => hb (by simp [q'])) q) hf (Nat.le_refl _) new
      have eS1 : (upd H s.heap.objs.size (.tup [x, y])) S = some (.lst (ps.map V.ref)) := (upd_ne (Ne.symm hSs)).trans eS
      obtain ⟨lz, its3, n3, rv3, _, hS3⟩ := I1.lstM eS1
      have e3 := rv3.length
      rw [List.length_map, lp] at e3
      have I2 := I1.lset (its' := its3 ++ [.ref s.heap.objs.size]) (f := fun a => a.push (.ref s.heap.objs.size)) (ys := ps.map V.ref ++ [V.ref s.heap.objs.size]) (t' := s.toks) eS1 hS3 (by simp) (rv3.append (.cons (show L2.RelV (V.ref s.heap.objs.size) (.ref s.heap.objs.size) from rfl) .nil)) (by rw [List.length_append, List.length_map, lp]; show i + 1 ≤ _; omega)
      have same1 : Same H (upd H s.heap.objs.size (.tup [x, y])) := same_new (Same.refl _) (I.hok.fresh (Nat.le_refl _))
      refine wpAny_bind ?_
      refine wpAny_updateSeq hS3 rfl (wpAny_pure ⟨plainId_quiet F.plain_extend_loop _, ih (i + 1) _ _ (ps ++ [s.heap.objs.size]) (by omega) hlt I2 (fun c hc => ?_) ⟨fun c hc => ?_, ?_, ?_, ?_, ?_⟩ ?_ ?_ n1 n2 ?_ ?_ ?_ ?_ hR⟩) ?_ ?_
      · have nS : c ≠ S := fun e => hS (e ▸ hc)
        exact fp_stat (hf c hc) (by rw [upd_ne nS, upd_ne (fpT c hc)]; exact (hf c hc).1)
      · rw [Heap.size_update, hsz]
        exact Nat.lt_succ_of_lt (szs c hc)
      · have nS : TI ≠ S := fun e => hS (by simp [← e])
        exact (Heap.get?_update_other _ _ (Ne.symm nS)).trans (hk _ _ D.TIz D.TITO D.TIi1 D.TIi2 hTI)
      · exact a3.at fun o q => (Heap.get?_update_other _ _ (fun e => hS (by simp [e]))).trans q
      · exact a4.at fun o q => (Heap.get?_update_other _ _ (fun e => hS (by simp [e]))).trans q
      · rcases hz' with ⟨hz, a, b, hTO⟩ | ⟨T, f, oT, hz, hT, r1, r2, r3, r4⟩
        · exact .inl ⟨(Heap.get?_update_other _ _ (fun e => hS (by simp [e]))).trans hz, a, b, (Heap.get?_update_other _ _ (fun e => hS (by simp [e]))).trans hTO⟩
        · exact .inr ⟨T, f, oT, (Heap.get?_update_other _ _ (fun e => hS (by simp [e]))).trans hz, (Heap.get?_update_other _ _ (Ne.symm r4)).trans hT, r1, r2, r3, r4⟩
      · exact But.put.seqL n1 (same_seqL same1 hq1)
      · exact But.put.seqL n2 (same_seqL same1 hq2)
      · exact (b0.trans (But.of_same same1)).trans But.put
      · rw [upd_same, List.map_append]
        rfl
      · rw [List.length_append, lp]
        rfl
      · intro j p' hj
        by_cases cc : j < ps.length
        · rw [List.getElem?_append_left cc] at hj
          obtain ⟨q1, x', y', q2, q3, q4⟩ := hp j p' hj
          exact ⟨q1, x', y', q2, q3, (upd_ne q1).trans (same1 _ _ q4)⟩
        · have ej : j = i := by
            obtain ⟨z3, _⟩ := List.getElem?_eq_some_iff.mp hj
            rw [List.length_append] at z3
            have z3 : j < ps.length + 1 := z3
            omega
          subst ej
          rw [List.getElem?_append_right (by omega), lp, Nat.sub_self] at hj
          obtain rfl : s.heap.objs.size = p' := Option.some.inj hj
          exact ⟨hSs, x, y, hx, hy, (upd_ne hSs).trans upd_same⟩
      · rw [List.size_toArray]
        omega
      · show (its3.toArray.push _).size ≤ _
        rw [Array.size_push, List.size_toArray]
        omega
    rcases hz with ⟨hz, a, b, hTO⟩ | ⟨T, f, oT, hz, hT, r1, r2, r3, r4⟩
    · refine wpAny_bind (wpAny_pyNext_zip_item D hz hTI hTO h1 h2 p.isList p2.isList (x := u) (y := u2) (by simpa using hu) (by simpa using hu2) fun h' a1 a2 a3 a4 a5 a6 hk => ?_)
      exact put h' a6 hk a5 a3 a4 (.inr ⟨s.heap.objs.size, false, _, a1, a5, mz, m1, m2, hSs⟩)
    · refine wpAny_bind (wpAny_pyNext_zip_item_held D hz hT hTI h1 h2 p.isList p2.isList (x := u) (y := u2) (by simpa using hu) (by simpa using hu2) fun h' a1 a3 a4 a5 a6 hk => ?_)
      exact put h' a6 (fun c o q1 q2 q3 q4 => hk c o q1 q3 q4) a5 a3 a4 (.inr ⟨T, true, oT, a1, hk _ _ r1 r2 r3 hT, r1, r2, r3, r4⟩)
theorem zip_extend (hA : A.handled = none) (D : ZipApart z TI TO i1 i2 l1 l2) (hS : S ∉ [z, TI, TO, i1, i2]) (H0 : Hp) (hl : min xs.length ys.length ≤ sizeLine) (s : Shared) (H : Hp) (I : Inv X pins σ H s) (hf : ∀ b ∈ [z, TI, TO, i1, i2], FpOk X pins H b)
    (st : ZAt l1 l2 z TI TO i1 i2 S 0 s.heap) (hz : IsZip s.heap z TI TO .none) (hq1 : SqL X.K H l1 xs) (hq2 : SqL X.K H l2 ys) (n1 : l1 ≠ S) (n2 : l2 ≠ S) (b0 : But S H0 H) (eS : H S = some (.lst []))
    (hR : ∀ H' s' ps', Inv X pins σ H' s' → But S H0 H' → H' S = some (.lst (ps'.map V.ref)) → ps'.length = min xs.length ys.length → Pairs H' xs ys S ps' → R (.ok (.ret res)) s') :
    wpAny (model X.prog X.w) A.in1 (Builtin.List.listExtendWith (.ref S) (.ref z) res)
      (fun fin s' => match fin with | .done f => R (.ok f) s' | .again c' => c'.quiet = true ∧ codeAny (model X.prog X.w) A c' R s') (fun e s' => R (.error e) s') s := by
  have hT : s.TypeIs (.ref z) "zip" := ⟨_, hz, rfl⟩
  have hSz : S ≠ z := fun e => hS (by simp [e])
  obtain ⟨_, its0, n0, rv0, e0, hS0⟩ := I.lstM eS
  have e0 : its0 = [] := by
    cases its0 with
    | nil => rfl
    | cons a b => simp at e0
  subst e0
  unfold Builtin.List.listExtendWith
  refine wpAny_bind (wpAny_typeOf hT ?_)
  have h1 : Builtin.List.listSameRef (.ref S) (.ref z) = false := by simp [Builtin.List.listSameRef, hSz]
  have h2 : (Value.type "zip" == Value.type "list") = false := by decide
  have h3 : (Value.type "zip" == Value.type "tuple") = false := by decide
  simp only [h1, h2, h3, Bool.or_false, Bool.false_eq_true, if_false]
  refine wpAny_bind (wpAny_pyIter_zip hz ?_)
  refine wpAny_bind (wpAny_holding ?_)
  unfold Builtin.List.listLengthHint
  refine wpAny_bind (wpAny_specialOf hT F.zip_no_len ?_)
  show wpAny _ A.in1 (specialOf (Value.ref z) (Str.ofString "__length_hint__") >>= _) _ _ _
  refine wpAny_bind (wpAny_specialOf hT F.zip_no_hint ?_)
  refine wpAny_pure ?_
  show wpAny _ A.in1 (rule "list.extend.makes-room" >>= fun _ => Builtin.List.listTouch (.ref S) >>= fun _ =>
    again (.builtin "list.extend.loop" ⟨[.ref S, .ref z, res], []⟩)) _ _ _
  refine wpAny_bind (wpAny_rule ?_)
  refine wpAny_bind ?_
  show wpAny _ A.in1 (updateSeq S (·.push .none) >>= fun _ => updateSeq S (·.pop)) _ _ _
  refine wpAny_bind (wpAny_updateSeq hS0 rfl ?_)
  have hS2 := Heap.get?_update_self (Obj.mapSeq (·.push Value.none)) hS0 rfl
  refine wpAny_updateSeq (hz := by seq_fits) hS2 rfl ?_
  have hS3 := Heap.get?_update_self (Obj.mapSeq (·.pop)) hS2 rfl
  have oth : ∀ b o, b ≠ S → s.heap.get? b = some o → ((s.heap.update S (Obj.mapSeq (·.push Value.none))).update S (Obj.mapSeq (·.pop))).get? b = some o :=
    fun b o hb e => (Heap.get?_update_other _ _ (Ne.symm hb)).trans ((Heap.get?_update_other _ _ (Ne.symm hb)).trans e)
  have I3 : Inv X pins σ (upd H S (.lst [])) { s with heap := (s.heap.update S (Obj.mapSeq (·.push Value.none))).update S (Obj.mapSeq (·.pop)), toks := s.toks } :=
    I.write (x := S) (e := S) (by rw [eS]; exact trivial) (.inl rfl) oth ⟨_, hS3⟩ ⟨Nat.zero_le _, [], _, .nil, hS3⟩
  have hcell : ∀ c ∈ [z, TI, TO, i1, i2], c ≠ S := fun c hc e => hS (e ▸ hc)
  obtain ⟨szs, hTI, q1, q2, q3⟩ := st
  refine wpAny_pure ⟨plainId_quiet F.plain_extend_loop _, zip_loop hA D hS H0 hl _ 0 _ _ [] rfl (Nat.zero_le _) I3 (fun c hc' => fp_stat (hf c hc') (by rw [upd_ne (hcell c hc')]; exact (hf c hc').1)) ⟨fun c hc' => ?_, ?_, ?_, ?_, ?_⟩ (But.put.seqL n1 hq1) (But.put.seqL n2 hq2) n1 n2 (b0.trans But.put) upd_same rfl (fun j p hj => by simp at hj) hR⟩
  · rw [Heap.size_update, Heap.size_update]
    exact szs c hc'
  · exact oth _ _ (hcell _ (by simp)) hTI
  · exact q1.at fun o q => oth _ _ (hcell _ (by simp)) q
  · exact q2.at fun o q => oth _ _ (hcell _ (by simp)) q
  · rcases q3 with ⟨hz, a, b, hTO⟩ | ⟨T, f, oT, hz, hT, r1, r2, r3, r4⟩
    · exact .inl ⟨oth _ _ (hcell _ (by simp)) hz, a, b, oth _ _ (hcell _ (by simp)) hTO⟩
    · exact .inr ⟨T, f, oT, oth _ _ (hcell _ (by simp)) hz, oth _ _ r4 hT, r1, r2, r3, r4⟩
theorem call_list_zip {Q : VK} (hc : X.calm = true) (D : ZipApart z TI TO i1 i2 l1 l2) {s : Shared} {H : Hp} (I : Inv X pins σ H s) (hf : ∀ b ∈ [z, TI, TO, i1, i2], FpOk X pins H b)
    (szs : ∀ c ∈ [z, TI, TO, i1, i2], c < s.heap.objs.size) (hz : IsZip s.heap z TI TO .none) (hTI : IsPair s.heap TI (.ref i1) (.ref i2)) (hTO : ∃ a b, IsPair s.heap TO a b) (h1 : s.heap.IsListIter i1 l1 0) (h2 : s.heap.IsListIter i2 l2 0)
    (hq1 : SqL X.K H l1 xs) (hq2 : SqL X.K H l2 ys)
    (hQ : ∀ H' q ps, Same H H' → H q = none → H' q = some (.lst (ps.map V.ref)) → ps.length = min xs.length ys.length → Pairs H' xs ys q ps → Q (.ref q) H') :
    wpAny (model X.prog X.w) X.A (call (.type "list") [.ref z]) (EP X pins σ Q) X.xe s := by
  obtain ⟨its, rv, p1, zz1⟩ := I.list hq1
  obtain ⟨its2, rv2, p2, zz2⟩ := I.list hq2
  have hl : min xs.length ys.length ≤ sizeLine := Nat.le_trans (Nat.min_le_left ..) zz1
  have fr : H s.heap.objs.size = none := I.hok.fresh (Nat.le_refl _)
  have hS : s.heap.objs.size ∉ [z, TI, TO, i1, i2] := fun hm => Nat.lt_irrefl _ (szs _ hm)
  refine callType_codes (Q₁ := fun obj s₁ => obj = .ref s.heap.objs.size ∧ s₁ = { s with heap := s.heap.push { cls := .type "list", data := .seq #[] } }) F.called_list (F.typeCall_list_1 _) F.entry_list_init
    (code_list_new _ ⟨rfl, rfl⟩) fun obj s₁ h₁ => ?_
  obtain ⟨rfl, rfl⟩ := h₁
  have hSS : (s.heap.push { cls := .type "list", data := .seq #[] }).get? s.heap.objs.size = some { cls := .type "list", data := .seq #[] } := Heap.get?_push_size _ rfl
  refine ⟨⟨_, hSS, rfl⟩, F.args_list_init_2 _ _, ?_⟩
  have I1 : Inv X pins σ (upd H s.heap.objs.size (.lst [])) { s with heap := s.heap.push { cls := .type "list", data := .seq #[] }, toks := s.toks } := I.lnew (its := []) (ys := []) .nil (Nat.zero_le _)
  show wpAny _ X.A.in1.in1 (do let old ← Builtin.List.listItems (.ref s.heap.objs.size); Builtin.List.listUpdate (.ref s.heap.objs.size) (fun _ => #[]); letGo old.toList.reverse; Builtin.List.listExtendWith (.ref s.heap.objs.size) (.ref z) .none) _ _ _
  refine wpAny_bind ?_
  unfold Builtin.List.listItems
  refine wpAny_bind (wpAny_seqItems hSS rfl (wpAny_pure ?_))
  show wpAny _ X.A.in1.in1 (updateSeq s.heap.objs.size (fun _ => #[]) >>= fun _ => letGo (#[] : Array Value).toList.reverse >>= fun _ => Builtin.List.listExtendWith (.ref s.heap.objs.size) (.ref z) .none) _ _ _
  refine wpAny_bind (wpAny_updateSeq hSS rfl ?_)
  have hS2 := Heap.get?_update_self (Obj.mapSeq (fun _ => (#[] : Array Value))) hSS rfl
  have oth : ∀ b o, b ≠ s.heap.objs.size → s.heap.get? b = some o → ((s.heap.push { cls := .type "list", data := .seq #[] }).update s.heap.objs.size (Obj.mapSeq (fun _ => (#[] : Array Value)))).get? b = some o :=
    fun b o hb e => (Heap.get?_update_other _ _ (Ne.symm hb)).trans (Heap.get?_push_of_some _ e)
  refine wpAny_bind (wpAny_letGo ?_)
  have I2 : Inv X pins σ (upd (upd H s.heap.objs.size (.lst [])) s.heap.objs.size (.lst [])) { s with heap := (s.heap.push { cls := .type "list", data := .seq #[] }).update s.heap.objs.size (Obj.mapSeq (fun _ => (#[] : Array Value))), toks := s.toks } :=
    I1.write (x := s.heap.objs.size) (e := s.heap.objs.size) (by rw [upd_same]; exact trivial) (.inl rfl) (fun b u hb hu => (Heap.get?_update_other _ _ (Ne.symm hb)).trans hu) ⟨_, hS2⟩ ⟨Nat.zero_le _, [], _, .nil, hS2⟩
  have n1 : l1 ≠ s.heap.objs.size := Nat.ne_of_lt p1.lt
  have n2 : l2 ≠ s.heap.objs.size := Nat.ne_of_lt p2.lt
  have same2 : Same H (upd (upd H s.heap.objs.size (.lst [])) s.heap.objs.size (.lst [])) := fun b o e => by
    have n := ne_of_none e fr
    rw [upd_ne n, upd_ne n]
    exact e
  have ncell : ∀ c ∈ [z, TI, TO, i1, i2], c ≠ s.heap.objs.size := fun c hc e => hS (e ▸ hc)
  refine zip_extend (S := s.heap.objs.size) (A := X.A.in1) (I.ok.hd hc) D hS H hl _ _ I2 (fun c hc' => fp_stat (hf c hc') (by rw [upd_ne (ncell c hc'), upd_ne (ncell c hc')]; exact (hf c hc').1)) ⟨fun c hc' => ?_, ?_, ?_, ?_, .inl ⟨?_, ?_⟩⟩ ?_
    (same_seqL same2 hq1) (same_seqL same2 hq2) n1 n2 (But.of_same same2) upd_same fun H' s' ps I' b' e' lp pr => ⟨rfl, .ref s.heap.objs.size, H', I', rfl, hQ H' s.heap.objs.size ps (fun b o e => b' b o (ne_of_none e fr) e) fr e' lp pr⟩
  · rw [Heap.size_update, Heap.size_push]
    exact Nat.lt_succ_of_lt (szs c hc')
  · exact oth _ _ (ncell _ (by simp)) hTI
  · exact h1.at fun o q => oth _ _ (ncell _ (by simp)) q
  · exact h2.at fun o q => oth _ _ (ncell _ (by simp)) q
  · exact oth _ _ (ncell _ (by simp)) hz
  · obtain ⟨a, b, hTO⟩ := hTO
    exact ⟨a, b, oth _ _ (ncell _ (by simp)) hTO⟩
  · exact oth _ _ (ncell _ (by simp)) hz
def tLstZip (K : PySem.W.Frag) (ta : TA) : TE := fun σ H Q => ta σ H fun vs H1 => ∃ a b xs ys, vs = [.ref a, .ref b] ∧ SqL K H1 a xs ∧ SqL K H1 b ys ∧
  ∀ H' q ps, Same H1 H' → H1 q = none → H' q = some (.lst (ps.map V.ref)) → ps.length = min xs.length ys.length → Pairs H' xs ys q ps → Q (.ref q) H'
theorem pe_listZip (K : PySem.W.Frag) {e e2 : Expr} {ta : TA} {p pos p' pos' : Pos} (hc : X.calm = true) (hg : Gl X "list") (hm : X.mg "list" = none) (hg2 : Gl X "zip") (hm2 : X.mg "zip" = none) (ha : PA X [e, e2] ta)
    (hs : starEach [e, e2] X.env = (false, eval e X.env) :: starEach [e2] X.env := by rfl) (hpl : (backTo pos' (starEach [e2] X.env)).any (·.1) = false := by rfl)
    (na : starEach [.Call (.Name "zip" p') [e, e2] [] pos'] X.env = (false, eval (.Call (.Name "zip" p') [e, e2] [] pos') X.env) :: starEach [] X.env := by rfl) (hK : X.K = K := by rfl) :
    PE X (.Call (.Name "list" p) [.Call (.Name "zip" p') [e, e2] [] pos'] [] pos) (tLstZip K ta) := by
  subst hK
  refine ⟨fun pins s σ H Q I h => ?_⟩
  refine Call_ (ld_blt I hg hm boot_list (PyProof.Rows.callWith_type1 (args_cons ?_ na) na))
  refine Call_ (ld_blt I hg2 hm2 PyProof.Rows.boot_zip (PyProof.Rows.callWith_type1 (thn (ha.run pos' pins s σ H _ I h) fun us s1 ⟨vs, H1, I1, r1, q1⟩ => ?_) hs hpl))
  obtain ⟨a, b, xs, ys, ex, hqx, hqy, q⟩ := q1
  subst ex
  cases r1 with
  | cons r rr =>
    cases rr with
    | cons r' rr =>
      cases rr
      cases r
      cases r'
      obtain ⟨its, rv, p1, _⟩ := I1.list hqx
      obtain ⟨its2, rv2, p2, _⟩ := I1.list hqy
      refine call_zip_2 p1.isList p2.isList fun h' hz hTI hTO h1 h2 hsz hk => args_nil ?_
      have I2 : Inv X pins σ H1 { s1 with heap := h' } := I1.kept (t' := s1.toks) hk
      have cs : ∀ c, c ∈ [s1.heap.objs.size + 4, s1.heap.objs.size + 2, s1.heap.objs.size + 3, s1.heap.objs.size, s1.heap.objs.size + 1] → s1.heap.objs.size ≤ c ∧ c < s1.heap.objs.size + 5 := fun c hcm => by
        have e' : c = s1.heap.objs.size + 4 ∨ c = s1.heap.objs.size + 2 ∨ c = s1.heap.objs.size + 3 ∨ c = s1.heap.objs.size ∨ c = s1.heap.objs.size + 1 := by simpa using hcm
        omega
      exact call_list_zip hc (PySem.W.ktu_apart s1.heap.objs.size a b p1.lt p2.lt) I2 (fun c hcm => I1.fpOk (cs c hcm).1 (I1.hok.fresh (cs c hcm).1)) (fun c hcm => by show c < h'.objs.size; rw [hsz]; exact (cs c hcm).2) hz hTI ⟨_, _, hTO⟩ h1 h2 hqx hqy q
end
end RO

namespace RO
open PySem PySem.Spec PyProof.Rows L2
/-! ### xs[::2], a list of three -/
def tStep2 (K : PySem.W.Frag) (te : TE) : TE := fun σ H Q => te σ H fun v H1 => ∃ a x y z, v = .ref a ∧ SqL K H1 a [x, y, z] ∧ ∀ p, H1 p = none → Q (.ref p) (upd H1 p (.lst [x, z]))
theorem pick3 (u1 u2 u3 : Value) : slicePick [u1, u2, u3].toArray none none (some 2) = [u1, u3].toArray := by
  have b : sliceBounds none none (some 2) [u1, u2, u3].toArray.size = (0, 3, 2) := by rfl
  have r : sliceRange 0 3 2 = [0, 2] := by decide
  unfold slicePick
  rw [b]
  show ((sliceRange 0 3 2).filterMap _).toArray = _
  rw [r]
  rfl
theorem pe_step2 (K : PySem.W.Frag) {X : Cx} {e : Expr} {te : TE} {k : Nat} {p1 p3 pos : Pos} (he : PE X e te) (hK : X.K = K := by rfl) : PE X (.Subscript e (.Slice none none (some (.Constant (.int 2) k p1)) p3) pos) (tStep2 K te) := by
  subst hK
  refine ⟨fun pins s σ H Q I h => ?_⟩
  refine Subscript_ (thn (he.run pins s σ H _ I h) fun v s1 ⟨x0, H1, I1, r1, q1⟩ => ?_)
  obtain ⟨a, x, y, z, ex, hx, q⟩ := q1
  subst ex
  cases r1
  have hst : PO X (some (.Constant (.int 2) k p1)) (tPart (tC (.int 2))) := po_some pe_int
  refine wpAny_Slice (thn (po_none.run pins s1 σ H1 (fun o H2 => o = none ∧ H2 = H1) I1 ⟨rfl, rfl⟩) fun vl s2 ⟨l, H2, I2, pl, el, e2⟩ => ?_)
  subst el e2
  refine thn (po_none.run pins s2 σ H2 (fun o H3 => o = none ∧ H3 = H2) I2 ⟨rfl, rfl⟩) fun vu s3 ⟨u, H3, I3, pu, eu, e3⟩ => ?_
  subst eu e3
  refine thn (hst.run pins s3 σ H3 (fun o H4 => o = some 2 ∧ H4 = H3) I3 ⟨2, rfl, rfl, rfl⟩) fun vs s4 ⟨o, H4, I4, ps, eo, e4⟩ => ?_
  subst eo e4
  have I5 : Inv X pins σ H4 { s4 with heap := s4.heap.push { cls := .type "slice", data := .fields #[vl, vu, vs] } } := I4.kept (t' := s4.toks) fun b ob q => Heap.get?_push_of_some _ q
  obtain ⟨its, r, ht, hz⟩ := I5.list hx
  have hlen := r.length
  obtain ⟨u1, u2, u3, rfl, q1, q2, q3⟩ : ∃ u1 u2 u3, its = [u1, u2, u3] ∧ RelV x u1 ∧ RelV y u2 ∧ RelV z u3 := by
    cases r with
    | cons p q =>
      cases q with
      | cons p' q' =>
        cases q' with
        | cons p'' q'' =>
          cases q''
          exact ⟨_, _, _, rfl, p, p', p''⟩
  show wpAny (model X.prog X.w) X.A (subscriptTail e (.Slice none none (some (.Constant (.int 2) k p1)) p3) (.ref a) (.ref s4.heap.objs.size)) (EP X pins σ Q) X.xe { s4 with heap := s4.heap.push { cls := .type "slice", data := .fields #[vl, vu, vs] } }
  refine tail_any (ops := [.ref a, .ref s4.heap.objs.size]) ht.isList.typeIs (PySem.slot_list_getitem.lookup) ?_ (by with_unfolding_all rfl)
  refine wpAny_getItem_list_slice ht.isList (Heap.IsSliceOf.new _ vl vu vs) pl pu ps (by decide) ?_ (by rw [List.size_toArray]; omega)
  rw [pick3]
  refine ⟨.ref _, _, I5.laid (t' := s4.toks) (o := .lst [x, z]) (fun b ob q => Heap.get?_push_of_some _ q) (Nat.le_refl _) ?_, rfl, q _ (I5.hok.fresh (Nat.le_refl _))⟩
  exact ⟨by show 2 ≤ sizeLine; decide, _, 0, .cons q1 (.cons q3 .nil), Heap.get?_push_size _ rfl⟩
end RO

namespace RO
open PySem PySem.Spec PyProof.Rows L2 PySem.W
/-! ### min, max of a list of numbers, default= -/
theorem reads_ints {h : Heap} : ∀ {vs : List Value} {ns : List Int}, IntsAre vs ns → ReadsAll h vs (ns.map PyData.int) []
  | _, _, .nil => .nil
  | _, _, .cons n t r => .cons (as := []) (bs := []) (.int n t) (reads_ints r)
theorem alike_ints (ns : List Int) : AlikeAll (ns.map PyData.int) := by
  refine ⟨fun x hx y hy => ?_, fun x hx => ?_⟩
  · obtain ⟨a, _, rfl⟩ := List.mem_map.mp hx
    obtain ⟨b, _, rfl⟩ := List.mem_map.mp hy
    rfl
  · obtain ⟨a, _, rfl⟩ := List.mem_map.mp hx
    intro z
    cases z
theorem depth_ints : ∀ ns : List Int, PyData.depthAll (ns.map PyData.int) ≤ 1
  | [] => Nat.zero_le _
  | n :: r => Nat.max_le.mpr ⟨Nat.zero_le _, depth_ints r⟩
theorem min_fold (n : Int) (ns : List Int) : ns.foldl min n ∈ n :: ns ∧ ∀ y ∈ n :: ns, ns.foldl min n ≤ y := by
  induction ns generalizing n with
  | nil => exact ⟨by simp, fun y hy => by simp at hy; rw [hy]; exact Int.le_refl _⟩
  | cons k r ih =>
    obtain ⟨h1, h2⟩ := ih (min n k)
    show r.foldl min (min n k) ∈ _ ∧ _
    refine ⟨?_, fun y hy => ?_⟩
    · rcases List.mem_cons.mp h1 with z | z
      · rw [z]
        by_cases c : n ≤ k
        · rw [Int.min_eq_left c]; simp
        · rw [Int.min_eq_right (by omega)]; simp
      · exact List.mem_cons_of_mem _ (List.mem_cons_of_mem _ z)
    · have m := h2 (min n k) (List.mem_cons_self ..)
      show r.foldl min (min n k) ≤ y
      rcases List.mem_cons.mp hy with rfl | hy
      · omega
      · rcases List.mem_cons.mp hy with rfl | hy
        · omega
        · exact h2 y (List.mem_cons_of_mem _ hy)
theorem max_fold (n : Int) (ns : List Int) : ns.foldl max n ∈ n :: ns ∧ ∀ y ∈ n :: ns, y ≤ ns.foldl max n := by
  induction ns generalizing n with
  | nil => exact ⟨by simp, fun y hy => by simp at hy; rw [hy]; exact Int.le_refl _⟩
  | cons k r ih =>
    obtain ⟨h1, h2⟩ := ih (max n k)
    show r.foldl max (max n k) ∈ _ ∧ _
    refine ⟨?_, fun y hy => ?_⟩
    · rcases List.mem_cons.mp h1 with z | z
      · rw [z]
        by_cases c : n ≤ k
        · rw [Int.max_eq_right c]; simp
        · rw [Int.max_eq_left (by omega)]; simp
      · exact List.mem_cons_of_mem _ (List.mem_cons_of_mem _ z)
    · have m := h2 (max n k) (List.mem_cons_self ..)
      show y ≤ r.foldl max (max n k)
      rcases List.mem_cons.mp hy with rfl | hy
      · omega
      · rcases List.mem_cons.mp hy with rfl | hy
        · omega
        · exact h2 y (List.mem_cons_of_mem _ hy)
def rMinDef (K : PySem.W.Frag) (lt : Int → Int → Prop) : List V → List V → Hp → VK → Prop := fun vs zs H Q => ∃ (a : Addr) (ns : List Int) (d : Int), vs = [V.ref a] ∧ zs = [V.int d] ∧ SqL K H a (ns.map V.int) ∧ ∀ m, (ns = [] ∧ m = d ∨ m ∈ ns ∧ ∀ y ∈ ns, lt m y) → Q (.int m) H
theorem k_minDef (K : PySem.W.Frag) {X : Cx} (hc : X.calm = true) (hu : X.A.units + 64 < cLine) (hK : X.K = K := by rfl) : CallRK X (.builtin "min") [Str.ofString "default"] (rMinDef K fun m y => m ≤ y) := by
  subst hK
  intro pins s σ H vs zs us ws Q I r rz h
  obtain ⟨a, ns, d, rfl, rfl, hs, q⟩ := h
  obtain ⟨its, rv, hl, _⟩ := I.list hs
  rw [Vals.ref1 r]
  obtain ⟨w1, rfl, td, rfl⟩ := vals1 rz
  have dl := depth_ints ns
  refine min_list_default (I.ok.hd hc) hl.isList (reads_ints rv.ints) (alike_ints ns) (by omega) (fun e h' tk hk => ?_) fun y ys i v h' tk bs e hv rd hk => ?_
  · exact ⟨.int d, H, I.kept hk, ⟨_, rfl⟩, q d (.inl ⟨(by cases ns with | nil => rfl | cons a b => cases e), rfl⟩)⟩
  · cases ns with
    | nil => cases e
    | cons n r =>
      cases e
      rw [minD_ints] at rd
      obtain ⟨m1, m2⟩ := min_fold n r
      generalize r.foldl min n = m at *
      cases rd
      exact ⟨.int m, H, I.kept hk, ⟨_, rfl⟩, q m (.inr ⟨m1, m2⟩)⟩
theorem k_maxDef (K : PySem.W.Frag) {X : Cx} (hc : X.calm = true) (hu : X.A.units + 64 < cLine) (hK : X.K = K := by rfl) : CallRK X (.builtin "max") [Str.ofString "default"] (rMinDef K fun m y => y ≤ m) := by
  subst hK
  intro pins s σ H vs zs us ws Q I r rz h
  obtain ⟨a, ns, d, rfl, rfl, hs, q⟩ := h
  obtain ⟨its, rv, hl, _⟩ := I.list hs
  rw [Vals.ref1 r]
  obtain ⟨w1, rfl, td, rfl⟩ := vals1 rz
  have dl := depth_ints ns
  refine max_list_default (I.ok.hd hc) hl.isList (reads_ints rv.ints) (alike_ints ns) (by omega) (fun e h' tk hk => ?_) fun y ys i v h' tk bs e hv rd hk => ?_
  · exact ⟨.int d, H, I.kept hk, ⟨_, rfl⟩, q d (.inl ⟨(by cases ns with | nil => rfl | cons a b => cases e), rfl⟩)⟩
  · cases ns with
    | nil => cases e
    | cons n r =>
      cases e
      rw [maxD_ints] at rd
      obtain ⟨m1, m2⟩ := max_fold n r
      generalize r.foldl max n = m at *
      cases rd
      exact ⟨.int m, H, I.kept hk, ⟨_, rfl⟩, q m (.inr ⟨m1, m2⟩)⟩
end RO

namespace RO
open PySem PySem.Spec PyProof.Rows L2

/-! ### len of a set of numbers -/
def rLenSet (ww : World) : List V → Hp → VK → Prop := fun vs H Q => ∃ (p : Addr) (S : Int → Bool) (n : Nat) (ns : List Int), vs = [V.ref p] ∧ H p = some (SetO ww p S n) ∧ ns.Nodup ∧ (∀ k, S k = true ↔ k ∈ ns) ∧ Q (.int ns.length) H
theorem k_lenSet (ww : World) {X : Cx} (h2 : X.w = ww := by rfl) : CallR X (.builtin "len") (rLenSet ww) := by
  subst h2
  intro pins s σ H vs us Q I r h
  obtain ⟨p, S, n, ns, rfl, ha, nd, mem, q⟩ := h
  rw [Vals.ref1 r]
  obtain ⟨o, es, ep, t, ho, hx, hd, g, nk, hm, hb, hf, hn, _⟩ := setO_get I ha
  have pm : (es.toList.map keyOf).Perm ns := (List.perm_ext_iff_of_nodup nk nd).mpr fun k => (hm k).symm.trans (mem k)
  have le : es.size = ns.length := by
    rw [← pm.length_eq, List.length_map, Array.length_toList]
  have sb : scanBound ≤ 2 ^ 62 := by decide
  refine PySem.call_len_set ho hx hd hf (by omega) ⟨.int ns.length, H, I.tok _, ⟨_, by rw [le]⟩, q⟩
end RO

namespace RO
open PySem PySem.Spec PyProof.Rows L2

/-! ### a text taken once, or not at all -/
theorem op_str1 {X : Cx} : OpR X (binaryOp .Mult) (fun x y H Q => ∃ z n, x = .str z ∧ y = .int n ∧ -1000 ≤ n ∧ n ≤ 1 ∧ z.length ≤ sizeLine ∧ Q (.str (if n < 1 then Str.empty else z)) H) := by
  intro pins s σ H x y v u Q I rx ry h
  obtain ⟨z, n, rfl, rfl, h1, h2, hz, q⟩ := h
  obtain ⟨t, rfl⟩ := rx
  obtain ⟨t', rfl⟩ := ry
  have one : ¬ n < 1 → (n == 1 || z.length == 0) = true := fun g => by
    have : n = 1 := by omega
    subst this
    rfl
  refine PySem.P.mul_str ?_ (fun g e => ?_) (fun g e => ?_) ?_
  · rw [decide_eq_false (by omega), decide_eq_false (by omega)]
    rfl
  · rw [one g] at e
    cases e
  · rw [one g] at e
    cases e
  · by_cases c : n < 1
    · rw [if_pos c] at q ⊢
      exact ⟨by decide, .str Str.empty, H, I.tok _, ⟨_, rfl⟩, q⟩
    · rw [if_neg c] at q ⊢
      rw [if_pos (one c)]
      exact ⟨.str z, H, I, ⟨_, rfl⟩, q⟩

/-! ### a number's figures, two at least -/
def pad2 (i : Int) : Str := if i < 10 then Str.ofString "0" ++ Str.ofString (toString i) else Str.ofString (toString i)
theorem figs {i : Int} (h : 0 ≤ i) : Str.ofString (toString i) = ⟨((Nat.toDigits 10 i.toNat).map Char.toNat).toArray⟩ := by
  obtain ⟨m, rfl⟩ := Int.eq_ofNat_of_zero_le h
  exact text_ofNat m
theorem figs_len {i : Int} (h : 0 ≤ i) : (Str.ofString (toString i)).length = (Nat.toDigits 10 i.toNat).length := by
  rw [figs h]
  show (((Nat.toDigits 10 i.toNat).map Char.toNat).toArray).size = _
  simp
theorem figs_fits {i : Int} (h0 : 0 ≤ i) (h1 : i < 1000000) : (Str.ofString (toString i)).length ≤ 6 := by
  rw [figs_len h0]
  exact digits10_le (by decide) (by omega)
theorem len_app (a b : Str) : (a ++ b).length = a.length + b.length := strLen_append a b
theorem pad2_fits {i : Int} (h0 : 0 ≤ i) (h1 : i < 1000000) : (pad2 i).length ≤ 7 := by
  have l := figs_fits h0 h1
  unfold pad2
  split
  · rw [len_app]
    have : (Str.ofString "0").length = 1 := by decide +kernel
    omega
  · omega
def f02 : Builtin.Float.FormatSpec := { fill := 48, align := 61, width := some 2, type := some 100 }
theorem parse02 : Builtin.Float.parseFormatSpec (⟨#[48, 50, 100]⟩ : Str).cps.toList "int" 62 = .ok f02 := by kernel_rfl
theorem lg_small {i : Int} (h : i.natAbs < 1048576) : i.natAbs.log2 < 1920 := by
  by_cases z : i.natAbs = 0
  · rw [z]
    decide +kernel
  · exact (Nat.log2_lt z).mpr (Nat.lt_of_lt_of_le (show i.natAbs < 2 ^ 20 by omega) (Nat.pow_le_pow_right (by decide) (show 20 ≤ 1920 by decide)))
theorem meets02 {a : Int} {t : Tok} (h0 : 0 ≤ a) (h1 : a < 1000000) : ∀ u, Meets (Builtin.«int.__format__» ⟨[.int a t, .str ⟨#[48, 50, 100]⟩ u], []⟩) (fun _ R s => ∀ t' k, R (.ok (.ret (.str (pad2 a) t'))) { s with toks := k }) := by
  intro _
  apply PySem.W.KPc.meets_of
  intro _ _ _ _ _ _ _
  unfold Builtin.«int.__format__»
  refine wpAny_bind (wpAny_of_eq (a := (_, _)) rfl ?_)
  refine wpAny_bind (wpAny_of_eq (a := _) rfl ?_)
  kxf_if
  refine wpAny_bind (wpAny_typeNameOf (T := "str") (typeIs_str _ _ _) (by decide) fun _ => ?_)
  refine wpAny_bind (wpAny_of_eq (a := some _) rfl ?_)
  kxf_if
  kxf_if
  refine wpAny_bind (wpAny_typeNameOfCut_int ?_)
  rw [parse02]
  kxf_if
  (repeat kxf_if)
  have small : a.natAbs.log2 < 1920 := by
    by_cases z : a.natAbs = 0
    · rw [z]
      decide +kernel
    · exact (Nat.log2_lt z).mpr (Nat.lt_of_lt_of_le (show a.natAbs < 2 ^ 20 by omega) (Nat.pow_le_pow_right (by decide) (show 20 ≤ 1920 by decide)))
  refine wpAny_bind (wpAny_of_eq (PySem.overDigitLimit_small small) ?_)
  (repeat kxf_if)
  refine (fun e => PySem.W.KXf.ret_text (T := pad2 a) e (by rw [e]; exact Nat.le_trans (pad2_fits h0 h1) (by decide)) ?_) ?_
  · assumption
  · refine Eq.trans (b := intSpecText f02 a) (by with_unfolding_all rfl) ?_
    rw [intSpecText_zero rfl rfl rfl rfl h0]
    show (⟨(List.replicate (2 - (Nat.toDigits 10 a.natAbs).length) 48).toArray⟩ : Str) ++ Str.ofString (toString a) = pad2 a
    have D := digitsFacts10 a.natAbs
    have l1 := D.ge1
    unfold pad2
    by_cases c : a < 10
    · rw [if_pos c, D.lt10 (by omega)]
      rfl
    · have l2 := D.ge10 (by omega)
      rw [if_neg c, show 2 - (Nat.toDigits 10 a.natAbs).length = 0 by omega]
      exact Str.empty_append _
section
variable {X : Cx}
/-- {x:02d} -/
def tFmt02 (te : TE) : TE := fun σ H Q => te σ H fun x H1 => ∃ i : Int, x = .int i ∧ 0 ≤ i ∧ i < 1000000 ∧ Q (.str (pad2 i)) H1
theorem pe_fmt02 {e sp : Expr} {te : TE} {pos : Pos} (he : PE X e te) (hs : PE X sp (tC (.str (Str.ofString "02d")))) : PE X (.FormattedValue e (-1) (some sp) pos) (tFmt02 te) := by
  refine ⟨fun pins s σ H Q I h => ?_⟩
  refine wpAny_FormattedValue_spec (thn (he.run pins s σ H _ I h) fun v s1 hv => ?_)
  obtain ⟨x, H1, I1, r1, i, rfl, i0, i1, q⟩ := hv
  obtain ⟨t, rfl⟩ := r1
  refine thn (hs.run pins s1 σ H1 (fun x H2 => x = .str (Str.ofString "02d") ∧ H2 = H1) I1 ⟨rfl, rfl⟩) fun r s2 hr => ?_
  obtain ⟨x2, H2, I2, r2, rfl, rfl⟩ := hr
  obtain ⟨t2, rfl⟩ := r2
  exact ⟨_, t2, rfl, PySem.W.KXf.field_int (spec' := ⟨#[48, 50, 100]⟩) (by decide +kernel) rfl (by decide) (meets02 i0 i1) fun t' k => ⟨.str (pad2 i), _, I2.tok k, ⟨_, rfl⟩, q⟩⟩
/-- the parts of an f-string, named -/
def tJd (ts : List TE) : TE := fun σ H Q => tJs ts Str.empty σ H fun out H1 => Q (.str out) H1
theorem pe_joinedN {v1 v2 : Expr} {rest : List Expr} {ts : List TE} {pos : Pos} (h : PJ X (v1 :: v2 :: rest) ts) : PE X (.JoinedStr (v1 :: v2 :: rest) pos) (tJd ts) := pe_joined h
end
end RO

namespace RO
open PySem PySem.Spec PyProof.Rows L2

/-! ### d.get(k), k a number, a text or None -/
theorem leaf_of {prog : Program} {w : World} {h : Heap} {a : Addr} {vs : List (Key × Value)} (dd : h.DictOf (mixKind prog w) a vs) : ∃ f : Leaf → Option Value, h.MapOf (leafKind prog w) a f ∧ f .none = none := by
  obtain ⟨o, es, ep, h1, h2, h3, h4, h5, h6⟩ := dd
  refine ⟨fun k => findBy (leafKind prog w).is es k, ⟨o, es, ep, h1, h2, h3, fun e he => ?_, fun _ => rfl⟩, ?_⟩
  · obtain ⟨k, k1, k2⟩ := h4 e he
    rcases keyIs_shape k1 with ⟨i, t, rfl, z⟩ | ⟨x, t, rfl, z⟩
    · refine ⟨.num i, by rw [z]; exact decide_eq_true rfl, k2⟩
    · refine ⟨.text x, by rw [z] at k1 ⊢; exact k1, k2⟩
  · show (es.find? fun e => (leafKind prog w).is Leaf.none e.key).map _ = none
    rw [Array.find?_eq_none.mpr fun e he => ?_]
    · rfl
    · obtain ⟨k, k1, _⟩ := h4 e he
      rcases keyIs_shape k1 with ⟨i, t, rfl, z⟩ | ⟨x, t, rfl, z⟩
      · rw [z]
        exact Bool.false_ne_true
      · rw [z]
        exact Bool.false_ne_true
section
variable {X : Cx} {o e : Expr} {apos cpos : Pos} {td ty : TE}
/-- what a dict tells for a key, or for None -/
def tDGetN (td ty : TE) : TE := fun σ H Q => td σ H fun x H1 => ∃ a, x = .ref a ∧ IsD H1 a ∧ ty σ H1 fun y H2 => ∃ kvs, H2 a = some (.dK kvs) ∧ ((∃ k, y = kV k ∧ Q ((valV kvs k).getD .non) H2) ∨ y = .non ∧ Q .non H2)
theorem pe_dgetN (hu : X.A.units + 1 < cLine) (ho : PE X o td) (he : PE X e ty) (m : M1 X o "get" apos e cpos) : PE X (.Call (.Attribute o "get" apos) [e] [] cpos) (tDGetN td ty) := by
  refine ⟨fun pins s σ H Q I h => ?_⟩
  refine wpAny_Call_method m.base m.few m.line PySem.F.plainAttrs_dict PySem.F.slot_dict_get PySem.F.type_dict_get (thn (ho.run pins s σ H _ I h) fun u s1 ⟨x, H1, I1, rx, a, ex, d, q1⟩ => ?_)
  subst ex
  obtain rfl : u = Value.ref a := rx
  obtain ⟨t1, t2, _⟩ := isD_at I1 d
  refine ⟨t1, t2, ?_⟩
  rw [m.trees]
  refine Calls.callWith_builtin rfl (Calls.evalArgs_plain (Calls.spliced_cons (thn (he.run pins s1 σ H1 _ I1 q1) fun iv s2 ⟨y, H2, I2, ry, kvs, e2, q2⟩ => Calls.spliced_nil ?_)))
  rcases q2 with ⟨k, rfl, q2⟩ | ⟨rfl, q2⟩
  · exact d_get1 hu I2 (DGet.k e2) ry fun w' s3 I3 rw' => ⟨_, H2, I3, rw', q2⟩
  · obtain rfl : iv = Value.none := ry
    obtain ⟨z, hd, vs, rel, dd⟩ := dk_of I2.hok e2
    obtain ⟨f, fm, fn⟩ := leaf_of dd
    refine call_meetsIn PySem.F.slot_dict_get dd.typeIs PySem.F.entry_dict_get (PySem.F.args_dict_get_2 _ _) (meets_dict_get (leafKind X.prog X.w) (k := Leaf.none) a rfl hd) ⟨f, fm, .non, H2, I2.tok _, ?_, q2⟩
    rw [fn]
    rfl
end
/-! ### dict(xs) of pairs -/
theorem k_dictP (K : PySem.W.Frag) {X : Cx} (hc : X.calm = true) (h : X.K = K := by rfl) : CallR X (.type "dict") (fun xs H Q => ∃ (a : Addr) (ps : List Addr) (kvs : List (Key × V)), xs = [.ref a] ∧ SqL K H a (ps.map V.ref) ∧ Paired (fun p kv => SqT K H p [kV kv.1, kv.2]) ps kvs ∧
    ∀ p, H p = none → Q (.ref p) (upd H p (.dK (mergeK [] kvs)))) := by
  subst h
  exact call_dictP hc
end RO

namespace RO
open PySem PySem.Spec PyProof.Rows L2

/-! ### a tuple taken so often -/
theorem k_repT (K : PySem.W.Frag) {X : Cx} (h : X.K = K := by rfl) : OpR X (binaryOp .Mult) (rRepT K) := by
  subst h
  exact op_repT

/-! ### cards -/
inductive CardsOf (R : Addr → Str → PyData → Nat → Prop) : List Addr → List Str → List PyData → Nat → Prop
  | nil : CardsOf R [] [] [] 0
  | cons {b : Addr} {t : Str} {x : PyData} {c : Nat} {bs : List Addr} {ts : List Str} {xs : List PyData} {cs : Nat} : R b t x c → CardsOf R bs ts xs cs → CardsOf R (b :: bs) (t :: ts) (x :: xs) (c + cs)
section
variable {R S : Addr → Str → PyData → Nat → Prop} {bs : List Addr} {ts : List Str} {xs : List PyData} {cs : Nat}
theorem CardsOf.snoc {b : Addr} {t : Str} {x : PyData} {c : Nat} (h : CardsOf R bs ts xs cs) (h2 : R b t x c) : CardsOf R (bs ++ [b]) (ts ++ [t]) (xs ++ [x]) (cs + c) := by
  induction h with
  | nil =>
    rw [Nat.add_comm]
    exact .cons h2 .nil
  | cons a _ ih =>
    rw [Nat.add_assoc]
    exact .cons a ih
theorem CardsOf.imp (h : CardsOf R bs ts xs cs) (f : ∀ b t x c, R b t x c → S b t x c) : CardsOf S bs ts xs cs := by
  induction h with
  | nil => exact .nil
  | cons a _ ih => exact .cons (f _ _ _ _ a) ih
theorem CardsOf.len (h : CardsOf R bs ts xs cs) : ts.length = bs.length ∧ xs.length = bs.length := by
  induction h with
  | nil => exact ⟨rfl, rfl⟩
  | cons _ _ ih => exact ⟨congrArg (· + 1) ih.1, congrArg (· + 1) ih.2⟩
theorem CardsOf.at_ (h : CardsOf R bs ts xs cs) : ∀ {i : Nat} {b : Addr}, bs[i]? = some b → ∃ t x c, ts[i]? = some t ∧ R b t x c ∧ c ≤ cs := by
  induction h with
  | nil => intro i b e; simp at e
  | @cons b t x c bs ts xs cs a _ ih =>
    intro i b e
    cases i with
    | zero =>
      obtain rfl := Option.some.inj e
      exact ⟨t, x, c, rfl, a, by omega⟩
    | succ i =>
      obtain ⟨t', x', c', h1, h2, h3⟩ := ih e
      exact ⟨t', x', c', h1, h2, by omega⟩
end
def engs : List Str := ["port", "star"]
def cardRow (ts : List Str) : Str := Str.ofString "(" ++ Txt.join (Str.ofString "; ") ts ++ Str.ofString ")"
def orderTs : List Str := ["-full", "-half", "-slow", "-dead", "stop", "+dead", "+slow", "+half", "+full"]
def orderT (o : Int) : Str := orderTs.getD (o + 4).toNat Str.empty
/-- a card at most so deep stands at a, its text, its data, how many cards there are -/
def CardAt (K : PySem.W.Frag) (H : Hp) : Nat → Addr → Str → PyData → Nat → Prop
  | 0 => fun _ _ _ _ => False
  | d + 1 => fun a t x c =>
    (∃ (e : Str) (o : Int), SqT K H a [.str "ring", .str e, .int o] ∧ e ∈ engs ∧ -4 ≤ o ∧ o ≤ 4 ∧ t = e ++ Str.ofString " " ++ orderT o ∧ x = .tuple [.str "ring", .str e, .int o] ∧ c = 1)
    ∨ (∃ n : Int, SqT K H a [.str "wait", .int n] ∧ 1 ≤ n ∧ n ≤ 999 ∧ t = Str.ofString "wait " ++ Str.ofString (toString n) ∧ x = .tuple [.str "wait", .int n] ∧ c = 1)
    ∨ (∃ (n : Int) (b : Addr) (t' : Str) (x' : PyData) (c' : Nat), SqT K H a [.str "again", .int n, .ref b] ∧ 0 ≤ n ∧ n ≤ 1000000000 ∧ CardAt K H d b t' x' c' ∧ t = Str.ofString (toString n) ++ Str.ofString "*" ++ t' ∧ x = .tuple [.str "again", .int n, x'] ∧ c = c' + 1)
    ∨ (∃ (q : Addr) (bs : List Addr) (ts : List Str) (xs : List PyData) (c' : Nat), SqT K H a [.str "row", .ref q] ∧ SqT K H q (bs.map V.ref) ∧ bs.length ≤ 6 ∧ CardsOf (CardAt K H d) bs ts xs c' ∧ t = cardRow ts ∧ x = .tuple [.str "row", .tuple xs] ∧ c = c' + 1)
section
variable {K : PySem.W.Frag} {H H1 : Hp}
theorem card_imp (f : ∀ a xs, SqT K H a xs → SqT K H1 a xs) : ∀ (d : Nat) (a : Addr) (t : Str) (x : PyData) (c : Nat), CardAt K H d a t x c → CardAt K H1 d a t x c
  | 0, _, _, _, _, h => False.elim h
  | d + 1, a, t, x, c, h => by
    rcases h with ⟨e, o, h1, h2⟩ | ⟨n, h1, h2⟩ | ⟨n, b, t', x', c', h1, h2, h3, h4, h5⟩ | ⟨q, bs, ts, xs, c', h1, h2, h3, h4, h5⟩
    · exact .inl ⟨e, o, f _ _ h1, h2⟩
    · exact .inr (.inl ⟨n, f _ _ h1, h2⟩)
    · exact .inr (.inr (.inl ⟨n, b, t', x', c', f _ _ h1, h2, h3, card_imp f d _ _ _ _ h4, h5⟩))
    · exact .inr (.inr (.inr ⟨q, bs, ts, xs, c', f _ _ h1, f _ _ h2, h3, h4.imp (card_imp f d), h5⟩))
theorem card_same (s : Same H H1) {d : Nat} {a : Addr} {t : Str} {x : PyData} {c : Nat} (h : CardAt K H d a t x c) : CardAt K H1 d a t x c := card_imp (fun _ _ q => same_seqT s q) d a t x c h
theorem card_up : ∀ (d : Nat) (a : Addr) (t : Str) (x : PyData) (c : Nat), CardAt K H d a t x c → CardAt K H (d + 1) a t x c
  | 0, _, _, _, _, h => h.elim
  | d + 1, a, t, x, c, h => by
    rcases h with ⟨e, o, h1, h2⟩ | ⟨n, h1, h2⟩ | ⟨n, b, t', x', c', h1, h2, h3, h4, h5⟩ | ⟨q, bs, ts, xs, c', h1, h2, h3, h4, h5⟩
    · exact .inl ⟨e, o, h1, h2⟩
    · exact .inr (.inl ⟨n, h1, h2⟩)
    · exact .inr (.inr (.inl ⟨n, b, t', x', c', h1, h2, h3, card_up d _ _ _ _ h4, h5⟩))
    · exact .inr (.inr (.inr ⟨q, bs, ts, xs, c', h1, h2, h3, h4.imp (card_up d), h5⟩))
theorem card_deeper {d e : Nat} (h : d ≤ e) {a : Addr} {t : Str} {x : PyData} {c : Nat} (q : CardAt K H d a t x c) : CardAt K H e a t x c := by
  induction e with
  | zero =>
    obtain rfl : d = 0 := by omega
    exact q
  | succ e ih =>
    by_cases z : d = e + 1
    · exact z ▸ q
    · exact card_up _ _ _ _ _ (ih (by omega))
theorem card_pos : ∀ {d : Nat} {a : Addr} {t : Str} {x : PyData} {c : Nat}, CardAt K H d a t x c → 1 ≤ c
  | 0, _, _, _, _, h => h.elim
  | d + 1, a, t, x, c, h => by
    rcases h with ⟨e, o, h1, h2, h3, h4, h5, h6, h7⟩ | ⟨n, h1, h2, h3, h4, h5, h6⟩ | ⟨n, b, t', x', c', h1, h2, h3, h4, h5, h6, h7⟩ | ⟨q, bs, ts, xs, c', h1, h2, h3, h4, h5, h6, h7⟩ <;> omega
theorem orderT_fits (o : Int) : (orderT o).length ≤ 5 := by
  unfold orderT
  rcases z : orderTs[(o + 4).toNat]? with _ | t
  · rw [List.getD_eq_getElem?_getD, z]
    decide +kernel
  · rw [List.getD_eq_getElem?_getD, z]
    have := List.mem_of_getElem? z
    exact (show ∀ t ∈ orderTs, t.length ≤ 5 by decide +kernel) t this
theorem engine_fits {e : Str} (h : e ∈ engs) : TOk 4 e := by
  have he2 : e = "port" ∨ e = "star" := by simpa [engs] using h
  rcases he2 with rfl | rfl <;> exact ⟨by decide +kernel, by decide +kernel⟩
theorem figs_fits9 {i : Int} (h0 : 0 ≤ i) (h1 : i ≤ 1000000000) : (Str.ofString (toString i)).length ≤ 10 := by
  rw [figs_len h0]
  exact digits10_le (by decide) (by omega)
theorem join_len (sep : Str) : ∀ ts : List Str, (Txt.join sep ts).length ≤ (ts.map (·.length)).sum + ts.length * sep.length := fun ts => by
  rw [TL.join_eq]
  induction ts with
  | nil => exact Nat.zero_le _
  | cons t ts ih =>
    cases ts with
    | nil =>
      show t.length ≤ _
      simp
    | cons u us =>
      show (t ++ sep ++ Str.join sep (u :: us)).length ≤ _
      rw [len_app, len_app]
      simp only [List.map_cons, List.sum_cons, List.length_cons] at ih ⊢
      have : (us.length + 1 + 1) * sep.length = (us.length + 1) * sep.length + sep.length := Nat.succ_mul _ _
      omega
theorem cards_len {R : Addr → Str → PyData → Nat → Prop} (f : ∀ b t x c, R b t x c → t.length ≤ 20 * c) {bs : List Addr} {ts : List Str} {xs : List PyData} {cs : Nat} (h : CardsOf R bs ts xs cs) : (ts.map (·.length)).sum ≤ 20 * cs := by
  induction h with
  | nil => exact Nat.le_refl _
  | cons a _ ih =>
    have := f _ _ _ _ a
    rw [List.map_cons, List.sum_cons]
    omega
theorem card_len : ∀ (d : Nat) (a : Addr) (t : Str) (x : PyData) (c : Nat), CardAt K H d a t x c → t.length ≤ 20 * c
  | 0, _, _, _, _, h => h.elim
  | d + 1, a, t, x, c, h => by
    have b1 : (Str.ofString " ").length = 1 := by decide +kernel
    have b2 : (Str.ofString "wait ").length = 5 := by decide +kernel
    have b3 : (Str.ofString "*").length = 1 := by decide +kernel
    have b4 : (Str.ofString "(").length = 1 := by decide +kernel
    have b5 : (Str.ofString ")").length = 1 := by decide +kernel
    have b6 : (Str.ofString "; ").length = 2 := by decide +kernel
    rcases h with ⟨e, o, h1, h2, h3, h4, h5, h6, h7⟩ | ⟨n, h1, h2, h3, h4, h5, h6⟩ | ⟨n, b, t', x', c', h1, h2, h3, h4, h5, h6, h7⟩ | ⟨q, bs, ts, xs, c', h1, h2, h3, h4, h5, h6, h7⟩
    · have := (engine_fits h2).1
      have := orderT_fits o
      rw [h5, len_app, len_app]
      omega
    · have := figs_fits9 (i := n) (by omega) (by omega)
      rw [h4, len_app]
      omega
    · have := figs_fits9 (i := n) (by omega) (by omega)
      have := card_len d _ _ _ _ h4
      rw [h5, len_app, len_app]
      omega
    · have z := cards_len (card_len d) h4
      have y := join_len (Str.ofString "; ") ts
      have := h4.len.1
      rw [b6] at y
      rw [h5]
      unfold cardRow
      rw [len_app, len_app]
      omega
theorem RepOk.tupleS {ds : List PyData} {k n : Nat} (h1 : PyData.showableAll ds = true) (h2 : PyData.hasDictAll ds = false) (h3 : PyData.depthAll ds ≤ k) (h4 : PyData.leavesShortAll 400 ds = true) (h6 : PyData.canLayAll0 ds = true) (h5 : PyData.bulkAll ds ≤ n) : RepOk (.tuple ds) (k + 1) n :=
  ⟨by simpa only [PyData.showable] using h1, by simpa only [PyData.hasDict] using h2, by simp only [PyData.depth]; omega, by simpa only [PyData.leavesShort] using h4, by simpa only [PyData.canLay0] using h6, by simpa only [PyData.bulk] using h5⟩
theorem RepOk.pair {a b : PyData} {k m n : Nat} (ha : RepOk a k m) (hb : RepOk b k n) : RepOk (.tuple [a, b]) (k + 1) (m + n + 2) := by
  refine RepOk.tupleS ?_ ?_ ?_ ?_ ?_ ?_
  · simp only [PyData.showableAll, ha.sh, hb.sh, Bool.and_self]
  · simp only [PyData.hasDictAll, ha.nd, hb.nd, Bool.or_self]
  · have := ha.dp
    have := hb.dp
    simp only [PyData.depthAll]
    omega
  · simp only [PyData.leavesShortAll, ha.lv, hb.lv, Bool.and_self]
  · simp only [PyData.canLayAll0, ha.cl, hb.cl, Bool.and_self]
  · have := ha.bk
    have := hb.bk
    simp only [PyData.bulkAll]
    omega
theorem RepOk.three {a b c : PyData} {k m n l : Nat} (ha : RepOk a k m) (hb : RepOk b k n) (hc : RepOk c k l) : RepOk (.tuple [a, b, c]) (k + 1) (m + n + l + 3) := by
  refine RepOk.tupleS ?_ ?_ ?_ ?_ ?_ ?_
  · simp only [PyData.showableAll, ha.sh, hb.sh, hc.sh, Bool.and_self]
  · simp only [PyData.hasDictAll, ha.nd, hb.nd, hc.nd, Bool.or_self]
  · have := ha.dp
    have := hb.dp
    have := hc.dp
    simp only [PyData.depthAll]
    omega
  · simp only [PyData.leavesShortAll, ha.lv, hb.lv, hc.lv, Bool.and_self]
  · simp only [PyData.canLayAll0, ha.cl, hb.cl, hc.cl, Bool.and_self]
  · have := ha.bk
    have := hb.bk
    have := hc.bk
    simp only [PyData.bulkAll]
    omega
theorem cards_rep {R : Addr → Str → PyData → Nat → Prop} {k : Nat} (f : ∀ b t x c, R b t x c → Dp K H (.ref b) x ∧ RepOk x k (28 * c)) {bs : List Addr} {ts : List Str} {xs : List PyData} {cs : Nat} (h : CardsOf R bs ts xs cs) :
    DpAll K H (bs.map V.ref) xs ∧ PyData.showableAll xs = true ∧ PyData.hasDictAll xs = false ∧ PyData.depthAll xs ≤ k ∧ PyData.leavesShortAll 400 xs = true ∧ PyData.canLayAll0 xs = true ∧ PyData.bulkAll xs ≤ 28 * cs + bs.length := by
  induction h with
  | nil => exact ⟨.nil, rfl, rfl, Nat.zero_le _, rfl, rfl, Nat.zero_le _⟩
  | cons a _ ih =>
    obtain ⟨i0, h1, h2, h3, h4, h6, h5⟩ := ih
    obtain ⟨d0, q⟩ := f _ _ _ _ a
    refine ⟨.cons d0 i0, ?_, ?_, ?_, ?_, ?_, ?_⟩
    · simp only [PyData.showableAll, q.sh, h1, Bool.and_self]
    · simp only [PyData.hasDictAll, q.nd, h2, Bool.or_self]
    · simp only [PyData.depthAll]
      exact Nat.max_le.mpr ⟨q.dp, h3⟩
    · simp only [PyData.leavesShortAll, q.lv, h4, Bool.and_self]
    · simp only [PyData.canLayAll0, q.cl, h6, Bool.and_self]
    · simp only [PyData.bulkAll, List.length_cons]
      have b := q.bk
      omega
theorem card_rep : ∀ (d : Nat) (a : Addr) (t : Str) (x : PyData) (c : Nat), CardAt K H d a t x c → Dp K H (.ref a) x ∧ RepOk x (2 * d) (28 * c)
  | 0, _, _, _, _, h => h.elim
  | d + 1, a, t, x, c, h => by
    have wd : ∀ s ∈ (["ring", "wait", "again", "row"] : List Str), TOk 5 s := by
      unfold TOk
      decide +kernel
    rcases h with ⟨e, o, h1, h2, h3, h4, h5, h6, h7⟩ | ⟨n, h1, h2, h3, h4, h5, h6⟩ | ⟨n, b, t', x', c', h1, h2, h3, h4, h5, h6, h7⟩ | ⟨q, bs, ts, xs, c', h1, h2, h3, h4, h5, h6, h7⟩
    · subst h6 h7
      exact ⟨.tup h1 (.cons (.str _) (.cons (.str _) (.cons (.int _) .nil))), ((RepOk.three (RepOk.tok (wd "ring" (by simp))) (RepOk.tok (engine_fits h2)) (RepOk.int (by omega))).mono (by omega) (by omega))⟩
    · subst h5 h6
      exact ⟨.tup h1 (.cons (.str _) (.cons (.int _) .nil)), ((RepOk.pair (RepOk.tok (wd "wait" (by simp))) (RepOk.int (by omega))).mono (by omega) (by omega))⟩
    · subst h6 h7
      obtain ⟨d0, r0⟩ := card_rep d _ _ _ _ h4
      exact ⟨.tup h1 (.cons (.str _) (.cons (.int _) (.cons d0 .nil))), ((RepOk.three ((RepOk.tok (wd "again" (by simp))).mono (Nat.zero_le _) (Nat.le_refl _)) ((RepOk.int (i := n) (by omega)).mono (Nat.zero_le _) (Nat.le_refl _)) r0).mono (by omega) (by omega))⟩
    · subst h6 h7
      obtain ⟨d0, e1, e2, e3, e4, e6, e5⟩ := cards_rep (card_rep d) h4
      exact ⟨.tup h1 (.cons (.str _) (.cons (.tup h2 d0) .nil)), ((RepOk.pair ((RepOk.tok (wd "row" (by simp))).mono (Nat.zero_le _) (Nat.le_refl _)) (RepOk.tupleS e1 e2 e3 e4 e6 e5)).mono (by omega) (by omega))⟩
end
end RO

namespace RO
open PySem PySem.Spec PyProof.Rows L2

/-! ### data with dicts of at most one pair in it, and no list -/
def keyD : Key → PyData
  | .inl i => .int i
  | .inr t => .str t
mutual
inductive Td (K : PySem.W.Frag) (H : Hp) : V → PyData → Prop
  | non : Td K H .non .none
  | bl (b : Bool) : Td K H (.bl b) (.bool b)
  | int (i : Int) : Td K H (.int i) (.int i)
  | str (t : Str) : Td K H (.str t) (.str t)
  | tup {a : Addr} {xs : List V} {ds : List PyData} : SqT K H a xs → TdAll K H xs ds → Td K H (.ref a) (.tuple ds)
  | d0 {a : Addr} : H a = some (.dK []) → Td K H (.ref a) (.dict [])
  | d1 {a : Addr} {k : Key} {x : V} {e : PyData} : H a = some (.dK [(k, x)]) → Td K H x e → Td K H (.ref a) (.dict [(keyD k, e)])
inductive TdAll (K : PySem.W.Frag) (H : Hp) : List V → List PyData → Prop
  | nil : TdAll K H [] []
  | cons {v : V} {vs : List V} {d : PyData} {ds : List PyData} : Td K H v d → TdAll K H vs ds → TdAll K H (v :: vs) (d :: ds)
end
section
variable {X : Cx} {pins : List (Addr × Obj)} {σ : L2.St} {H : Hp} {s : Shared}
theorem keyD_reads {k : Key} {v : Value} {h : Heap} (e : keyIs k v = true) : Reads h v (keyD k) [] := by
  rcases keyIs_shape e with ⟨i, t, rfl, rfl⟩ | ⟨x, t, rfl, rfl⟩
  · exact .int i t
  · exact .str x t
theorem sys_ne2 {a : Addr} (h : (a == sysModules) = false) : sysModules ≠ a := fun z => by
  rw [← z] at h
  simp at h
mutual
theorem Td.reads (I : Inv X pins σ H s) : ∀ (d : PyData) (v : V) (u : Value), Td X.K H v d → RelV v u → ∃ as, Reads s.heap u d as ∧ sysModules ∉ as
  | .none, _, _, h, r => by
    cases h
    cases r
    exact ⟨_, Reads.none, by simp⟩
  | .bool b, _, _, h, r => by
    cases h
    cases r
    exact ⟨_, Reads.bool b, by simp⟩
  | .int i, _, _, h, r => by
    cases h
    obtain ⟨t, rfl⟩ := r
    exact ⟨_, Reads.int i t, by simp⟩
  | .str x, _, _, h, r => by
    cases h
    obtain ⟨t, rfl⟩ := r
    exact ⟨_, Reads.str x t, by simp⟩
  | .list ds, _, _, h, r => by cases h
  | .tuple ds, _, _, h, r => by
    cases h with
    | tup hs ha =>
      cases r
      obtain ⟨its, rv, ⟨o, ho, hc, n, hd⟩, _⟩ := I.tuple hs
      obtain ⟨as, hr, hn⟩ := Td.readsAll I ds _ its ha rv
      exact ⟨_, Reads.tuple ho hc hd hr, hn⟩
  | .dict [], _, _, h, r => by
    cases h with
    | d0 ha =>
      cases r
      obtain ⟨_, hs, vs, rel, o, es, ep, ho, hx, hdat, hk, hp, _⟩ := dk_of I.hok ha
      cases rel
      have he : es.toList = [] := by
        have := hp.length
        exact List.eq_nil_of_length_eq_zero this
      exact ⟨_, Reads.dict ho hx.1 hdat (by rw [he]; exact .nil) (by rw [he]; exact .nil), by simpa using sys_ne2 hs⟩
  | .dict [(kd, e)], _, _, h, r => by
    cases h with
    | @d1 a k x _ ha hsc =>
      cases r
      obtain ⟨_, hs, vs, rel, o, es, ep, ho, hx, hdat, hk, hp, _⟩ := dk_of I.hok ha
      cases rel with
      | @cons _ qv _ _ r1 r2 =>
        cases r2
        obtain ⟨er, rx⟩ := r1
        generalize hes : es.toList = el at hp
        cases hp with
        | @cons en _ _ _ p1 p2 p3 =>
          cases p3
          have er : k = qv.1 := er
          have rx : RelV x qv.2 := rx
          obtain ⟨bs, rv, nv⟩ := Td.reads I e x qv.2 hsc rx
          have rv : Reads s.heap en.val e bs := by
            rw [p2]
            exact rv
          have rk : Reads s.heap en.key (keyD k) [] := by
            rw [er]
            exact keyD_reads p1
          exact ⟨_, Reads.dict ho hx.1 hdat (by rw [hes]; exact .cons rk .nil) (by rw [hes]; exact .cons rv .nil), by simpa using ⟨sys_ne2 hs, nv⟩⟩
  | .dict (_ :: _ :: _), _, _, h, _ => by cases h
theorem Td.readsAll (I : Inv X pins σ H s) : ∀ (ds : List PyData) (vs : List V) (us : List Value), TdAll X.K H vs ds → Vals vs us → ∃ as, ReadsAll s.heap us ds as ∧ sysModules ∉ as
  | [], _, _, h, r => by
    cases h
    cases r
    exact ⟨_, ReadsAll.nil, by simp⟩
  | d :: ds, _, _, h, r => by
    cases h with
    | cons h1 h2 =>
      cases r with
      | cons r1 r2 =>
        obtain ⟨as, q1, n1⟩ := Td.reads I d _ _ h1 r1
        obtain ⟨bs, q2, n2⟩ := Td.readsAll I ds _ _ h2 r2
        exact ⟨_, ReadsAll.cons q1 q2, by simpa using ⟨n1, n2⟩⟩
end
end
/-- shown data, whatever dicts are in it -/
structure RepD (d : PyData) (k n : Nat) : Prop where
  sh : d.showable = true
  dp : d.depth ≤ k
  lv : d.leavesShort 400 = true
  bk : d.bulk ≤ n
theorem RepD.of {d : PyData} {k n : Nat} (h : RepOk d k n) : RepD d k n := ⟨h.sh, h.dp, h.lv, h.bk⟩
theorem RepD.mono {d : PyData} {k n k' n' : Nat} (h : RepD d k n) (hk : k ≤ k') (hn : n ≤ n') : RepD d k' n' := ⟨h.sh, Nat.le_trans h.dp hk, h.lv, Nat.le_trans h.bk hn⟩
theorem RepD.fits {d : PyData} {k n : Nat} (h : RepD d k n) (hn : n ≤ 40000) : d.shown.length ≤ sizeLine := by
  have e := PyData.shown_le_bulk 400 (by decide) d h.lv
  have b := h.bk
  have : (400 + 2) * d.bulk ≤ 402 * 40000 := Nat.mul_le_mul (by decide) (by omega)
  rw [sizeLine_eq]
  omega
theorem repD_all {ds : List PyData} {k n : Nat} : (∀ d ∈ ds, RepD d k n) → PyData.showableAll ds = true ∧ PyData.depthAll ds ≤ k ∧ PyData.leavesShortAll 400 ds = true ∧ PyData.bulkAll ds ≤ ds.length * (n + 1) := by
  induction ds with
  | nil => intro _; exact ⟨rfl, Nat.zero_le _, rfl, Nat.zero_le _⟩
  | cons d r ih =>
    intro h
    obtain ⟨h1, h3, h4, h5⟩ := ih fun x hx => h x (List.mem_cons_of_mem _ hx)
    have q := h d (List.mem_cons_self ..)
    refine ⟨?_, ?_, ?_, ?_⟩
    · simp only [PyData.showableAll, q.sh, h1, Bool.and_self]
    · simp only [PyData.depthAll]
      exact Nat.max_le.mpr ⟨q.dp, h3⟩
    · simp only [PyData.leavesShortAll, q.lv, h4, Bool.and_self]
    · simp only [PyData.bulkAll, List.length_cons]
      have b := q.bk
      have e : (r.length + 1) * (n + 1) = r.length * (n + 1) + (n + 1) := Nat.succ_mul _ _
      omega
theorem RepD.tuple {ds : List PyData} {k n : Nat} (h : ∀ d ∈ ds, RepD d k n) : RepD (.tuple ds) (k + 1) (ds.length * (n + 1)) := by
  obtain ⟨h1, h3, h4, h5⟩ := repD_all h
  exact ⟨by simpa only [PyData.showable] using h1, by simp only [PyData.depth]; omega, by simpa only [PyData.leavesShort] using h4, by simpa only [PyData.bulk] using h5⟩
theorem RepD.d0 : RepD (.dict []) 1 0 := ⟨by simp [PyData.showable, PyData.showableKv], by simp [PyData.depth, PyData.depthKv], by simp [PyData.leavesShort, PyData.leavesShortKv], by simp [PyData.bulk, PyData.bulkKv]⟩
theorem RepD.d1 {a b : PyData} {k m n : Nat} (ha : RepD a k m) (hb : RepD b k n) : RepD (.dict [(a, b)]) (k + 1) (m + n + 2) := by
  refine ⟨?_, ?_, ?_, ?_⟩
  · simp [PyData.showable, PyData.showableKv, ha.sh, hb.sh]
  · have := ha.dp
    have := hb.dp
    simp [PyData.depth, PyData.depthKv]
    omega
  · simp [PyData.leavesShort, PyData.leavesShortKv, ha.lv, hb.lv]
  · have := ha.bk
    have := hb.bk
    simp [PyData.bulk, PyData.bulkKv]
    omega
/-- data, with small dicts in it or without -/
inductive Te (K : PySem.W.Frag) (H : Hp) : V → PyData → Prop
  | dp {v : V} {d : PyData} {k n : Nat} : Dp K H v d → RepOk d k n → k ≤ 40 → n ≤ 40000 → Te K H v d
  | td {a : Addr} {d : PyData} {k n : Nat} : Td K H (.ref a) d → RepD d k n → k ≤ 40 → n ≤ 40000 → Te K H (.ref a) d
mutual
theorem td_same {K : PySem.W.Frag} {H H1 : Hp} (s : Same H H1) : ∀ (d : PyData) (v : V), Td K H v d → Td K H1 v d
  | .none, _, h => by cases h; exact .non
  | .bool b, _, h => by cases h; exact .bl b
  | .int i, _, h => by cases h; exact .int i
  | .str x, _, h => by cases h; exact .str x
  | .list ds, _, h => by cases h
  | .tuple ds, _, h => by
    cases h with
    | tup hs ha => exact .tup (same_seqT s hs) (tdAll_same s ds _ ha)
  | .dict [], _, h => by
    cases h with
    | d0 ha => exact .d0 (s _ _ ha)
  | .dict [(kd, e)], _, h => by
    cases h with
    | d1 ha hx => exact .d1 (s _ _ ha) (td_same s e _ hx)
  | .dict (_ :: _ :: _), _, h => by cases h
theorem tdAll_same {K : PySem.W.Frag} {H H1 : Hp} (s : Same H H1) : ∀ (ds : List PyData) (vs : List V), TdAll K H vs ds → TdAll K H1 vs ds
  | [], _, h => by cases h; exact .nil
  | d :: ds, _, h => by
    cases h with
    | cons h1 h2 => exact .cons (td_same s d _ h1) (tdAll_same s ds _ h2)
end
theorem Te.same {K : PySem.W.Frag} {H H1 : Hp} {v : V} {d : PyData} (h : Te K H v d) (s : Same H H1) : Te K H1 v d := by
  cases h with
  | dp h1 h2 h3 h4 => exact .dp (dp_same s _ _ h1) h2 h3 h4
  | td h1 h2 h3 h4 => exact .td (td_same s _ _ h1) h2 h3 h4
def rRepr5 (K : PySem.W.Frag) : List V → Hp → VK → Prop := fun xs H Q => ∃ v d, xs = [v] ∧ Te K H v d ∧ Q (.str d.shown) H
theorem call_repr5 {X : Cx} (hG : X.A.guards = some []) (hu : X.A.units + 64 < cLine) : CallR X (.builtin "repr") (rRepr5 X.K) := by
  intro pins s σ H xs us Q I r h
  obtain ⟨v, d, e, hd, q⟩ := h
  cases hd with
  | dp h1 h2 h3 h4 => exact call_reprD hG hu pins s σ H xs us Q I r ⟨v, d, _, _, e, h1, h2, h3, h4, q⟩
  | @td a _ k n h1 h2 h3 h4 =>
    subst e
    rw [Vals.ref1 r]
    obtain ⟨as, rd, nos⟩ := Td.reads I d (.ref a) (.ref a) h1 rfl
    have fin : ∀ (h' : Heap) (u : Tok) (tk : Nat), (∀ b o, s.heap.get? b = some o → h'.get? b = some o) → EP X pins σ Q (.str d.shown u) { s with heap := h', toks := tk } :=
      fun h' u tk hk => ⟨.str d.shown, H, I.un (Un.kept hk) (I.hok.kept hk), ⟨u, rfl⟩, q⟩
    have dp := h2.dp
    exact repr_of_reads' rd h2.sh (fun _ => nos) hG (by omega) (fun _ _ z => z) fin (h2.fits h4)
theorem k_repr5 (K : PySem.W.Frag) {X : Cx} (hG : X.A.guards = some []) (hu : X.A.units + 64 < cLine) (h : X.K = K := by rfl) : CallR X (.builtin "repr") (rRepr5 K) := by
  subst h
  exact call_repr5 hG hu
end RO

namespace RO
open PySem PySem.Spec PyProof.Rows L2

/-! ### a tuple of three, turned about -/
section
variable {prog : Program} {w : World} {A : Around} {E : Value → Shared → Prop} {s : Shared}
theorem rev3_applied {sl : Addr} {k : Tok} {Q : Int × Int × Nat → Shared → Prop} (hs : s.heap.IsSliceOf sl .none .none (.int (-1) k)) (h : Q (2, -1, 3) s) : wpAny (model prog w) A (Builtin.Slice.sliceApplied (.ref sl) (pure ((3 : Nat) : Int))) Q E s := by
  obtain ⟨o, e1, e2, e3⟩ := id hs
  unfold Builtin.Slice.sliceApplied Builtin.Slice.sliceFields
  refine wpAny_bind (wpAny_bind (wpAny_field e1 e3 (x := .none) rfl (wpAny_bind (wpAny_field e1 e3 (x := .none) rfl (wpAny_bind (wpAny_field e1 e3 (x := .int (-1) k) rfl (wpAny_pure ?_)))))))
  refine wpAny_bind (HT.slicePart_ (.int (-1) k) ?_)
  show wpAny _ _ (if ((-1 : Int) == 0) = true then _ else _) _ _ s
  rw [if_neg (by decide)]
  refine wpAny_bind (HT.slicePart_ .none (wpAny_bind (HT.slicePart_ .none (wpAny_bind (wpAny_pure ?_)))))
  exact wpAny_of_eq (a := ((2 : Int), (-1 : Int), (3 : Nat))) rfl h
theorem rev3_get {t sl : Addr} {a b c : Value} {k : Tok} {Q : Value → Shared → Prop} (ht : IsTup s.heap t [a, b, c].toArray) (hs : s.heap.IsSliceOf sl .none .none (.int (-1) k))
    (h : Q (.ref s.heap.objs.size) { s with heap := s.heap.push { cls := .type "tuple", data := .seq [c, b, a].toArray } }) : wpAny (model prog w) A (getItem (.ref t) (.ref sl)) Q E s := by
  obtain ⟨o, e1, e2, e3⟩ := id hs
  have ty : s.TypeIs (.ref sl) "slice" := ⟨o, e1, e2⟩
  unfold getItem
  try with_reducible refine wpAny_holding ?_
  first | refine wpAny_bind (wpAny_pure ?_) | skip
  refine wpAny_bind (wpAny_sequenceKey ht.typeIs (by decide) ?_)
  refine wpAny_bind (wpAny_callSpecial?_slot (name := Str.ofString "__getitem__") ht.typeIs PyProof.Rows.slot_tuple_getitem (wpAny_call_entry PyProof.Rows.slot_tuple_getitem ht.typeIs entry_tuple_getitem ?_ (args_tuple_getitem _ _)))
  show wpAny _ _ (Builtin.Tuple.tupleItemsOf (.ref t) >>= _) _ _ s
  refine wpAny_bind (tupleItemsOf_ ht ?_)
  refine wpAny_bind (wpAny_typeOf ty ?_)
  rw [if_pos (by decide)]
  refine wpAny_bind (rev3_applied hs ?_)
  show wpAny _ _ (if (((2 : Int) == 0 && (-1 : Int) == 1 && (3 : Nat) == 3) = true) then _ else _) _ _ s
  rw [if_neg (by decide)]
  have fit : sizeOk (.seq [c, b, a].toArray) := by show 3 ≤ sizeLine; decide
  have e : ((List.range 3).filterMap fun (m : Nat) => ([a, b, c].toArray)[((2 : Int) + (m : Int) * -1).toNat]?).toArray = [c, b, a].toArray := rfl
  rw [e]
  first
    | exact wpAny_bind (m := Builtin.Tuple.tupleExact _) (wpAny_newObj_type (wpAny_pure ⟨_, rfl, wpAny_pure h⟩) fit)
    | exact wpAny_bind (m := Builtin.Tuple.tupleExact _) (wpAny_newObj_type (wpAny_bind (wpAny_pure (wpAny_pure ⟨_, rfl, wpAny_pure h⟩))) fit)
    | exact wpAny_bind (wpAny_bind (m := Builtin.Tuple.tupleExact _) (wpAny_newObj_type (wpAny_pure (wpAny_pure ⟨_, rfl, wpAny_pure h⟩)) fit))
    | exact wpAny_bind (wpAny_bind (m := Builtin.Tuple.tupleExact _) (wpAny_newObj_type (wpAny_pure ⟨_, rfl, wpAny_pure h⟩) fit))
end
def tRev3 (K : PySem.W.Frag) (te : TE) : TE := fun σ H Q => te σ H fun v H1 => ∃ a x y z, v = .ref a ∧ SqT K H1 a [x, y, z] ∧ ∀ p, H1 p = none → Q (.ref p) (upd H1 p (.tup [z, y, x]))
theorem pe_rev3 (K : PySem.W.Frag) {X : Cx} {e : Expr} {te : TE} {k : Nat} {p1 p2 p3 pos : Pos} (he : PE X e te) (hK : X.K = K := by rfl) : PE X (.Subscript e (.Slice none none (some (.UnaryOp .USub (.Constant (.int 1) k p1) p2)) p3) pos) (tRev3 K te) := by
  subst hK
  refine ⟨fun pins s σ H Q I h => ?_⟩
  refine Subscript_ (thn (he.run pins s σ H _ I h) fun v s1 ⟨x0, H1, I1, r1, q1⟩ => ?_)
  obtain ⟨a, x, y, z, ex, hx, q⟩ := q1
  subst ex
  cases r1
  have hst : PO X (some (.UnaryOp .USub (.Constant (.int 1) k p1) p2)) (tPart (tUn (rU fun i => .int (-i)) (tC (.int 1)))) := po_some (pe_un un_neg pe_int)
  refine wpAny_Slice (thn (po_none.run pins s1 σ H1 (fun o H2 => o = none ∧ H2 = H1) I1 ⟨rfl, rfl⟩) fun vl s2 ⟨l, H2, I2, pl, el, e2⟩ => ?_)
  subst el e2
  cases pl
  refine thn (po_none.run pins s2 σ H2 (fun o H3 => o = none ∧ H3 = H2) I2 ⟨rfl, rfl⟩) fun vu s3 ⟨u, H3, I3, pu, eu, e3⟩ => ?_
  subst eu e3
  cases pu
  refine thn (hst.run pins s3 σ H3 (fun o H4 => o = some (-1) ∧ H4 = H3) I3 ⟨1, rfl, -1, rfl, rfl, rfl⟩) fun vs s4 ⟨o, H4, I4, ps, eo, e4⟩ => ?_
  subst eo e4
  obtain ⟨tk, rfl⟩ : ∃ tk, vs = .int (-1) tk := by
    cases ps
    exact ⟨_, rfl⟩
  have I5 : Inv X pins σ H4 { s4 with heap := s4.heap.push { cls := .type "slice", data := .fields #[.none, .none, .int (-1) tk] } } := I4.kept (t' := s4.toks) fun b ob q => Heap.get?_push_of_some _ q
  obtain ⟨its, r, ht, hz⟩ := I5.tuple hx
  obtain ⟨u1, u2, u3, rfl, q1, q2, q3⟩ : ∃ u1 u2 u3, its = [u1, u2, u3] ∧ RelV x u1 ∧ RelV y u2 ∧ RelV z u3 := by
    cases r with
    | cons p q =>
      cases q with
      | cons p' q' =>
        cases q' with
        | cons p'' q'' =>
          cases q''
          exact ⟨_, _, _, rfl, p, p', p''⟩
  show wpAny (model X.prog X.w) X.A (subscriptTail e (.Slice none none (some (.UnaryOp .USub (.Constant (.int 1) k p1) p2)) p3) (.ref a) (.ref s4.heap.objs.size)) (EP X pins σ Q) X.xe { s4 with heap := s4.heap.push { cls := .type "slice", data := .fields #[.none, .none, .int (-1) tk] } }
  refine tail_any (ops := [.ref a, .ref s4.heap.objs.size]) ht.typeIs (PyProof.Rows.slot_tuple_getitem.lookup) ?_ (by with_unfolding_all rfl)
  refine rev3_get ht (Heap.IsSliceOf.new _ .none .none (.int (-1) tk)) ?_
  refine ⟨.ref _, _, I5.laid (t' := s4.toks) (o := .tup [z, y, x]) (fun b ob q => Heap.get?_push_of_some _ q) (Nat.le_refl _) ?_, rfl, q _ (I5.hok.fresh (Nat.le_refl _))⟩
  exact ⟨by show 3 ≤ sizeLine; decide, _, .cons q3 (.cons q2 (.cons q1 .nil)), IsTup.new _ _⟩
end RO

namespace RO
open PySem PySem.Spec PyProof.Rows L2

/-! ### a tuple, turned about -/
theorem back_snoc {α : Type} {p : List α → Prop} (h0 : p []) (h1 : ∀ l a, p l → p (l ++ [a])) : ∀ l, p l := fun l => by
  have : ∀ l : List α, p l.reverse := fun l => by
    induction l with
    | nil => exact h0
    | cons a l ih =>
      rw [List.reverse_cons]
      exact h1 _ _ ih
  have z := this l.reverse
  rw [List.reverse_reverse] at z
  exact z
theorem fm_cong {α β : Type} {f g : α → Option β} : ∀ {l : List α}, (∀ x ∈ l, f x = g x) → l.filterMap f = l.filterMap g
  | [], _ => rfl
  | x :: l, h => by
    rw [List.filterMap_cons, List.filterMap_cons, h x (List.mem_cons_self ..), fm_cong fun y hy => h y (List.mem_cons_of_mem _ hy)]
theorem back_all {α : Type} (l : List α) : (List.range l.length).filterMap (fun m => l[l.length - 1 - m]?) = l.reverse := by
  refine back_snoc (p := fun l => (List.range l.length).filterMap (fun m => l[l.length - 1 - m]?) = l.reverse) rfl (fun l a ih => ?_) l
  rw [List.length_append, List.reverse_append]
  show (List.range (l.length + 1)).filterMap (fun m => (l ++ [a])[l.length + 1 - 1 - m]?) = a :: l.reverse
  rw [List.range_succ_eq_map, List.filterMap_cons]
  have e0 : (l ++ [a])[l.length + 1 - 1 - 0]? = some a := by
    rw [show l.length + 1 - 1 - 0 = l.length by omega, List.getElem?_append_right (Nat.le_refl _), Nat.sub_self]
    rfl
  rw [e0, List.filterMap_map, ← ih]
  show a :: _ = a :: _
  congr 1
  refine fm_cong fun m hm => ?_
  have hm := List.mem_range.mp hm
  show (l ++ [a])[l.length + 1 - 1 - (m + 1)]? = _
  rw [List.getElem?_append_left (by omega), show l.length + 1 - 1 - (m + 1) = l.length - 1 - m by omega]
theorem back_pick (xs : Array Value) : ((List.range xs.size).filterMap fun (m : Nat) => xs[(((xs.size : Int) - 1) + (m : Int) * -1).toNat]?).toArray = xs.toList.reverse.toArray := by
  rw [← back_all]
  congr 1
  rw [Array.length_toList]
  refine fm_cong fun m hm => ?_
  have hm := List.mem_range.mp hm
  rw [show (((xs.size : Int) - 1) + (m : Int) * -1).toNat = xs.size - 1 - m by omega]
  simp
section
variable {prog : Program} {w : World} {A : Around} {E : Value → Shared → Prop} {s : Shared}
theorem back_applied {sl : Addr} {k : Tok} {n : Nat} {Q : Int × Int × Nat → Shared → Prop} (hs : s.heap.IsSliceOf sl .none .none (.int (-1) k)) (h : Q ((n : Int) - 1, -1, n) s) : wpAny (model prog w) A (Builtin.Slice.sliceApplied (.ref sl) (pure (n : Int))) Q E s := by
  obtain ⟨o, e1, e2, e3⟩ := id hs
  unfold Builtin.Slice.sliceApplied Builtin.Slice.sliceFields
  refine wpAny_bind (wpAny_bind (wpAny_field e1 e3 (x := .none) rfl (wpAny_bind (wpAny_field e1 e3 (x := .none) rfl (wpAny_bind (wpAny_field e1 e3 (x := .int (-1) k) rfl (wpAny_pure ?_)))))))
  refine wpAny_bind (HT.slicePart_ (.int (-1) k) ?_)
  show wpAny _ _ (if ((-1 : Int) == 0) = true then _ else _) _ _ s
  rw [if_neg (by decide)]
  refine wpAny_bind (HT.slicePart_ .none (wpAny_bind (HT.slicePart_ .none (wpAny_bind (wpAny_pure ?_)))))
  refine wpAny_of_eq (a := ((n : Int) - 1, (-1 : Int), n)) ?_ h
  have pl : Builtin.Slice.slicePlaces ((n : Int) - 1) (-1) (-1) = n := by
    unfold Builtin.Slice.slicePlaces
    rw [if_neg (by decide)]
    by_cases z : n = 0
    · subst z
      rfl
    · rw [if_pos (by omega)]
      have : ((n : Int) - 1 - -1 - 1) / -(-1) = (n : Int) - 1 := by
        rw [show -(-1 : Int) = 1 from rfl, Int.ediv_one]
        omega
      rw [this]
      omega
  show (pure (((n : Int) - 1), (-1 : Int), Builtin.Slice.slicePlaces ((n : Int) - 1) (-1) (-1)) : Sem (Int × Int × Nat)) = _
  rw [pl]
theorem back_get {t sl : Addr} {xs : Array Value} {k : Tok} {Q : Value → Shared → Prop} (ht : IsTup s.heap t xs) (hs : s.heap.IsSliceOf sl .none .none (.int (-1) k)) (hz : xs.size ≤ sizeLine)
    (h : Q (.ref s.heap.objs.size) { s with heap := s.heap.push { cls := .type "tuple", data := .seq xs.toList.reverse.toArray } }) : wpAny (model prog w) A (getItem (.ref t) (.ref sl)) Q E s := by
  obtain ⟨o, e1, e2, e3⟩ := id hs
  have ty : s.TypeIs (.ref sl) "slice" := ⟨o, e1, e2⟩
  unfold getItem
  try with_reducible refine wpAny_holding ?_
  first | refine wpAny_bind (wpAny_pure ?_) | skip
  refine wpAny_bind (wpAny_sequenceKey ht.typeIs (by decide) ?_)
  refine wpAny_bind (wpAny_callSpecial?_slot (name := Str.ofString "__getitem__") ht.typeIs PyProof.Rows.slot_tuple_getitem (wpAny_call_entry PyProof.Rows.slot_tuple_getitem ht.typeIs entry_tuple_getitem ?_ (args_tuple_getitem _ _)))
  show wpAny _ _ (Builtin.Tuple.tupleItemsOf (.ref t) >>= _) _ _ s
  refine wpAny_bind (tupleItemsOf_ ht ?_)
  refine wpAny_bind (wpAny_typeOf ty ?_)
  rw [if_pos (by decide)]
  refine wpAny_bind (back_applied hs ?_)
  show wpAny _ _ (if ((((xs.size : Int) - 1) == 0 && (-1 : Int) == 1 && xs.size == xs.size) = true) then _ else _) _ _ s
  rw [if_neg (by rw [show ((-1 : Int) == 1) = false from rfl, Bool.and_false, Bool.false_and]; exact Bool.false_ne_true)]
  have fit : sizeOk (.seq xs.toList.reverse.toArray) := by
    show xs.toList.reverse.toArray.size ≤ sizeLine
    rw [List.size_toArray, List.length_reverse, Array.length_toList]
    exact hz
  rw [back_pick]
  first
    | exact wpAny_bind (m := Builtin.Tuple.tupleExact _) (wpAny_newObj_type (wpAny_pure ⟨_, rfl, wpAny_pure h⟩) fit)
    | exact wpAny_bind (m := Builtin.Tuple.tupleExact _) (wpAny_newObj_type (wpAny_bind (wpAny_pure (wpAny_pure ⟨_, rfl, wpAny_pure h⟩))) fit)
    | exact wpAny_bind (wpAny_bind (m := Builtin.Tuple.tupleExact _) (wpAny_newObj_type (wpAny_pure (wpAny_pure ⟨_, rfl, wpAny_pure h⟩)) fit))
    | exact wpAny_bind (wpAny_bind (m := Builtin.Tuple.tupleExact _) (wpAny_newObj_type (wpAny_pure ⟨_, rfl, wpAny_pure h⟩) fit))
end
def tRevU (K : PySem.W.Frag) (te : TE) : TE := fun σ H Q => te σ H fun v H1 => ∃ a xs, v = .ref a ∧ SqT K H1 a xs ∧ ∀ p, H1 p = none → Q (.ref p) (upd H1 p (.tup xs.reverse))
theorem pe_revU (K : PySem.W.Frag) {X : Cx} {e : Expr} {te : TE} {k : Nat} {p1 p2 p3 pos : Pos} (he : PE X e te) (hK : X.K = K := by rfl) : PE X (.Subscript e (.Slice none none (some (.UnaryOp .USub (.Constant (.int 1) k p1) p2)) p3) pos) (tRevU K te) := by
  subst hK
  refine ⟨fun pins s σ H Q I h => ?_⟩
  refine Subscript_ (thn (he.run pins s σ H _ I h) fun v s1 ⟨x0, H1, I1, r1, q1⟩ => ?_)
  obtain ⟨a, xs, ex, hx, q⟩ := q1
  subst ex
  cases r1
  have hst : PO X (some (.UnaryOp .USub (.Constant (.int 1) k p1) p2)) (tPart (tUn (rU fun i => .int (-i)) (tC (.int 1)))) := po_some (pe_un un_neg pe_int)
  refine wpAny_Slice (thn (po_none.run pins s1 σ H1 (fun o H2 => o = none ∧ H2 = H1) I1 ⟨rfl, rfl⟩) fun vl s2 ⟨l, H2, I2, pl, el, e2⟩ => ?_)
  subst el e2
  cases pl
  refine thn (po_none.run pins s2 σ H2 (fun o H3 => o = none ∧ H3 = H2) I2 ⟨rfl, rfl⟩) fun vu s3 ⟨u, H3, I3, pu, eu, e3⟩ => ?_
  subst eu e3
  cases pu
  refine thn (hst.run pins s3 σ H3 (fun o H4 => o = some (-1) ∧ H4 = H3) I3 ⟨1, rfl, -1, rfl, rfl, rfl⟩) fun vs s4 ⟨o, H4, I4, ps, eo, e4⟩ => ?_
  subst eo e4
  obtain ⟨tk, rfl⟩ : ∃ tk, vs = .int (-1) tk := by
    cases ps
    exact ⟨_, rfl⟩
  have I5 : Inv X pins σ H4 { s4 with heap := s4.heap.push { cls := .type "slice", data := .fields #[.none, .none, .int (-1) tk] } } := I4.kept (t' := s4.toks) fun b ob q => Heap.get?_push_of_some _ q
  obtain ⟨its, r, ht, hz⟩ := I5.tuple hx
  have hl := r.length
  show wpAny (model X.prog X.w) X.A (subscriptTail e (.Slice none none (some (.UnaryOp .USub (.Constant (.int 1) k p1) p2)) p3) (.ref a) (.ref s4.heap.objs.size)) (EP X pins σ Q) X.xe { s4 with heap := s4.heap.push { cls := .type "slice", data := .fields #[.none, .none, .int (-1) tk] } }
  refine tail_any (ops := [.ref a, .ref s4.heap.objs.size]) ht.typeIs (PyProof.Rows.slot_tuple_getitem.lookup) ?_ (by with_unfolding_all rfl)
  refine back_get ht (Heap.IsSliceOf.new _ .none .none (.int (-1) tk)) (by rw [List.size_toArray]; omega) ?_
  refine ⟨.ref _, _, I5.laid (t' := s4.toks) (o := .tup xs.reverse) (fun b ob q => Heap.get?_push_of_some _ q) (Nat.le_refl _) ?_, rfl, q _ (I5.hok.fresh (Nat.le_refl _))⟩
  exact ⟨by rw [List.length_reverse]; exact hz, _, r.reverse, IsTup.new _ _⟩
/-! ### a tuple taken once or oftener -/
theorem once_mul (l : Addr) (items : Array Value) (n : Nat) (dd : Option Addr) (sl : Array (Option Value)) (u : Tok) :
    Meets (Builtin.«tuple.__mul__» ⟨[.ref l, .int 1 u], []⟩) (fun _ R s => s.heap.get? l = some { cls := .type "tuple", dict := dd, data := .seq items n, slots := sl } ∧ R (.ok (.ret (.ref l))) s) :=
  .of_wp fun prog w A R s h => by
    obtain ⟨hp, g, d, tk, os⟩ := s
    obtain ⟨hl, h⟩ := h
    have f1 := AutoSeq1.idx_int
    wp_walk using wpAny_loadPart' hl
    exact ⟨_, rfl, h⟩
def rRepU (K : PySem.W.Frag) : R2 := fun x y H Q => ∃ l k xs, x = .ref l ∧ y = .int k ∧ SqT K H l xs ∧ xs ≠ [] ∧ 1 ≤ k ∧ k ≤ 1000 ∧ xs.length ≤ 1000 ∧ ∀ q H', Same H H' → SqT K H' q (List.replicate k.toNat xs).flatten → Q (.ref q) H'
theorem k_repU (K : PySem.W.Frag) {X : Cx} (h : X.K = K := by rfl) : OpR X (binaryOp .Mult) (rRepU K) := by
  subst h
  intro pins s σ H x y v u Q I rx ry h
  obtain ⟨l, k, xs, rfl, rfl, hT, hne, h1, h2, hz, q⟩ := h
  by_cases k1 : k = 1
  · subst k1
    cases rx
    obtain ⟨t, rfl⟩ := ry
    obtain ⟨its, r, ⟨⟨cls, dd, data, sl⟩, ho, hc, n, hd⟩, hs⟩ := I.tuple hT
    simp only at hc hd
    subst hc hd
    refine wpAny_binaryOp_repeat_ref (T := "tuple") (U := "int") (by decide) ⟨_, ho, rfl⟩ (fun s' => typeIs_int s' 1 t) L2.noFill_tuple_mul F.fills_int_mul F.slot_int_rmul L2.repeat_tuple F.slot_int_index.lookup
      (call_meets F.slot_int_rmul (typeIs_int s 1 t) F.entry_int_rmul (F.args_int_rmul_2 _ _) (L2.int_rmul_tuple 1 t l its.toArray n dd sl)
        ⟨ho, rfl, ⟨_, ho, rfl⟩, call_meets F.slot_tuple_mul ⟨_, ho, rfl⟩ F.entry_tuple_mul (F.args_tuple_mul_2 _ _) (once_mul l its.toArray n dd sl t) ⟨ho, ?_⟩⟩)
    have e : (List.replicate (1 : Int).toNat xs).flatten = xs := by
      show xs ++ [] = xs
      rw [List.append_nil]
    exact ⟨.ref l, H, I, rfl, q l H (Same.refl _) (by rw [e]; exact hT)⟩
  · exact op_repT pins s σ H _ _ v u Q I rx ry ⟨l, k, xs, rfl, rfl, hT, hne, by omega, h2, hz, fun p hp => q p _ (same_new (Same.refl _) hp) (SqT.of upd_same)⟩
end RO

namespace RO
open PySem PySem.Spec PyProof.Rows L2
def top (i : Nat) : Stmt := PySem.Challenge.pw_ringorders_k04_logs_known.main.body.getD i (.Pass ⟨0, 0, 0, 0⟩)
abbrev s_is_whole : Stmt := top 5
theorem sc_is_whole : FnScope ["thing"] ["thing"] (defScope s_is_whole) := ⟨rfl, rfl, rfl, by decide +kernel, rfl, by decide +kernel, by decide +kernel⟩
abbrev s_is_minute : Stmt := top 6
theorem sc_is_minute : FnScope ["thing"] ["thing"] (defScope s_is_minute) := ⟨rfl, rfl, rfl, by decide +kernel, rfl, by decide +kernel, by decide +kernel⟩
abbrev s_is_order : Stmt := top 7
theorem sc_is_order : FnScope ["thing"] ["thing"] (defScope s_is_order) := ⟨rfl, rfl, rfl, by decide +kernel, rfl, by decide +kernel, by decide +kernel⟩
abbrev s_is_name : Stmt := top 8
theorem sc_is_name : FnScope ["thing", "sign"] ["thing"] (defScope s_is_name) := ⟨rfl, rfl, rfl, by decide +kernel, rfl, by decide +kernel, by decide +kernel⟩
abbrev s_makes_row : Stmt := top 12
theorem sc_makes_row : FnScope ["thing", "minute", "line", "what", "borne"] ["thing"] (defScope s_makes_row) := ⟨rfl, rfl, rfl, by decide +kernel, rfl, by decide +kernel, by decide +kernel⟩
abbrev s_is_line : Stmt := top 13
theorem sc_is_line : FnScope ["thing"] ["thing"] (defScope s_is_line) := ⟨rfl, rfl, rfl, by decide +kernel, rfl, by decide +kernel, by decide +kernel⟩
abbrev s_is_log : Stmt := top 16
theorem sc_is_log : FnScope ["thing", "row"] ["thing"] (defScope s_is_log) := ⟨rfl, rfl, rfl, by decide +kernel, rfl, by decide +kernel, by decide +kernel⟩
abbrev s_wrong_at : Stmt := top 17
theorem sc_wrong_at : FnScope ["rows", "latest", "number", "row"] ["rows"] (defScope s_wrong_at) := ⟨rfl, rfl, rfl, by decide +kernel, rfl, by decide +kernel, by decide +kernel⟩
abbrev s_draw : Stmt := top 19
theorem sc_draw : FnScope ["_law_pen", "_law_many", "_law_digit", "_law_at", "_law_cell", "_law_number"] ["_law_pen", "_law_many"] (defScope s_draw) := ⟨rfl, rfl, rfl, by decide +kernel, rfl, by decide +kernel, by decide +kernel⟩
abbrev s_word : Stmt := top 20
theorem sc_word : FnScope ["_law_pen", "_law_some", "_law_letters", "_law_k"] ["_law_pen"] (defScope s_word) := ⟨rfl, rfl, rfl, by decide +kernel, rfl, by decide +kernel, by decide +kernel⟩
abbrev s_row : Stmt := top 21
theorem sc_row : FnScope ["_law_pen", "_law_minute", "_law_words", "_law_line", "_law_order"] ["_law_pen", "_law_minute", "_law_words"] (defScope s_row) := ⟨rfl, rfl, rfl, by decide +kernel, rfl, by decide +kernel, by decide +kernel⟩
abbrev s_log : Stmt := top 22
theorem sc_log : FnScope ["_law_pen", "_law_most", "_law_many", "_law_words", "_law_at", "_law_rows", "_law_k"] ["_law_pen", "_law_most"] (defScope s_log) := ⟨rfl, rfl, rfl, by decide +kernel, rfl, by decide +kernel, by decide +kernel⟩
abbrev s_whole : Stmt := top 23
theorem sc_whole : FnScope ["_law_thing", "_law_least", "_law_most"] ["_law_thing", "_law_least", "_law_most"] (defScope s_whole) := ⟨rfl, rfl, rfl, by decide +kernel, rfl, by decide +kernel, by decide +kernel⟩
abbrev s_named : Stmt := top 24
theorem sc_named : FnScope ["_law_thing", "_law_sign"] ["_law_thing"] (defScope s_named) := ⟨rfl, rfl, rfl, by decide +kernel, rfl, by decide +kernel, by decide +kernel⟩
abbrev s_is_row : Stmt := top 25
theorem sc_is_row : FnScope ["_law_thing"] ["_law_thing"] (defScope s_is_row) := ⟨rfl, rfl, rfl, by decide +kernel, rfl, by decide +kernel, by decide +kernel⟩
abbrev s_odd : Stmt := top 26
theorem sc_odd : FnScope ["_law_pen", "_law_part", "_law_some"] ["_law_pen", "_law_part"] (defScope s_odd) := ⟨rfl, rfl, rfl, by decide +kernel, rfl, by decide +kernel, by decide +kernel⟩
abbrev s_bent : Stmt := top 27
theorem sc_bent : FnScope ["_law_pen", "_law_row_here", "_law_way", "_law_at", "_law_part"] ["_law_pen", "_law_row_here"] (defScope s_bent) := ⟨rfl, rfl, rfl, by decide +kernel, rfl, by decide +kernel, by decide +kernel⟩
abbrev s_law_is_log : Stmt := top 28
theorem sc_law_is_log : FnScope ["_law_thing", "_law_last", "_law_row_here"] ["_law_thing"] (defScope s_law_is_log) := ⟨rfl, rfl, rfl, by decide +kernel, rfl, by decide +kernel, by decide +kernel⟩
abbrev s_spoilt : Stmt := top 29
theorem sc_spoilt : FnScope ["_law_pen", "_law_log_here", "_law_way", "_law_at", "_law_some", "_law_row_here"] ["_law_pen", "_law_log_here"] (defScope s_spoilt) := ⟨rfl, rfl, rfl, by decide +kernel, rfl, by decide +kernel, by decide +kernel⟩
abbrev s_law : Stmt := top 30
theorem sc_law : FnScope ["_law_script", "_law_pen", "_law_turn", "_law_log_here", "_law_thing", "_law_kept", "_law_k"] ["_law_script"] (defScope s_law) := ⟨rfl, rfl, rfl, by decide +kernel, rfl, by decide +kernel, by decide +kernel⟩
structure Txt (w : World) (K : PySem.W.Frag) (mg : Str → Option Value) where
  a_is_whole : Addr
  d_is_whole : FuncData
  F_is_whole : Fun K "is_whole" "is_whole" s_is_whole a_is_whole d_is_whole
  b_is_whole : Binds K d_is_whole ["thing"] []
  g_is_whole : mg "is_whole" = some (.ref a_is_whole)
  a_is_minute : Addr
  d_is_minute : FuncData
  F_is_minute : Fun K "is_minute" "is_minute" s_is_minute a_is_minute d_is_minute
  b_is_minute : Binds K d_is_minute ["thing"] []
  g_is_minute : mg "is_minute" = some (.ref a_is_minute)
  a_is_order : Addr
  d_is_order : FuncData
  F_is_order : Fun K "is_order" "is_order" s_is_order a_is_order d_is_order
  b_is_order : Binds K d_is_order ["thing"] []
  g_is_order : mg "is_order" = some (.ref a_is_order)
  a_is_name : Addr
  d_is_name : FuncData
  F_is_name : Fun K "is_name" "is_name" s_is_name a_is_name d_is_name
  b_is_name : Binds K d_is_name ["thing"] []
  g_is_name : mg "is_name" = some (.ref a_is_name)
  a_makes_row : Addr
  d_makes_row : FuncData
  F_makes_row : Fun K "makes_row" "makes_row" s_makes_row a_makes_row d_makes_row
  b_makes_row : Binds K d_makes_row ["thing"] []
  g_makes_row : mg "makes_row" = some (.ref a_makes_row)
  a_is_line : Addr
  d_is_line : FuncData
  F_is_line : Fun K "is_line" "is_line" s_is_line a_is_line d_is_line
  b_is_line : Binds K d_is_line ["thing"] []
  g_is_line : mg "is_line" = some (.ref a_is_line)
  a_is_log : Addr
  d_is_log : FuncData
  F_is_log : Fun K "is_log" "is_log" s_is_log a_is_log d_is_log
  b_is_log : Binds K d_is_log ["thing"] []
  g_is_log : mg "is_log" = some (.ref a_is_log)
  a_wrong_at : Addr
  d_wrong_at : FuncData
  F_wrong_at : Fun K "wrong_at" "wrong_at" s_wrong_at a_wrong_at d_wrong_at
  b_wrong_at : Binds K d_wrong_at ["rows"] []
  g_wrong_at : mg "wrong_at" = some (.ref a_wrong_at)
  a_draw : Addr
  d_draw : FuncData
  F_draw : Fun K "_law_draw" "_law_draw" s_draw a_draw d_draw
  b_draw : Binds K d_draw ["_law_pen", "_law_many"] []
  g_draw : mg "_law_draw" = some (.ref a_draw)
  a_word : Addr
  d_word : FuncData
  F_word : Fun K "_law_word" "_law_word" s_word a_word d_word
  b_word : Binds K d_word ["_law_pen"] []
  g_word : mg "_law_word" = some (.ref a_word)
  a_row : Addr
  d_row : FuncData
  F_row : Fun K "_law_row" "_law_row" s_row a_row d_row
  b_row : Binds K d_row ["_law_pen", "_law_minute", "_law_words"] []
  g_row : mg "_law_row" = some (.ref a_row)
  a_log : Addr
  d_log : FuncData
  F_log : Fun K "_law_log" "_law_log" s_log a_log d_log
  b_log : Binds K d_log ["_law_pen", "_law_most"] []
  g_log : mg "_law_log" = some (.ref a_log)
  a_whole : Addr
  d_whole : FuncData
  F_whole : Fun K "_law_whole" "_law_whole" s_whole a_whole d_whole
  b_whole : Binds K d_whole ["_law_thing", "_law_least", "_law_most"] []
  g_whole : mg "_law_whole" = some (.ref a_whole)
  a_named : Addr
  d_named : FuncData
  F_named : Fun K "_law_named" "_law_named" s_named a_named d_named
  b_named : Binds K d_named ["_law_thing"] []
  g_named : mg "_law_named" = some (.ref a_named)
  a_is_row : Addr
  d_is_row : FuncData
  F_is_row : Fun K "_law_is_row" "_law_is_row" s_is_row a_is_row d_is_row
  b_is_row : Binds K d_is_row ["_law_thing"] []
  g_is_row : mg "_law_is_row" = some (.ref a_is_row)
  a_odd : Addr
  d_odd : FuncData
  F_odd : Fun K "_law_odd" "_law_odd" s_odd a_odd d_odd
  b_odd : Binds K d_odd ["_law_pen", "_law_part"] []
  g_odd : mg "_law_odd" = some (.ref a_odd)
  a_bent : Addr
  d_bent : FuncData
  F_bent : Fun K "_law_bent" "_law_bent" s_bent a_bent d_bent
  b_bent : Binds K d_bent ["_law_pen", "_law_row_here"] []
  g_bent : mg "_law_bent" = some (.ref a_bent)
  a_law_is_log : Addr
  d_law_is_log : FuncData
  F_law_is_log : Fun K "_law_is_log" "_law_is_log" s_law_is_log a_law_is_log d_law_is_log
  b_law_is_log : Binds K d_law_is_log ["_law_thing"] []
  g_law_is_log : mg "_law_is_log" = some (.ref a_law_is_log)
  a_spoilt : Addr
  d_spoilt : FuncData
  F_spoilt : Fun K "_law_spoilt" "_law_spoilt" s_spoilt a_spoilt d_spoilt
  b_spoilt : Binds K d_spoilt ["_law_pen", "_law_log_here"] []
  g_spoilt : mg "_law_spoilt" = some (.ref a_spoilt)
  a_law : Addr
  d_law : FuncData
  F_law : Fun K "law" "law" s_law a_law d_law
  b_law : Binds K d_law ["_law_script"] []
  g_law : mg "law" = some (.ref a_law)
  z_abs : mg "abs" = none
  z_all : mg "all" = none
  z_bool : mg "bool" = none
  z_dict : mg "dict" = none
  z_enumerate : mg "enumerate" = none
  z_int : mg "int" = none
  z_isinstance : mg "isinstance" = none
  z_len : mg "len" = none
  z_list : mg "list" = none
  z_min : mg "min" = none
  z_range : mg "range" = none
  z_repr : mg "repr" = none
  z_str : mg "str" = none
  z_tuple : mg "tuple" = none
  t_FULL_AHEAD : Tok
  c_FULL_AHEAD : mg "FULL_AHEAD" = some (.int (4) t_FULL_AHEAD)
  t_FULL_ASTERN : Tok
  c_FULL_ASTERN : mg "FULL_ASTERN" = some (.int (-4) t_FULL_ASTERN)
  t_LAST_MINUTE : Tok
  c_LAST_MINUTE : mg "LAST_MINUTE" = some (.int (99999) t_LAST_MINUTE)
  t_LONGEST_NAME : Tok
  c_LONGEST_NAME : mg "LONGEST_NAME" = some (.int (8) t_LONGEST_NAME)
  t_MOST_ROWS : Tok
  c_MOST_ROWS : mg "MOST_ROWS" = some (.int (40) t_MOST_ROWS)
  D_SENDERS : Addr
  c_SENDERS : mg "SENDERS" = some (.ref D_SENDERS)
  es_SENDERS : Array DictEntry
  n_SENDERS : Nat
  kD_SENDERS : KDict K w D_SENDERS es_SENDERS n_SENDERS
  ki_SENDERS : ∀ p ∈ ([("port", V.str "bridge"), ("star", V.str "bridge"), ("down", V.str "bridge"), ("aport", V.str "room"), ("astar", V.str "room"), ("up", V.str "room")] : List (Str × V)), ∃ u, PySem.W.nsIn K D_SENDERS p.1 = some (some u) ∧ RelV p.2 u
  kd_SENDERS : ∀ p ∈ ([("port", V.str "bridge"), ("star", V.str "bridge"), ("down", V.str "bridge"), ("aport", V.str "room"), ("astar", V.str "room"), ("up", V.str "room")] : List (Str × V)), KDct K w D_SENDERS p.1 p.2
  ka_SENDERS : ∀ t ∈ (["", "Port", "ninethree", "a b", "a1", "port ", "a\n", "bell"] : List Str), PySem.W.nsIn K D_SENDERS t = some none
  D_TUBES : Addr
  c_TUBES : mg "TUBES" = some (.ref D_TUBES)
  kt_TUBES : ∀ H : Hp, SqT K H D_TUBES [V.str "down", V.str "up"]
/-! a step of a reading whose answer is fixed: a name, a number's operation -/
local macro_rules | `(tactic| walk_at "rd") => `(tactic| (first
  | refine ⟨_, rfl, ?_⟩
  | refine ⟨_, _, rfl, rfl, ?_⟩
  | (refine And.intro ?rdc ?_; (case rdc => first | decide | omega | exact ⟨by omega, by omega⟩ | exact ⟨by decide, by decide, by omega⟩ | exact .inl ⟨by omega, by omega⟩ | exact .inr ⟨by omega, by omega⟩))))
section
variable {P : Program} {w : World} {K : PySem.W.Frag} {mg : Str → Option Value} {base : Heap}
/-! ### the pen -/
theorem ints_shaped : ∀ ns : List Int, PyData.canLayAll0 (ns.map PyData.int) = true ∧ PyData.depthAll (ns.map PyData.int) ≤ 1
  | [] => ⟨rfl, Nat.zero_le _⟩
  | n :: r => by
    obtain ⟨h1, h2⟩ := ints_shaped r
    exact ⟨h1, Nat.max_le.mpr ⟨Nat.zero_le _, h2⟩⟩
theorem ints_eqv (ns : List Int) : PyData.eqv (.list (ns.map PyData.int)) (.list []) = decide (ns = []) := by
  cases ns <;> rfl
def spDraw (K : PySem.W.Frag) : Sp := fun vs H Q _ => ∃ (p c : Addr) (n : Nat) (m : Int), vs = [.ref p, .int m] ∧ PenAt H p c n ∧ Cells K H p c ∧ n ≤ 100000 ∧ 1 ≤ m ∧ m < 1073741824 ∧
  ∀ H' r, Go K p c H (n + 1) H' → 0 ≤ r → r < m → Q (.int r) H'
theorem ok_draw (T : Txt w K mg) : FnOk P w K mg base CX0 1 T.a_draw T.d_draw ["_law_pen", "_law_many"] (spDraw K) := by
  refine T.F_draw.ok sc_draw (fun vs H Q E h => ?_) (fun cdv A outer s H vs Q E hr h => ?_)
  · obtain ⟨p, c, n, m, rfl, _⟩ := h
    rfl
  · obtain ⟨p, c, n, m, rfl, hp, hc, hn, hm1, hm2, q⟩ := h
    obtain ⟨at_, cy, e, h0, h1, h2⟩ := id hp
    obtain ⟨ne, ns, hS, hl⟩ := id hc
    refine ⟨_, (pss_cons (ps_if (pt_cmpR op_gt (pe_ix (kx_list K) (pv 0) pe_int (fun _ _ => rfl)) pe_int (nomark _)) (pss_cons (ps_set (i := 2) sc_draw.nd rfl (by first | exact Or.inl rfl | exact Or.inr rfl) (pe_op op_modN (pe_ix (kx_list K) (pv 0) pe_int (fun _ _ => rfl)) (pv 1)))
  (pss_cons (ps_asg (pe_op op_fdivN (pe_ix (kx_list K) (pv 0) pe_int (fun _ _ => rfl)) (pv 1)) (pg_sub (pv 0) pe_int set_list))
  (pss_one (ps_ret (pv 2))))) pss_nil)
  (pss_cons (ps_set (i := 3) sc_draw.nd rfl (by first | exact Or.inl rfl | exact Or.inr rfl) (pe_ix (kx_list K) (pv 0) pe_int (fun _ _ => rfl)))
  (pss_cons (ps_asg (pe_op op_add (pv 3) pe_int) (pg_sub (pv 0) pe_int set_list))
  (pss_cons (ps_set (i := 4) sc_draw.nd rfl (by first | exact Or.inl rfl | exact Or.inr rfl) (pe_op op_add (pe_op op_mul pe_int (pv 3)) pe_int))
  (C8.pss_cut (ps_if (pt_cmpR (k_neD K hr.units) (pe_ix (kx_list K) (pv 0) pe_int (fun _ _ => rfl)) (pe_lst pa_nil) (nomark _)) (pss_one (ps_set (i := 4) sc_draw.nd rfl (by first | exact Or.inl rfl | exact Or.inr rfl) (pe_ix (kx_list K) (pe_ix (kx_list K) (pv 0) pe_int (fun _ _ => rfl)) (pe_op op_modN (pv 3) (pe_callB (k_len K) (by rfl) T.z_len (by decide +kernel) (pa_cons (pe_ix (kx_list K) (pv 0) pe_int (fun _ _ => rfl)) pa_nil))) (fun _ _ => rfl)))) pss_nil)
  (C8.pss_cut (ps_if (PW.pt (pw_and (pt_cmpR op_lt (pv 3) (pe_callB (k_len K) (by rfl) T.z_len (by decide +kernel) (pa_cons (pe_ix (kx_list K) (pv 0) pe_int (fun _ _ => rfl)) pa_nil)) (nomark _)) (pw_and1 (pt_cmpR op_ge (pe_callB call_abs (by rfl) T.z_abs (by decide +kernel) (pa_cons (pv 4) pa_nil)) (pe_op op_pow pe_int pe_int) (nomark _))))) (pss_cons (ps_asg (pe_op op_fdivN (pe_callB call_abs (by rfl) T.z_abs (by decide +kernel) (pa_cons (pv 4) pa_nil)) (pv 1)) (pg_sub (pv 0) pe_int set_list))
  (pss_one (ps_ret (pe_op op_modN (pe_callB call_abs (by rfl) T.z_abs (by decide +kernel) (pa_cons (pv 4) pa_nil)) (pv 1))))) pss_nil)
  (pss_cons (ps_set (i := 5) sc_draw.nd rfl (by first | exact Or.inl rfl | exact Or.inr rfl) (pe_op op_modN (pe_op op_pow (pe_op op_add (pe_op op_add (pe_op op_modN (pv 4) pe_int) (pe_op op_mul pe_int (pv 3))) pe_int) pe_int) pe_int))
  (pss_cons (ps_set (i := 5) sc_draw.nd rfl (by first | exact Or.inl rfl | exact Or.inr rfl) (pe_op op_modN (pe_op op_pow (pe_op op_add (pe_op op_mul (pv 5) (pe_op op_add (pe_op op_mul pe_int (pv 3)) pe_int)) pe_int) pe_int) pe_int))
  (pss_one (ps_ret (pe_op op_modN (pe_op op_fdivN (pv 5) pe_int) (pv 1)))))))))))), ?_⟩
    refine ⟨_, rfl, p, _, 2, _, rfl, rfl, SqL.of e, rfl, _, _, rfl, rfl, _, rfl, ite2 (fun t => ?_) (fun t => ?_)⟩
    · -- a rest is left
      have t' : 0 < cy := of_decide_eq_true t
      refine ⟨_, rfl, p, _, 2, _, rfl, rfl, SqL.of e, rfl, _, rfl, _, _, rfl, rfl, (by omega), ?_⟩
      refine ⟨_, rfl, p, _, 2, _, rfl, rfl, SqL.of e, rfl, _, rfl, _, _, rfl, rfl, ⟨by omega, by omega⟩, ?_⟩
      refine ⟨_, rfl, p, _, 2, 2, rfl, rfl, e, rfl, ?_⟩
      refine ⟨_, rfl, q _ _ (Go.make hc But.put upd_same h0 (by omega) (fdiv_ge h2 (by omega))) (fmod_ge (by omega)) (fmod_lt (by omega))⟩
    · refine ⟨_, rfl, p, _, 1, _, rfl, rfl, SqL.of e, rfl, ?_⟩
      refine ⟨_, rfl, _, _, rfl, rfl, _, rfl, p, _, 1, 1, rfl, rfl, e, rfl, ?_⟩
      -- the place goes on
      have e1 : upd H p (.lst ([V.ref c, V.int at_, V.int cy].set 1 (V.int (at_ + 1)))) p = some (.lst [V.ref c, V.int (at_ + 1), V.int cy]) := upd_same
      have b1 : But p H (upd H p (.lst ([V.ref c, V.int at_, V.int cy].set 1 (V.int (at_ + 1))))) := But.put
      generalize upd H p (.lst ([V.ref c, V.int at_, V.int cy].set 1 (V.int (at_ + 1)))) = H1 at e1 b1 ⊢
      have hS1 := b1.seqL ne hS
      refine ⟨_, rfl, _, _, rfl, rfl, .inl ⟨by omega, by omega⟩, _, _, rfl, rfl, ?_⟩
      -- the cell
      refine ⟨fun σ' H' => ∃ cell : Int, σ' = [some (.ref p), some (.int m), none, some (.int at_), some (.int cell), none] ∧ But p H H' ∧ H' p = some (.lst [.ref c, .int (at_ + 1), .int cy]), ?_, ?_⟩
      · refine ⟨_, rfl, p, _, 0, _, rfl, rfl, SqL.of e1, rfl, (by show 0 ≤ sizeLine; decide), fun z hz => ?_⟩
        generalize hX : upd H1 z _ = H2
        obtain ⟨S2, f2⟩ := alloc hz hX
        clear hX
        have b2 : But p H H2 := b1.trans (But.of_same S2)
        have hS2 := b2.seqL ne hS
        have e2 := S2 _ _ e1
        refine ⟨.list (ns.map PyData.int), .list [], .lst hS2 (dpAll_ints ns), .lst (SqL.of f2) .nil, ?_, by decide +kernel, _, rfl, ?_⟩
        · unfold SeqAt.shaped
          obtain ⟨q1, q2⟩ := ints_shaped ns
          have q3 : PyData.canLay0 (.list (ns.map PyData.int)) = true := q1
          rw [q3, Bool.true_and]
          refine decide_eq_true ?_
          simp only [PyData.depth]
          omega
        · rw [ints_eqv]
          by_cases hne : ns = []
          · rw [decide_eq_true hne]
            exact ⟨_, rfl, b2, e2⟩
          · rw [decide_eq_false hne]
            have l0 : 0 < (ns.map V.int).length := by
              rw [List.length_map]
              exact List.length_pos_iff.mpr hne
            obtain ⟨v, hv, ev⟩ := atI_fmod (xs := ns.map V.int) (i := at_) l0
            obtain ⟨z, _, rfl⟩ := List.mem_map.mp hv
            exact ⟨_, rfl, p, _, 0, _, rfl, rfl, SqL.of e2, rfl, _, rfl, _, rfl, p, _, 0, _, rfl, rfl, SqL.of e2, rfl, c, _, rfl, .inl hS2, _, _, rfl, rfl, (by omega), c, _, _, _, rfl, rfl, hS2, ev, z, rfl, b2, e2⟩
      · clear e1 b1 hS1
        rintro σ' H2 ⟨cell, rfl, b1, e1⟩
        have hS1 := b1.seqL ne hS
        refine ⟨fun σ2 H3 => σ2 = [some (.ref p), some (.int m), none, some (.int at_), some (.int cell), none] ∧ H3 = H2, ?_, ?_⟩
        · refine ⟨_, rfl, _, rfl, p, _, 0, _, rfl, rfl, SqL.of e1, rfl, c, _, rfl, .inl hS1, _, _, rfl, rfl, _, rfl, ite2 (fun t3 => ?_) (fun t3 => iteF ⟨rfl, rfl⟩)⟩
          refine ⟨_, rfl, _, rfl, _, _, rfl, rfl, ⟨by decide, by decide, by decide⟩, _, _, rfl, rfl, _, rfl, ite2 (fun t4 => ?_) (fun t4 => ⟨rfl, rfl⟩)⟩
          have habs : (0 : Int) ≤ if cell < 0 then -cell else cell := by
            split <;> omega
          refine ⟨_, rfl, _, rfl, _, rfl, _, _, rfl, rfl, ⟨by omega, by omega⟩, _, rfl, p, _, 2, 2, rfl, rfl, e1, rfl, ?_⟩
          exact ⟨_, rfl, _, rfl, _, rfl, _, _, rfl, rfl, (by omega), q _ _ (Go.make hc (b1.trans But.put) upd_same (by omega) (by omega) (fdiv_ge habs (by omega))) (fmod_ge (by omega)) (fmod_lt (by omega))⟩
        · rintro σ2 H3 ⟨rfl, rfl⟩
          have a1 := fmod_ge (a := cell) (b := 2147483629) (by decide)
          have a2 := fmod_lt (a := cell) (b := 2147483629) (by decide)
          have z1 := fmod_ge (a := (cell.fmod 2147483629 + 50021 * at_ + 7) ^ Int.toNat 3) (b := 2147483587) (by decide)
          have z2 := fmod_lt (a := (cell.fmod 2147483629 + 50021 * at_ + 7) ^ Int.toNat 3) (b := 2147483587) (by decide)
          have y1 : 0 ≤ ((cell.fmod 2147483629 + 50021 * at_ + 7) ^ Int.toNat 3).fmod 2147483587 * (2 * at_ + 3) := Int.mul_nonneg z1 (by omega)
          have y2 : ((cell.fmod 2147483629 + 50021 * at_ + 7) ^ Int.toNat 3).fmod 2147483587 * (2 * at_ + 3) ≤ 2147483587 * 200003 := Int.mul_le_mul (by omega) (by omega) (by omega) (by decide)
          repeat (walk_at "rd")
          exact q _ _ (Go.make hc b1 e1 (by omega) (by omega) h2) (fmod_ge (by omega)) (fmod_lt (by omega))

/-! ### a word -/
def NameOk (t : Str) : Prop := 1 ≤ t.length ∧ t.length ≤ 8 ∧ ∀ c ∈ t.cps.toList, 97 ≤ c ∧ c ≤ 122
theorem NameOk.tok {t : Str} (h : NameOk t) : TOk 8 t := ⟨h.2.1, fun c hc => by have := (h.2.2 c hc).2; omega⟩
theorem letter_ok2 {c : Nat} (h : c ∈ ("abcdefghijklmnopqrstuvwxyz" : Str).cps.toList) : 97 ≤ c ∧ c ≤ 122 :=
  (show ∀ c ∈ ("abcdefghijklmnopqrstuvwxyz" : Str).cps.toList, 97 ≤ c ∧ c ≤ 122 by decide +kernel) c h
def spWord (K : PySem.W.Frag) : Sp := fun vs H Q _ => ∃ (p c : Addr) (n : Nat), vs = [.ref p] ∧ PenAt H p c n ∧ Cells K H p c ∧ n ≤ 90000 ∧
  ∀ H' t, Go K p c H (n + 11) H' → NameOk t → Q (.str t) H'
theorem ok_word (T : Txt w K mg) : FnOk P w K mg base CX0 2 T.a_word T.d_word ["_law_pen"] (spWord K) := by
  have G_draw := ok_draw (P := P) (base := base) T
  refine T.F_word.ok sc_word (fun vs H Q E h => ?_) (fun cdv A outer s H vs Q E hr h => ?_)
  · obtain ⟨p, c, n, rfl, _⟩ := h
    rfl
  · obtain ⟨p, c, n, rfl, hp, hc, hn, k⟩ := h
    have hr_draw := hr
    refine ⟨_, (pss_cons (ps_set (i := 1) sc_word.nd rfl (by first | exact Or.inl rfl | exact Or.inr rfl) (pe_lst (pa_cons pe_str (pa_cons pe_str (pa_cons pe_str (pa_cons pe_str (pa_cons pe_str (pa_cons pe_str (pa_cons pe_str (pa_cons pe_str (pa_cons pe_str (pa_cons pe_str pa_nil))))))))))))
  (pss_cons (ps_if (pt_cmpR op_eq (pe_call G_draw hr_draw (by rfl) T.g_draw T.F_draw.kp T.b_draw .nil pass0 (pa_cons (pv 0) (pa_cons pe_int pa_nil))) pe_int (nomark _)) (pss_one (ps_ret (pe_ix (kx_list K) (pv 1) (pe_call G_draw hr_draw (by rfl) T.g_draw T.F_draw.kp T.b_draw .nil pass0 (pa_cons (pv 0) (pa_cons pe_int pa_nil))) (fun _ _ => rfl)))) pss_nil)
  (pss_cons (ps_set (i := 2) sc_word.nd rfl (by first | exact Or.inl rfl | exact Or.inr rfl) pe_str)
  (pss_one (ps_ret (pe_join pe_str (pe_lc (own := [("_law_k", 3)]) rfl sc_word.nd (pi_range1 (by rfl) T.z_range (pa_cons (pe_ix (kx_list K) (pe_lst (pa_cons pe_int (pa_cons pe_int (pa_cons (pe_op op_add pe_int (pe_call G_draw hr_draw (by rfl) T.g_draw T.F_draw.kp T.b_draw .nil pass0 (pa_cons (pv 0) (pa_cons pe_int pa_nil)))) pa_nil)))) (pe_call G_draw hr_draw (by rfl) T.g_draw T.F_draw.kp T.b_draw .nil pass0 (pa_cons (pv 0) (pa_cons pe_int pa_nil))) (fun _ _ => rfl)) pa_nil)) (blkOk_by (own := [("_law_k", 3)]) (N := ["_law_pen", "_law_some", "_law_letters", "_law_k"]) (sc := defScope s_word) (by decide +kernel)) (fun _ _ _ _ _ => (pg_name (i := 3) sc_word.nd rfl (by first | exact Or.inl rfl | exact Or.inr rfl))) (fun _ _ _ _ _ => pts_nil) (fun _ _ _ _ _ => (pe_ix ix_str (pv 2) (pe_call G_draw hr_draw (by rfl) T.g_draw T.F_draw.kp T.b_draw .nil pass0 (pa_cons (pv 0) (pa_cons pe_int pa_nil))) (fun _ _ => rfl)))))))))), ?_⟩
    refine ⟨(by show 10 ≤ sizeLine; decide), fun l hl => ?_⟩
    generalize hX : upd H l _ = H1
    obtain ⟨S1, f1⟩ := alloc hl hX
    have g1 := (Go.refl hp hc).same S1
    have nl := Ne.symm ((Go.refl hp hc).ne_new hl)
    clear hX
    refine ⟨_, rfl, p, c, n, _, rfl, g1.pen, g1.cel, by omega, by decide, by decide, fun H2 r2 g2 a2 b2 => ⟨rfl, _, rfl, ite2 (fun z => ?_) (fun z => ?_)⟩⟩
    · refine ⟨_, rfl, _, rfl, p, c, _, _, rfl, g2.pen, g2.cel, by omega, by decide, by decide, fun H3 r3 g3 a3 b3 => ?_⟩
      obtain ⟨v, hv, ev⟩ := atI_lt (xs := [V.str "port", V.str "star", V.str "down", V.str "up", V.str "aport", V.str "stop", V.str "full", V.str "bridge", V.str "room", V.str "none"]) a3 (by show r3 < ((10 : Nat) : Int); exact b3)
      obtain ⟨t, rfl, ot⟩ : ∃ t, v = V.str t ∧ NameOk t := by
        have q : v = V.str "port" ∨ v = V.str "star" ∨ v = V.str "down" ∨ v = V.str "up" ∨ v = V.str "aport" ∨ v = V.str "stop" ∨ v = V.str "full" ∨ v = V.str "bridge" ∨ v = V.str "room" ∨ v = V.str "none" := by simpa using hv
        rcases q with q | q | q | q | q | q | q | q | q | q <;> exact ⟨_, q, by decide +kernel, by decide +kernel, by decide +kernel⟩
      exact ⟨l, _, _, _, rfl, rfl, (g2.trans g3).but.seqL nl (SqL.of f1), ev, k _ _ ((g1.trans (g2.trans g3)).mono (by omega)) ot⟩
    · refine ⟨⟨_, rfl⟩, ?_⟩
      refine ⟨_, rfl, p, c, _, _, rfl, g2.pen, g2.cel, by omega, by decide, by decide, fun H3 r3 g3 a3 b3 => ?_⟩
      refine ⟨_, _, rfl, rfl, (by show 3 ≤ sizeLine; decide), fun l2 hl2 => ?_⟩
      generalize hX : upd H3 l2 _ = H4
      obtain ⟨S4, f4⟩ := alloc hl2 hX
      have g4 := g3.same S4
      have nl2 := Ne.symm (g3.ne_new hl2)
      clear hX
      refine ⟨_, rfl, p, c, _, _, rfl, g4.pen, g4.cel, by omega, by decide, by decide, fun H5 r5 g5 a5 b5 => ?_⟩
      obtain ⟨v, hv, ev⟩ := atI_lt (xs := [V.int 1, V.int 8, V.int (1 + r3)]) a5 (by show r5 < ((3 : Nat) : Int); exact b5)
      obtain ⟨m, rfl, m1, m8⟩ : ∃ m : Int, v = V.int m ∧ 1 ≤ m ∧ m ≤ 8 := by
        have q : v = V.int 1 ∨ v = V.int 8 ∨ v = V.int (1 + r3) := by simpa using hv
        rcases q with q | q | q <;> exact ⟨_, q, by omega, by omega⟩
      refine ⟨l2, _, _, _, rfl, rfl, g5.but.seqL nl2 (SqL.of f4), ev, _, rfl, by omega, by omega, fun D hD => ?_⟩
      have G5 := g1.trans (g2.trans (g4.trans g5))
      have hD0 := G5.free hD
      have nD : D ≠ p := Ne.symm (G5.ne_new hD)
      refine lc_it walk_range (fun i H' => Go K p c H (n + 3 + i) H' ∧ ∃ cs : List Nat, H' D = some (.lst (cs.map fun c => V.str ⟨#[c]⟩)) ∧ cs.length = i ∧ ∀ c ∈ cs, 97 ≤ c ∧ c ≤ 122)
        ⟨(G5.new hD).mono (by omega), [], upd_same, rfl, fun x hx => nomatch hx⟩ (fun _ _ _ _ => trivial) ?_ ?_
      · rintro i x _ H6 hi ⟨g6, cs, e6, l6, o6⟩ ⟨rfl, rfl⟩
        refine ⟨rfl, _, rfl, _, rfl, p, c, n + 3 + i, 26, rfl, g6.pen, g6.cel, by omega, by decide, by decide, fun H7 r7 g7 q0 q1 => ?_⟩
        have e7 := g7.but D _ nD e6
        obtain ⟨c4, hc4, ec4⟩ := atI_lt (xs := ("abcdefghijklmnopqrstuvwxyz" : Str).cps.toList) q0 (show r7 < ((26 : Nat) : Int) from q1)
        refine ⟨_, r7, c4, rfl, rfl, by decide +kernel, ec4, _, e7, ?_, ?_⟩
        · rw [List.length_map]
          exact small1000 (by omega)
        · refine ⟨((g6.trans g7).own hD0 nD hc).mono (by omega), cs ++ [c4], ?_, by rw [List.length_append, l6]; rfl, fun x hx => ?_⟩
          · rw [upd_same, List.map_append]
            rfl
          · rcases List.mem_append.mp hx with hx | hx
            · exact o6 x hx
            · have : x = c4 := by simpa using hx
              subst this
              exact letter_ok2 hc4
      · rintro H6 ⟨g6, cs, e6, l6, o6⟩
        have codes : (Str.join (Str.ofString "") (cs.map fun c => (⟨#[c]⟩ : Str))).cps.toList = cs := by
          rw [codes_join0]
          clear e6 l6 o6
          induction cs with
          | nil => rfl
          | cons x r ih =>
            rw [List.map_cons, List.flatMap_cons, ih]
            simp
        have nm : NameOk (Txt.join (Str.ofString "") (cs.map fun c => (⟨#[c]⟩ : Str))) := by
          rw [TL.join_eq]
          refine ⟨?_, ?_, ?_⟩
          · rw [str_len, codes]
            omega
          · rw [str_len, codes]
            omega
          · rw [codes]
            exact o6
        have sum1 : ((cs.map fun c => (⟨#[c]⟩ : Str)).map (·.length)).sum = cs.length := by
          clear e6 l6 o6 codes nm
          induction cs with
          | nil => rfl
          | cons x r ih =>
            simp only [List.map_cons, List.sum_cons, List.length_cons, ih]
            show 1 + r.length = _
            omega
        refine ⟨_, D, (cs.map fun c => (⟨#[c]⟩ : Str)), rfl, rfl, .inl (SqL.of (by rw [e6, List.map_map]; rfl)), ?_, k _ _ (g6.mono (by omega)) nm⟩
        have : (Str.ofString "").length = 0 := by decide +kernel
        rw [this, sum1]
        omega

/-! ### a row -/
/-- a row as DOC asks, names by their letters -/
structure Row.Ok2 (r : Row) : Prop where
  ok : r.Ok
  nm : r.l ∈ tubes → ∃ t, r.w = .name t ∧ NameOk t
theorem wire_in (wire : Str) : inV (V.str wire) [V.str (Str.ofString "down"), V.str (Str.ofString "up")] = decide (wire ∈ tubes) := by
  rw [Bool.eq_iff_iff]
  simp only [inV, List.any_cons, List.any_nil, Bool.or_false, eqV, Bool.or_eq_true, beq_iff_eq, decide_eq_true_eq, tubes, List.mem_cons, List.not_mem_nil, or_false]
  constructor
  · rintro (z | z)
    · exact .inl z.symm
    · exact .inr z.symm
  · rintro (z | z)
    · exact .inl z.symm
    · exact .inr z.symm
def spRow (K : PySem.W.Frag) : Sp := fun vs H Q _ => ∃ (p c q : Addr) (n : Nat) (m : Int) (ws : List Str), vs = [.ref p, .int m, .ref q] ∧ PenAt H p c n ∧ Cells K H p c ∧ n ≤ 90000 ∧ 0 ≤ m ∧ m ≤ 99999 ∧
  SqL K H q (ws.map V.str) ∧ q ≠ p ∧ ws ≠ [] ∧ ws.length ≤ 1000 ∧ (∀ x ∈ ws, NameOk x) ∧ ∀ H' a (r : Row), Go K p c H (n + 4) H' → H a = none → H' a = some (.tup [.int r.m, .str r.l, r.w.v]) → r.Ok2 → r.m = m → Q (.ref a) H'
theorem ok_row (T : Txt w K mg) : FnOk P w K mg base CX0 2 T.a_row T.d_row ["_law_pen", "_law_minute", "_law_words"] (spRow K) := by
  have G_draw := ok_draw (P := P) (base := base) T
  refine T.F_row.ok sc_row (fun vs H Q E h => ?_) (fun cdv A outer s H vs Q E hr h => ?_)
  · obtain ⟨p, c, q, n, m, ws, rfl, _⟩ := h
    rfl
  · obtain ⟨p, c, q, n, m, ws, rfl, hp, hc, hn, m0, m1, hq, nq, hne, hwl, hws, k⟩ := h
    have hr_draw := hr
    refine ⟨_, (pss_cons (ps_set (i := 3) sc_row.nd rfl (by first | exact Or.inl rfl | exact Or.inr rfl) (pe_ix (kx_list K) (pe_lst (pa_cons pe_str (pa_cons pe_str (pa_cons pe_str (pa_cons pe_str (pa_cons pe_str (pa_cons pe_str pa_nil))))))) (pe_call G_draw hr_draw (by rfl) T.g_draw T.F_draw.kp T.b_draw .nil pass0 (pa_cons (pv 0) (pa_cons pe_int pa_nil))) (fun _ _ => rfl)))
  (pss_cons (ps_set (i := 4) sc_row.nd rfl (by first | exact Or.inl rfl | exact Or.inr rfl) (pe_ix (kx_list K) (pe_lst (pa_cons pe_int (pa_cons (pe_un un_neg pe_int) (pa_cons pe_int (pa_cons (pe_op op_sub (pe_call G_draw hr_draw (by rfl) T.g_draw T.F_draw.kp T.b_draw .nil pass0 (pa_cons (pv 0) (pa_cons pe_int pa_nil))) pe_int) pa_nil))))) (pe_call G_draw hr_draw (by rfl) T.g_draw T.F_draw.kp T.b_draw .nil pass0 (pa_cons (pv 0) (pa_cons pe_int pa_nil))) (fun _ _ => rfl)))
  (pss_one (ps_ret (pe_tup (pa_cons (pv 1) (pa_cons (pv 3) (pa_cons (pe_ix (kx_list K) (pe_lst (pa_cons (pv 4) (pa_cons (pe_ix (kx_list K) (pv 2) (pe_call G_draw hr_draw (by rfl) T.g_draw T.F_draw.kp T.b_draw .nil pass0 (pa_cons (pv 0) (pa_cons (pe_callB (k_len K) (by rfl) T.z_len (by decide +kernel) (pa_cons (pv 2) pa_nil)) pa_nil))) (fun _ _ => rfl)) pa_nil))) (pe_callTy call_int1 (by rfl) T.z_int (by decide +kernel) (pa_cons (pe_cmpR (k_in K) (pv 3) (pe_tup (pa_cons pe_str (pa_cons pe_str pa_nil))) (by rfl)) pa_nil)) (fun _ _ => rfl)) pa_nil)))))))), ?_⟩
    refine ⟨(by show 6 ≤ sizeLine; decide), fun l hl => ?_⟩
    generalize hX : upd H l _ = H1
    obtain ⟨S1, f1⟩ := alloc hl hX
    have g1 := (Go.refl hp hc).same S1
    have nl := Ne.symm ((Go.refl hp hc).ne_new hl)
    clear hX
    refine ⟨_, rfl, p, c, n, _, rfl, g1.pen, g1.cel, by omega, by decide, by decide, fun H2 r2 g2 a2 b2 => ?_⟩
    obtain ⟨v, hv, ev⟩ := atI_lt (xs := [V.str "port", V.str "star", V.str "aport", V.str "astar", V.str "down", V.str "up"]) a2 (by show r2 < ((6 : Nat) : Int); exact b2)
    obtain ⟨wire, rfl, ow⟩ : ∃ t, v = V.str t ∧ t ∈ lines6 := by
      have q : v = V.str "port" ∨ v = V.str "star" ∨ v = V.str "aport" ∨ v = V.str "astar" ∨ v = V.str "down" ∨ v = V.str "up" := by simpa using hv
      rcases q with q | q | q | q | q | q <;> exact ⟨_, q, by simp [lines6]⟩
    refine ⟨l, _, _, _, rfl, rfl, g2.but.seqL nl (SqL.of f1), ev, ?_⟩
    have G2 := g1.trans g2
    refine ⟨_, rfl, _, rfl, p, c, _, _, rfl, G2.pen, G2.cel, by omega, by decide, by decide, fun H3 r3 g3 a3 b3 => ?_⟩
    refine ⟨_, _, rfl, rfl, (by show 4 ≤ sizeLine; decide), fun l2 hl2 => ?_⟩
    generalize hX : upd H3 l2 _ = H4
    obtain ⟨S4, f4⟩ := alloc hl2 hX
    have g4 := g3.same S4
    have nl2 := Ne.symm (g3.ne_new hl2)
    clear hX
    refine ⟨_, rfl, p, c, _, _, rfl, g4.pen, g4.cel, by omega, by decide, by decide, fun H5 r5 g5 a5 b5 => ?_⟩
    obtain ⟨v, hv, ev⟩ := atI_lt (xs := [V.int 4, V.int (-4), V.int 0, V.int (r3 - 4)]) a5 (by show r5 < ((4 : Nat) : Int); exact b5)
    obtain ⟨ord, rfl, o0, o1⟩ : ∃ m : Int, v = V.int m ∧ -4 ≤ m ∧ m ≤ 4 := by
      have q : v = V.int 4 ∨ v = V.int (-4) ∨ v = V.int 0 ∨ v = V.int (r3 - 4) := by simpa using hv
      rcases q with q | q | q | q <;> exact ⟨_, q, by omega, by omega⟩
    refine ⟨l2, _, _, _, rfl, rfl, g5.but.seqL nl2 (SqL.of f4), ev, ?_⟩
    have G5 := G2.trans (g4.trans g5)
    have lpos : 0 < ws.length := List.length_pos_iff.mpr hne
    -- (minute, line, what)
    have hq5 := G5.but.seqL nq hq
    refine ⟨_, rfl, _, rfl, _, rfl, _, rfl, _, rfl, _, rfl, q, _, rfl, .inl hq5, p, c, _, _, rfl, G5.pen, G5.cel, by omega, by rw [List.length_map]; omega, by rw [List.length_map]; omega, fun H6 r6 g6 a6 b6 => ?_⟩
    obtain ⟨v, hv, ev6⟩ := atI_lt (xs := ws.map V.str) a6 b6
    obtain ⟨wd, hwd, rfl⟩ := List.mem_map.mp hv
    refine ⟨q, _, _, _, rfl, rfl, g6.but.seqL nq hq5, ev6, (by show 2 ≤ sizeLine; decide), fun l3 hl3 => ?_⟩
    generalize hX : upd H6 l3 _ = H7
    obtain ⟨S7, f7⟩ := alloc hl3 hX
    have g7 := g6.same S7
    clear hX
    refine ⟨_, rfl, (by show 2 ≤ sizeLine; decide), fun l4 hl4 => ?_⟩
    generalize hX : upd H7 l4 _ = H8
    obtain ⟨S8, f8⟩ := alloc hl4 hX
    have g8 := g7.same S8
    clear hX
    refine ⟨l4, _, rfl, .inr (SqT.of f8), rfl, rfl, .inr ⟨_, rfl, ?_⟩⟩
    show rIxL K _ (V.int (if inV (V.str wire) [V.str (Str.ofString "down"), V.str (Str.ofString "up")] = true then 1 else 0)) _ _
    rw [wire_in]
    have G8 := G5.trans g8
    by_cases z : wire ∈ tubes
    · rw [if_pos (decide_eq_true z)]
      refine ⟨l3, _, _, _, rfl, rfl, SqL.of (S8 _ _ f7), atI_nat (j := 1) rfl, (by show 3 ≤ sizeLine; decide), fun a ha => ?_⟩
      have nm := hws _ hwd
      exact k _ a ⟨m, wire, .name wd⟩ ((G8.new ha).mono (by omega)) (G8.free ha) upd_same ⟨⟨m0, m1, ow, .inl ⟨z, wd, rfl, nm.tok⟩⟩, fun _ => ⟨wd, rfl, nm⟩⟩ rfl
    · rw [if_neg (fun y => z (of_decide_eq_true y))]
      refine ⟨l3, _, _, _, rfl, rfl, SqL.of (S8 _ _ f7), atI_nat (j := 0) rfl, (by show 3 ≤ sizeLine; decide), fun a ha => ?_⟩
      exact k _ a ⟨m, wire, .order ord⟩ ((G8.new ha).mono (by omega)) (G8.free ha) upd_same ⟨⟨m0, m1, ow, .inr ⟨z, ord, rfl, o0, o1⟩⟩, fun y => absurd y z⟩ rfl
/-! ### a log -/
/-- minutes that never fall -/
def Rising : List Row → Prop := List.Pairwise fun r r2 => r.m ≤ r2.m
def spLog (K : PySem.W.Frag) : Sp := fun vs H Q _ => ∃ (p c : Addr) (n : Nat) (m : Int), vs = [.ref p, .int m] ∧ PenAt H p c n ∧ Cells K H p c ∧ n ≤ 80000 ∧ 1 ≤ m ∧ m ≤ 40 ∧
  ∀ H' t rs, Go K p c H (n + 1000) H' → H t = none → LogAt K H' t rs → rs.length ≤ 40 → (∀ r ∈ rs, r.Ok2) → Rising rs → Q (.ref t) H'
theorem ok_log (T : Txt w K mg) : FnOk P w K mg base CX0 3 T.a_log T.d_log ["_law_pen", "_law_most"] (spLog K) := by
  have G_draw := ok_draw (P := P) (base := base) T
  have G_word := ok_word (P := P) (base := base) T
  have G_row := ok_row (P := P) (base := base) T
  refine T.F_log.ok sc_log (fun vs H Q E h => ?_) (fun cdv A outer s H vs Q E hr h => ?_)
  · obtain ⟨p, c, n, m, rfl, _⟩ := h
    rfl
  · obtain ⟨p, c, n, m, rfl, hp, hc, hn, m1, m40, k⟩ := h
    have hr_word := hr
    have hr_row := hr
    have hr_draw := hr.mono (show 1 ≤ 2 by decide)
    refine ⟨_, (pss_cons (ps_set (i := 2) sc_log.nd rfl (by first | exact Or.inl rfl | exact Or.inr rfl) (pe_ix (kx_list K) (pe_lst (pa_cons pe_int (pa_cons (pv 1) (pa_cons (pe_op op_add pe_int (pe_call G_draw hr_draw (by rfl) T.g_draw T.F_draw.kp T.b_draw .nil pass0 (pa_cons (pv 0) (pa_cons (pv 1) pa_nil)))) (pa_cons (pe_call G_draw hr_draw (by rfl) T.g_draw T.F_draw.kp T.b_draw .nil pass0 (pa_cons (pv 0) (pa_cons (pe_op op_add (pv 1) pe_int) pa_nil))) pa_nil))))) (pe_call G_draw hr_draw (by rfl) T.g_draw T.F_draw.kp T.b_draw .nil pass0 (pa_cons (pv 0) (pa_cons pe_int pa_nil))) (fun _ _ => rfl)))
  (pss_cons (ps_setLc (i := 3) (own := [("_law_k", 6)]) rfl sc_log.nd rfl rfl (sw_true rfl rfl rfl (by decide +kernel)) (pi_range1 (by rfl) T.z_range (pa_cons pe_int pa_nil)) (blkOk_by (own := [("_law_k", 6)]) (N := ["_law_pen", "_law_most", "_law_many", "_law_words", "_law_at", "_law_rows", "_law_k"]) (sc := defScope s_log) (by decide +kernel)) (fun _ _ _ _ _ => (pg_name (i := 6) sc_log.nd rfl (by first | exact Or.inl rfl | exact Or.inr rfl))) (fun _ _ _ _ _ => pts_nil) (fun _ _ _ _ _ => (pe_call G_word hr_word (by rfl) T.g_word T.F_word.kp T.b_word .nil pass0 (pa_cons (pv 0) pa_nil))))
  (pss_cons (ps_set (i := 4) sc_log.nd rfl (by first | exact Or.inl rfl | exact Or.inr rfl) (pe_ix (kx_list K) (pe_lst (pa_cons pe_int (pa_cons (pe_call G_draw hr_draw (by rfl) T.g_draw T.F_draw.kp T.b_draw .nil pass0 (pa_cons (pv 0) (pa_cons pe_int pa_nil))) (pa_cons (pe_op op_sub pe_int (pe_call G_draw hr_draw (by rfl) T.g_draw T.F_draw.kp T.b_draw .nil pass0 (pa_cons (pv 0) (pa_cons pe_int pa_nil)))) pa_nil)))) (pe_call G_draw hr_draw (by rfl) T.g_draw T.F_draw.kp T.b_draw .nil pass0 (pa_cons (pv 0) (pa_cons pe_int pa_nil))) (fun _ _ => rfl)))
  (pss_cons (ps_set (i := 5) sc_log.nd rfl (by first | exact Or.inl rfl | exact Or.inr rfl) (pe_lst pa_nil))
  (pss_cons (ps_for PassesOwn.never rfl (pi_range1 (by rfl) T.z_range (pa_cons (pv 2) pa_nil)) (pg_name (i := 6) sc_log.nd rfl (by first | exact Or.inl rfl | exact Or.inr rfl)) (pss_cons (ps_set (i := 4) sc_log.nd rfl (by first | exact Or.inl rfl | exact Or.inr rfl) (pe_callB (call_min2 rfl) (by rfl) T.z_min (by decide +kernel) (pa_cons pe_int (pa_cons (pe_op op_add (pv 4) (pe_ix (kx_list K) (pe_lst (pa_cons pe_int (pa_cons pe_int (pa_cons pe_int (pa_cons (pe_call G_draw hr_draw (by rfl) T.g_draw T.F_draw.kp T.b_draw .nil pass0 (pa_cons (pv 0) (pa_cons pe_int pa_nil))) (pa_cons (pe_call G_draw hr_draw (by rfl) T.g_draw T.F_draw.kp T.b_draw .nil pass0 (pa_cons (pv 0) (pa_cons pe_int pa_nil))) pa_nil)))))) (pe_call G_draw hr_draw (by rfl) T.g_draw T.F_draw.kp T.b_draw .nil pass0 (pa_cons (pv 0) (pa_cons pe_int pa_nil))) (fun _ _ => rfl))) pa_nil))))
  (pss_one (ps_expr (pe_bm PySem.F.plainAttrs_list PySem.F.slot_list_append PySem.F.type_list_append mt_append (pv 5) (pa_cons (pe_call G_row hr_row (by rfl) T.g_row T.F_row.kp T.b_row .nil pass0 (pa_cons (pv 0) (pa_cons (pv 4) (pa_cons (pv 3) pa_nil)))) pa_nil))))))
  (pss_one (ps_ret (pe_callTy (k_tupOf K) (by rfl) T.z_tuple (by decide +kernel) (pa_cons (pv 5) pa_nil))))))))), ?_⟩
    refine ⟨_, rfl, _, rfl, _, rfl, p, c, n, _, rfl, hp, hc, by omega, by omega, by omega, fun H1 r1 g1 a1 b1 => ?_⟩
    refine ⟨_, _, rfl, rfl, _, rfl, _, rfl, _, _, rfl, rfl, p, c, _, _, rfl, g1.pen, g1.cel, by omega, by omega, by omega, fun H2 r2 g2 a2 b2 => ⟨(by show 4 ≤ sizeLine; decide), fun l hl => ?_⟩⟩
    have G2 := g1.trans g2
    generalize hX : upd H2 l _ = H3
    obtain ⟨S3, f3⟩ := alloc hl hX
    have G3 := G2.same S3
    have nl := Ne.symm (G2.ne_new hl)
    clear hX
    refine ⟨_, rfl, p, c, _, _, rfl, G3.pen, G3.cel, by omega, by decide, by decide, fun H4 r4 g4 a4 b4 => ?_⟩
    obtain ⟨v, hv, ev⟩ := atI_lt (xs := [V.int 0, V.int m, V.int (1 + r1), V.int r2]) a4 (by show r4 < ((4 : Nat) : Int); exact b4)
    obtain ⟨many, rfl, mn0, mn1⟩ : ∃ q : Int, v = V.int q ∧ 0 ≤ q ∧ q ≤ 40 := by
      have q : v = V.int 0 ∨ v = V.int m ∨ v = V.int (1 + r1) ∨ v = V.int r2 := by simpa using hv
      rcases q with q | q | q | q <;> exact ⟨_, q, by omega, by omega⟩
    refine ⟨l, _, _, _, rfl, rfl, g4.but.seqL nl (SqL.of f3), ev, ?_⟩
    have G4 := G3.trans g4
    -- the words
    refine ⟨3, rfl, by decide, by decide, fun W hW => ?_⟩
    have hW0 := G4.free hW
    have nW : W ≠ p := Ne.symm (G4.ne_new hW)
    refine lc_it walk_range (fun i H' => Go K p c H (n + 3 + 11 * i) H' ∧ ∃ ws : List Str, H' W = some (.lst (ws.map V.str)) ∧ ws.length = i ∧ ∀ x ∈ ws, NameOk x)
      ⟨G4.new hW, [], upd_same, rfl, fun x hx => nomatch hx⟩ (fun _ _ _ _ => trivial) ?_ ?_
    · rintro i x _ Ha hi ⟨ga, ws, ea, lw, ow⟩ ⟨rfl, rfl⟩
      have hi3 : i < 3 := hi
      refine ⟨rfl, _, rfl, p, c, n + 3 + 11 * i, rfl, ga.pen, ga.cel, by omega, fun Hb t gb ot => ?_⟩
      have eb := gb.but W _ nW ea
      refine ⟨_, eb, by rw [List.length_map]; exact small1000 (by omega), ((ga.trans gb).own hW0 nW hc).mono (by omega), ws ++ [t], by rw [upd_same, List.map_append]; rfl, by rw [List.length_append, lw]; rfl, fun x hx => ?_⟩
      rcases List.mem_append.mp hx with hx | hx
      · exact ow x hx
      · have : x = t := by simpa using hx
        subst this
        exact ot
    rintro H5 ⟨G5, ws, e5, lw, ow⟩
    have hws : ws ≠ [] := fun z => by
      rw [z] at lw
      cases lw
    have lw3 : ws.length = 3 := lw
    have G5' : Go K p c H (n + 36) H5 := G5.mono (Nat.le_of_eq rfl)
    -- the first minute
    refine ⟨_, rfl, p, c, _, _, rfl, G5'.pen, G5'.cel, by omega, by decide, by decide, fun H6 r6 g6 a6 b6 => ?_⟩
    refine ⟨_, rfl, p, c, _, _, rfl, g6.pen, g6.cel, by omega, by decide, by decide, fun H7 r7 g7 a7 b7 => ?_⟩
    refine ⟨_, _, rfl, rfl, (by show 3 ≤ sizeLine; decide), fun l3 hl3 => ?_⟩
    have G7 := G5'.trans (g6.trans g7)
    generalize hX : upd H7 l3 _ = H8
    obtain ⟨S8, f8⟩ := alloc hl3 hX
    have G8 := G7.same S8
    have nl3 := Ne.symm (G7.ne_new hl3)
    clear hX
    refine ⟨_, rfl, p, c, _, _, rfl, G8.pen, G8.cel, by omega, by decide, by decide, fun H9 r9 g9 a9 b9 => ?_⟩
    obtain ⟨v, hv, ev⟩ := atI_lt (xs := [V.int 0, V.int r6, V.int (99999 - r7)]) a9 (by show r9 < ((3 : Nat) : Int); exact b9)
    obtain ⟨time, rfl, tm0, tm1⟩ : ∃ q : Int, v = V.int q ∧ 0 ≤ q ∧ q ≤ 99999 := by
      have q : v = V.int 0 ∨ v = V.int r6 ∨ v = V.int (99999 - r7) := by simpa using hv
      rcases q with q | q | q <;> exact ⟨_, q, by omega, by omega⟩
    refine ⟨l3, _, _, _, rfl, rfl, g9.but.seqL nl3 (SqL.of f8), ev, ?_⟩
    have G9 := G8.trans g9
    have w9 : H9 W = some (.lst (ws.map V.str)) := g9.but _ _ nW (S8 _ _ (g7.but _ _ nW (g6.but _ _ nW e5)))
    -- the rows
    refine ⟨(by show 0 ≤ sizeLine; decide), fun R hR => ?_⟩
    have nR := Ne.symm (G9.ne_new hR)
    generalize hX : upd H9 R _ = H10
    obtain ⟨S10, f10⟩ := alloc hR hX
    clear hX
    refine ⟨_, rfl, _, rfl, by omega, by omega, ?_⟩
    refine for_it walk_range (fun i σ H' => ∃ (tm : Int) (x6 : Option V) (as : List Addr) (rs : List Row), σ = [some (.ref p), some (.int m), some (.int many), some (.ref W), some (.int tm), some (.ref R), x6] ∧
        Go K p c H9 (n + 39 + 7 * i) H' ∧ H' W = some (.lst (ws.map V.str)) ∧ H' R = some (.lst (as.map V.ref)) ∧ RowsAt K H' as rs ∧ rs.length = i ∧ (∀ r ∈ rs, r.Ok2) ∧ Rising rs ∧ (∀ r ∈ rs, r.m ≤ tm) ∧ 0 ≤ tm ∧ tm ≤ 99999)
      ⟨time, none, [], [], rfl, (G9.self.same S10).mono (by omega), S10 _ _ w9, f10, .nil, rfl, (fun r hr => nomatch hr), .nil, (fun r hr => nomatch hr), tm0, tm1⟩ (fun _ _ _ _ _ => trivial) ?_ ?_
    · rintro i x σ _ Ha hi ⟨tm, x6, as, rs, rfl, ga, wa, ra, rowsa, lrs, oks, ris, low, h40, h41⟩ ⟨rfl, rfl⟩
      have ei : i < 40 := by omega
      refine ⟨_, rfl, _, rfl, p, c, _, _, rfl, ga.pen, ga.cel, by omega, by decide, by decide, fun Hb rb gb ab bb => ?_⟩
      refine ⟨_, rfl, p, c, _, _, rfl, gb.pen, gb.cel, by omega, by decide, by decide, fun Hc rc gc ac bc => ⟨(by show 5 ≤ sizeLine; decide), fun l4 hl4 => ?_⟩⟩
      have nl4 := Ne.symm ((gb.trans gc).ne_new hl4)
      generalize hX : upd Hc l4 _ = Hd
      obtain ⟨Sd, fd⟩ := alloc hl4 hX
      have gd := (gb.trans gc).same Sd
      clear hX
      refine ⟨_, rfl, p, c, _, _, rfl, gd.pen, gd.cel, by omega, by decide, by decide, fun He re ge ae be => ?_⟩
      obtain ⟨v4, hv4, ev4⟩ := atI_lt (xs := [V.int 0, V.int 0, V.int 1, V.int rb, V.int rc]) ae (by show re < ((5 : Nat) : Int); exact be)
      obtain ⟨more, rfl, mo0⟩ : ∃ more : Int, v4 = .int more ∧ 0 ≤ more := by
        have z : v4 = V.int 0 ∨ v4 = V.int 1 ∨ v4 = V.int rb ∨ v4 = V.int rc := by simpa using hv4
        rcases z with z | z | z | z <;> exact ⟨_, z, by omega⟩
      refine ⟨l4, _, _, _, rfl, rfl, ge.but.seqL nl4 (SqL.of fd), ev4, _, _, rfl, rfl, _, _, rfl, ?_⟩
      have gE := gd.trans ge
      obtain ⟨tm2, etm2, tm20, tm21, tmle⟩ : ∃ tm2 : Int, (if tm + more < 99999 then tm + more else 99999) = tm2 ∧ 0 ≤ tm2 ∧ tm2 ≤ 99999 ∧ tm ≤ tm2 := ⟨_, rfl, by split <;> omega, by split <;> omega, by split <;> omega⟩
      rw [etm2]
      have wE := gE.but _ _ nW wa
      have rE := gE.but _ _ nR ra
      have rowsE := rowsa.go ga.pen gE.but
      have GE := ga.trans gE
      refine ⟨_, rfl, .inl ⟨rfl, _, SqL.of rE⟩, _, rfl, _, rfl, _, rfl, p, c, W, _, tm2, ws, rfl, GE.pen, GE.cel, by omega, tm20, tm21, SqL.of wE, nW, hws, by omega, ow, fun Hf a r gf haf faf okf erm => ?_⟩
      have wF := gf.but _ _ nW wE
      have rF := gf.but _ _ nR rE
      have rowsF := rowsE.go GE.pen gf.but
      refine ⟨R, _, _, rfl, rfl, rF, (by rw [List.length_map, rowsF.length, lrs]; exact small1000 (by omega)), ?_⟩
      have b3 : But R Hf (upd Hf R (.lst (as.map V.ref ++ [V.ref a]))) := But.put
      refine ⟨tm2, _, as ++ [a], rs ++ [r], rfl, ((GE.trans gf).own hR nR G9.cel).mono (by omega), b3 _ _ (ne_of_none w9 hR) wF, by rw [upd_same, List.map_append]; rfl, (rowsF.snoc (SqT.of faf)).lst rF b3, by rw [List.length_append, lrs]; rfl, ?_, ?_, ?_, tm20, tm21⟩
      · intro q hq
        rcases List.mem_append.mp hq with z | z
        · exact oks q z
        · have : q = r := by simpa using z
          subst this
          exact okf
      · refine List.pairwise_append.mpr ⟨ris, List.pairwise_singleton .., fun q hq y hy => ?_⟩
        have : y = r := by simpa using hy
        subst this
        have := low q hq
        omega
      · intro q hq
        rcases List.mem_append.mp hq with z | z
        · have := low q z
          omega
        · have : q = r := by simpa using z
          subst this
          omega
    · rintro σ Ha ⟨tm, x6, as, rs, rfl, ga, wa, ra, rowsa, lrs, oks, ris, low, h40, h41⟩
      refine ⟨_, rfl, R, _, rfl, .inl ⟨SqL.of ra, fun l hl => ?_⟩⟩
      have S4 : Same Ha (upd Ha l (.tup (as.map V.ref))) := same_new (Same.refl _) hl
      have GA := G9.trans ga
      exact k _ l rs ((GA.same S4).mono (by omega)) (GA.free hl) ⟨as, SqT.of upd_same, rowsa.same S4⟩ (by omega) oks ris
/-! ### a thing of any sort -/
inductive Any (K : PySem.W.Frag) (H : Hp) : V → Prop
  | non : Any K H .non
  | bl (b : Bool) : Any K H (.bl b)
  | int (i : Int) : Any K H (.int i)
  | str {t : Str} : TOk 400 t → Any K H (.str t)
  | lst {a : Addr} : TyX K H (.ref a) (.type "list") → Any K H (.ref a)
  | tup {a : Addr} : TyX K H (.ref a) (.type "tuple") → Any K H (.ref a)
  | dict {a : Addr} : TyX K H (.ref a) (.type "dict") → Any K H (.ref a)
def wholeV : V → Bool
  | .int _ => true
  | _ => false
def betV (lo hi : Int) : V → Bool
  | .int i => decide (lo ≤ i) && decide (i ≤ hi)
  | _ => false
def lettersS (t : Str) : Bool := t.cps.toList.all letter
def nameV : V → Bool
  | .str t => decide ((1 : Int) ≤ (t.length : Int)) && decide ((t.length : Int) ≤ 8) && lettersS t
  | _ => false
def isIntV : V → Bool
  | .int _ => true
  | .bl _ => true
  | _ => false
def isBlV : V → Bool
  | .bl _ => true
  | _ => false
def isStrV : V → Bool
  | .str _ => true
  | _ => false
section
variable {K : PySem.W.Frag} {H : Hp} {v : V}
theorem Any.ty (h : Any K H v) : ∃ ty, TyX K H v ty ∧ PySem.W.kitOne K ty (.type "int") = some (isIntV v) ∧ PySem.W.kitOne K ty (.type "bool") = some (isBlV v) ∧ PySem.W.kitOne K ty (.type "str") = some (isStrV v) := by
  cases h with
  | non => exact ⟨_, .base .non, kit_ty (by decide +kernel), kit_ty (by decide +kernel), kit_ty (by decide +kernel)⟩
  | bl b => exact ⟨_, .base (.bl b), kit_ty (by show kitB "bool" "int" = some true; decide +kernel), kit_ty (by show kitB "bool" "bool" = some true; decide +kernel), kit_ty (by show kitB "bool" "str" = some false; decide +kernel)⟩
  | int i => exact ⟨_, .base (.int i), kit_ty (by show kitB "int" "int" = some true; decide +kernel), kit_ty (by show kitB "int" "bool" = some false; decide +kernel), kit_ty (by show kitB "int" "str" = some false; decide +kernel)⟩
  | @str t _ => exact ⟨_, .base (.str t), kit_ty (by show kitB "str" "int" = some false; decide +kernel), kit_ty (by show kitB "str" "bool" = some false; decide +kernel), kit_ty (by show kitB "str" "str" = some true; decide +kernel)⟩
  | lst q => exact ⟨_, q, kit_ty (by show kitB "list" "int" = some false; decide +kernel), kit_ty (by show kitB "list" "bool" = some false; decide +kernel), kit_ty (by show kitB "list" "str" = some false; decide +kernel)⟩
  | tup q => exact ⟨_, q, kit_ty (by show kitB "tuple" "int" = some false; decide +kernel), kit_ty (by show kitB "tuple" "bool" = some false; decide +kernel), kit_ty (by show kitB "tuple" "str" = some false; decide +kernel)⟩
  | dict q => exact ⟨_, q, kit_ty (by show kitB "dict" "int" = some false; decide +kernel), kit_ty (by show kitB "dict" "bool" = some false; decide +kernel), kit_ty (by show kitB "dict" "str" = some false; decide +kernel)⟩
theorem code_lt (a b : Nat) : decide (([a] : List Nat) < [b]) = decide (a < b) := by
  rw [Bool.eq_iff_iff, decide_eq_true_eq, decide_eq_true_eq]
  constructor
  · intro h
    cases h with
    | rel h => exact h
    | cons h => cases h
  · intro h
    exact .rel h
end
def spWhole (K : PySem.W.Frag) : Sp := fun vs H Q _ => ∃ v, vs = [v] ∧ Any K H v ∧ Q (.bl (wholeV v)) H
theorem ok_is_whole (T : Txt w K mg) : FnOk P w K mg base CX0 1 T.a_is_whole T.d_is_whole ["thing"] (spWhole K) := by
  refine T.F_is_whole.ok sc_is_whole (fun vs H Q E h => ?_) (fun cdv A outer s H vs Q E hr h => ?_)
  · obtain ⟨i, rfl, _⟩ := h
    rfl
  · obtain ⟨v, rfl, hv, k⟩ := h
    refine ⟨_, (pss_one (ps_ret (pe_and (pe_callB (k_isi K) (by rfl) T.z_isinstance (by decide +kernel) (pa_cons (pv 0) (pa_cons (pe_bltn (v := .ty "int") (by rfl) T.z_int (by decide +kernel) rfl) pa_nil))) (pe_one (pe_not (pe_callB (k_isi K) (by rfl) T.z_isinstance (by decide +kernel) (pa_cons (pv 0) (pa_cons (pe_bltn (v := .ty "bool") (by rfl) T.z_bool (by decide +kernel) rfl) pa_nil)))))))), ?_⟩
    obtain ⟨ty, t1, t2, t3, _⟩ := hv.ty
    refine ⟨_, rfl, _, _, _, _, _, rfl, ClsV.ty "int", t1, t2, _, rfl, ?_⟩
    cases hv with
    | int i => exact ⟨_, rfl, _, _, _, _, false, rfl, ClsV.ty "bool", t1, t3, _, rfl, k⟩
    | bl b => exact ⟨_, rfl, _, _, _, _, true, rfl, ClsV.ty "bool", t1, t3, _, rfl, k⟩
    | _ => exact k
def spBet (K : PySem.W.Frag) (lo hi : Int) : Sp := fun vs H Q _ => ∃ v, vs = [v] ∧ Any K H v ∧ Q (.bl (betV lo hi v)) H
theorem ok_is_minute (T : Txt w K mg) : FnOk P w K mg base CX0 2 T.a_is_minute T.d_is_minute ["thing"] (spBet K 0 99999) := by
  have G_is_whole := ok_is_whole (P := P) (base := base) T
  refine T.F_is_minute.ok sc_is_minute (fun vs H Q E h => ?_) (fun cdv A outer s H vs Q E hr h => ?_)
  · obtain ⟨i, rfl, _⟩ := h
    rfl
  · obtain ⟨v, rfl, hv, k⟩ := h
    have hr_is_whole := hr
    refine ⟨_, (pss_one (ps_ret (pe_and (pe_call G_is_whole hr_is_whole (by rfl) T.g_is_whole T.F_is_whole.kp T.b_is_whole .nil pass0 (pa_cons (pv 0) pa_nil)) (pe_one (pe_chain op_le op_le pe_int (pv 0) (pe_glob (v := .int (99999)) (by rfl) T.c_LAST_MINUTE ⟨_, rfl⟩)))))), ?_⟩
    refine ⟨_, rfl, v, rfl, hv, _, rfl, ?_⟩
    cases hv with
    | int i =>
      show if true = true then _ else _
      refine ⟨_, rfl, _, _, rfl, rfl, _, rfl, ?_⟩
      have k : Q (V.bl (decide (0 ≤ i) && decide (i ≤ 99999))) H := k
      cases z : decide ((0 : Int) ≤ i) with
      | true =>
        rw [z, Bool.true_and] at k
        exact ⟨_, _, rfl, rfl, k⟩
      | false =>
        rw [z, Bool.false_and] at k
        exact k
    | _ => exact k
theorem ok_is_order (T : Txt w K mg) : FnOk P w K mg base CX0 2 T.a_is_order T.d_is_order ["thing"] (spBet K (-4) 4) := by
  have G_is_whole := ok_is_whole (P := P) (base := base) T
  refine T.F_is_order.ok sc_is_order (fun vs H Q E h => ?_) (fun cdv A outer s H vs Q E hr h => ?_)
  · obtain ⟨i, rfl, _⟩ := h
    rfl
  · obtain ⟨v, rfl, hv, k⟩ := h
    have hr_is_whole := hr
    refine ⟨_, (pss_one (ps_ret (pe_and (pe_call G_is_whole hr_is_whole (by rfl) T.g_is_whole T.F_is_whole.kp T.b_is_whole .nil pass0 (pa_cons (pv 0) pa_nil)) (pe_one (pe_chain op_le op_le (pe_glob (v := .int (-4)) (by rfl) T.c_FULL_ASTERN ⟨_, rfl⟩) (pv 0) (pe_glob (v := .int (4)) (by rfl) T.c_FULL_AHEAD ⟨_, rfl⟩)))))), ?_⟩
    refine ⟨_, rfl, v, rfl, hv, _, rfl, ?_⟩
    cases hv with
    | int i =>
      show if true = true then _ else _
      refine ⟨_, rfl, _, _, rfl, rfl, _, rfl, ?_⟩
      have k : Q (V.bl (decide (-4 ≤ i) && decide (i ≤ 4))) H := k
      cases z : decide ((-4 : Int) ≤ i) with
      | true =>
        rw [z, Bool.true_and] at k
        exact ⟨_, _, rfl, rfl, k⟩
      | false =>
        rw [z, Bool.false_and] at k
        exact k
    | _ => exact k
def spNameV (K : PySem.W.Frag) : Sp := fun vs H Q _ => ∃ v, vs = [v] ∧ Any K H v ∧ ∀ H', Same H H' → Q (.bl (nameV v)) H'
theorem ok_is_name (T : Txt w K mg) : FnOk P w K mg base CX0 1 T.a_is_name T.d_is_name ["thing"] (spNameV K) := by
  refine T.F_is_name.ok sc_is_name (fun vs H Q E h => ?_) (fun cdv A outer s H vs Q E hr h => ?_)
  · obtain ⟨i, rfl, _⟩ := h
    rfl
  · obtain ⟨v, rfl, hv, k⟩ := h
    refine ⟨_, (pss_cons (ps_if (PW.pt (pw_or (pt_not (pt_val (pe_callB (k_isi K) (by rfl) T.z_isinstance (by decide +kernel) (pa_cons (pv 0) (pa_cons (pe_bltn (v := .ty "str") (by rfl) T.z_str (by decide +kernel) rfl) pa_nil))))) (pw_or1 (pt_not (pt_chain op_le op_le pe_int (pe_callB call_len_str (by rfl) T.z_len (by decide +kernel) (pa_cons (pv 0) pa_nil)) (pe_glob (v := .int (8)) (by rfl) T.c_LONGEST_NAME ⟨_, rfl⟩)))))) (pss_one (ps_ret pe_bl)) pss_nil)
  (pss_one (ps_ret (pe_callB (k_all K rfl) (by rfl) T.z_all (by decide +kernel) (pa_cons (pe_lc (own := [("sign", 1)]) rfl sc_is_name.nd (pi_str (pv 0)) (blkOk_by (own := [("sign", 1)]) (N := ["thing", "sign"]) (sc := defScope s_is_name) (by decide +kernel)) (fun _ _ _ _ _ => (pg_name (i := 1) sc_is_name.nd rfl (by first | exact Or.inl rfl | exact Or.inr rfl))) (fun _ _ _ _ _ => pts_nil) (fun _ _ _ _ _ => (pe_chain op_le_str op_le_str pe_str (pv 1) pe_str))) pa_nil))))), ?_⟩
    obtain ⟨ty, t1, _, _, t4⟩ := hv.ty
    refine ⟨_, rfl, _, _, _, _, _, rfl, ClsV.ty "str", t1, t4, _, rfl, ?_⟩
    cases hv with
    | @str t ht =>
      show if false = true then _ else _
      have t400 := ht.1
      refine ⟨_, rfl, _, rfl, Nat.le_trans t400 (by decide), _, _, rfl, rfl, _, rfl, ?_⟩
      have no : decide ((1 : Int) ≤ (t.length : Int)) = false ∨ decide ((t.length : Int) ≤ 8) = false → nameV (.str t) = false := fun z => by
        show (decide _ && decide _ && _) = false
        rcases z with z | z <;> rw [z] <;> simp
      cases z1 : decide ((1 : Int) ≤ (t.length : Int)) with
      | false =>
        have q := k H (Same.refl _)
        rw [no (.inl z1)] at q
        exact ⟨_, rfl, q⟩
      | true =>
        refine ⟨_, _, rfl, rfl, _, rfl, ?_⟩
        cases z2 : decide ((t.length : Int) ≤ 8) with
        | false =>
          have q := k H (Same.refl _)
          rw [no (.inr z2)] at q
          exact q
        | true =>
          have t8 : (t.length : Int) ≤ 8 := of_decide_eq_true z2
          show if false = true then _ else _
          refine ⟨_, rfl, t, rfl, fun D hD => ?_⟩
          refine lc_it walk_str (fun i H' => Same H H' ∧ H' D = some (.lst (((t.cps.toList.take i).map letter).map V.bl))) ⟨same_new (Same.refl _) hD, upd_same⟩ (fun _ _ _ _ => trivial) ?_ ?_
          · rintro i x _ H2 hi ⟨s2, e2⟩ ⟨rfl, c, hc, rfl⟩
            have hc2 : t.cps.toList[i]? = some c := by rw [Array.getElem?_toList]; exact hc
            have fin : ∀ b, b = letter c → ∃ acc, H2 D = some (.lst acc) ∧ acc.length < sizeLine ∧ Same H (upd H2 D (.lst (acc ++ [V.bl b]))) ∧ upd H2 D (.lst (acc ++ [V.bl b])) D = some (.lst (((t.cps.toList.take (i + 1)).map letter).map V.bl)) := fun b hb => by
              refine ⟨_, e2, ?_, same_own s2 hD, ?_⟩
              · rw [List.length_map, List.length_map, List.length_take]
                have e9 : t.cps.size = t.length := rfl
                exact small1000 (by omega)
              · rw [upd_same, List.take_add_one, hc2, hb, List.map_append, List.map_append]
                rfl
            refine ⟨rfl, _, rfl, _, _, rfl, rfl, _, rfl, ?_⟩
            have ea : decide ((⟨#[c]⟩ : Str).cps.toList < (Str.ofString "a").cps.toList) = decide (c < 97) := code_lt c 97
            have ez : decide ((Str.ofString "z").cps.toList < (⟨#[c]⟩ : Str).cps.toList) = decide (122 < c) := code_lt 122 c
            by_cases q1 : c < 97
            · rw [ea, decide_eq_true q1]
              refine fin false ?_
              unfold letter
              rw [decide_eq_false (by omega)]
              rfl
            · rw [ea, decide_eq_false q1]
              refine ⟨_, _, rfl, rfl, fin _ ?_⟩
              rw [ez]
              unfold letter
              rw [decide_eq_true (show 97 ≤ c by omega), Bool.true_and]
              by_cases q2 : 122 < c
              · rw [decide_eq_true q2, decide_eq_false (by omega)]
                rfl
              · rw [decide_eq_false q2, decide_eq_true (by omega)]
                rfl
          · rintro H2 ⟨s2, e2⟩
            refine ⟨D, _, rfl, SqL.of e2, ?_⟩
            have e3 : nameV (.str t) = ((t.cps.toList.take t.cps.size).map letter).all id := by
              rw [List.take_of_length_le (by simp), List.all_map]
              show (decide _ && decide _ && _) = _
              rw [z1, z2]
              rfl
            rw [← e3]
            exact k H2 s2
    | _ => exact k H (Same.refl _)
def spWholeL (K : PySem.W.Frag) : Sp := fun vs H Q _ => ∃ (v : V) (lo hi : Int), vs = [v, .int lo, .int hi] ∧ Any K H v ∧ Q (.bl (betV lo hi v)) H
theorem ok_whole (T : Txt w K mg) : FnOk P w K mg base CX0 1 T.a_whole T.d_whole ["_law_thing", "_law_least", "_law_most"] (spWholeL K) := by
  refine T.F_whole.ok sc_whole (fun vs H Q E h => ?_) (fun cdv A outer s H vs Q E hr h => ?_)
  · obtain ⟨v, lo, hi, rfl, _⟩ := h
    rfl
  · obtain ⟨v, lo, hi, rfl, hv, k⟩ := h
    refine ⟨_, (pss_one (ps_ret (pe_and (pe_callB (k_isi K) (by rfl) T.z_isinstance (by decide +kernel) (pa_cons (pv 0) (pa_cons (pe_bltn (v := .ty "int") (by rfl) T.z_int (by decide +kernel) rfl) pa_nil))) (pe_and (pe_not (pe_callB (k_isi K) (by rfl) T.z_isinstance (by decide +kernel) (pa_cons (pv 0) (pa_cons (pe_bltn (v := .ty "bool") (by rfl) T.z_bool (by decide +kernel) rfl) pa_nil)))) (pe_one (pe_chain op_le op_le (pv 1) (pv 0) (pv 2))))))), ?_⟩
    obtain ⟨ty, t1, t2, t3, _⟩ := hv.ty
    refine ⟨_, rfl, _, _, _, _, _, rfl, ClsV.ty "int", t1, t2, _, rfl, ?_⟩
    cases hv with
    | int i =>
      refine ⟨_, rfl, _, _, _, _, false, rfl, ClsV.ty "bool", t1, t3, _, rfl, _, rfl, ?_⟩
      show if true = true then _ else _
      refine ⟨_, rfl, _, rfl, _, _, rfl, rfl, _, rfl, ?_⟩
      have k : Q (V.bl (decide (lo ≤ i) && decide (i ≤ hi))) H := k
      cases z : decide (lo ≤ i) with
      | true =>
        rw [z, Bool.true_and] at k
        exact ⟨_, rfl, _, _, rfl, rfl, k⟩
      | false =>
        rw [z, Bool.false_and] at k
        exact k
    | bl b =>
      refine ⟨_, rfl, _, _, _, _, true, rfl, ClsV.ty "bool", t1, t3, _, rfl, _, rfl, ?_⟩
      exact k
    | _ => exact k
theorem ok_named (T : Txt w K mg) : FnOk P w K mg base CX0 1 T.a_named T.d_named ["_law_thing"] (spNameV K) := by
  refine T.F_named.ok sc_named (fun vs H Q E h => ?_) (fun cdv A outer s H vs Q E hr h => ?_)
  · obtain ⟨i, rfl, _⟩ := h
    rfl
  · obtain ⟨v, rfl, hv, k⟩ := h
    refine ⟨_, (pss_cons (ps_if (PW.pt (pw_or (pt_not (pt_val (pe_callB (k_isi K) (by rfl) T.z_isinstance (by decide +kernel) (pa_cons (pv 0) (pa_cons (pe_bltn (v := .ty "str") (by rfl) T.z_str (by decide +kernel) rfl) pa_nil))))) (pw_or1 (pt_not (pt_chain op_le op_le pe_int (pe_callB call_len_str (by rfl) T.z_len (by decide +kernel) (pa_cons (pv 0) pa_nil)) pe_int))))) (pss_one (ps_ret pe_bl)) pss_nil)
  (pss_one (ps_ret (pe_cmpR (k_eqD K hr.units) (pe_lc (own := [("_law_sign", 1)]) rfl sc_named.nd (pi_str (pv 0)) (blkOk_by (own := [("_law_sign", 1)]) (N := ["_law_thing", "_law_sign"]) (sc := defScope s_named) (by decide +kernel)) (fun _ _ _ _ _ => (pg_name (i := 1) sc_named.nd rfl (by first | exact Or.inl rfl | exact Or.inr rfl))) (fun _ _ _ _ _ => (pts_one (pt_cmpR op_notIn_str (pv 1) pe_str (by rfl)))) (fun _ _ _ _ _ => (pv 1))) (pe_lst pa_nil) (nomark _))))), ?_⟩
    obtain ⟨ty, t1, _, _, t4⟩ := hv.ty
    refine ⟨_, rfl, _, _, _, _, _, rfl, ClsV.ty "str", t1, t4, _, rfl, ?_⟩
    cases hv with
    | @str t ht =>
      show if false = true then _ else _
      have t400 := ht.1
      refine ⟨_, rfl, _, rfl, Nat.le_trans t400 (by decide), _, _, rfl, rfl, _, rfl, ?_⟩
      have no : decide ((1 : Int) ≤ (t.length : Int)) = false ∨ decide ((t.length : Int) ≤ 8) = false → nameV (.str t) = false := fun z => by
        show (decide _ && decide _ && _) = false
        rcases z with z | z <;> rw [z] <;> simp
      cases z1 : decide ((1 : Int) ≤ (t.length : Int)) with
      | false =>
        have q := k H (Same.refl _)
        rw [no (.inl z1)] at q
        exact ⟨_, rfl, q⟩
      | true =>
        refine ⟨_, _, rfl, rfl, _, rfl, ?_⟩
        cases z2 : decide ((t.length : Int) ≤ 8) with
        | false =>
          have q := k H (Same.refl _)
          rw [no (.inr z2)] at q
          exact q
        | true =>
          have t8 : (t.length : Int) ≤ 8 := of_decide_eq_true z2
          show if false = true then _ else _
          refine ⟨_, rfl, t, rfl, fun D hD => ?_⟩
          refine lc_it walk_str (fun i H' => Same H H' ∧ H' D = some (.lst (((t.cps.toList.take i).filter fun c => !letter c).map fun c => V.str ⟨#[c]⟩))) ⟨same_new (Same.refl _) hD, upd_same⟩ (fun _ _ _ _ => trivial) ?_ ?_
          · rintro i x _ H2 hi ⟨s2, e2⟩ ⟨rfl, c, hc, rfl⟩
            have hc2 : t.cps.toList[i]? = some c := by rw [Array.getElem?_toList]; exact hc
            have c128 := ht.2 c (List.mem_of_getElem? hc2)
            refine ⟨rfl, _, rfl, _, _, rfl, rfl, _, rfl, ?_⟩
            rw [letter_not c c128]
            refine ite2 (fun z => ?_) (fun z => ?_)
            · refine ⟨_, rfl, _, e2, ?_, same_own s2 hD, ?_⟩
              · rw [List.length_map]
                have := List.length_filter_le (fun c => !letter c) (t.cps.toList.take i)
                rw [List.length_take] at this
                have e9 : t.cps.size = t.length := rfl
                exact small1000 (by omega)
              · rw [upd_same, List.take_add_one, hc2, List.filter_append]
                show some (HO.lst (_ ++ _)) = some (HO.lst (List.map _ (_ ++ List.filter _ [c])))
                rw [show List.filter (fun c => !letter c) [c] = [c] from List.filter_cons_of_pos (p := fun c => !letter c) z, List.map_append]
                rfl
            · refine ⟨s2, ?_⟩
              rw [List.take_add_one, hc2, List.filter_append]
              show _ = some (HO.lst (List.map _ (_ ++ List.filter _ [c])))
              rw [show List.filter (fun c => !letter c) [c] = [] from List.filter_cons_of_neg (p := fun c => !letter c) z, List.append_nil]
              exact e2
          · rintro H2 ⟨s2, e2⟩
            refine ⟨(by show 0 ≤ sizeLine; decide), fun l hl => ?_⟩
            generalize hX : upd H2 l _ = H3
            obtain ⟨S3, f3⟩ := alloc hl hX
            clear hX
            have hall : (t.cps.toList.take t.cps.size) = t.cps.toList := List.take_of_length_le (by simp)
            rw [hall] at e2
            have dps : ∀ cs : List Nat, DpAll K H3 (cs.map fun c => V.str ⟨#[c]⟩) (cs.map fun c => PyData.str ⟨#[c]⟩) := fun cs => by
              induction cs with
              | nil => exact .nil
              | cons c r ih => exact .cons (.str _) ih
            have rep : RepOk (.list ((t.cps.toList.filter fun c => !letter c).map fun c => PyData.str ⟨#[c]⟩)) 1 800 := by
              refine (RepOk.list (k := 0) (n := 1) fun d hd => ?_).mono (Nat.le_refl _) ?_
              · obtain ⟨c, hc, rfl⟩ := List.mem_map.mp hd
                refine RepOk.tok ⟨by show (1 : Nat) ≤ 1; decide, fun x hx => ?_⟩
                have : x = c := by simpa using hx
                subst this
                exact ht.2 x (List.mem_filter.mp hc).1
              · rw [List.length_map]
                have := List.length_filter_le (fun c => !letter c) t.cps.toList
                rw [← str_len] at this
                omega
            refine ⟨_, .list [], .lst (SqL.of (S3 _ _ e2)) (dps _), .lst (SqL.of f3) .nil, rep.shaped (by decide), by decide +kernel, ?_⟩
            have e3 : nameV (.str t) = PyData.eqv (.list ((t.cps.toList.filter fun c => !letter c).map fun c => PyData.str ⟨#[c]⟩)) (.list []) := by
              show (decide _ && decide _ && _) = _
              rw [z1, z2, Bool.true_and, Bool.true_and]
              unfold lettersS
              cases q : t.cps.toList.filter fun c => !letter c with
              | nil =>
                rw [List.filter_eq_nil_iff] at q
                rw [show PyData.eqv (.list (([] : List Nat).map fun c => PyData.str ⟨#[c]⟩)) (.list []) = true by decide +kernel, List.all_eq_true]
                intro c hc
                have := q c hc
                simpa using this
              | cons c r =>
                have hm : c ∈ t.cps.toList.filter fun c => !letter c := by rw [q]; exact List.mem_cons_self ..
                obtain ⟨m1, m2⟩ := List.mem_filter.mp hm
                have : PyData.eqv (.list ((c :: r).map fun c => PyData.str ⟨#[c]⟩)) (.list []) = false := rfl
                rw [this, List.all_eq_false]
                exact ⟨c, m1, by simpa using m2⟩
            rw [← e3]
            exact k H3 (s2.trans S3)
    | _ => exact k H (Same.refl _)
/-! ### the program: rows -/
def absent8 : List Str := ["", "Port", "ninethree", "a b", "a1", "port ", "a\n", "bell"]
def MidOk (v : V) : Prop := ∀ t, v = .str t → t ∈ lines6 ∨ t ∈ absent8
def lineV : V → Bool
  | .str t => decide (t ∈ lines6)
  | _ => false
def tubeV : V → Bool
  | .str t => decide (t ∈ tubes)
  | _ => false
def mkV : List V → Bool
  | [m, l, w] => lineV l && ((if tubeV l then nameV w else betV (-4) 4 w) && betV 0 99999 m)
  | _ => false
theorem absent_not : ∀ t ∈ absent8, t ∉ lines6 := by decide +kernel
theorem ok_is_line (T : Txt w K mg) : FnOk P w K mg base CX0 1 T.a_is_line T.d_is_line ["thing"] (fun vs H Q _ => ∃ v, vs = [v] ∧ Any K H v ∧ MidOk v ∧ Q (.bl (lineV v)) H) := by
  refine T.F_is_line.ok sc_is_line (fun vs H Q E h => ?_) (fun cdv A outer s H vs Q E hr h => ?_)
  · obtain ⟨l, rfl, _⟩ := h
    rfl
  · obtain ⟨v, rfl, hv, mid, k⟩ := h
    refine ⟨_, (pss_one (ps_ret (pe_and (pe_callB (k_isi K) (by rfl) T.z_isinstance (by decide +kernel) (pa_cons (pv 0) (pa_cons (pe_bltn (v := .ty "str") (by rfl) T.z_str (by decide +kernel) rfl) pa_nil))) (pe_one (pe_cmpR (op_in_kd T.kD_SENDERS) (pv 0) (pe_glob (v := .ref T.D_SENDERS) (by rfl) T.c_SENDERS rfl) (by rfl)))))), ?_⟩
    obtain ⟨ty, t1, _, _, t4⟩ := hv.ty
    refine ⟨_, rfl, _, _, _, _, _, rfl, ClsV.ty "str", t1, t4, _, rfl, ?_⟩
    cases hv with
    | @str t ht =>
      show if true = true then _ else _
      rw [if_pos rfl]
      rcases mid t rfl with ln | ab
      · obtain ⟨u2, hu2, _⟩ : ∃ u, PySem.W.nsIn K T.D_SENDERS t = some (some u) ∧ True := by
          have l6 : t = "port" ∨ t = "star" ∨ t = "down" ∨ t = "aport" ∨ t = "astar" ∨ t = "up" := by simpa [lines6] using ln
          rcases l6 with q | q | q | q | q | q
          · obtain ⟨u, h, _⟩ := T.ki_SENDERS ("port", .str "bridge") (by simp); exact ⟨u, q ▸ h, trivial⟩
          · obtain ⟨u, h, _⟩ := T.ki_SENDERS ("star", .str "bridge") (by simp); exact ⟨u, q ▸ h, trivial⟩
          · obtain ⟨u, h, _⟩ := T.ki_SENDERS ("down", .str "bridge") (by simp); exact ⟨u, q ▸ h, trivial⟩
          · obtain ⟨u, h, _⟩ := T.ki_SENDERS ("aport", .str "room") (by simp); exact ⟨u, q ▸ h, trivial⟩
          · obtain ⟨u, h, _⟩ := T.ki_SENDERS ("astar", .str "room") (by simp); exact ⟨u, q ▸ h, trivial⟩
          · obtain ⟨u, h, _⟩ := T.ki_SENDERS ("up", .str "room") (by simp); exact ⟨u, q ▸ h, trivial⟩
        refine ⟨_, rfl, t, some u2, rfl, rfl, hu2, ?_⟩
        rw [show lineV (.str t) = true from decide_eq_true ln] at k
        exact k
      · refine ⟨_, rfl, t, none, rfl, rfl, T.ka_SENDERS t ab, ?_⟩
        rw [show lineV (.str t) = false from decide_eq_false (absent_not t ab)] at k
        exact k
    | _ => exact k
/-- a tuple's parts -/
structure TupAt (K : PySem.W.Frag) (H : Hp) (a : Addr) (xs : List V) : Prop where
  sq : SqT K H a xs
  le : xs.length ≤ 90
  any : ∀ x ∈ xs, ∀ H', Same H H' → Any K H' x
  mid : ∀ b, xs[1]? = some b → MidOk b
theorem TupAt.same {K : PySem.W.Frag} {H H1 : Hp} {a : Addr} {xs : List V} (h : TupAt K H a xs) (s : Same H H1) : TupAt K H1 a xs := ⟨same_seqT s h.sq, h.le, fun x hx H' q => h.any x hx H' (s.trans q), h.mid⟩
def spMk (K : PySem.W.Frag) : Sp := fun vs H Q _ => ∃ v, vs = [v] ∧ ((∃ (a : Addr) (xs : List V), v = .ref a ∧ SqE K H a xs ∧ (∀ x ∈ xs, ∀ H', Same H H' → Any K H' x) ∧ (∀ b, xs[1]? = some b → MidOk b) ∧ ∀ H', Same H H' → Q (.bl (mkV xs)) H')
  ∨ (∃ (a : Addr) (xs : List V), v = .ref a ∧ SqE K H a xs ∧ xs.length ≠ 3 ∧ ∀ H', Same H H' → Q (.bl false) H')
  ∨ (∃ ty, (∀ H', Same H H' → TyX K H' v ty) ∧ PySem.W.kitAny K ty [.type "list", .type "tuple"] = some false ∧ ∀ H', Same H H' → Q (.bl false) H'))
theorem mk_ne {xs : List V} (h : xs.length ≠ 3) : mkV xs = false := by
  rcases xs with _ | ⟨a, _ | ⟨b, _ | ⟨c, _ | ⟨d, r⟩⟩⟩⟩
  · rfl
  · rfl
  · rfl
  · exact absurd rfl h
  · rfl
theorem ok_makes_row (T : Txt w K mg) : FnOk P w K mg base CX0 3 T.a_makes_row T.d_makes_row ["thing"] (spMk K) := by
  have G_is_minute := ok_is_minute (P := P) (base := base) T
  have G_is_order := ok_is_order (P := P) (base := base) T
  have G_is_name := ok_is_name (P := P) (base := base) T
  have G_is_line := ok_is_line (P := P) (base := base) T
  refine T.F_makes_row.ok sc_makes_row (fun vs H Q E h => ?_) (fun cdv A outer s H vs Q E hr h => ?_)
  · obtain ⟨v, rfl, _⟩ := h
    rfl
  · obtain ⟨v, rfl, h⟩ := h
    have hr_is_minute := hr
    have hr_is_order := hr
    have hr_is_name := hr.mono (show 1 ≤ 2 by decide)
    have hr_is_line := hr_is_name
    refine ⟨_, (pss_cons (ps_if (PW.pt (pw_or (pt_not (pt_val (pe_callB (k_isiT K) (by rfl) T.z_isinstance (by decide +kernel) (pa_cons (pv 0) (pa_cons (pe_tup (pa_cons (pe_bltn (v := .ty "list") (by rfl) T.z_list (by decide +kernel) rfl) (pa_cons (pe_bltn (v := .ty "tuple") (by rfl) T.z_tuple (by decide +kernel) rfl) pa_nil))) pa_nil))))) (pw_or1 (pt_cmpR op_ne (pe_callB (k_len K) (by rfl) T.z_len (by decide +kernel) (pa_cons (pv 0) pa_nil)) pe_int (nomark _))))) (pss_one (ps_ret pe_bl)) pss_nil)
  (pss_cons (ps_asg (pv 0) (k_pgE (n := 3) K rfl (pgs_cons (pg_name (i := 1) sc_makes_row.nd rfl (by first | exact Or.inl rfl | exact Or.inr rfl)) (pgs_cons (pg_name (i := 2) sc_makes_row.nd rfl (by first | exact Or.inl rfl | exact Or.inr rfl)) (pgs_cons (pg_name (i := 3) sc_makes_row.nd rfl (by first | exact Or.inl rfl | exact Or.inr rfl)) pgs_nil)))))
  (pss_cons (ps_if (pt_not (pt_val (pe_call G_is_line hr_is_line (by rfl) T.g_is_line T.F_is_line.kp T.b_is_line .nil pass0 (pa_cons (pv 2) pa_nil)))) (pss_one (ps_ret pe_bl)) pss_nil)
  (pss_cons (ps_set (i := 4) sc_makes_row.nd rfl (by first | exact Or.inl rfl | exact Or.inr rfl) (pe_ifExp (pt_cmpR (k_in K) (pv 2) (pe_glob (v := .ref T.D_TUBES) (by rfl) T.c_TUBES rfl) (by rfl)) (pe_call G_is_name hr_is_name (by rfl) T.g_is_name T.F_is_name.kp T.b_is_name .nil pass0 (pa_cons (pv 3) pa_nil)) (pe_call G_is_order hr_is_order (by rfl) T.g_is_order T.F_is_order.kp T.b_is_order .nil pass0 (pa_cons (pv 3) pa_nil))))
  (pss_one (ps_ret (pe_and (pv 4) (pe_one (pe_call G_is_minute hr_is_minute (by rfl) T.g_is_minute T.F_is_minute.kp T.b_is_minute .nil pass0 (pa_cons (pv 1) pa_nil)))))))))), ?_⟩
    refine ⟨_, rfl, (by show 2 ≤ sizeLine; decide), fun u hu => ?_⟩
    generalize hX : upd H u _ = H1
    obtain ⟨S1, f1⟩ := alloc hu hX
    clear hX
    rcases or_assoc.mpr h with h | ⟨ty, ft, et, k⟩
    rotate_left
    · refine ⟨_, u, [.ty "list", .ty "tuple"], ty, [.type "list", .type "tuple"], false, rfl, f1, .cons (ClsV.ty "list") (.cons (ClsV.ty "tuple") .nil), ft _ S1, et, _, rfl, ?_⟩
      show if (!false) = true then _ else _
      exact k _ S1
    obtain ⟨a, xs, rfl, sq, short, full⟩ : ∃ (a : Addr) (xs : List V), v = .ref a ∧ SqE K H a xs ∧ (xs.length ≠ 3 → ∀ H', Same H H' → Q (.bl false) H') ∧ (xs.length = 3 → (∀ x ∈ xs, ∀ H', Same H H' → Any K H' x) ∧ (∀ b, xs[1]? = some b → MidOk b) ∧ ∀ H', Same H H' → Q (.bl (mkV xs)) H') := by
      rcases h with ⟨a, xs, e, sq, an, mi, k⟩ | ⟨a, xs, e, sq, n3, k⟩
      · refine ⟨a, xs, e, sq, fun n3 H' s' => ?_, fun _ => ⟨an, mi, k⟩⟩
        have := k H' s'
        rw [mk_ne n3] at this
        exact this
      · exact ⟨a, xs, e, sq, fun _ => k, fun z => absurd z n3⟩
    have row1 : SqE K H1 a xs := sq.same S1
    obtain ⟨ty, hty, hk⟩ : ∃ ty : Value, TyX K H1 (.ref a) ty ∧ PySem.W.kitAny K ty [.type "list", .type "tuple"] = some true := by
      rcases row1 with q | q
      · exact ⟨_, seqL_ty q, rfl⟩
      · exact ⟨_, seqT_ty q, rfl⟩
    refine ⟨_, u, [.ty "list", .ty "tuple"], ty, [.type "list", .type "tuple"], true, rfl, f1, .cons (ClsV.ty "list") (.cons (ClsV.ty "tuple") .nil), hty, hk, _, rfl, ?_⟩
    show if false = true then _ else _
    refine ⟨_, rfl, a, _, rfl, row1, rfl, _, rfl, ?_⟩
    by_cases c3 : xs.length = 3
    · obtain ⟨an, mi, k⟩ := full c3
      have an1 : ∀ x ∈ xs, ∀ H', Same H1 H' → Any K H' x := fun x hx H' s' => an x hx H' (S1.trans s')
      obtain ⟨m, l, wh, rfl⟩ : ∃ m l wh, xs = [m, l, wh] := by
        rcases xs with _ | ⟨a, _ | ⟨b, _ | ⟨c, _ | ⟨d, r⟩⟩⟩⟩
        · cases c3
        · cases c3
        · cases c3
        · exact ⟨a, b, c, rfl⟩
        · cases c3
      show if false = true then _ else _
      refine iteF ?_
      refine ⟨_, rfl, a, _, rfl, row1, rfl, _, _, rfl, _, _, rfl, _, _, rfl, rfl, ?_⟩
      refine ⟨_, rfl, l, rfl, an1 l (by simp) _ (Same.refl _), mi l rfl, _, rfl, ?_⟩
      show if (!lineV l) = true then _ else _
      cases zl : lineV l with
      | false =>
        have e : mkV [m, l, wh] = false := by
          show (lineV l && _) = false
          rw [zl]
          rfl
        rw [e] at k
        exact k _ S1
      | true =>
        refine iteF ?_
        obtain ⟨t, rfl, tl⟩ : ∃ t, l = .str t ∧ t ∈ lines6 := by
          cases l with
          | str t => exact ⟨t, rfl, of_decide_eq_true zl⟩
          | _ => cases zl
        have e : mkV [m, .str t, wh] = ((if decide (t ∈ tubes) = true then nameV wh else betV (-4) 4 wh) && betV 0 99999 m) := by
          show (lineV (.str t) && _) = _
          rw [zl]
          rfl
        rw [e] at k
        refine ⟨_, rfl, T.D_TUBES, _, rfl, .inr (T.kt_TUBES _), rfl, rfl, _, rfl, ?_⟩
        show if inV (V.str t) [V.str (Str.ofString "down"), V.str (Str.ofString "up")] = true then _ else _
        rw [wire_in]
        have fin : ∀ (b : Bool) (H2 : Hp), Same H1 H2 → (b && betV 0 99999 m) = ((if decide (t ∈ tubes) = true then nameV wh else betV (-4) 4 wh) && betV 0 99999 m) → (if b = true then Q (.bl (betV 0 99999 m)) H2 else Q (.bl b) H2) := fun b H2 S2 q => by
          have k2 := k H2 (S1.trans S2)
          rw [← q] at k2
          cases b with
          | true => exact k2
          | false => exact k2
        refine ite2 (fun z => ?_) (fun z => ?_)
        · refine ⟨_, rfl, wh, rfl, an1 wh (by simp) _ (Same.refl _), fun H2 S2 => ?_⟩
          refine ⟨_, rfl, _, rfl, ?_⟩
          have f := fin (nameV wh) H2 S2 (by rw [if_pos z])
          show if nameV wh = true then _ else _
          cases y : nameV wh with
          | true =>
            rw [y, if_pos rfl] at f
            rw [if_pos rfl]
            exact ⟨_, rfl, m, rfl, an1 m (by simp) _ S2, f⟩
          | false =>
            rw [y, if_neg (by decide)] at f
            rw [if_neg (by decide)]
            exact f
        · refine ⟨_, rfl, wh, rfl, an1 wh (by simp) _ (Same.refl _), ?_⟩
          refine ⟨_, rfl, _, rfl, ?_⟩
          have f := fin (betV (-4) 4 wh) H1 (Same.refl _) (by rw [if_neg z])
          show if betV (-4) 4 wh = true then _ else _
          cases y : betV (-4) 4 wh with
          | true =>
            rw [y, if_pos rfl] at f
            rw [if_pos rfl]
            exact ⟨_, rfl, m, rfl, an1 m (by simp) _ (Same.refl _), f⟩
          | false =>
            rw [y, if_neg (by decide)] at f
            rw [if_neg (by decide)]
            exact f
    · have e : (!decide (V.int (xs.length : Int) = V.int 3)) = true := by
        rw [decide_eq_false (fun z => c3 (by injection z with z; omega))]
        rfl
      rw [e]
      exact short c3 _ S1
/-- what is handed to is_row, and what is due -/
inductive Thing (K : PySem.W.Frag) (H : Hp) : V → Bool → Prop
  | tup {a : Addr} {xs : List V} : TupAt K H a xs → Thing K H (.ref a) (mkV xs)
  | short {a : Addr} {xs : List V} : SqT K H a xs → xs.length ≤ 90 → xs.length ≠ 3 → Thing K H (.ref a) false
  | other {v : V} {ty : Value} : (∀ H', Same H H' → TyX K H' v ty) → PySem.W.kitOne K ty (.type "tuple") = some false → Thing K H v false
theorem Thing.same {K : PySem.W.Frag} {H H1 : Hp} {v : V} {b : Bool} (h : Thing K H v b) (s : Same H H1) : Thing K H1 v b := by
  cases h with
  | tup t => exact .tup (t.same s)
  | short q l n => exact .short (same_seqT s q) l n
  | other f e => exact .other (fun H' q => f H' (s.trans q)) e
/-- a row of a log to be: whether makes_row is true of it, whether it is a tuple, its minute -/
structure LogEl where
  of ::
  mk : Bool
  tp : Bool
  m : Int
def minV : List V → Int
  | .int i :: _ => i
  | _ => 0
inductive El (K : PySem.W.Frag) (H : Hp) : V → LogEl → Prop
  | tup {a : Addr} {xs : List V} : TupAt K H a xs → El K H (.ref a) ⟨mkV xs, true, minV xs⟩
  | short {a : Addr} {xs : List V} : SqT K H a xs → xs.length ≤ 90 → xs.length ≠ 3 → El K H (.ref a) ⟨false, true, 0⟩
  | lst {a : Addr} {xs : List V} : SqL K H a xs → (∀ x ∈ xs, ∀ H', Same H H' → Any K H' x) → (∀ b, xs[1]? = some b → MidOk b) → El K H (.ref a) ⟨mkV xs, false, minV xs⟩
  | other {v : V} {ty : Value} : (∀ H', Same H H' → TyX K H' v ty) → PySem.W.kitAny K ty [.type "list", .type "tuple"] = some false → PySem.W.kitOne K ty (.type "tuple") = some false → El K H v ⟨false, false, 0⟩
theorem El.thing {K : PySem.W.Frag} {H : Hp} {v : V} {e : LogEl} (h : El K H v e) : Thing K H v (e.mk && e.tp) := by
  cases h with
  | tup t => rw [show (LogEl.of (mkV _) true (minV _)).mk = mkV _ from rfl, Bool.and_true]; exact .tup t
  | short q l n => exact .short q l n
  | lst q an mi => 
    rw [show (LogEl.of (mkV _) false (minV _)).tp = false from rfl, Bool.and_false]
    exact .other (ty := .type "list") (fun H' s => seqL_ty (same_seqL s q)) (kit_ty (by decide +kernel))
  | other f e1 e2 => exact .other f e2
theorem El.same {K : PySem.W.Frag} {H H1 : Hp} {v : V} {e : LogEl} (h : El K H v e) (s : Same H H1) : El K H1 v e := by
  cases h with
  | tup t => exact .tup (t.same s)
  | short q l n => exact .short (same_seqT s q) l n
  | lst q an mi => exact .lst (same_seqL s q) (fun x hx H' s' => an x hx H' (s.trans s')) mi
  | other f e1 e2 => exact .other (fun H' q => f H' (s.trans q)) e1 e2
def spIsRowV (K : PySem.W.Frag) : Sp := fun vs H Q _ => ∃ (v : V) (b : Bool), vs = [v] ∧ Thing K H v b ∧ ∀ H', Same H H' → Q (.bl b) H'
/-! ### the law's own look -/
theorem four_in (t : Str) : inV (V.str t) [V.str (Str.ofString "port"), V.str (Str.ofString "star"), V.str (Str.ofString "aport"), V.str (Str.ofString "astar")] = decide (t ∈ (["port", "star", "aport", "astar"] : List Str)) := by
  rw [Bool.eq_iff_iff]
  simp only [inV, List.any_cons, List.any_nil, Bool.or_false, eqV, Bool.or_eq_true, beq_iff_eq, decide_eq_true_eq, List.mem_cons, List.not_mem_nil, or_false]
  exact ⟨fun z => z.imp Eq.symm (Or.imp Eq.symm (Or.imp Eq.symm Eq.symm)), fun z => z.imp Eq.symm (Or.imp Eq.symm (Or.imp Eq.symm Eq.symm))⟩
theorem ok_law_is_row (T : Txt w K mg) : FnOk P w K mg base CX0 2 T.a_is_row T.d_is_row ["_law_thing"] (spIsRowV K) := by
  have G_whole := ok_whole (P := P) (base := base) T
  have G_named := ok_named (P := P) (base := base) T
  refine T.F_is_row.ok sc_is_row (fun vs H Q E h => ?_) (fun cdv A outer s H vs Q E hr h => ?_)
  · obtain ⟨v, b, rfl, _⟩ := h
    rfl
  · obtain ⟨v, b, rfl, th, k⟩ := h
    have hr_whole := hr
    have hr_named := hr
    refine ⟨_, (pss_cons (ps_if (PW.pt (pw_or (pt_not (pt_val (pe_callB (k_isi K) (by rfl) T.z_isinstance (by decide +kernel) (pa_cons (pv 0) (pa_cons (pe_bltn (v := .ty "tuple") (by rfl) T.z_tuple (by decide +kernel) rfl) pa_nil))))) (pw_or (pt_cmpR op_ne (pe_callB (k_len K) (by rfl) T.z_len (by decide +kernel) (pa_cons (pv 0) pa_nil)) pe_int (nomark _)) (pw_or1 (pt_not (pt_val (pe_call G_whole hr_whole (by rfl) T.g_whole T.F_whole.kp T.b_whole .nil pass0 (pa_cons (pe_ix (kx_tup K) (pv 0) pe_int (fun _ _ => rfl)) (pa_cons pe_int (pa_cons pe_int pa_nil)))))))))) (pss_one (ps_ret pe_bl)) pss_nil)
  (pss_cons (ps_if (pt_not (pt_val (pe_callB (k_isi K) (by rfl) T.z_isinstance (by decide +kernel) (pa_cons (pe_ix (kx_tup K) (pv 0) pe_int (fun _ _ => rfl)) (pa_cons (pe_bltn (v := .ty "str") (by rfl) T.z_str (by decide +kernel) rfl) pa_nil))))) (pss_one (ps_ret pe_bl)) pss_nil)
  (pss_cons (ps_if (pt_cmpR (k_in K) (pe_ix (kx_tup K) (pv 0) pe_int (fun _ _ => rfl)) (pe_tup (pa_cons pe_str (pa_cons pe_str pa_nil))) (by rfl)) (pss_one (ps_ret (pe_call G_named hr_named (by rfl) T.g_named T.F_named.kp T.b_named .nil pass0 (pa_cons (pe_ix (kx_tup K) (pv 0) pe_int (fun _ _ => rfl)) pa_nil)))) pss_nil)
  (pss_one (ps_ret (pe_and (pe_cmpR (k_in K) (pe_ix (kx_tup K) (pv 0) pe_int (fun _ _ => rfl)) (pe_tup (pa_cons pe_str (pa_cons pe_str (pa_cons pe_str (pa_cons pe_str pa_nil))))) (by rfl)) (pe_one (pe_call G_whole hr_whole (by rfl) T.g_whole T.F_whole.kp T.b_whole .nil pass0 (pa_cons (pe_ix (kx_tup K) (pv 0) pe_int (fun _ _ => rfl)) (pa_cons (pe_un un_neg pe_int) (pa_cons pe_int pa_nil))))))))))), ?_⟩
    cases th with
    | other f e =>
      refine ⟨_, rfl, _, _, _, _, false, rfl, ClsV.ty "tuple", f _ (Same.refl _), e, _, rfl, ?_⟩
      show if (!false) = true then _ else _
      exact k _ (Same.refl _)
    | @short a xs sq le n3 =>
      refine ⟨_, rfl, _, _, _, _, true, rfl, ClsV.ty "tuple", seqT_ty sq, kit_ty (by decide +kernel), _, rfl, ?_⟩
      show if (!true) = true then _ else _
      refine iteF ?_
      refine ⟨_, rfl, a, _, rfl, .inr sq, rfl, _, rfl, ?_⟩
      have e : (!decide (V.int (xs.length : Int) = V.int 3)) = true := by
        rw [decide_eq_false (fun z => n3 (by injection z with z; omega))]
        rfl
      rw [e]
      exact k _ (Same.refl _)
    | @tup a xs tp =>
      refine ⟨_, rfl, _, _, _, _, true, rfl, ClsV.ty "tuple", seqT_ty tp.sq, kit_ty (by decide +kernel), _, rfl, ?_⟩
      show if (!true) = true then _ else _
      refine iteF ?_
      refine ⟨_, rfl, a, _, rfl, .inr tp.sq, rfl, _, rfl, ?_⟩
      by_cases c3 : xs.length = 3
      · obtain ⟨m, l, wh, rfl⟩ : ∃ m l wh, xs = [m, l, wh] := by
          rcases xs with _ | ⟨a, _ | ⟨b, _ | ⟨c, _ | ⟨d, r⟩⟩⟩⟩
          · cases c3
          · cases c3
          · cases c3
          · exact ⟨a, b, c, rfl⟩
          · cases c3
        show if false = true then _ else _
        refine iteF ?_
        refine ⟨_, rfl, a, _, _, _, rfl, rfl, tp.sq, rfl, m, 0, 99999, rfl, tp.any m (by simp) _ (Same.refl _), ?_⟩
        refine ⟨_, rfl, ?_⟩
        show if (!betV 0 99999 m) = true then _ else _
        cases zm : betV 0 99999 m with
        | false =>
          have e : mkV [m, l, wh] = false := by
            show (lineV l && (_ && betV 0 99999 m)) = false
            rw [zm, Bool.and_false, Bool.and_false]
          rw [e] at k
          exact k _ (Same.refl _)
        | true =>
          refine iteF ?_
          obtain ⟨ty, t1, _, _, t4⟩ := (tp.any l (by simp) _ (Same.refl _)).ty
          refine ⟨_, rfl, a, _, _, _, rfl, rfl, tp.sq, rfl, _, _, _, _, _, rfl, ClsV.ty "str", t1, t4, _, rfl, ?_⟩
          show if (!isStrV l) = true then _ else _
          cases zs : isStrV l with
          | false =>
            have e : mkV [m, l, wh] = false := by
              have : lineV l = false := by
                cases l with
                | str t => cases zs
                | _ => rfl
              show (lineV l && _) = false
              rw [this]
              rfl
            rw [e] at k
            exact k _ (Same.refl _)
          | true =>
            refine iteF ?_
            obtain ⟨t, rfl⟩ : ∃ t, l = .str t := by
              cases l with
              | str t => exact ⟨t, rfl⟩
              | _ => cases zs
            have e : mkV [m, .str t, wh] = (decide (t ∈ lines6) && (if decide (t ∈ tubes) = true then nameV wh else betV (-4) 4 wh)) := by
              show (decide (t ∈ lines6) && ((if decide (t ∈ tubes) = true then nameV wh else betV (-4) 4 wh) && betV 0 99999 m)) = _
              rw [zm, Bool.and_true]
            rw [e] at k
            refine ⟨_, rfl, a, _, _, _, rfl, rfl, tp.sq, rfl, (by show 2 ≤ sizeLine; decide), fun u hu => ?_⟩
            generalize hX : upd H u _ = H1
            obtain ⟨S1, f1⟩ := alloc hu hX
            clear hX
            refine ⟨u, _, rfl, .inr (SqT.of f1), rfl, rfl, _, rfl, ?_⟩
            show if inV (V.str t) [V.str (Str.ofString "down"), V.str (Str.ofString "up")] = true then _ else _
            rw [wire_in]
            have sq1 := same_seqT S1 tp.sq
            refine ite2 (fun z => ?_) (fun z => ?_)
            · have zt := of_decide_eq_true z
              have l6 : t ∈ lines6 := (show ∀ t ∈ tubes, t ∈ lines6 by decide +kernel) t zt
              refine ⟨_, rfl, a, _, _, _, rfl, rfl, sq1, rfl, wh, rfl, tp.any wh (by simp) _ S1, fun H2 S2 => ?_⟩
              have k2 := k H2 (S1.trans S2)
              rw [decide_eq_true l6, if_pos z, Bool.true_and] at k2
              exact k2
            · have zt : t ∉ tubes := fun y => z (decide_eq_true y)
              refine ⟨_, rfl, a, _, _, _, rfl, rfl, sq1, rfl, (by show 4 ≤ sizeLine; decide), fun u2 hu2 => ?_⟩
              generalize hX : upd H1 u2 _ = H2
              obtain ⟨S2, f2⟩ := alloc hu2 hX
              clear hX
              refine ⟨u2, _, rfl, .inr (SqT.of f2), rfl, rfl, _, rfl, ?_⟩
              show if inV (V.str t) [V.str (Str.ofString "port"), V.str (Str.ofString "star"), V.str (Str.ofString "aport"), V.str (Str.ofString "astar")] = true then _ else _
              rw [four_in]
              have e4 : decide (t ∈ (["port", "star", "aport", "astar"] : List Str)) = decide (t ∈ lines6) := by
                rw [Bool.eq_iff_iff, decide_eq_true_iff, decide_eq_true_iff]
                constructor
                · exact (show ∀ t ∈ (["port", "star", "aport", "astar"] : List Str), t ∈ lines6 by decide +kernel) t
                · intro y
                  have y2 : t = "port" ∨ t = "star" ∨ t = "down" ∨ t = "aport" ∨ t = "astar" ∨ t = "up" := by simpa [lines6] using y
                  rcases y2 with q | q | q | q | q | q
                  · rw [q]; decide +kernel
                  · rw [q]; decide +kernel
                  · exact absurd (by rw [q]; decide +kernel) zt
                  · rw [q]; decide +kernel
                  · rw [q]; decide +kernel
                  · exact absurd (by rw [q]; decide +kernel) zt
              have k2 := k H2 (S1.trans S2)
              rw [if_neg z] at k2
              rw [e4]
              cases zl : decide (t ∈ lines6) with
              | true =>
                rw [zl, Bool.true_and] at k2
                rw [if_pos rfl]
                exact ⟨_, rfl, a, _, _, _, rfl, rfl, same_seqT S2 sq1, rfl, _, rfl, wh, -4, 4, rfl, tp.any wh (by simp) _ (S1.trans S2), k2⟩
              | false =>
                rw [zl, Bool.false_and] at k2
                rw [if_neg (by decide)]
                exact k2
      · have e : (!decide (V.int (xs.length : Int) = V.int 3)) = true := by
          rw [decide_eq_false (fun z => c3 (by injection z with z; omega))]
          rfl
        rw [e]
        rw [mk_ne c3] at k
        exact k _ (Same.refl _)
/-- a number or a text that is short -/
inductive Odd : V → PyData → Prop
  | int {i : Int} : i.natAbs < 2 ^ 398 → Odd (.int i) (.int i)
  | str {t : Str} : TOk 400 t → Odd (.str t) (.str t)
theorem Odd.rep {v : V} {d : PyData} (h : Odd v d) : RepOk d 0 400 := by
  cases h with
  | int h => exact (RepOk.int h).mono (Nat.le_refl _) (by decide)
  | str h => exact RepOk.tok h
theorem Odd.dp {K : PySem.W.Frag} {H : Hp} {v : V} {d : PyData} (h : Odd v d) : Dp K H v d := by
  cases h with
  | int h => exact .int _
  | str h => exact .str _
theorem Odd.any {K : PySem.W.Frag} {H : Hp} {v : V} {d : PyData} (h : Odd v d) : Any K H v := by
  cases h with
  | int h => exact .int _
  | str h => exact .str h
theorem str_odd {v : V} {d : PyData} {H : Hp} {Q : VK} (h : Odd v d) (k : ∀ t, TOk 400 t → Q (.str t) H) : rStrOf [v] H Q := by
  cases h with
  | int h => exact .inl ⟨_, rfl, Nat.lt_trans (log2_small h) (by decide), k _ ((int_tok h (by decide)).mono (by decide))⟩
  | str h => exact .inr ⟨_, rfl, k _ h⟩
/-! ### an odd part -/
/-- a short number or text -/
inductive Small : V → PyData → Prop
  | int {i : Int} : i.natAbs < 2 ^ 17 → Small (.int i) (.int i)
  | str {t : Str} : TOk 8 t → Small (.str t) (.str t)
theorem Small.odd {v : V} {d : PyData} (h : Small v d) : Odd v d := by
  cases h with
  | int h => exact .int (Nat.lt_of_lt_of_le h (Nat.pow_le_pow_right (by decide) (by decide)))
  | str h => exact .str (h.mono (by decide))
theorem Small.td {K : PySem.W.Frag} {H : Hp} {v : V} {d : PyData} (h : Small v d) : Td K H v d := by
  cases h with
  | int h => exact .int _
  | str h => exact .str _
theorem Small.rep {v : V} {d : PyData} (h : Small v d) : RepOk d 0 8 := by
  cases h with
  | int h => exact (RepOk.int (Nat.lt_of_lt_of_le h (Nat.pow_le_pow_right (by decide) (by decide)))).mono (by decide) (by decide)
  | str h => exact RepOk.tok h
theorem str_small2 {v : V} {d : PyData} {H : Hp} {Q : VK} (h : Small v d) (k : ∀ t, TOk 20 t → (∀ t0, v = .str t0 → t = t0) → Q (.str t) H) : rStrOf [v] H Q := by
  cases h with
  | int h => exact .inl ⟨_, rfl, lg_small (Nat.lt_of_lt_of_le h (by decide)), k _ ((int_tok h (by decide)).mono (by decide)) (fun _ z => nomatch z)⟩
  | str h => exact .inr ⟨_, rfl, k _ (h.mono (by decide)) (fun t0 z => by cases z; rfl)⟩
theorem str_small {v : V} {d : PyData} {H : Hp} {Q : VK} (h : Small v d) (k : ∀ t, TOk 20 t → Q (.str t) H) : rStrOf [v] H Q := by
  cases h with
  | int h => exact .inl ⟨_, rfl, lg_small (Nat.lt_of_lt_of_le h (by decide)), k _ ((int_tok h (by decide)).mono (by decide))⟩
  | str h => exact .inr ⟨_, rfl, k _ (h.mono (by decide))⟩
/-- data of a bounded size, with small dicts in it or without -/
inductive Tf (K : PySem.W.Frag) (H : Hp) (v : V) (d : PyData) (k n : Nat) : Prop
  | dp : Dp K H v d → RepOk d k n → Tf K H v d k n
  | td {a : Addr} : v = .ref a → Td K H v d → RepD d k n → Tf K H v d k n
theorem Tf.te {K : PySem.W.Frag} {H : Hp} {v : V} {d : PyData} {k n : Nat} (h : Tf K H v d k n) (hk : k ≤ 40) (hn : n ≤ 40000) : Te K H v d := by
  cases h with
  | dp h1 h2 => exact .dp h1 h2 hk hn
  | td e h1 h2 =>
    subst e
    exact .td h1 h2 hk hn
theorem Tf.mono {K : PySem.W.Frag} {H : Hp} {v : V} {d : PyData} {k n k' n' : Nat} (h : Tf K H v d k n) (hk : k ≤ k') (hn : n ≤ n') : Tf K H v d k' n' := by
  cases h with
  | dp h1 h2 => exact .dp h1 (h2.mono hk hn)
  | td e h1 h2 => exact .td e h1 (h2.mono hk hn)
/-- what was new since H0, and the tuples, are kept -/
def Kp (K : PySem.W.Frag) (H0 H H1 : Hp) : Prop := (∀ b o, H0 b = none → H b = some o → H1 b = some o) ∧ ∀ a xs, SqT K H a xs → SqT K H1 a xs
theorem Kp.same {K : PySem.W.Frag} {H0 H H1 H2 : Hp} (h : Kp K H0 H H1) (s : Same H1 H2) : Kp K H0 H H2 := ⟨fun b o h1 h2 => s _ _ (h.1 b o h1 h2), fun a xs q => same_seqT s (h.2 a xs q)⟩
/-- what odd tells: a thing of any sort, data, no text that stands in a line's place but some -/
structure OddOut (K : PySem.W.Frag) (H0 H : Hp) (x : V) (d : PyData) (ok : Prop) : Prop where
  any : ∀ H', Kp K H0 H H' → Any K H' x
  dat : ((∀ H', Kp K H0 H H' → Dp K H' x d) ∧ RepOk d 2 30) ∨ ((∀ H', Kp K H0 H H' → Td K H' x d) ∧ RepD d 2 30)
  mid : ok → MidOk x
theorem str_odd2 {v : V} {d : PyData} {H : Hp} {Q : VK} (h : Odd v d) (k : ∀ t, TOk 400 t → (∀ t0, v = .str t0 → t = t0) → Q (.str t) H) : rStrOf [v] H Q := by
  cases h with
  | int h => exact .inl ⟨_, rfl, Nat.lt_trans (log2_small h) (by decide), k _ ((int_tok h (by decide)).mono (by decide)) (fun _ z => nomatch z)⟩
  | str h => exact .inr ⟨_, rfl, k _ h (fun t0 z => by cases z; rfl)⟩
theorem odd_int {K : PySem.W.Frag} {H : Hp} {ok : Prop} {i : Int} {H0 : Hp} (h : i.natAbs < 2 ^ 398) : OddOut K H0 H (.int i) (.int i) ok :=
  ⟨fun _ _ => .int i, .inl ⟨fun _ _ => .int i, (RepOk.int h).mono (by decide) (by decide)⟩, fun _ t z => nomatch z⟩
theorem odd_str {K : PySem.W.Frag} {H : Hp} {ok : Prop} {t : Str} {H0 : Hp} (h : TOk 20 t) (m : ok → t ∈ lines6 ∨ t ∈ absent8) : OddOut K H0 H (.str t) (.str t) ok :=
  ⟨fun _ _ => .str (h.mono (by decide)), .inl ⟨fun _ _ => .str t, (RepOk.tok h).mono (by decide) (by decide)⟩, fun o t' z => by cases z; exact m o⟩
def spOddL (K : PySem.W.Frag) : Sp := fun vs H Q _ => ∃ (p c : Addr) (n : Nat) (v : V) (d : PyData), vs = [.ref p, v] ∧ PenAt H p c n ∧ Cells K H p c ∧ n ≤ 90000 ∧ Small v d ∧
  ∀ H' x e, Go K p c H (n + 1) H' → OddOut K H H' x e (∃ t, v = .str t ∧ t ∈ lines6) → Q x H'
theorem ok_odd (T : Txt w K mg) : FnOk P w K mg base CX0 2 T.a_odd T.d_odd ["_law_pen", "_law_part"] (spOddL K) := by
  have G_draw := ok_draw (P := P) (base := base) T
  refine T.F_odd.ok sc_odd (fun vs H Q E h => ?_) (fun cdv A outer s H vs Q E hr h => ?_)
  · obtain ⟨p, c, n, v, d, rfl, _⟩ := h
    rfl
  · obtain ⟨p, c, n, v, d, rfl, hp, hc, hn, od, k⟩ := h
    have hr_draw := hr
    refine ⟨_, (pss_cons (ps_set (i := 2) sc_odd.nd rfl (by first | exact Or.inl rfl | exact Or.inr rfl) (pe_lst (pa_cons pe_non (pa_cons pe_bl (pa_cons pe_bl (pa_cons (pe_un un_neg pe_int) (pa_cons pe_int (pa_cons pe_int (pa_cons (pe_un un_neg pe_int) (pa_cons pe_int (pa_cons pe_int (pa_cons (pe_op op_pow pe_int pe_int) (pa_cons pe_str (pa_cons pe_str (pa_cons pe_str (pa_cons pe_str (pa_cons pe_str (pa_cons pe_str pa_nil))))))))))))))))))
  (pss_cons (ps_set (i := 2) sc_odd.nd rfl (by first | exact Or.inl rfl | exact Or.inr rfl) (pe_op op_cat (pv 2) (pe_lst (pa_cons pe_str (pa_cons pe_str (pa_cons (pe_tup (pa_cons (pv 1) pa_nil)) (pa_cons (pe_lst (pa_cons (pv 1) pa_nil)) (pa_cons pe_dnewK (pa_cons (pe_tup pa_nil) (pa_cons (pe_lst pa_nil) (pa_cons (pe_callTy k_strOf (by rfl) T.z_str (by decide +kernel) (pa_cons (pv 1) pa_nil)) (pa_cons pe_str (pa_cons pe_str (pa_cons (pe_disp (pps_cons pe_str pe_int pps_nil) (by rfl) (by rfl) (fun z => by cases z) (by decide)) (pa_cons (pe_tup (pa_cons pe_int (pa_cons pe_str (pa_cons pe_int pa_nil)))) pa_nil)))))))))))))))
  (pss_one (ps_ret (pe_ix (kx_list K) (pv 2) (pe_call G_draw hr_draw (by rfl) T.g_draw T.F_draw.kp T.b_draw .nil pass0 (pa_cons (pv 0) (pa_cons (pe_callB (k_len K) (by rfl) T.z_len (by decide +kernel) (pa_cons (pv 2) pa_nil)) pa_nil))) (fun _ _ => rfl)))))), ?_⟩
    have g0 := Go.refl hp hc
    refine ⟨_, rfl, _, rfl, _, _, rfl, rfl, ⟨by decide, by decide, by decide⟩, (by show 16 ≤ sizeLine; decide), fun l1 hl1 => ?_⟩
    generalize hX : upd H l1 _ = H1
    obtain ⟨S1, f1⟩ := alloc hl1 hX
    clear hX
    refine ⟨_, rfl, _, rfl, (by show 1 ≤ sizeLine; decide), fun u1 hu1 => ?_⟩
    generalize hX : upd H1 u1 _ = H2
    obtain ⟨S2, f2⟩ := alloc hu1 hX
    clear hX
    refine ⟨_, rfl, (by show 1 ≤ sizeLine; decide), fun u2 hu2 => ?_⟩
    generalize hX : upd H2 u2 _ = H3
    obtain ⟨S3, f3⟩ := alloc hu2 hX
    clear hX
    intro u3 hu3
    generalize hX : upd H3 u3 _ = H4
    obtain ⟨S4, f4⟩ := alloc hu3 hX
    clear hX
    refine ⟨(by show 0 ≤ sizeLine; decide), fun u4 hu4 => ?_⟩
    generalize hX : upd H4 u4 _ = H5
    obtain ⟨S5, f5⟩ := alloc hu4 hX
    clear hX
    refine ⟨(by show 0 ≤ sizeLine; decide), fun u5 hu5 => ?_⟩
    generalize hX : upd H5 u5 _ = H6
    obtain ⟨S6, f6⟩ := alloc hu5 hX
    clear hX
    refine ⟨_, rfl, ?_⟩
    refine (show ∀ {σ : L2.St} {H : Hp} {Q : List V → Hp → Prop}, Q [] H → tNil σ H Q from fun q => q) ?_
    refine str_small2 od fun t ht tv => ?_
    intro u6 hu6
    refine ⟨upd_same, [(.inr (Str.ofString "port"), .int 1)], rfl, by show 1 ≤ 15; decide, ?_⟩
    generalize hX : upd (upd H6 u6 _) u6 _ = H7
    obtain ⟨S7, f7⟩ := owned (same_new (Same.refl _) hu6) hu6 hX
    clear hX
    refine ⟨(by show 3 ≤ sizeLine; decide), fun u7 hu7 => ?_⟩
    generalize hX : upd H7 u7 _ = H8
    obtain ⟨S8, f8⟩ := alloc hu7 hX
    clear hX
    refine ⟨(by show 12 ≤ sizeLine; decide), fun l2 hl2 => ?_⟩
    generalize hX : upd H8 l2 _ = H9
    obtain ⟨S9, f9⟩ := alloc hl2 hX
    clear hX
    have S29 := S2.trans (S3.trans (S4.trans (S5.trans (S6.trans (S7.trans (S8.trans S9))))))
    refine ⟨l1, l2, _, _, rfl, rfl, S29 _ _ f1, f9, (by show 16 + 12 ≤ sizeLine; decide), fun l3 hl3 => ?_⟩
    generalize hX : upd H9 l3 _ = H10
    obtain ⟨S10, f10⟩ := alloc hl3 hX
    clear hX
    have g10 := g0.same (S1.trans (S29.trans S10))
    have n3 := Ne.symm ((g0.same (S1.trans S29)).ne_new hl3)
    refine ⟨_, rfl, _, rfl, _, rfl, l3, _, rfl, .inl (SqL.of f10), p, c, _, _, rfl, g10.pen, g10.cel, by omega, (by show (1 : Int) ≤ ((28 : Nat) : Int); decide), (by show ((28 : Nat) : Int) < 1073741824; decide), fun H11 r g11 a11 b11 => ?_⟩
    obtain ⟨x, hx, ex⟩ := atI_lt a11 b11
    refine ⟨l3, _, _, _, rfl, rfl, g11.but.seqL n3 (SqL.of f10), ex, ?_⟩
    have go := g10.trans g11
    obtain ⟨e, oe⟩ : ∃ e, OddOut K H H11 x e (∃ t, v = .str t ∧ t ∈ lines6) := by
      have k1 : ∀ {u : Addr} {o : HO} {Ha : Hp}, Same Ha H10 → u ≠ p → Ha u = some o → H11 u = some o := fun s n f => g11.but _ _ n (s _ _ f)
      have T9 := S9.trans S10
      have T8 := S8.trans T9
      have T7 := S7.trans T8
      have T6 := S6.trans T7
      have T5 := S5.trans T6
      have T4 := S4.trans T5
      have T3 := S3.trans T4
      have np : ∀ {u : Addr} {Ha : Hp}, Same H Ha → Ha u = none → u ≠ p := fun s n => Ne.symm ((g0.same s).ne_new n)
      have U1 := S1
      have U2 := U1.trans S2
      have U3 := U2.trans S3
      have U4 := U3.trans S4
      have U5 := U4.trans S5
      have U6 := U5.trans S6
      have U7 := U6.trans S7
      have w1 := k1 T3 (np U1 hu1) f2
      have w2 := k1 T4 (np U2 hu2) f3
      have w3 := k1 T5 (np U3 hu3) f4
      have w4 := k1 T6 (np U4 hu4) f5
      have w5 := k1 T7 (np U5 hu5) f6
      have w6 := k1 T8 (np U6 hu6) f7
      have w7 := k1 T9 (np U7 hu7) f8
      have f1' := (g0.same U1).free hu1
      have f2' := (g0.same U2).free hu2
      have f3' := (g0.same U3).free hu3
      have f4' := (g0.same U4).free hu4
      have f5' := (g0.same U5).free hu5
      have f6' := (g0.same U6).free hu6
      have f7' := (g0.same U7).free hu7
      clear ex
      simp only [List.mem_append, List.mem_cons, List.not_mem_nil, or_false] at hx
      rcases hx with (z | z | z | z | z | z | z | z | z | z | z | z | z | z | z | z) | z | z | z | z | z | z | z | z | z | z | z | z <;> subst z
      · exact ⟨_, fun _ _ => .non, .inl ⟨fun _ _ => .non, RepOk.none.mono (by decide) (by decide)⟩, fun _ t z => nomatch z⟩
      · exact ⟨_, fun _ _ => .bl _, .inl ⟨fun _ _ => .bl _, (RepOk.bool _).mono (by decide) (by decide)⟩, fun _ t z => nomatch z⟩
      · exact ⟨_, fun _ _ => .bl _, .inl ⟨fun _ _ => .bl _, (RepOk.bool _).mono (by decide) (by decide)⟩, fun _ t z => nomatch z⟩
      · exact ⟨_, odd_int (by decide +kernel)⟩
      · exact ⟨_, odd_int (by decide +kernel)⟩
      · exact ⟨_, odd_int (by decide +kernel)⟩
      · exact ⟨_, odd_int (by decide +kernel)⟩
      · exact ⟨_, odd_int (by decide +kernel)⟩
      · exact ⟨_, odd_int (by decide +kernel)⟩
      · exact ⟨_, odd_int (by decide +kernel)⟩
      · exact ⟨_, odd_str ⟨by decide +kernel, by decide +kernel⟩ fun _ => by decide +kernel⟩
      · exact ⟨_, odd_str ⟨by decide +kernel, by decide +kernel⟩ fun _ => by decide +kernel⟩
      · exact ⟨_, odd_str ⟨by decide +kernel, by decide +kernel⟩ fun _ => by decide +kernel⟩
      · exact ⟨_, odd_str ⟨by decide +kernel, by decide +kernel⟩ fun _ => by decide +kernel⟩
      · exact ⟨_, odd_str ⟨by decide +kernel, by decide +kernel⟩ fun _ => by decide +kernel⟩
      · exact ⟨_, odd_str ⟨by decide +kernel, by decide +kernel⟩ fun _ => by decide +kernel⟩
      · exact ⟨_, odd_str ⟨by decide +kernel, by decide +kernel⟩ fun _ => by decide +kernel⟩
      · exact ⟨_, odd_str ⟨by decide +kernel, by decide +kernel⟩ fun _ => by decide +kernel⟩
      · exact ⟨.tuple [d], fun _ s => .tup (.base (.tup (s.1 _ _ f1' w1))), .inl ⟨fun _ s => .tup (SqT.of (s.1 _ _ f1' w1)) (.cons od.odd.dp .nil), (RepOk.tuple (k := 0) (n := 8) fun x hx => by
          have : x = d := by simpa using hx
          subst this
          exact od.rep).mono (by decide) (by show 1 * 9 ≤ 30; decide)⟩, fun _ t z => nomatch z⟩
      · exact ⟨.list [d], fun _ s => .lst (.base (.lst (s.1 _ _ f2' w2))), .inl ⟨fun _ s => .lst (SqL.of (s.1 _ _ f2' w2)) (.cons od.odd.dp .nil), (RepOk.list (k := 0) (n := 8) fun x hx => by
          have : x = d := by simpa using hx
          subst this
          exact od.rep).mono (by decide) (by show 1 * 9 ≤ 30; decide)⟩, fun _ t z => nomatch z⟩
      · exact ⟨.dict [], fun _ s => .dict (.base (.dK (s.1 _ _ f3' w3))), .inr ⟨fun _ s => .d0 (s.1 _ _ f3' w3), RepD.d0.mono (by decide) (by decide)⟩, fun _ t z => nomatch z⟩
      · exact ⟨.tuple [], fun _ s => .tup (.base (.tup (s.1 _ _ f4' w4))), .inl ⟨fun _ s => .tup (SqT.of (s.1 _ _ f4' w4)) .nil, (RepOk.tuple (k := 0) (n := 0) fun x hx => by simp at hx).mono (by decide) (by decide)⟩, fun _ t z => nomatch z⟩
      · exact ⟨.list [], fun _ s => .lst (.base (.lst (s.1 _ _ f5' w5))), .inl ⟨fun _ s => .lst (SqL.of (s.1 _ _ f5' w5)) .nil, (RepOk.list (k := 0) (n := 0) fun x hx => by simp at hx).mono (by decide) (by decide)⟩, fun _ t z => nomatch z⟩
      · exact ⟨_, odd_str ht fun ⟨t0, e0, l0⟩ => .inl (by rw [tv t0 e0]; exact l0)⟩
      · exact ⟨_, odd_str ⟨by decide +kernel, by decide +kernel⟩ fun _ => by decide +kernel⟩
      · exact ⟨_, odd_str ⟨by decide +kernel, by decide +kernel⟩ fun _ => by decide +kernel⟩
      · exact ⟨.dict [(.str "port", .int 1)], fun _ s => .dict (.base (.dK (s.1 _ _ f6' w6))), .inr ⟨fun _ s => .d1 (s.1 _ _ f6' w6) (.int 1), (RepD.d1 (k := 0) (RepD.of (RepOk.tok (k := 8) ⟨by decide +kernel, by decide +kernel⟩)) (RepD.of (RepOk.int (i := 1) (by decide +kernel)))).mono (by decide) (by decide)⟩, fun _ t z => nomatch z⟩
      · exact ⟨.tuple [.int 0, .str "port", .int 1], fun _ s => .tup (.base (.tup (s.1 _ _ f7' w7))), .inl ⟨fun _ s => .tup (SqT.of (s.1 _ _ f7' w7)) (.cons (.int _) (.cons (.str _) (.cons (.int _) .nil))), (RepOk.three (RepOk.int (i := 0) (by decide +kernel)) (RepOk.tok (k := 8) ⟨by decide +kernel, by decide +kernel⟩) (RepOk.int (i := 1) (by decide +kernel))).mono (by decide) (by decide)⟩, fun _ t z => nomatch z⟩
    exact k H11 x e (go.mono (by omega)) oe
/-! ### a row, bent -/
theorem join_tok {k : Nat} {l : List Str} (h : ∀ x ∈ l, TOk k x) : TOk (k * l.length) (Txt.join (Str.ofString "") l) := by
  rw [TL.join_eq]
  refine ⟨?_, fun c hc => ?_⟩
  · rw [str_len, codes_join0]
    induction l with
    | nil => exact Nat.zero_le _
    | cons x r ih =>
      have a := (h x (List.mem_cons_self ..)).1
      rw [str_len] at a
      have b := ih fun y hy => h y (List.mem_cons_of_mem _ hy)
      rw [List.flatMap_cons, List.length_append, List.length_cons, Nat.mul_succ]
      omega
  · rw [codes_join0] at hc
    obtain ⟨x, hx, hc⟩ := List.mem_flatMap.mp hc
    exact (h x hx).2 c hc
theorem sum_tok {k : Nat} {l : List Str} (h : ∀ x ∈ l, TOk k x) : (l.map (·.length)).sum ≤ k * l.length := by
  induction l with
  | nil => exact Nat.le_refl _
  | cons x r ih =>
    have a := (h x (List.mem_cons_self ..)).1
    have b := ih fun y hy => h y (List.mem_cons_of_mem _ hy)
    rw [List.map_cons, List.sum_cons, List.length_cons, Nat.mul_succ]
    omega
theorem small_dps {K : PySem.W.Frag} {H : Hp} {ys : List V} {ds : List PyData} (h : Paired Small ys ds) : DpAll K H ys ds ∧ TdAll K H ys ds ∧ (∀ d ∈ ds, RepOk d 2 30) ∧ ∀ y ∈ ys, ∀ H', Any K H' y := by
  induction h with
  | nil => exact ⟨.nil, .nil, (fun _ z => nomatch z), fun _ z => nomatch z⟩
  | cons a _ ih =>
    obtain ⟨i1, i2, i3, i4⟩ := ih
    refine ⟨.cons a.odd.dp i1, .cons a.td i2, fun d hd => ?_, fun y hy H' => ?_⟩
    · rcases List.mem_cons.mp hd with rfl | z
      · exact a.rep.mono (by decide) (by decide)
      · exact i3 d z
    · rcases List.mem_cons.mp hy with rfl | z
      · exact a.odd.any
      · exact i4 y z H'
theorem dp_apps {K : PySem.W.Frag} {H : Hp} {xs ys : List V} {ds es : List PyData} (h : DpAll K H xs ds) (h2 : DpAll K H ys es) : DpAll K H (xs ++ ys) (ds ++ es) := by
  induction xs generalizing ds with
  | nil => cases h; exact h2
  | cons x xs ih => cases h with | cons a b => exact .cons a (ih b)
theorem td_apps {K : PySem.W.Frag} {H : Hp} {xs ys : List V} {ds es : List PyData} (h : TdAll K H xs ds) (h2 : TdAll K H ys es) : TdAll K H (xs ++ ys) (ds ++ es) := by
  induction xs generalizing ds with
  | nil => cases h; exact h2
  | cons x xs ih => cases h with | cons a b => exact .cons a (ih b)
/-- a tuple of short parts and an odd one -/
theorem tup_one {K : PySem.W.Frag} {H : Hp} {q : Addr} {ys zs : List V} {ds es : List PyData} {x : V} {e : PyData} (sq : SqT K H q (ys ++ x :: zs)) (h1 : Paired Small ys ds) (h2 : Paired Small zs es) (ho : (Dp K H x e ∧ RepOk e 2 30) ∨ (Td K H x e ∧ RepD e 2 30)) (l : (ds ++ e :: es).length ≤ 6) : ∃ d, Tf K H (.ref q) d 5 250 := by
  obtain ⟨a1, a2, a3, _⟩ := small_dps (K := K) (H := H) h1
  obtain ⟨b1, b2, b3, _⟩ := small_dps (K := K) (H := H) h2
  have big : (ds ++ e :: es).length * (30 + 1) ≤ 250 := Nat.le_trans (Nat.mul_le_mul_right _ l) (by decide)
  rcases ho with ⟨c1, c2⟩ | ⟨c1, c2⟩
  · refine ⟨_, .dp (.tup sq (dp_apps a1 (.cons c1 b1))) ((RepOk.tuple (k := 2) (n := 30) fun d hd => ?_).mono (by decide) big)⟩
    rcases List.mem_append.mp hd with z | z
    · exact a3 d z
    · rcases List.mem_cons.mp z with rfl | z
      · exact c2
      · exact b3 d z
  · refine ⟨_, .td rfl (.tup sq (td_apps a2 (.cons c1 b2))) ((RepD.tuple (k := 2) (n := 30) fun d hd => ?_).mono (by decide) big)⟩
    rcases List.mem_append.mp hd with z | z
    · exact RepD.of (a3 d z)
    · rcases List.mem_cons.mp z with rfl | z
      · exact c2
      · exact RepD.of (b3 d z)
theorem tup_small {K : PySem.W.Frag} {H : Hp} {q : Addr} {ys : List V} {ds : List PyData} (sq : SqT K H q ys) (h1 : Paired Small ys ds) (l : ds.length ≤ 6) : ∃ d, Tf K H (.ref q) d 5 250 := by
  obtain ⟨a1, _, a3, _⟩ := small_dps (K := K) (H := H) h1
  exact ⟨_, .dp (.tup sq a1) ((RepOk.tuple (k := 2) (n := 30) a3).mono (by decide) (Nat.le_trans (Nat.mul_le_mul_right _ l) (by decide)))⟩
theorem thing_one {K : PySem.W.Frag} {H : Hp} {q : Addr} {ys zs : List V} {ds es : List PyData} {x : V} (sq : SqT K H q (ys ++ x :: zs)) (h1 : Paired Small ys ds) (h2 : Paired Small zs es) (ho : ∀ H', Same H H' → Any K H' x) (l : (ys ++ x :: zs).length ≤ 6) (mid : ∀ b, (ys ++ x :: zs)[1]? = some b → MidOk b) : ∃ e, El K H (.ref q) e := by
  obtain ⟨_, _, _, a4⟩ := small_dps (K := K) (H := H) h1
  obtain ⟨_, _, _, b4⟩ := small_dps (K := K) (H := H) h2
  refine ⟨_, .tup ⟨sq, Nat.le_trans l (by decide), fun y hy H' s => ?_, mid⟩⟩
  rcases List.mem_append.mp hy with z | z
  · exact a4 y z H'
  · rcases List.mem_cons.mp z with rfl | z
    · exact ho H' s
    · exact b4 y z H'
theorem thing_small {K : PySem.W.Frag} {H : Hp} {q : Addr} {ys : List V} {ds : List PyData} (sq : SqT K H q ys) (h1 : Paired Small ys ds) (l : ys.length ≤ 6) (mid : ∀ b, ys[1]? = some b → MidOk b) : ∃ e, El K H (.ref q) e := by
  obtain ⟨_, _, _, a4⟩ := small_dps (K := K) (H := H) h1
  exact ⟨_, .tup ⟨sq, Nat.le_trans l (by decide), fun y hy H' _ => a4 y hy H', mid⟩⟩
theorem thing_two {K : PySem.W.Frag} {H : Hp} {q : Addr} {ys : List V} {ds : List PyData} (sq : SqT K H q ys) (h1 : Paired Small ys ds) (l : ys.length ≤ 6) (n3 : ys.length ≠ 3) : ∃ e, El K H (.ref q) e := by
  obtain ⟨_, _, _, a4⟩ := small_dps (K := K) (H := H) h1
  exact ⟨_, .short sq (Nat.le_trans l (by decide)) n3⟩
theorem mid_line {l : Str} (h : l ∈ lines6) : MidOk (.str l) := fun t z => by
  cases z
  exact .inl h
theorem mid_int {i : Int} : MidOk (.int i) := fun t z => nomatch z
def spBent (K : PySem.W.Frag) : Sp := fun vs H Q _ => ∃ (p c a : Addr) (n : Nat) (r : Row), vs = [.ref p, .ref a] ∧ PenAt H p c n ∧ Cells K H p c ∧ n ≤ 80000 ∧ RowAt K H a r ∧ r.Ok ∧
  ∀ H' v, Go K p c H (n + 3) H' → (∀ H'', Kp K H H' H'' → ∃ e d, El K H'' v e ∧ Tf K H'' v d 5 250) → Q v H'
theorem ok_bent (T : Txt w K mg) : FnOk P w K mg base CX0 3 T.a_bent T.d_bent ["_law_pen", "_law_row_here"] (spBent K) := by
  have G_draw := ok_draw (P := P) (base := base) T
  have G_odd := ok_odd (P := P) (base := base) T
  refine T.F_bent.ok sc_bent (fun vs H Q E h => ?_) (fun cdv A outer s H vs Q E hr h => ?_)
  · obtain ⟨p, c, a, n, r, rfl, _⟩ := h
    rfl
  · obtain ⟨p, c, a, n, r, rfl, hp, hc, hn, row, ok, k⟩ := h
    have hr_odd := hr
    have hr_draw := hr.mono (show 1 ≤ 2 by decide)
    refine ⟨_, (pss_cons (ps_set (i := 2) sc_bent.nd rfl (by first | exact Or.inl rfl | exact Or.inr rfl) (pe_call G_draw hr_draw (by rfl) T.g_draw T.F_draw.kp T.b_draw .nil pass0 (pa_cons (pv 0) (pa_cons pe_int pa_nil))))
  (pss_cons (ps_set (i := 3) sc_bent.nd rfl (by first | exact Or.inl rfl | exact Or.inr rfl) (pe_call G_draw hr_draw (by rfl) T.g_draw T.F_draw.kp T.b_draw .nil pass0 (pa_cons (pv 0) (pa_cons pe_int pa_nil))))
  (pss_cons (ps_if (pt_cmpR op_lt (pv 2) pe_int (nomark _)) (pss_one (ps_ret (pe_op (k_catU K) (pe_op (k_catU K) (pe_slice (k_slU K) (pv 1) po_none (po_some (pv 3))) (pe_tup (pa_cons (pe_call G_odd hr_odd (by rfl) T.g_odd T.F_odd.kp T.b_odd .nil pass0 (pa_cons (pv 0) (pa_cons (pe_ix (kx_tup K) (pv 1) (pv 3) (fun _ _ => rfl)) pa_nil))) pa_nil))) (pe_slice (k_slU K) (pv 1) (po_some (pe_op op_add (pv 3) pe_int)) po_none)))) pss_nil)
  (pss_cons (ps_if (pt_cmpR op_eq (pv 2) pe_int (nomark _)) (pss_one (ps_ret (pe_op (k_catU K) (pe_slice (k_slU K) (pv 1) po_none (po_some (pv 3))) (pe_slice (k_slU K) (pv 1) (po_some (pe_op op_add (pv 3) pe_int)) po_none)))) pss_nil)
  (pss_cons (ps_if (pt_cmpR op_eq (pv 2) pe_int (nomark _)) (pss_one (ps_ret (pe_op (k_catU K) (pe_op (k_catU K) (pe_slice (k_slU K) (pv 1) po_none (po_some (pv 3))) (pe_tup (pa_cons (pe_ix (kx_tup K) (pv 1) (pv 3) (fun _ _ => rfl)) pa_nil))) (pe_slice (k_slU K) (pv 1) (po_some (pv 3)) po_none)))) pss_nil)
  (pss_cons (ps_if (pt_cmpR op_eq (pv 2) pe_int (nomark _)) (pss_one (ps_ret (pe_tup (pa_cons (pe_ix (kx_tup K) (pv 1) pe_int (fun _ _ => rfl)) (pa_cons (pe_ix (kx_list K) (pe_lst (pa_cons pe_str (pa_cons pe_str (pa_cons pe_str (pa_cons pe_str (pa_cons pe_str (pa_cons pe_str (pa_cons pe_str pa_nil)))))))) (pe_call G_draw hr_draw (by rfl) T.g_draw T.F_draw.kp T.b_draw .nil pass0 (pa_cons (pv 0) (pa_cons pe_int pa_nil))) (fun _ _ => rfl)) (pa_cons (pe_ix (kx_tup K) (pv 1) pe_int (fun _ _ => rfl)) pa_nil)))))) pss_nil)
  (pss_one (ps_ret (pe_ix (kx_list K) (pe_lst (pa_cons (pe_rev3 K (pv 1)) (pa_cons (pe_callTy (k_listOf K) (by rfl) T.z_list (by decide +kernel) (pa_cons (pv 1) pa_nil)) (pa_cons (pe_callTy (k_dictP K rfl) (by rfl) T.z_dict (by decide +kernel) (pa_cons (pe_lst (pa_cons (pe_tup (pa_cons pe_int (pa_cons (pv 1) pa_nil))) pa_nil)) pa_nil)) (pa_cons (pe_join pe_str (pe_lc (own := [("_law_part", 4)]) rfl sc_bent.nd (k_piT K (pv 1)) (blkOk_by (own := [("_law_part", 4)]) (N := ["_law_pen", "_law_row_here", "_law_way", "_law_at", "_law_part"]) (sc := defScope s_bent) (by decide +kernel)) (fun _ _ _ _ _ => (pg_name (i := 4) sc_bent.nd rfl (by first | exact Or.inl rfl | exact Or.inr rfl))) (fun _ _ _ _ _ => pts_nil) (fun _ _ _ _ _ => (pe_callTy k_strOf (by rfl) T.z_str (by decide +kernel) (pa_cons (pv 4) pa_nil))))) pa_nil))))) (pe_call G_draw hr_draw (by rfl) T.g_draw T.F_draw.kp T.b_draw .nil pass0 (pa_cons (pv 0) (pa_cons pe_int pa_nil))) (fun _ _ => rfl)))))))))), ?_⟩
    have wdS : ∃ wd, Small r.w.v wd := by
      rcases ok.wh with ⟨_, t, e, q⟩ | ⟨_, i, e, i1, i2⟩
      · exact ⟨_, by rw [e]; exact .str q⟩
      · exact ⟨_, by rw [e]; exact .int (by omega)⟩
    obtain ⟨wd, sw⟩ := wdS
    have sm : Small (.int r.m) (.int r.m) := .int (by have := ok.m0; have := ok.m1; omega)
    have sl : Small (.str r.l) (.str r.l) := .str (lines6_ok _ ok.ln)
    have mid : MidOk (.str r.l) := mid_line ok.ln
    have midw : ∀ b, b = r.w.v → (∃ i : Int, b = .int i) ∨ ∃ t, b = .str t := fun b hb => by
      rcases ok.wh with ⟨_, t, e, q⟩ | ⟨_, i, e, _⟩
      · exact .inr ⟨t, by rw [hb, e]; rfl⟩
      · exact .inl ⟨i, by rw [hb, e]; rfl⟩
    have row : SqT K H a [.int r.m, .str r.l, r.w.v] := row
    generalize r.w.v = wv at *
    refine ⟨_, rfl, p, c, _, _, rfl, hp, hc, by omega, by decide, by decide, fun H1 way g1 w0 w1 => ?_⟩
    refine ⟨_, rfl, p, c, _, _, rfl, g1.pen, g1.cel, by omega, by decide, by decide, fun H2 at_ g2 a0 a1 => ?_⟩
    have gg := g1.trans g2
    have row2 := seqT_go (seqT_go row hp g1.but) g1.pen g2.but
    clear row
    refine ⟨_, rfl, _, _, rfl, rfl, _, rfl, ite2 (fun y1 => ?_) (fun y1 => ?_)⟩
    · -- an odd part
      obtain rfl | rfl | rfl : at_ = 0 ∨ at_ = 1 ∨ at_ = 2 := by omega
      · refine ⟨_, rfl, _, rfl, _, rfl, a, _, rfl, row2, fun q1 H3 S3 sq1 => ?_⟩
        have sq1 : SqT K H3 q1 [] := sq1
        have g3 := gg.same S3
        have row3 := same_seqT S3 row2
        refine ⟨_, rfl, _, rfl, _, rfl, a, _, _, _, rfl, rfl, row3, rfl, p, c, _, _, _, rfl, g3.pen, g3.cel, by omega, sm, fun H4 x e g4 oo => ⟨(by show 1 ≤ sizeLine; decide), fun u hu => ?_⟩⟩
        generalize hX : upd H4 u _ = H5
        obtain ⟨S5, f5⟩ := alloc hu hX
        clear hX
        have g5 := (g3.trans g4).same S5
        have row5 := same_seqT S5 (seqT_go row3 g3.pen g4.but)
        refine ⟨q1, u, _, _, rfl, rfl, same_seqT S5 (seqT_go sq1 g3.pen g4.but), SqT.of f5, (by show 1 ≤ sizeLine; decide), fun q2 H6 S6 sq2 => ?_⟩
        refine ⟨_, rfl, _, rfl, _, _, rfl, rfl, _, rfl, a, _, rfl, same_seqT S6 row5, fun q3 H7 S7 sq3 => ?_⟩
        have sq3 : SqT K H7 q3 [.str r.l, wv] := sq3
        refine ⟨q2, q3, _, _, rfl, rfl, same_seqT S7 sq2, sq3, (by show 3 ≤ sizeLine; decide), fun q4 H8 S8 sq4 => ?_⟩
        have SX := S5.trans (S6.trans (S7.trans S8))
        have g8 := g5.same (S6.trans (S7.trans S8))
        have sq4 : SqT K H8 q4 ([] ++ x :: [.str r.l, wv]) := sq4
        refine k H8 _ (g8.mono (by omega)) fun H9 kp => ?_
        have kp4 : Kp K H3 H4 H9 := ⟨fun b o h1 h2 => kp.1 b o (g3.free h1) (SX _ _ h2), fun a xs q => kp.2 a xs (same_seqT SX q)⟩
        obtain ⟨d, td⟩ := tup_one (kp.2 _ _ sq4) (.nil) (.cons sl (.cons sw .nil)) (oo.dat.imp (fun z => ⟨z.1 _ kp4, z.2⟩) (fun z => ⟨z.1 _ kp4, z.2⟩)) (by simp)
        obtain ⟨b, tb⟩ := thing_one (kp.2 _ _ sq4) (.nil) (.cons sl (.cons sw .nil)) (fun H' s' => oo.any H' (kp4.same s')) (by show 3 ≤ 6; decide) (fun b hb => by
          obtain rfl := Option.some.inj hb
          exact mid)
        exact ⟨b, d, tb, td⟩
      · refine ⟨_, rfl, _, rfl, _, rfl, a, _, rfl, row2, fun q1 H3 S3 sq1 => ?_⟩
        have sq1 : SqT K H3 q1 [.int r.m] := sq1
        have g3 := gg.same S3
        have row3 := same_seqT S3 row2
        refine ⟨_, rfl, _, rfl, _, rfl, a, _, _, _, rfl, rfl, row3, rfl, p, c, _, _, _, rfl, g3.pen, g3.cel, by omega, sl, fun H4 x e g4 oo => ⟨(by show 1 ≤ sizeLine; decide), fun u hu => ?_⟩⟩
        generalize hX : upd H4 u _ = H5
        obtain ⟨S5, f5⟩ := alloc hu hX
        clear hX
        have g5 := (g3.trans g4).same S5
        have row5 := same_seqT S5 (seqT_go row3 g3.pen g4.but)
        refine ⟨q1, u, _, _, rfl, rfl, same_seqT S5 (seqT_go sq1 g3.pen g4.but), SqT.of f5, (by show 2 ≤ sizeLine; decide), fun q2 H6 S6 sq2 => ?_⟩
        refine ⟨_, rfl, _, rfl, _, _, rfl, rfl, _, rfl, a, _, rfl, same_seqT S6 row5, fun q3 H7 S7 sq3 => ?_⟩
        have sq3 : SqT K H7 q3 [wv] := sq3
        refine ⟨q2, q3, _, _, rfl, rfl, same_seqT S7 sq2, sq3, (by show 3 ≤ sizeLine; decide), fun q4 H8 S8 sq4 => ?_⟩
        have SX := S5.trans (S6.trans (S7.trans S8))
        have g8 := g5.same (S6.trans (S7.trans S8))
        have sq4 : SqT K H8 q4 ([.int r.m] ++ x :: [wv]) := sq4
        refine k H8 _ (g8.mono (by omega)) fun H9 kp => ?_
        have kp4 : Kp K H3 H4 H9 := ⟨fun b o h1 h2 => kp.1 b o (g3.free h1) (SX _ _ h2), fun a xs q => kp.2 a xs (same_seqT SX q)⟩
        obtain ⟨d, td⟩ := tup_one (kp.2 _ _ sq4) (.cons sm .nil) (.cons sw .nil) (oo.dat.imp (fun z => ⟨z.1 _ kp4, z.2⟩) (fun z => ⟨z.1 _ kp4, z.2⟩)) (by simp)
        obtain ⟨b, tb⟩ := thing_one (kp.2 _ _ sq4) (.cons sm .nil) (.cons sw .nil) (fun H' s' => oo.any H' (kp4.same s')) (by show 3 ≤ 6; decide) (fun b hb => by
          obtain rfl := Option.some.inj hb
          exact oo.mid ⟨_, rfl, ok.ln⟩)
        exact ⟨b, d, tb, td⟩
      · refine ⟨_, rfl, _, rfl, _, rfl, a, _, rfl, row2, fun q1 H3 S3 sq1 => ?_⟩
        have sq1 : SqT K H3 q1 [.int r.m, .str r.l] := sq1
        have g3 := gg.same S3
        have row3 := same_seqT S3 row2
        refine ⟨_, rfl, _, rfl, _, rfl, a, _, _, _, rfl, rfl, row3, rfl, p, c, _, _, _, rfl, g3.pen, g3.cel, by omega, sw, fun H4 x e g4 oo => ⟨(by show 1 ≤ sizeLine; decide), fun u hu => ?_⟩⟩
        generalize hX : upd H4 u _ = H5
        obtain ⟨S5, f5⟩ := alloc hu hX
        clear hX
        have g5 := (g3.trans g4).same S5
        have row5 := same_seqT S5 (seqT_go row3 g3.pen g4.but)
        refine ⟨q1, u, _, _, rfl, rfl, same_seqT S5 (seqT_go sq1 g3.pen g4.but), SqT.of f5, (by show 3 ≤ sizeLine; decide), fun q2 H6 S6 sq2 => ?_⟩
        refine ⟨_, rfl, _, rfl, _, _, rfl, rfl, _, rfl, a, _, rfl, same_seqT S6 row5, fun q3 H7 S7 sq3 => ?_⟩
        have sq3 : SqT K H7 q3 [] := sq3
        refine ⟨q2, q3, _, _, rfl, rfl, same_seqT S7 sq2, sq3, (by show 3 ≤ sizeLine; decide), fun q4 H8 S8 sq4 => ?_⟩
        have SX := S5.trans (S6.trans (S7.trans S8))
        have g8 := g5.same (S6.trans (S7.trans S8))
        have sq4 : SqT K H8 q4 ([.int r.m, .str r.l] ++ x :: []) := sq4
        refine k H8 _ (g8.mono (by omega)) fun H9 kp => ?_
        have kp4 : Kp K H3 H4 H9 := ⟨fun b o h1 h2 => kp.1 b o (g3.free h1) (SX _ _ h2), fun a xs q => kp.2 a xs (same_seqT SX q)⟩
        obtain ⟨d, td⟩ := tup_one (kp.2 _ _ sq4) (.cons sm (.cons sl .nil)) (.nil) (oo.dat.imp (fun z => ⟨z.1 _ kp4, z.2⟩) (fun z => ⟨z.1 _ kp4, z.2⟩)) (by simp)
        obtain ⟨b, tb⟩ := thing_one (kp.2 _ _ sq4) (.cons sm (.cons sl .nil)) (.nil) (fun H' s' => oo.any H' (kp4.same s')) (by show 3 ≤ 6; decide) (fun b hb => by
          obtain rfl := Option.some.inj hb
          exact mid)
        exact ⟨b, d, tb, td⟩
    refine ⟨_, rfl, rfl, _, rfl, ite2 (fun y2 => ?_) (fun y2 => ?_)⟩
    · -- a part less
      obtain rfl | rfl | rfl : at_ = 0 ∨ at_ = 1 ∨ at_ = 2 := by omega
      · refine ⟨_, rfl, _, rfl, _, rfl, a, _, rfl, row2, fun q1 H3 S3 sq1 => ?_⟩
        have sq1 : SqT K H3 q1 [] := sq1
        refine ⟨_, rfl, _, rfl, _, _, rfl, rfl, _, rfl, a, _, rfl, same_seqT S3 row2, fun q2 H4 S4 sq2 => ?_⟩
        have sq2 : SqT K H4 q2 [.str r.l, wv] := sq2
        refine ⟨q1, q2, _, _, rfl, rfl, same_seqT S4 sq1, sq2, (by show 2 ≤ sizeLine; decide), fun q3 H5 S5 sq3 => ?_⟩
        have sq3 : SqT K H5 q3 [.str r.l, wv] := sq3
        refine k H5 _ ((gg.same (S3.trans (S4.trans S5))).mono (by omega)) fun H9 kp => ?_
        obtain ⟨d, td⟩ := tup_small (kp.2 _ _ sq3) (.cons sl (.cons sw .nil)) (by simp)
        obtain ⟨b, tb⟩ := thing_two (kp.2 _ _ sq3) (.cons sl (.cons sw .nil)) (by show 2 ≤ 6; decide) (by show 2 ≠ 3; decide)
        exact ⟨b, d, tb, td⟩
      · refine ⟨_, rfl, _, rfl, _, rfl, a, _, rfl, row2, fun q1 H3 S3 sq1 => ?_⟩
        have sq1 : SqT K H3 q1 [.int r.m] := sq1
        refine ⟨_, rfl, _, rfl, _, _, rfl, rfl, _, rfl, a, _, rfl, same_seqT S3 row2, fun q2 H4 S4 sq2 => ?_⟩
        have sq2 : SqT K H4 q2 [wv] := sq2
        refine ⟨q1, q2, _, _, rfl, rfl, same_seqT S4 sq1, sq2, (by show 2 ≤ sizeLine; decide), fun q3 H5 S5 sq3 => ?_⟩
        have sq3 : SqT K H5 q3 [.int r.m, wv] := sq3
        refine k H5 _ ((gg.same (S3.trans (S4.trans S5))).mono (by omega)) fun H9 kp => ?_
        obtain ⟨d, td⟩ := tup_small (kp.2 _ _ sq3) (.cons sm (.cons sw .nil)) (by simp)
        obtain ⟨b, tb⟩ := thing_two (kp.2 _ _ sq3) (.cons sm (.cons sw .nil)) (by show 2 ≤ 6; decide) (by show 2 ≠ 3; decide)
        exact ⟨b, d, tb, td⟩
      · refine ⟨_, rfl, _, rfl, _, rfl, a, _, rfl, row2, fun q1 H3 S3 sq1 => ?_⟩
        have sq1 : SqT K H3 q1 [.int r.m, .str r.l] := sq1
        refine ⟨_, rfl, _, rfl, _, _, rfl, rfl, _, rfl, a, _, rfl, same_seqT S3 row2, fun q2 H4 S4 sq2 => ?_⟩
        have sq2 : SqT K H4 q2 [] := sq2
        refine ⟨q1, q2, _, _, rfl, rfl, same_seqT S4 sq1, sq2, (by show 2 ≤ sizeLine; decide), fun q3 H5 S5 sq3 => ?_⟩
        have sq3 : SqT K H5 q3 [.int r.m, .str r.l] := sq3
        refine k H5 _ ((gg.same (S3.trans (S4.trans S5))).mono (by omega)) fun H9 kp => ?_
        obtain ⟨d, td⟩ := tup_small (kp.2 _ _ sq3) (.cons sm (.cons sl .nil)) (by simp)
        obtain ⟨b, tb⟩ := thing_two (kp.2 _ _ sq3) (.cons sm (.cons sl .nil)) (by show 2 ≤ 6; decide) (by show 2 ≠ 3; decide)
        exact ⟨b, d, tb, td⟩
    refine ⟨_, rfl, rfl, _, rfl, ite2 (fun y3 => ?_) (fun y3 => ?_)⟩
    · -- a part twice
      obtain rfl | rfl | rfl : at_ = 0 ∨ at_ = 1 ∨ at_ = 2 := by omega
      · refine ⟨_, rfl, _, rfl, _, rfl, a, _, rfl, row2, fun q1 H3 S3 sq1 => ?_⟩
        have sq1 : SqT K H3 q1 [] := sq1
        have row3 := same_seqT S3 row2
        refine ⟨_, rfl, _, rfl, a, _, _, _, rfl, rfl, row3, rfl, (by show 1 ≤ sizeLine; decide), fun u hu => ?_⟩
        generalize hX : upd H3 u _ = H4
        obtain ⟨S4, f4⟩ := alloc hu hX
        clear hX
        refine ⟨q1, u, _, _, rfl, rfl, same_seqT S4 sq1, SqT.of f4, (by show 1 ≤ sizeLine; decide), fun q2 H5 S5 sq2 => ?_⟩
        refine ⟨_, rfl, _, rfl, _, rfl, a, _, rfl, same_seqT (S4.trans S5) row3, fun q3 H6 S6 sq3 => ?_⟩
        have sq3 : SqT K H6 q3 [.int r.m, .str r.l, wv] := sq3
        refine ⟨q2, q3, _, _, rfl, rfl, same_seqT S6 sq2, sq3, (by show 4 ≤ sizeLine; decide), fun q4 H7 S7 sq4 => ?_⟩
        have sq4 : SqT K H7 q4 [.int r.m, .int r.m, .str r.l, wv] := sq4
        refine k H7 _ ((gg.same (S3.trans (S4.trans (S5.trans (S6.trans S7))))).mono (by omega)) fun H9 kp => ?_
        obtain ⟨d, td⟩ := tup_small (kp.2 _ _ sq4) (.cons sm (.cons sm (.cons sl (.cons sw .nil)))) (by simp)
        obtain ⟨b, tb⟩ := thing_two (kp.2 _ _ sq4) (.cons sm (.cons sm (.cons sl (.cons sw .nil)))) (by show 4 ≤ 6; decide) (by show 4 ≠ 3; decide)
        exact ⟨b, d, tb, td⟩
      · refine ⟨_, rfl, _, rfl, _, rfl, a, _, rfl, row2, fun q1 H3 S3 sq1 => ?_⟩
        have sq1 : SqT K H3 q1 [.int r.m] := sq1
        have row3 := same_seqT S3 row2
        refine ⟨_, rfl, _, rfl, a, _, _, _, rfl, rfl, row3, rfl, (by show 1 ≤ sizeLine; decide), fun u hu => ?_⟩
        generalize hX : upd H3 u _ = H4
        obtain ⟨S4, f4⟩ := alloc hu hX
        clear hX
        refine ⟨q1, u, _, _, rfl, rfl, same_seqT S4 sq1, SqT.of f4, (by show 2 ≤ sizeLine; decide), fun q2 H5 S5 sq2 => ?_⟩
        refine ⟨_, rfl, _, rfl, _, rfl, a, _, rfl, same_seqT (S4.trans S5) row3, fun q3 H6 S6 sq3 => ?_⟩
        have sq3 : SqT K H6 q3 [.str r.l, wv] := sq3
        refine ⟨q2, q3, _, _, rfl, rfl, same_seqT S6 sq2, sq3, (by show 4 ≤ sizeLine; decide), fun q4 H7 S7 sq4 => ?_⟩
        have sq4 : SqT K H7 q4 [.int r.m, .str r.l, .str r.l, wv] := sq4
        refine k H7 _ ((gg.same (S3.trans (S4.trans (S5.trans (S6.trans S7))))).mono (by omega)) fun H9 kp => ?_
        obtain ⟨d, td⟩ := tup_small (kp.2 _ _ sq4) (.cons sm (.cons sl (.cons sl (.cons sw .nil)))) (by simp)
        obtain ⟨b, tb⟩ := thing_two (kp.2 _ _ sq4) (.cons sm (.cons sl (.cons sl (.cons sw .nil)))) (by show 4 ≤ 6; decide) (by show 4 ≠ 3; decide)
        exact ⟨b, d, tb, td⟩
      · refine ⟨_, rfl, _, rfl, _, rfl, a, _, rfl, row2, fun q1 H3 S3 sq1 => ?_⟩
        have sq1 : SqT K H3 q1 [.int r.m, .str r.l] := sq1
        have row3 := same_seqT S3 row2
        refine ⟨_, rfl, _, rfl, a, _, _, _, rfl, rfl, row3, rfl, (by show 1 ≤ sizeLine; decide), fun u hu => ?_⟩
        generalize hX : upd H3 u _ = H4
        obtain ⟨S4, f4⟩ := alloc hu hX
        clear hX
        refine ⟨q1, u, _, _, rfl, rfl, same_seqT S4 sq1, SqT.of f4, (by show 3 ≤ sizeLine; decide), fun q2 H5 S5 sq2 => ?_⟩
        refine ⟨_, rfl, _, rfl, _, rfl, a, _, rfl, same_seqT (S4.trans S5) row3, fun q3 H6 S6 sq3 => ?_⟩
        have sq3 : SqT K H6 q3 [wv] := sq3
        refine ⟨q2, q3, _, _, rfl, rfl, same_seqT S6 sq2, sq3, (by show 4 ≤ sizeLine; decide), fun q4 H7 S7 sq4 => ?_⟩
        have sq4 : SqT K H7 q4 [.int r.m, .str r.l, wv, wv] := sq4
        refine k H7 _ ((gg.same (S3.trans (S4.trans (S5.trans (S6.trans S7))))).mono (by omega)) fun H9 kp => ?_
        obtain ⟨d, td⟩ := tup_small (kp.2 _ _ sq4) (.cons sm (.cons sl (.cons sw (.cons sw .nil)))) (by simp)
        obtain ⟨b, tb⟩ := thing_two (kp.2 _ _ sq4) (.cons sm (.cons sl (.cons sw (.cons sw .nil)))) (by show 4 ≤ 6; decide) (by show 4 ≠ 3; decide)
        exact ⟨b, d, tb, td⟩
    refine ⟨_, rfl, rfl, _, rfl, ite2 (fun y4 => ?_) (fun y4 => ?_)⟩
    · -- another line
      refine ⟨_, rfl, a, _, _, _, rfl, rfl, row2, rfl, (by show 7 ≤ sizeLine; decide), fun l3 hl3 => ?_⟩
      generalize hX : upd H2 l3 _ = H3
      obtain ⟨S3, f3⟩ := alloc hl3 hX
      clear hX
      have g3 := gg.same S3
      have row3 := same_seqT S3 row2
      refine ⟨_, rfl, p, c, _, _, rfl, g3.pen, g3.cel, by omega, by decide, by decide, fun H4 r4 g4 a4 b4 => ?_⟩
      obtain ⟨v, hv, ev⟩ := atI_lt a4 (show r4 < (([V.str (Str.ofString "port"), V.str (Str.ofString "star"), V.str (Str.ofString "aport"), V.str (Str.ofString "astar"), V.str (Str.ofString "down"), V.str (Str.ofString "up"), V.str (Str.ofString "bell")] : List V).length : Int) from b4)
      obtain ⟨t, rfl, tk, tm⟩ : ∃ t : Str, v = V.str t ∧ TOk 8 t ∧ (t ∈ lines6 ∨ t ∈ absent8) := by
        simp only [List.mem_cons, List.not_mem_nil, or_false] at hv
        rcases hv with z | z | z | z | z | z | z <;> exact ⟨_, z, ⟨by decide +kernel, by decide +kernel⟩, by decide +kernel⟩
      have row4 := seqT_go row3 g3.pen g4.but
      refine ⟨l3, _, _, _, rfl, rfl, g4.but.seqL (Ne.symm (gg.ne_new hl3)) (SqL.of f3), ev, _, rfl, a, _, _, _, rfl, rfl, row4, rfl, (by show 3 ≤ sizeLine; decide), fun q hq => ?_⟩
      generalize hX : upd H4 q _ = H5
      obtain ⟨S5, f5⟩ := alloc hq hX
      clear hX
      have st : Small (.str t) (.str t) := .str tk
      have sq5 : SqT K H5 q [.int r.m, .str t, wv] := SqT.of f5
      have ps : Paired Small [.int r.m, .str t, wv] [.int r.m, .str t, wd] := .cons sm (.cons st (.cons sw .nil))
      refine k H5 _ (((g3.trans g4).same S5).mono (by omega)) fun H9 kp => ?_
      obtain ⟨d, td⟩ := tup_small (kp.2 _ _ sq5) ps (by simp)
      obtain ⟨b, tb⟩ := thing_small (kp.2 _ _ sq5) ps (by show 3 ≤ 6; decide) (fun b hb => by
        obtain rfl := Option.some.inj hb
        exact fun t' z => by
          cases z
          exact tm)
      exact ⟨b, d, tb, td⟩
    · -- something else
      have ps : Paired Small [.int r.m, .str r.l, wv] [.int r.m, .str r.l, wd] := .cons sm (.cons sl (.cons sw .nil))
      refine ⟨_, rfl, a, _, _, _, rfl, row2, fun q3 hq3 => ?_⟩
      generalize hX : upd H2 q3 _ = H3
      obtain ⟨S3, f3⟩ := alloc hq3 hX
      clear hX
      refine ⟨_, rfl, a, _, rfl, .inr (same_seqT S3 row2), fun q4 hq4 => ?_⟩
      generalize hX : upd H3 q4 _ = H4
      obtain ⟨S4, f4⟩ := alloc hq4 hX
      clear hX
      refine ⟨_, rfl, (by show 2 ≤ sizeLine; decide), fun q5 hq5 => ?_⟩
      generalize hX : upd H4 q5 _ = H5
      obtain ⟨S5, f5⟩ := alloc hq5 hX
      clear hX
      refine ⟨(by show 1 ≤ sizeLine; decide), fun q6 hq6 => ?_⟩
      generalize hX : upd H5 q6 _ = H6
      obtain ⟨S6, f6⟩ := alloc hq6 hX
      clear hX
      refine ⟨q6, [q5], [(.inl 0, .ref a)], rfl, SqL.of f6, .cons (SqT.of (S6 _ _ f5)) .nil, fun q7 hq7 => ?_⟩
      generalize hX : upd H6 q7 _ = H7
      obtain ⟨S7, f7⟩ := alloc hq7 hX
      clear hX
      have f7 : H7 q7 = some (.dK [(.inl 0, .ref a)]) := f7
      have S37 := S4.trans (S5.trans (S6.trans S7))
      have row7 := same_seqT (S3.trans S37) row2
      refine ⟨⟨_, rfl⟩, _, rfl, a, rfl, ⟨_, row7⟩, fun D hD => ?_⟩
      refine lc_it (walk_tup (xs := [.int r.m, .str r.l, wv])) (fun i H' => Same H7 H' ∧ ∃ ts : List Str, H' D = some (.lst (ts.map V.str)) ∧ ts.length = i ∧ ∀ t ∈ ts, TOk 20 t) ⟨same_new (Same.refl _) hD, [], upd_same, rfl, fun _ z => nomatch z⟩ (fun i H' _ q => same_seqT q.1 row7) ?_ ?_
      · rintro i x H8 H9 hi ⟨s8, ts, e8, l8, o8⟩ ⟨rfl, hx⟩
        obtain ⟨xd, sx⟩ : ∃ xd, Small x xd := by
          have := List.mem_of_getElem? hx
          simp only [List.mem_cons, List.not_mem_nil, or_false] at this
          rcases this with z | z | z
          · exact ⟨_, z ▸ sm⟩
          · exact ⟨_, z ▸ sl⟩
          · exact ⟨_, z ▸ sw⟩
        have hi : i < 3 := hi
        refine ⟨rfl, _, rfl, ?_⟩
        refine (show ∀ {σ : L2.St} {H : Hp} {Q : List V → Hp → Prop}, Q [] H → tNil σ H Q from fun q => q) ?_
        refine str_small sx fun t ht => ?_
        refine ⟨_, e8, by rw [List.length_map]; exact small1000 (by omega), same_own s8 hD, ts ++ [t], by rw [upd_same, List.map_append]; rfl, by rw [List.length_append, l8]; rfl, fun t' ht' => ?_⟩
        rcases List.mem_append.mp ht' with z | z
        · exact o8 t' z
        · rw [List.mem_singleton.mp z]
          exact ht
      rintro H8 ⟨S8, ts, e8, l8, o8⟩
      have l8 : ts.length = 3 := l8
      have jt := join_tok o8
      rw [l8] at jt
      have b0 : (Str.ofString "").length = 0 := by decide +kernel
      have sum := sum_tok o8
      refine ⟨_, D, ts, rfl, rfl, .inl (SqL.of e8), by rw [b0, l8]; omega, ?_⟩
      generalize Txt.join (Str.ofString "") ts = jtx at jt ⊢
      refine ⟨(by show 4 ≤ sizeLine; decide), fun l9 hl9 => ?_⟩
      generalize hX : upd H8 l9 _ = H9
      obtain ⟨S9, f9⟩ := alloc hl9 hX
      clear hX
      have S79 := S8.trans S9
      have g8 := gg.same (S3.trans (S37.trans S8))
      have g9 := g8.same S9
      refine ⟨_, rfl, p, c, _, _, rfl, g9.pen, g9.cel, by omega, by decide, by decide, fun H10 r10 g10 a10 b10 => ?_⟩
      obtain ⟨v, hv, ev⟩ := atI_lt a10 (show r10 < (([V.ref q3, V.ref q4, V.ref q7, V.str jtx] : List V).length : Int) from b10)
      refine ⟨l9, _, _, _, rfl, rfl, g10.but.seqL (Ne.symm (g8.ne_new hl9)) (SqL.of f9), ev, ?_⟩
      have kp : ∀ {u : Addr} {o : HO} {Ha : Hp}, Same Ha H9 → u ≠ p → Ha u = some o → H10 u = some o := fun s n f => g10.but _ _ n (s _ _ f)
      have np : ∀ {u : Addr} {Ha : Hp}, Same H2 Ha → Ha u = none → u ≠ p := fun s n => Ne.symm ((gg.same s).ne_new n)
      have w3 := kp (S37.trans S79) (np (Same.refl _) hq3) f3
      have w4 := kp ((S5.trans (S6.trans S7)).trans S79) (np S3 hq4) f4
      have w7 := kp S79 (np (S3.trans (S4.trans (S5.trans S6))) hq7) f7
      have row10 := seqT_go (same_seqT S79 row7) g9.pen g10.but
      simp only [List.mem_cons, List.not_mem_nil, or_false] at hv
      have G10 := (g9.trans g10).mono (show _ ≤ n + 3 by omega)
      have n4 : H q4 = none := (gg.same S3).free hq4
      have n7 : H q7 = none := (gg.same (S3.trans (S4.trans (S5.trans S6)))).free hq7
      rcases hv with z | z | z | z <;> subst z <;> refine k H10 _ G10 fun H11 kp => ?_
      · have sq : SqT K H11 q3 [wv, .str r.l, .int r.m] := kp.2 _ _ (SqT.of w3)
        have pr : Paired Small [wv, .str r.l, .int r.m] [wd, .str r.l, .int r.m] := .cons sw (.cons sl (.cons sm .nil))
        obtain ⟨d, td⟩ := tup_small sq pr (by simp)
        obtain ⟨b, tb⟩ := thing_small sq pr (by show 3 ≤ 6; decide) (fun b hb => by
          obtain rfl := Option.some.inj hb
          exact mid)
        exact ⟨b, d, tb, td⟩
      · have w4 : H11 q4 = some (.lst [.int r.m, .str r.l, wv]) := kp.1 _ _ n4 w4
        obtain ⟨p1, p2, p3, p4⟩ := small_dps (K := K) (H := H11) ps
        exact ⟨_, .list [.int r.m, .str r.l, wd], .lst (SqL.of w4) (fun y hy H' _ => p4 y hy H') (fun b hb => by
          obtain rfl := Option.some.inj hb
          exact mid), .dp (.lst (SqL.of w4) p1) ((RepOk.list p3).mono (by decide) (by show 3 * 31 ≤ 250; decide))⟩
      · have w7 := kp.1 _ _ n7 w7
        have row11 := kp.2 _ _ row10
        obtain ⟨p1, p2, p3, p4⟩ := small_dps (K := K) (H := H11) ps
        have ra : RepOk (.tuple [.int r.m, .str r.l, wd]) 3 93 := RepOk.tuple p3
        exact ⟨_, _, .other (ty := .type "dict") (fun H' s' => .base (.dK (s' _ _ w7))) rfl (kit_ty (by decide +kernel)), .td rfl (.d1 w7 (.tup row11 p2)) ((RepD.d1 (k := 3) (m := 0) (n := 93) ((RepD.of (RepOk.int (i := 0) (by decide +kernel))).mono (by decide) (Nat.le_refl _)) (RepD.of ra)).mono (by decide) (by decide))⟩
      · have jt4 : TOk 400 jtx := jt.mono (by decide)
        exact ⟨_, .str jtx, .other (ty := .type "str") (fun H' s' => .base (.str jtx)) rfl (kit_ty (by decide +kernel)), .dp (.str _) ((RepOk.tok jt).mono (by decide) (by decide))⟩

/-- all rows pass, and no minute falls -/
def upB (f : LogEl → Bool) : Int → List LogEl → Bool
  | _, [] => true
  | last, e :: r => f e && (!decide (e.m < last) && upB f e.m r)
theorem up_split (last : Int) : ∀ es : List LogEl, upB (fun e => e.mk && e.tp) last es = (upB LogEl.mk last es && es.all LogEl.tp)
  | [] => rfl
  | e :: r => by
    show (e.mk && e.tp && (!decide (e.m < last) && upB _ e.m r)) = (e.mk && (!decide (e.m < last) && upB _ e.m r) && (e.tp && r.all LogEl.tp))
    rw [up_split e.m r]
    cases e.mk <;> cases e.tp <;> cases decide (e.m < last) <;> simp
inductive Els (K : PySem.W.Frag) (H : Hp) : List V → List LogEl → Prop
  | nil : Els K H [] []
  | cons {v : V} {e : LogEl} {vs : List V} {es : List LogEl} : El K H v e → Els K H vs es → Els K H (v :: vs) (e :: es)
theorem Els.length {K : PySem.W.Frag} {H : Hp} {vs : List V} {es : List LogEl} (h : Els K H vs es) : vs.length = es.length := by
  induction h with
  | nil => rfl
  | cons _ _ ih => rw [List.length_cons, List.length_cons, ih]
theorem Els.same {K : PySem.W.Frag} {H H1 : Hp} {vs : List V} {es : List LogEl} (h : Els K H vs es) (s : Same H H1) : Els K H1 vs es := by
  induction h with
  | nil => exact .nil
  | cons h _ ih => exact .cons (h.same s) ih
theorem Els.get {K : PySem.W.Frag} {H : Hp} {vs : List V} {es : List LogEl} (h : Els K H vs es) : ∀ {i : Nat} {v : V}, vs[i]? = some v → ∃ e, es[i]? = some e ∧ El K H v e := by
  induction h with
  | nil => intro i v z; simp at z
  | cons h _ ih =>
    intro i v z
    cases i with
    | zero => 
      obtain rfl := Option.some.inj z
      exact ⟨_, rfl, h⟩
    | succ i => exact ih z
theorem Els.app {K : PySem.W.Frag} {H : Hp} {vs ws : List V} {es fs : List LogEl} (h : Els K H vs es) (h2 : Els K H ws fs) : Els K H (vs ++ ws) (es ++ fs) := by
  induction h with
  | nil => exact h2
  | cons h _ ih => exact .cons h ih
theorem drop_at {α : Type} {l : List α} {i : Nat} {x : α} (h : l[i]? = some x) : l.drop i = x :: l.drop (i + 1) := by
  obtain ⟨l1, g⟩ := List.getElem?_eq_some_iff.mp h
  rw [List.drop_eq_getElem_cons l1, g]
def spWrong (K : PySem.W.Frag) : Sp := fun vs H Q _ => ∃ (t : Addr) (xs : List V) (es : List LogEl), vs = [.ref t] ∧ SqT K H t xs ∧ Els K H xs es ∧
  ∀ H' v, Same H H' → ((v = V.non ∧ upB LogEl.mk 0 es = true ∧ xs.length ≤ 40) ∨ (∃ i : Int, v = .int i) ∧ ¬ (upB LogEl.mk 0 es = true ∧ xs.length ≤ 40)) → Q v H'
theorem mk_min {xs : List V} (h : mkV xs = true) : xs = [.int (minV xs), xs.getD 1 .non, xs.getD 2 .non] := by
  rcases xs with _ | ⟨a, _ | ⟨b, _ | ⟨c, _ | ⟨d, r⟩⟩⟩⟩
  · cases h
  · cases h
  · cases h
  · have : betV 0 99999 a = true := by
      have h : (lineV b && ((if tubeV b then nameV c else betV (-4) 4 c) && betV 0 99999 a)) = true := h
      rw [Bool.and_eq_true, Bool.and_eq_true] at h
      exact h.2.2
    cases a with
    | int i => rfl
    | _ => cases this
  · cases h
/-- what makes_row tells of such a row, and its minute -/
theorem El.row {K : PySem.W.Frag} {H : Hp} {v : V} {e : LogEl} (h : El K H v e) (m : e.mk = true) : ∃ (a : Addr) (b c : V), v = .ref a ∧ SqE K H a [.int e.m, b, c] := by
  cases h with
  | @tup a xs t =>
    have m : mkV xs = true := m
    exact ⟨a, xs.getD 1 .non, xs.getD 2 .non, rfl, .inr ((mk_min m) ▸ t.sq)⟩
  | short => cases m
  | @lst a xs q =>
    have m : mkV xs = true := m
    exact ⟨a, xs.getD 1 .non, xs.getD 2 .non, rfl, .inl ((mk_min m) ▸ q)⟩
  | other => cases m
theorem El.mkrow {K : PySem.W.Frag} {H : Hp} {v : V} {e : LogEl} {Q : VK} {X : XK} (h : El K H v e) (k : ∀ H', Same H H' → Q (.bl e.mk) H') : spMk K [v] H Q X := by
  cases h with
  | tup t => exact ⟨_, rfl, .inl ⟨_, _, rfl, .inr t.sq, t.any, t.mid, k⟩⟩
  | short q l n => exact ⟨_, rfl, .inr (.inl ⟨_, _, rfl, .inr q, n, k⟩)⟩
  | lst q an mi => exact ⟨_, rfl, .inl ⟨_, _, rfl, .inl q, an, mi, k⟩⟩
  | other f e1 e2 => exact ⟨_, rfl, .inr (.inr ⟨_, f, e1, k⟩)⟩
theorem ok_wrong_at (T : Txt w K mg) : FnOk P w K mg base CX0 4 T.a_wrong_at T.d_wrong_at ["rows"] (spWrong K) := by
  have G_makes_row := ok_makes_row (P := P) (base := base) T
  refine T.F_wrong_at.ok sc_wrong_at (fun vs H Q E h => ?_) (fun cdv A outer s H vs Q E hr h => ?_)
  · obtain ⟨t, xs, es, rfl, _⟩ := h
    rfl
  · obtain ⟨t, xs, es, rfl, hq, hE, k⟩ := h
    have hr_makes_row := hr
    refine ⟨_, (pss_cons (ps_set (i := 1) sc_wrong_at.nd rfl (by first | exact Or.inl rfl | exact Or.inr rfl) pe_int)
  (pss_cons (ps_for PassesOwn.never rfl (pi_enumA (by rfl) T.z_enumerate (pa_cons (pv 0) pa_nil)) (k_pgT (n := 2) K rfl (pgs_cons (pg_name (i := 2) sc_wrong_at.nd rfl (by first | exact Or.inl rfl | exact Or.inr rfl)) (pgs_cons (pg_name (i := 3) sc_wrong_at.nd rfl (by first | exact Or.inl rfl | exact Or.inr rfl)) pgs_nil))) (pss_cons (ps_if (PW.pt (pw_or (pt_cmpR op_ge (pv 2) (pe_glob (v := .int (40)) (by rfl) T.c_MOST_ROWS ⟨_, rfl⟩) (nomark _)) (pw_or (pt_not (pt_val (pe_call G_makes_row hr_makes_row (by rfl) T.g_makes_row T.F_makes_row.kp T.b_makes_row .nil pass0 (pa_cons (pv 3) pa_nil)))) (pw_or1 (pt_cmpR op_lt (pe_ix (kx_E K) (pv 3) pe_int (fun _ _ => rfl)) (pv 1) (nomark _)))))) (pss_one (ps_ret (pv 2))) pss_nil)
  (pss_one (ps_set (i := 1) sc_wrong_at.nd rfl (by first | exact Or.inl rfl | exact Or.inr rfl) (pe_ix (kx_E K) (pv 3) pe_int (fun _ _ => rfl))))))
  (pss_one (ps_ret pe_non)))), ?_⟩
    refine ⟨_, rfl, t, xs, rfl, ?_⟩
    refine .inr ⟨hq, ?_⟩
    refine for_it walk_enumT (fun i σ H' => ∃ (lat : Int) (x2 x3 : Option V), σ = [some (.ref t), some (.int lat), x2, x3] ∧ Same H H' ∧ upB LogEl.mk 0 es = upB LogEl.mk lat (es.drop i) ∧ i ≤ 40)
      ⟨0, none, none, rfl, Same.refl _, rfl, by decide⟩ (fun i σ H' _ q => by obtain ⟨_, _, _, _, s, _⟩ := q; exact same_seqT s hq) ?_ ?_
    · rintro i x σ H2 H3 hi ⟨lat, x2, x3, rfl, s2, up, i40⟩ ⟨Tq, y1, y2, rfl, hTq, rfl, e1, e3⟩
      have : y1 = V.int (i : Nat) := (Option.some.inj e1).symm
      subst this
      obtain ⟨e, he, hel⟩ := hE.get e3
      rw [drop_at he] at up
      generalize hX : upd H2 Tq _ = H4
      obtain ⟨S4, f4⟩ := alloc hTq hX
      clear hX
      refine ⟨Tq, _, rfl, SqT.of f4, rfl, _, _, rfl, _, _, rfl, rfl, ?_⟩
      refine ⟨_, rfl, _, _, rfl, rfl, _, rfl, ite2 (fun z => ?_) (fun z => ?_)⟩
      · have z' : (40 : Int) ≤ (i : Nat) := of_decide_eq_true z
        exact ⟨_, rfl, k _ _ (s2.trans S4) (.inr ⟨⟨_, rfl⟩, fun q => by have := q.2; omega⟩)⟩
      · have z' : ¬ (40 : Int) ≤ (i : Nat) := fun y => z (decide_eq_true y)
        refine ⟨_, rfl, ?_⟩
        refine (show ∀ {σ : L2.St} {H : Hp} {Q : List V → Hp → Prop}, Q [] H → tNil σ H Q from fun q => q) ?_
        refine (hel.same (s2.trans S4)).mkrow fun H5 S5 => ?_
        have s5 := (s2.trans S4).trans S5
        refine ⟨_, rfl, ?_⟩
        cases me : e.mk with
        | false =>
          show if true = true then _ else _
          refine ⟨_, rfl, k _ _ s5 (.inr ⟨⟨_, rfl⟩, fun q => ?_⟩)⟩
          have q1 := q.1
          rw [up] at q1
          have q1 : (e.mk && _) = true := q1
          rw [me] at q1
          cases q1
        | true =>
          show if false = true then _ else _
          rw [if_neg (by decide)]
          obtain ⟨a, b, c, rfl, sq⟩ := (hel.same s5).row me
          refine ⟨_, rfl, a, _, _, _, rfl, rfl, sq, rfl, _, rfl, _, _, rfl, rfl, _, rfl, ite2 (fun y => ?_) (fun y => ?_)⟩
          · refine ⟨_, rfl, k _ _ s5 (.inr ⟨⟨_, rfl⟩, fun q => ?_⟩)⟩
            have q1 := q.1
            rw [up] at q1
            have q1 : (e.mk && (!decide (e.m < lat) && _)) = true := q1
            rw [show decide (e.m < lat) = true from y, me] at q1
            cases q1
          · have y : decide (e.m < lat) = false := by simpa using y
            refine ⟨_, rfl, a, _, _, _, rfl, rfl, sq, rfl, e.m, _, _, rfl, s5, ?_, by omega⟩
            rw [up]
            show (e.mk && (!decide (e.m < lat) && _)) = _
            rw [me, y]
            rfl
    · rintro σ H2 ⟨lat, x2, x3, rfl, s2, up, i40⟩
      refine k _ _ s2 (.inl ⟨rfl, ?_, i40⟩)
      rw [up, hE.length, List.drop_length]
      rfl
def logB (es : List LogEl) : Bool := decide (es.length ≤ 40) && upB (fun e => e.mk && e.tp) 0 es
/-- what is handed to is_log, and what is due -/
inductive Book (K : PySem.W.Frag) (H : Hp) : V → Bool → Prop
  | tup {a : Addr} {xs : List V} {es : List LogEl} : SqT K H a xs → Els K H xs es → Book K H (.ref a) (logB es)
  | other {v : V} {ty : Value} : (∀ H', Same H H' → TyX K H' v ty) → PySem.W.kitOne K ty (.type "tuple") = some false → Book K H v false
theorem Book.same {K : PySem.W.Frag} {H H1 : Hp} {v : V} {b : Bool} (h : Book K H v b) (s : Same H H1) : Book K H1 v b := by
  cases h with
  | tup q e => exact .tup (same_seqT s q) (e.same s)
  | other f e => exact .other (fun H' q => f H' (s.trans q)) e
theorem El.isT {K : PySem.W.Frag} {H : Hp} {v : V} {e : LogEl} (h : El K H v e) : ∃ ty, TyX K H v ty ∧ PySem.W.kitOne K ty (.type "tuple") = some e.tp := by
  cases h with
  | tup t => exact ⟨_, seqT_ty t.sq, kit_ty (show kitB "tuple" "tuple" = some true by decide +kernel)⟩
  | short q => exact ⟨_, seqT_ty q, kit_ty (show kitB "tuple" "tuple" = some true by decide +kernel)⟩
  | lst q => exact ⟨_, seqL_ty q, kit_ty (show kitB "list" "tuple" = some false by decide +kernel)⟩
  | other f e1 e2 => exact ⟨_, f _ (Same.refl _), e2⟩
def spIsLog (K : PySem.W.Frag) : Sp := fun vs H Q _ => ∃ (v : V) (b : Bool), vs = [v] ∧ Book K H v b ∧ ∀ H', Same H H' → Q (.bl b) H'
theorem ok_is_log (T : Txt w K mg) : FnOk P w K mg base CX0 5 T.a_is_log T.d_is_log ["thing"] (spIsLog K) := by
  have G_wrong_at := ok_wrong_at (P := P) (base := base) T
  refine T.F_is_log.ok sc_is_log (fun vs H Q E h => ?_) (fun cdv A outer s H vs Q E hr h => ?_)
  · obtain ⟨v, b, rfl, _⟩ := h
    rfl
  · obtain ⟨v, b, rfl, hB, k⟩ := h
    have hr_wrong_at := hr
    refine ⟨_, (pss_cons (ps_if (PW.pt (pw_or (pt_not (pt_val (pe_callB (k_isi K) (by rfl) T.z_isinstance (by decide +kernel) (pa_cons (pv 0) (pa_cons (pe_bltn (v := .ty "tuple") (by rfl) T.z_tuple (by decide +kernel) rfl) pa_nil))))) (pw_or1 (pt_cmpR op_notN (pe_call G_wrong_at hr_wrong_at (by rfl) T.g_wrong_at T.F_wrong_at.kp T.b_wrong_at .nil pass0 (pa_cons (pv 0) pa_nil)) pe_non (nomark _))))) (pss_one (ps_ret pe_bl)) pss_nil)
  (pss_one (ps_ret (pe_callB (k_all K rfl) (by rfl) T.z_all (by decide +kernel) (pa_cons (pe_lc (own := [("row", 1)]) rfl sc_is_log.nd (k_piT K (pv 0)) (blkOk_by (own := [("row", 1)]) (N := ["thing", "row"]) (sc := defScope s_is_log) (by decide +kernel)) (fun _ _ _ _ _ => (pg_name (i := 1) sc_is_log.nd rfl (by first | exact Or.inl rfl | exact Or.inr rfl))) (fun _ _ _ _ _ => pts_nil) (fun _ _ _ _ _ => (pe_callB (k_isi K) (by rfl) T.z_isinstance (by decide +kernel) (pa_cons (pv 1) (pa_cons (pe_bltn (v := .ty "tuple") (by rfl) T.z_tuple (by decide +kernel) rfl) pa_nil))))) pa_nil))))), ?_⟩
    cases hB with
    | other f e =>
      refine ⟨_, rfl, _, _, _, _, false, rfl, ClsV.ty "tuple", f _ (Same.refl _), e, _, rfl, ?_⟩
      show if true = true then _ else _
      rw [if_pos rfl]
      exact k _ (Same.refl _)
    | @tup t xs es hT hE =>
      refine ⟨_, rfl, _, _, _, _, true, rfl, ClsV.ty "tuple", seqT_ty hT, kit_ty (by decide +kernel), _, rfl, ?_⟩
      show if false = true then _ else _
      refine ⟨_, rfl, t, xs, es, rfl, hT, hE, fun H1 v S1 hv => ?_⟩
      have el := hE.length
      rcases hv with ⟨rfl, up, fit⟩ | ⟨⟨i, rfl⟩, nofit⟩
      · refine ⟨rfl, _, rfl, ?_⟩
        show if false = true then _ else _
        refine ⟨_, rfl, t, rfl, ⟨_, same_seqT S1 hT⟩, fun D hD => ?_⟩
        refine lc_it walk_tup (fun i H' => Same H H' ∧ H' D = some (.lst (((es.take i).map LogEl.tp).map V.bl))) ⟨same_new S1 hD, upd_same⟩ (fun i H' _ q => same_seqT q.1 hT) ?_ ?_
        · rintro i x H2 H3 hi ⟨s2, e2⟩ ⟨rfl, e3⟩
          obtain ⟨e, he, hel⟩ := hE.get e3
          obtain ⟨ty, ty1, ty2⟩ := (hel.same s2).isT
          have hD0 : H D = none := by
            cases z : H D with
            | none => rfl
            | some o => rw [S1 D o z] at hD; cases hD
          refine ⟨rfl, _, rfl, _, _, _, _, e.tp, rfl, ClsV.ty "tuple", ty1, ty2, _, e2, ?_, same_own s2 hD0, ?_⟩
          · rw [List.length_map, List.length_map, List.length_take]
            exact small1000 (by omega)
          · rw [upd_same, List.take_succ, he, List.map_append, List.map_append]
            rfl
        · rintro H2 ⟨s2, e2⟩
          refine ⟨D, _, rfl, SqL.of e2, ?_⟩
          have : logB es = ((es.take xs.length).map LogEl.tp).all id := by
            rw [el, List.take_length]
            unfold logB
            rw [up_split, up, decide_eq_true (by omega), Bool.true_and, Bool.true_and, List.all_map]
            rfl
          rw [this] at k
          exact k H2 s2
      · refine ⟨rfl, _, rfl, ?_⟩
        show if true = true then _ else _
        have : logB es = false := by
          unfold logB
          rw [up_split]
          cases z : upB LogEl.mk 0 es with
          | false => simp
          | true =>
            rw [decide_eq_false (fun y => nofit ⟨z, by omega⟩)]
            rfl
        rw [this] at k
        exact k H1 S1
theorem Thing.of {K : PySem.W.Frag} {H : Hp} {v : V} {e : LogEl} (h : El K H v e) : Thing K H v (e.mk && e.tp) := h.thing
theorem El.rowT {K : PySem.W.Frag} {H : Hp} {v : V} {e : LogEl} (h : El K H v e) (m : (e.mk && e.tp) = true) : ∃ (a : Addr) (b c : V), v = .ref a ∧ SqT K H a [.int e.m, b, c] := by
  rw [Bool.and_eq_true] at m
  cases h with
  | @tup a xs t => exact ⟨a, xs.getD 1 .non, xs.getD 2 .non, rfl, (mk_min (show mkV xs = true from m.1)) ▸ t.sq⟩
  | short => cases m.1
  | lst q => cases m.2
  | other => cases m.1
theorem ok_law_is_log (T : Txt w K mg) : FnOk P w K mg base CX0 3 T.a_law_is_log T.d_law_is_log ["_law_thing"] (spIsLog K) := by
  have G_is_row := ok_law_is_row (P := P) (base := base) T
  refine T.F_law_is_log.ok sc_law_is_log (fun vs H Q E h => ?_) (fun cdv A outer s H vs Q E hr h => ?_)
  · obtain ⟨v, b, rfl, _⟩ := h
    rfl
  · obtain ⟨v, b, rfl, hB, k⟩ := h
    have hr_is_row := hr
    refine ⟨_, (pss_cons (ps_if (PW.pt (pw_or (pt_not (pt_val (pe_callB (k_isi K) (by rfl) T.z_isinstance (by decide +kernel) (pa_cons (pv 0) (pa_cons (pe_bltn (v := .ty "tuple") (by rfl) T.z_tuple (by decide +kernel) rfl) pa_nil))))) (pw_or1 (pt_cmpR op_gt (pe_callB (k_len K) (by rfl) T.z_len (by decide +kernel) (pa_cons (pv 0) pa_nil)) pe_int (nomark _))))) (pss_one (ps_ret pe_bl)) pss_nil)
  (pss_cons (ps_set (i := 1) sc_law_is_log.nd rfl (by first | exact Or.inl rfl | exact Or.inr rfl) pe_int)
  (pss_cons (ps_for PassesOwn.never rfl (k_piT K (pv 0)) (pg_name (i := 2) sc_law_is_log.nd rfl (by first | exact Or.inl rfl | exact Or.inr rfl)) (pss_cons (ps_if (PW.pt (pw_or (pt_not (pt_val (pe_call G_is_row hr_is_row (by rfl) T.g_is_row T.F_is_row.kp T.b_is_row .nil pass0 (pa_cons (pv 2) pa_nil)))) (pw_or1 (pt_cmpR op_lt (pe_ix (kx_tup K) (pv 2) pe_int (fun _ _ => rfl)) (pv 1) (nomark _))))) (pss_one (ps_ret pe_bl)) pss_nil)
  (pss_one (ps_set (i := 1) sc_law_is_log.nd rfl (by first | exact Or.inl rfl | exact Or.inr rfl) (pe_ix (kx_tup K) (pv 2) pe_int (fun _ _ => rfl))))))
  (pss_one (ps_ret pe_bl))))), ?_⟩
    cases hB with
    | other f e =>
      refine ⟨_, rfl, _, _, _, _, false, rfl, ClsV.ty "tuple", f _ (Same.refl _), e, _, rfl, ?_⟩
      show if true = true then _ else _
      rw [if_pos rfl]
      exact k _ (Same.refl _)
    | @tup t xs es hT hE =>
      have el := hE.length
      refine ⟨_, rfl, _, _, _, _, true, rfl, ClsV.ty "tuple", seqT_ty hT, kit_ty (by decide +kernel), _, rfl, ?_⟩
      show if false = true then _ else _
      refine ⟨_, rfl, t, xs, rfl, .inr hT, _, _, rfl, rfl, _, rfl, ite2 (fun z => ?_) (fun z => ?_)⟩
      · have z : (40 : Int) < (xs.length : Int) := of_decide_eq_true z
        have : logB es = false := by
          unfold logB
          rw [decide_eq_false (by omega)]
          rfl
        rw [this] at k
        exact k _ (Same.refl _)
      · have z : ¬ (40 : Int) < (xs.length : Int) := fun y => z (decide_eq_true y)
        refine ⟨_, rfl, t, rfl, ⟨_, hT⟩, ?_⟩
        refine for_it (walk_tup (xs := xs)) (fun i σ H' => ∃ (lat : Int) (x2 : Option V), σ = [some (.ref t), some (.int lat), x2] ∧ Same H H' ∧ upB (fun e => e.mk && e.tp) 0 es = upB (fun e => e.mk && e.tp) lat (es.drop i))
          ⟨0, none, rfl, Same.refl _, rfl⟩ (fun i σ H' _ q => by obtain ⟨_, _, _, s, _⟩ := q; exact same_seqT s hT) ?_ ?_
        · rintro i x σ _ H2 hi ⟨lat, x2, rfl, s2, up⟩ ⟨rfl, e3⟩
          obtain ⟨e, he, hel⟩ := hE.get e3
          rw [drop_at he] at up
          refine ⟨_, rfl, x, _, rfl, (hel.same s2).thing, fun H3 s3 => ?_⟩
          refine ⟨_, rfl, ?_⟩
          have s23 := s2.trans s3
          cases me : (e.mk && e.tp) with
          | false =>
            show if true = true then _ else _
            have : logB es = false := by
              unfold logB
              rw [up]
              show (_ && ((e.mk && e.tp) && _)) = false
              rw [me, Bool.false_and, Bool.and_false]
            rw [this] at k
            exact k _ s23
          | true =>
            show if false = true then _ else _
            obtain ⟨a, b, c, rfl, sq⟩ := (hel.same s23).rowT me
            refine ⟨_, rfl, a, _, _, _, rfl, rfl, sq, rfl, _, rfl, _, _, rfl, rfl, _, rfl, ite2 (fun y => ?_) (fun y => ?_)⟩
            · have : logB es = false := by
                unfold logB
                rw [up]
                show (_ && ((e.mk && e.tp) && (!decide (e.m < lat) && _))) = false
                rw [show decide (e.m < lat) = true from y]
                simp
              rw [this] at k
              exact k _ s23
            · have y : decide (e.m < lat) = false := by simpa using y
              refine ⟨_, rfl, a, _, _, _, rfl, rfl, sq, rfl, e.m, _, rfl, s23, ?_⟩
              rw [up]
              show ((e.mk && e.tp) && (!decide (e.m < lat) && _)) = _
              rw [me, y]
              rfl
        · rintro σ H2 ⟨lat, x2, rfl, s2, up⟩
          have : logB es = true := by
            unfold logB
            rw [up, el, List.drop_length, decide_eq_true (by omega)]
            rfl
          rw [this] at k
          exact k _ s2
/-! ### a log, spoilt -/
/-- tuples are kept -/
def Tk (K : PySem.W.Frag) (H H1 : Hp) : Prop := ∀ a xs, SqT K H a xs → SqT K H1 a xs
theorem Tk.trans {K : PySem.W.Frag} {H H1 H2 : Hp} (h : Tk K H H1) (h2 : Tk K H1 H2) : Tk K H H2 := fun a xs q => h2 a xs (h a xs q)
theorem Tk.same {K : PySem.W.Frag} {H H1 : Hp} (s : Same H H1) : Tk K H H1 := fun _ _ q => same_seqT s q
theorem Tk.go {K : PySem.W.Frag} {H0 H H1 : Hp} {p c : Addr} {n m : Nat} (h : Go K p c H0 n H) (g : Go K p c H m H1) : Tk K H H1 := fun _ _ q => seqT_go q h.pen g.but
theorem Tk.pen {K : PySem.W.Frag} {H H1 : Hp} {p c : Addr} {n m : Nat} (h : PenAt H p c n) (g : Go K p c H m H1) : Tk K H H1 := fun _ _ q => seqT_go q h g.but
/-- a tuple like a row -/
def Gw (K : PySem.W.Frag) (H : Hp) (x : V) : Prop := ∃ (a : Addr) (i : Int) (l : Str) (wv : V) (wd : PyData), x = .ref a ∧ SqT K H a [.int i, .str l, wv] ∧ i.natAbs < 2 ^ 17 ∧ l ∈ lines6 ∧ Small wv wd
theorem Gw.tk {K : PySem.W.Frag} {H H1 : Hp} {x : V} (h : Gw K H x) (t : Tk K H H1) : Gw K H1 x := by
  obtain ⟨a, i, l, wv, wd, e, sq, r⟩ := h
  exact ⟨a, i, l, wv, wd, e, t _ _ sq, r⟩
def GwS (K : PySem.W.Frag) (H : Hp) (xs : List V) : Prop := ∀ x ∈ xs, Gw K H x
theorem GwS.tk {K : PySem.W.Frag} {H H1 : Hp} {xs : List V} (h : GwS K H xs) (t : Tk K H H1) : GwS K H1 xs := fun x hx => (h x hx).tk t
theorem what_small {r : Row} (ok : r.Ok) : ∃ wd, Small r.w.v wd := by
  rcases ok.wh with ⟨_, t, e, q⟩ | ⟨_, i, e, i1, i2⟩
  · exact ⟨_, by rw [e]; exact .str q⟩
  · exact ⟨_, by rw [e]; exact .int (by omega)⟩
theorem rows_gw {K : PySem.W.Frag} {H : Hp} {as : List Addr} {rs : List Row} (h : RowsAt K H as rs) (ok : ∀ r ∈ rs, r.Ok2) : GwS K H (as.map V.ref) := fun x hx => by
  obtain ⟨a, ha, rfl⟩ := List.mem_map.mp hx
  obtain ⟨i, hi⟩ := List.mem_iff_getElem?.mp ha
  obtain ⟨r, hr, row⟩ := h.get' hi
  have o := (ok r (List.mem_of_getElem? hr)).ok
  obtain ⟨wd, sw⟩ := what_small o
  exact ⟨a, r.m, r.l, r.w.v, wd, rfl, row, by have := o.m0; have := o.m1; omega, o.ln, sw⟩
/-- what any log to be is made of -/
theorem Gw.out {K : PySem.W.Frag} {H : Hp} {x : V} (h : Gw K H x) : ∃ e d, El K H x e ∧ Dp K H x d ∧ Td K H x d ∧ RepOk d 5 250 := by
  obtain ⟨a, i, l, wv, wd, rfl, sq, hi, hl, sw⟩ := h
  have ps : Paired Small [.int i, .str l, wv] [.int i, .str l, wd] := .cons (.int hi) (.cons (.str (lines6_ok _ hl)) (.cons sw .nil))
  obtain ⟨p1, p2, p3, p4⟩ := small_dps (K := K) (H := H) ps
  exact ⟨_, _, .tup ⟨sq, by show 3 ≤ 90; decide, fun y hy H' _ => p4 y hy H', fun b hb => by
    obtain rfl := Option.some.inj hb
    exact mid_line hl⟩, .tup sq p1, .tup sq p2, (RepOk.tuple p3).mono (by decide) (by show 3 * 31 ≤ 250; decide)⟩
theorem gws_out {K : PySem.W.Frag} {H : Hp} : ∀ {xs : List V}, GwS K H xs → ∃ es ds, Els K H xs es ∧ DpAll K H xs ds ∧ TdAll K H xs ds ∧ (∀ d ∈ ds, RepOk d 5 250) ∧ ds.length = xs.length
  | [], _ => ⟨[], [], .nil, .nil, .nil, (fun _ z => nomatch z), rfl⟩
  | x :: xs, h => by
    obtain ⟨e, d, e1, e2, e3, e4⟩ := (h x (List.mem_cons_self ..)).out
    obtain ⟨es, ds, h1, h2, h3, h4, h5⟩ := gws_out (xs := xs) fun y hy => h y (List.mem_cons_of_mem _ hy)
    refine ⟨e :: es, d :: ds, .cons e1 h1, .cons e2 h2, .cons e3 h3, fun y hy => ?_, by rw [List.length_cons, List.length_cons, h5]⟩
    rcases List.mem_cons.mp hy with rfl | z
    · exact e4
    · exact h4 y z
/-- known: what is_log says of it, and its data -/
def Kn (K : PySem.W.Frag) (H : Hp) (v : V) : Prop := ∃ b d, Book K H v b ∧ Te K H v d
theorem kn_all {K : PySem.W.Frag} {H : Hp} {q : Addr} {xs : List V} (sq : SqT K H q xs) (h : GwS K H xs) (l : xs.length ≤ 150) : Kn K H (.ref q) := by
  obtain ⟨es, ds, h1, h2, h3, h4, h5⟩ := gws_out h
  refine ⟨_, _, .tup sq h1, .dp (.tup sq h2) (RepOk.tuple h4) (by decide) ?_⟩
  exact Nat.le_trans (Nat.mul_le_mul_right _ (by omega : ds.length ≤ 150)) (by decide)
theorem kn_one {K : PySem.W.Frag} {H : Hp} {q : Addr} {ys zs : List V} {x : V} (sq : SqT K H q (ys ++ x :: zs)) (h1 : GwS K H ys) (h2 : GwS K H zs) (hx : ∃ e d, El K H x e ∧ Tf K H x d 5 250) (l : ys.length + zs.length ≤ 80) : Kn K H (.ref q) := by
  obtain ⟨es, ds, a1, a2, a3, a4, a5⟩ := gws_out h1
  obtain ⟨fs, gs, b1, b2, b3, b4, b5⟩ := gws_out h2
  obtain ⟨e, d, c1, c2⟩ := hx
  have len : (ds ++ d :: gs).length ≤ 90 := by
    rw [List.length_append, List.length_cons]
    omega
  have big : (ds ++ d :: gs).length * (250 + 1) ≤ 40000 := Nat.le_trans (Nat.mul_le_mul_right _ len) (by decide)
  cases c2 with
  | dp c2 c3 =>
    refine ⟨_, _, .tup sq (a1.app (.cons c1 b1)), .dp (.tup sq (dp_apps a2 (.cons c2 b2))) (RepOk.tuple (k := 5) (n := 250) fun y hy => ?_) (by decide) big⟩
    rcases List.mem_append.mp hy with z | z
    · exact a4 y z
    · rcases List.mem_cons.mp z with rfl | z
      · exact c3
      · exact b4 y z
  | td ex c2 c3 =>
    refine ⟨_, _, .tup sq (a1.app (.cons c1 b1)), .td (.tup sq (td_apps a3 (.cons c2 b3))) (RepD.tuple (k := 5) (n := 250) fun y hy => ?_) (by decide) big⟩
    rcases List.mem_append.mp hy with z | z
    · exact RepD.of (a4 y z)
    · rcases List.mem_cons.mp z with rfl | z
      · exact c3
      · exact RepD.of (b4 y z)
theorem cut_dropN (xs : List V) (i : Int) (h : 0 ≤ i) : cutV xs (some i) none = xs.drop i.toNat := by
  obtain ⟨n, rfl⟩ := Int.eq_ofNat_of_zero_le h
  exact cut_drop xs n
theorem cut_takeN (xs : List V) (i : Int) (h : 0 ≤ i) (h2 : i ≤ xs.length) : cutV xs none (some i) = xs.take i.toNat := by
  obtain ⟨n, rfl⟩ := Int.eq_ofNat_of_zero_le h
  exact cut_take xs n (by omega)
theorem cut_sub (xs : List V) (lo hi : Option Int) : ∀ x ∈ cutV xs lo hi, x ∈ xs := fun x hx => by
  unfold cutV at hx
  exact List.mem_of_mem_drop (List.mem_of_mem_take hx)
theorem cut_len (xs : List V) (lo hi : Option Int) : (cutV xs lo hi).length ≤ xs.length := by
  unfold cutV
  rw [List.length_take, List.length_drop]
  omega
theorem gws_app {K : PySem.W.Frag} {H : Hp} {xs ys : List V} (h : GwS K H xs) (h2 : GwS K H ys) : GwS K H (xs ++ ys) := fun x hx => (List.mem_append.mp hx).elim (h x) (h2 x)
theorem gws_cut {K : PySem.W.Frag} {H : Hp} {xs : List V} (h : GwS K H xs) (lo hi : Option Int) : GwS K H (cutV xs lo hi) := fun x hx => h x (cut_sub xs lo hi x hx)
theorem gws_one {K : PySem.W.Frag} {H : Hp} {x : V} (h : Gw K H x) : GwS K H [x] := fun y hy => by rw [List.mem_singleton.mp hy]; exact h
theorem iteA {c : Bool} {A B : Prop} (h : A) (h2 : A → B) : if c = true then A else B := by
  cases c with
  | true => exact h
  | false => exact h2 h
theorem rep_flat {α : Type} (x : α) : ∀ n : Nat, (List.replicate n [x]).flatten = List.replicate n x
  | 0 => rfl
  | n + 1 => by
    rw [List.replicate_succ, List.replicate_succ, List.flatten_cons, rep_flat x n]
    rfl
def spSpoilt (K : PySem.W.Frag) : Sp := fun vs H Q _ => ∃ (p c t : Addr) (n : Nat) (as : List Addr) (rs : List Row), vs = [.ref p, .ref t] ∧ PenAt H p c n ∧ Cells K H p c ∧ n ≤ 70000 ∧ SqT K H t (as.map V.ref) ∧ RowsAt K H as rs ∧ rs.length ≤ 40 ∧ (∀ r ∈ rs, r.Ok2) ∧
  ∀ H' v, Go K p c H (n + 6) H' → (∀ H'', Kp K H H' H'' → Kn K H'' v) → Q v H'
theorem ok_spoilt (T : Txt w K mg) : FnOk P w K mg base CX0 4 T.a_spoilt T.d_spoilt ["_law_pen", "_law_log_here"] (spSpoilt K) := by
  have G_draw := ok_draw (P := P) (base := base) T
  have G_bent := ok_bent (P := P) (base := base) T
  refine T.F_spoilt.ok sc_spoilt (fun vs H Q E h => ?_) (fun cdv A outer s H vs Q E hr h => ?_)
  · obtain ⟨p, c, t, n, as, rs, rfl, _⟩ := h
    rfl
  · obtain ⟨p, c, t, n, as, rs, rfl, hp, hc, hn, hT, hR, l40, oks, k⟩ := h
    have hr_bent := hr
    have hr_draw := hr.mono (show 1 ≤ 3 by decide)
    refine ⟨_, (pss_cons (ps_set (i := 2) sc_spoilt.nd rfl (by first | exact Or.inl rfl | exact Or.inr rfl) (pe_call G_draw hr_draw (by rfl) T.g_draw T.F_draw.kp T.b_draw .nil pass0 (pa_cons (pv 0) (pa_cons pe_int pa_nil))))
  (pss_cons (ps_set (i := 3) sc_spoilt.nd rfl (by first | exact Or.inl rfl | exact Or.inr rfl) (pe_call G_draw hr_draw (by rfl) T.g_draw T.F_draw.kp T.b_draw .nil pass0 (pa_cons (pv 0) (pa_cons (pe_op op_add (pe_callB (k_len K) (by rfl) T.z_len (by decide +kernel) (pa_cons (pv 1) pa_nil)) pe_int) pa_nil))))
  (pss_cons (ps_if (pt_cmpR op_eq (pv 2) pe_int (nomark _)) (pss_cons (ps_set (i := 4) sc_spoilt.nd rfl (by first | exact Or.inl rfl | exact Or.inr rfl) (pe_lst (pa_cons (pe_callTy (k_listOf K) (by rfl) T.z_list (by decide +kernel) (pa_cons (pv 1) pa_nil)) (pa_cons pe_non (pa_cons pe_str (pa_cons pe_dnewK (pa_cons (pe_op (k_catU K) (pv 1) (pe_tup (pa_cons pe_non pa_nil))) (pa_cons (pe_tup (pa_cons (pv 1) pa_nil)) (pa_cons (pe_revU K (pv 1)) (pa_cons pe_int (pa_cons pe_bl (pa_cons (pe_callTy (k_dictP K rfl) (by rfl) T.z_dict (by decide +kernel) (pa_cons (pe_lst (pa_cons (pe_tup (pa_cons pe_int (pa_cons (pv 1) pa_nil))) pa_nil)) pa_nil)) pa_nil))))))))))))
  (pss_one (ps_ret (pe_ix (kx_list K) (pv 4) (pe_call G_draw hr_draw (by rfl) T.g_draw T.F_draw.kp T.b_draw .nil pass0 (pa_cons (pv 0) (pa_cons pe_int pa_nil))) (fun _ _ => rfl))))) pss_nil)
  (pss_cons (ps_if (PW.pt (pw_or (pt_cmpR op_eq (pv 2) pe_int (nomark _)) (pw_or1 (pt_cmpR op_eq (pv 3) (pe_callB (k_len K) (by rfl) T.z_len (by decide +kernel) (pa_cons (pv 1) pa_nil)) (nomark _))))) (pss_one (ps_ret (pe_op (k_catU K) (pe_op (k_catU K) (pe_slice (k_slU K) (pv 1) po_none (po_some (pv 3))) (pe_tup (pa_cons (pe_tup (pa_cons (pe_call G_draw hr_draw (by rfl) T.g_draw T.F_draw.kp T.b_draw .nil pass0 (pa_cons (pv 0) (pa_cons pe_int pa_nil))) (pa_cons pe_str (pa_cons pe_int pa_nil)))) pa_nil))) (pe_slice (k_slU K) (pv 1) (po_some (pv 3)) po_none)))) pss_nil)
  (pss_cons (ps_set (i := 5) sc_spoilt.nd rfl (by first | exact Or.inl rfl | exact Or.inr rfl) (pe_ix (kx_tup K) (pv 1) (pv 3) (fun _ _ => rfl)))
  (pss_cons (ps_if (pt_cmpR op_lt (pv 2) pe_int (nomark _)) (pss_one (ps_ret (pe_op (k_catU K) (pe_op (k_catU K) (pe_slice (k_slU K) (pv 1) po_none (po_some (pv 3))) (pe_tup (pa_cons (pe_call G_bent hr_bent (by rfl) T.g_bent T.F_bent.kp T.b_bent .nil pass0 (pa_cons (pv 0) (pa_cons (pv 5) pa_nil))) pa_nil))) (pe_slice (k_slU K) (pv 1) (po_some (pe_op op_add (pv 3) pe_int)) po_none)))) pss_nil)
  (pss_cons (ps_if (pt_cmpR op_eq (pv 2) pe_int (nomark _)) (pss_one (ps_ret (pe_op (k_catU K) (pe_op (k_catU K) (pe_slice (k_slU K) (pv 1) po_none (po_some (pv 3))) (pe_tup (pa_cons (pe_op (k_catU K) (pe_tup (pa_cons (pe_op op_sub (pe_ix (kx_tup K) (pv 5) pe_int (fun _ _ => rfl)) pe_int) pa_nil)) (pe_slice (k_slU K) (pv 5) (po_some pe_int) po_none)) pa_nil))) (pe_slice (k_slU K) (pv 1) (po_some (pe_op op_add (pv 3) pe_int)) po_none)))) pss_nil)
  (pss_cons (ps_if (pt_cmpR op_eq (pv 2) pe_int (nomark _)) (pss_one (ps_ret (pe_op (k_catU K) (pe_op (k_catU K) (pe_slice (k_slU K) (pv 1) po_none (po_some (pv 3))) (pe_revU K (pe_slice (k_slU K) (pv 1) (po_some (pv 3)) (po_some (pe_op op_add (pv 3) pe_int))))) (pe_slice (k_slU K) (pv 1) (po_some (pe_op op_add (pv 3) pe_int)) po_none)))) pss_nil)
  (pss_cons (ps_if (pt_cmpR op_eq (pv 2) pe_int (nomark _)) (pss_one (ps_ret (pe_op (k_catU K) (pe_op (k_catU K) (pe_slice (k_slU K) (pv 1) po_none (po_some (pv 3))) (pe_op (k_repU K) (pe_tup (pa_cons (pv 5) pa_nil)) (pe_op op_add pe_int (pe_call G_draw hr_draw (by rfl) T.g_draw T.F_draw.kp T.b_draw .nil pass0 (pa_cons (pv 0) (pa_cons pe_int pa_nil)))))) (pe_slice (k_slU K) (pv 1) (po_some (pv 3)) po_none)))) pss_nil)
  (pss_one (ps_ret (pe_op (k_catU K) (pe_op (k_catU K) (pe_slice (k_slU K) (pv 1) po_none (po_some (pv 3))) (pe_tup (pa_cons (pe_ix (kx_tup K) (pv 1) (pe_call G_draw hr_draw (by rfl) T.g_draw T.F_draw.kp T.b_draw .nil pass0 (pa_cons (pv 0) (pa_cons (pe_callB (k_len K) (by rfl) T.z_len (by decide +kernel) (pa_cons (pv 1) pa_nil)) pa_nil))) (fun _ _ => rfl)) pa_nil))) (pe_slice (k_slU K) (pv 1) (po_some (pe_op op_add (pv 3) pe_int)) po_none))))))))))))), ?_⟩
    have len := hR.length
    have gws := rows_gw hR oks
    have rowOf : ∀ x ∈ as.map V.ref, ∃ a r, x = .ref a ∧ RowAt K H a r ∧ r.Ok := fun x hx => by
      obtain ⟨a, ha, rfl⟩ := List.mem_map.mp hx
      obtain ⟨i, hi⟩ := List.mem_iff_getElem?.mp ha
      obtain ⟨r, hr, row⟩ := hR.get' hi
      exact ⟨a, r, rfl, row, (oks r (List.mem_of_getElem? hr)).ok⟩
    have lx : (as.map V.ref).length ≤ 40 := by rw [List.length_map]; omega
    clear hR
    generalize as.map V.ref = xs at *
    refine ⟨_, rfl, p, c, _, _, rfl, hp, hc, by omega, by decide, by decide, fun H1 way g1 w0 w1 => ?_⟩
    have t1 : Tk K H H1 := .pen hp g1
    refine ⟨_, rfl, _, rfl, t, _, rfl, .inr (t1 _ _ hT), _, _, rfl, rfl, p, c, _, _, rfl, g1.pen, g1.cel, by omega, by omega, by omega, fun H2 at_ g2 a0 a1 => ?_⟩
    have gg := g1.trans g2
    have t2 : Tk K H H2 := .pen hp gg
    have T2 := t2 _ _ hT
    have cl := cut_len xs
    have sz : ∀ n : Nat, n ≤ 200 → n ≤ sizeLine := fun n h => Nat.le_trans h (by decide)
    refine ⟨_, rfl, rfl, _, rfl, ite2 (fun y1 => ?_) (fun y1 => ?_)⟩
    · -- something else
      refine ⟨_, rfl, t, _, rfl, .inr T2, fun u1 hu1 => ?_⟩
      generalize hX : upd H2 u1 _ = H3
      obtain ⟨S3, f3⟩ := alloc hu1 hX
      clear hX
      intro u2 hu2
      generalize hX : upd H3 u2 _ = H4
      obtain ⟨S4, f4⟩ := alloc hu2 hX
      clear hX
      refine ⟨_, rfl, (by show 1 ≤ sizeLine; decide), fun u3 hu3 => ?_⟩
      generalize hX : upd H4 u3 _ = H5
      obtain ⟨S5, f5⟩ := alloc hu3 hX
      clear hX
      have S25 := S3.trans (S4.trans S5)
      refine ⟨t, u3, _, _, rfl, rfl, same_seqT S25 T2, SqT.of f5, sz _ (by show _ + 1 ≤ 200; omega), fun q4 H6 S6 sq4 => ?_⟩
      refine ⟨_, rfl, (by show 1 ≤ sizeLine; decide), fun u5 hu5 => ?_⟩
      generalize hX : upd H6 u5 _ = H7
      obtain ⟨S7, f7⟩ := alloc hu5 hX
      clear hX
      have S27 := S25.trans (S6.trans S7)
      refine ⟨_, rfl, t, _, rfl, same_seqT S27 T2, fun u6 hu6 => ?_⟩
      generalize hX : upd H7 u6 _ = H8
      obtain ⟨S8, f8⟩ := alloc hu6 hX
      clear hX
      refine ⟨_, rfl, (by show 2 ≤ sizeLine; decide), fun u7 hu7 => ?_⟩
      generalize hX : upd H8 u7 _ = H9
      obtain ⟨S9, f9⟩ := alloc hu7 hX
      clear hX
      refine ⟨(by show 1 ≤ sizeLine; decide), fun u8 hu8 => ?_⟩
      generalize hX : upd H9 u8 _ = H10
      obtain ⟨S10, f10⟩ := alloc hu8 hX
      clear hX
      refine ⟨u8, [u7], [(.inl 0, .ref t)], rfl, SqL.of f10, .cons (SqT.of (S10 _ _ f9)) .nil, fun u9 hu9 => ?_⟩
      generalize hX : upd H10 u9 _ = H11
      obtain ⟨S11, f11⟩ := alloc hu9 hX
      clear hX
      have f11 : H11 u9 = some (.dK [(.inl 0, .ref t)]) := f11
      refine ⟨(by show 10 ≤ sizeLine; decide), fun L hL => ?_⟩
      generalize hX : upd H11 L _ = H12
      obtain ⟨S12, f12⟩ := alloc hL hX
      clear hX
      have s11 := S12
      have s10 := S11.trans s11
      have s9 := S10.trans s10
      have s8 := S9.trans s9
      have s7 := S8.trans s8
      have s6 := S7.trans s7
      have s5 := S6.trans s6
      have s4 := S5.trans s5
      have s3 := S4.trans s4
      have s2 := S3.trans s3
      have g12 := gg.same s2
      refine ⟨_, rfl, _, rfl, p, c, _, _, rfl, g12.pen, g12.cel, by omega, by decide, by decide, fun H13 j g13 b0 b1 => ?_⟩
      obtain ⟨v, hv, ev⟩ := atI_lt b0 (show j < (([V.ref u1, V.non, V.str (Str.ofString ""), V.ref u2, V.ref q4, V.ref u5, V.ref u6, V.int 7, V.bl true, V.ref u9] : List V).length : Int) from b1)
      refine ⟨L, _, _, _, rfl, rfl, g13.but.seqL (Ne.symm ((gg.same (S3.trans (S4.trans (S5.trans (S6.trans (S7.trans (S8.trans (S9.trans (S10.trans S11))))))))).ne_new hL)) (SqL.of f12), ev, ?_⟩
      refine k H13 _ ((g12.trans g13).mono (by omega)) fun H14 kp => ?_
      have t13 : Tk K H12 H14 := (Tk.go g12 g13).trans kp.2
      have gx : GwS K H14 xs := gws.tk (t2.trans ((Tk.same s2).trans t13))
      have TX : SqT K H14 t xs := t13 _ _ (same_seqT s2 T2)
      have kc : ∀ {u : Addr} {o : HO} {Ha Hb : Hp}, Same H2 Ha → Ha u = none → Hb u = some o → Same Hb H12 → H14 u = some o := fun sa n f s => kp.1 _ _ ((gg.same sa).free n) (g13.but _ _ (Ne.symm ((gg.same sa).ne_new n)) (s _ _ f))
      have w1 := kc (Same.refl _) hu1 f3 s3
      have w2 := kc S3 hu2 f4 s4
      have w9 := kc ((S3.trans (S4.trans (S5.trans (S6.trans (S7.trans (S8.trans (S9.trans S10))))))) ) hu9 f11 s11
      have W4 : SqT K H14 q4 (xs ++ [V.non]) := t13 _ _ (same_seqT s6 sq4)
      have W5 : SqT K H14 u5 [V.ref t] := t13 _ _ (same_seqT s7 (SqT.of f7))
      have W6 : SqT K H14 u6 xs.reverse := t13 _ _ (same_seqT s8 (SqT.of f8))
      obtain ⟨es, ds, o1, o2, o3, o4, o5⟩ := gws_out gx
      have big : ds.length * (250 + 1) ≤ 11000 := Nat.le_trans (Nat.mul_le_mul_right _ (by omega : ds.length ≤ 40)) (by decide)
      have rl : RepOk (.tuple ds) 6 11000 := (RepOk.tuple o4).mono (Nat.le_refl _) big
      have anyx : ∀ x ∈ xs, ∀ H', Any K H' x → True := fun _ _ _ _ => trivial
      simp only [List.mem_cons, List.not_mem_nil, or_false] at hv
      rcases hv with z | z | z | z | z | z | z | z | z | z <;> subst z
      · exact ⟨_, _, .other (ty := .type "list") (fun H' s' => .base (.lst (s' _ _ w1))) (kit_ty (by decide +kernel)), .dp (.lst (SqL.of w1) o2) (RepOk.list o4) (by decide) (Nat.le_trans big (by decide))⟩
      · exact ⟨_, _, .other (fun _ _ => .base .non) (kit_ty (by decide +kernel)), .dp .non RepOk.none (by decide) (by decide)⟩
      · exact ⟨_, _, .other (fun _ _ => .base (.str _)) (kit_ty (by decide +kernel)), .dp (.str _) (RepOk.tok (k := 8) ⟨by decide +kernel, by decide +kernel⟩) (by decide) (by decide)⟩
      · exact ⟨_, _, .other (ty := .type "dict") (fun H' s' => .base (.dK (s' _ _ w2))) (kit_ty (by decide +kernel)), .td (.d0 w2) RepD.d0 (by decide) (by decide)⟩
      · exact kn_one (zs := []) W4 gx (fun _ z => nomatch z) ⟨_, _, .other (fun _ _ => .base .non) rfl (kit_ty (by decide +kernel)), .dp .non (RepOk.none.mono (by decide) (by decide))⟩ (by show _ + 0 ≤ 80; omega)
      · have el : ∃ e, El K H14 (.ref t) e := ⟨_, .tup ⟨TX, by omega, fun x hx H' s' => by
          obtain ⟨a, _, _, _, _, e, sq, _⟩ := gx x hx
          rw [e]
          exact .tup (seqT_ty (same_seqT s' sq)), fun b hb => by
          obtain ⟨a, _, _, _, _, e, _⟩ := gx b (List.mem_of_getElem? hb)
          rw [e]
          exact fun t' z => nomatch z⟩⟩
        obtain ⟨e, el⟩ := el
        exact ⟨_, _, .tup W5 (.cons el .nil), .dp (.tup W5 (.cons (.tup TX o2) .nil)) (RepOk.tuple (k := 6) (n := 11000) fun d hd => by rw [List.mem_singleton.mp hd]; exact rl) (by decide) (by show 1 * (11000 + 1) ≤ 40000; decide)⟩
      · exact kn_all W6 (fun y hy => gx y (List.mem_reverse.mp hy)) (by rw [List.length_reverse]; omega)
      · exact ⟨_, _, .other (fun _ _ => .base (.int 7)) (kit_ty (by decide +kernel)), .dp (.int 7) (RepOk.int (by decide +kernel)) (by decide) (by decide)⟩
      · exact ⟨_, _, .other (fun _ _ => .base (.bl true)) (kit_ty (by decide +kernel)), .dp (.bl true) (RepOk.bool true) (by decide) (by decide)⟩
      · exact ⟨_, _, .other (ty := .type "dict") (fun H' s' => .base (.dK (s' _ _ w9))) (kit_ty (by decide +kernel)), .td (.d1 w9 (.tup TX o3)) (RepD.d1 (k := 6) (m := 0) (n := 11000) ((RepD.of (RepOk.int (i := 0) (by decide +kernel))).mono (by decide) (Nat.le_refl _)) (RepD.of rl)) (by decide) (by decide)⟩
    refine ⟨_, rfl, rfl, _, rfl, iteA ?_ fun body => ?_⟩
    · -- a row more
      refine ⟨_, rfl, _, rfl, _, rfl, t, _, rfl, T2, fun q1 H3 S3 sq1 => ?_⟩
      have g3 := gg.same S3
      refine ⟨_, rfl, p, c, _, _, rfl, g3.pen, g3.cel, by omega, by decide, by decide, fun H4 r g4 b0 b1 => ⟨(by show 3 ≤ sizeLine; decide), fun u hu => ?_⟩⟩
      have g34 := g3.trans g4
      generalize hX : upd H4 u _ = H5
      obtain ⟨S5, f5⟩ := alloc hu hX
      clear hX
      refine ⟨(by show 1 ≤ sizeLine; decide), fun u2 hu2 => ?_⟩
      generalize hX : upd H5 u2 _ = H6
      obtain ⟨S6, f6⟩ := alloc hu2 hX
      clear hX
      have t46 : Tk K H4 H6 := .same (S5.trans S6)
      have t34 : Tk K H3 H4 := .go g3 g4
      have t36 := t34.trans t46
      refine ⟨q1, u2, _, _, rfl, rfl, t36 _ _ sq1, SqT.of f6, sz _ (by have := cl none (some at_); show _ + 1 ≤ 200; omega), fun q2 H7 S7 sq2 => ?_⟩
      have t37 := t36.trans (.same S7)
      refine ⟨_, rfl, _, rfl, _, rfl, t, _, rfl, t37 _ _ (same_seqT S3 T2), fun q3 H8 S8 sq3 => ?_⟩
      refine ⟨q2, q3, _, _, rfl, rfl, same_seqT S8 sq2, sq3, sz _ (by have := cl none (some at_); have := cl (some at_) none; rw [List.length_append]; show _ + 1 + _ ≤ 200; omega), fun q4 H9 S9 sq4 => ?_⟩
      refine k H9 _ ((g34.same (S5.trans (S6.trans (S7.trans (S8.trans S9))))).mono (by omega)) fun H10 kp => ?_
      have gx : GwS K H9 xs := gws.tk (t2.trans ((Tk.same S3).trans (t37.trans (.same (S8.trans S9)))))
      have gx := gx.tk kp.2
      have gn : Gw K H9 (.ref u) := ⟨u, r, Str.ofString "port", .int 1, .int 1, rfl, same_seqT (S6.trans (S7.trans (S8.trans S9))) (SqT.of f5), by omega, by decide, .int (by decide)⟩
      exact kn_all (kp.2 _ _ sq4) (gws_app (gws_app (gws_cut gx _ _) (gws_one (gn.tk kp.2))) (gws_cut gx _ _)) (by have := cl none (some at_); have := cl (some at_) none; rw [List.length_append, List.length_append]; show _ + 1 + _ ≤ 150; omega)
    refine ⟨_, rfl, _, rfl, t, _, rfl, .inr T2, rfl, _, rfl, ite2 (fun y2 => body) (fun y2 => ?_)⟩
    clear body
    have y2 : at_ ≠ (xs.length : Int) := fun z => y2 (by rw [z]; exact decide_eq_true rfl)
    obtain ⟨v, hv, ev⟩ := atI_lt (xs := xs) a0 (by omega)
    obtain ⟨ra, r, rfl, row, ok⟩ := rowOf v hv
    refine ⟨_, rfl, _, rfl, t, _, _, _, rfl, rfl, T2, ev, _, rfl, ?_⟩
    have gv := gws _ hv
    refine ⟨_, _, rfl, rfl, _, rfl, ite2 (fun y3 => ?_) (fun y3 => ?_)⟩
    · -- a bent row
      refine ⟨_, rfl, _, rfl, _, rfl, t, _, rfl, T2, fun q1 H3 S3 sq1 => ?_⟩
      have g3 := gg.same S3
      refine ⟨_, rfl, _, rfl, p, c, ra, _, r, rfl, g3.pen, g3.cel, by omega, (t2.trans (.same S3)) _ _ row, ok, fun H4 v g4 stay => ⟨(by show 1 ≤ sizeLine; decide), fun u hu => ?_⟩⟩
      have g34 := g3.trans g4
      generalize hX : upd H4 u _ = H5
      obtain ⟨S5, f5⟩ := alloc hu hX
      clear hX
      have t35 : Tk K H3 H5 := (Tk.go g3 g4).trans (.same S5)
      refine ⟨q1, u, _, _, rfl, rfl, (t35) _ _ sq1, SqT.of f5, sz _ (by have := cl none (some at_); show _ + 1 ≤ 200; omega), fun q2 H7 S7 sq2 => ?_⟩
      have t37 := (t35).trans (Tk.same S7)
      refine ⟨_, rfl, _, rfl, _, _, rfl, rfl, _, rfl, t, _, rfl, t37 _ _ (same_seqT S3 T2), fun q3 H8 S8 sq3 => ?_⟩
      refine ⟨q2, q3, _, _, rfl, rfl, same_seqT S8 sq2, sq3, sz _ (by have := cl none (some at_); have := cl (some (at_ + 1)) none; rw [List.length_append]; show _ + 1 + _ ≤ 200; omega), fun q4 H9 S9 sq4 => ?_⟩
      have S79 := S7.trans (S8.trans S9)
      refine k H9 _ (((g34.same S5).same S79).mono (by omega)) fun H10 kp => ?_
      have gx : GwS K H9 xs := gws.tk (t2.trans ((Tk.same S3).trans (t37.trans (.same (S8.trans S9)))))
      have gx := gx.tk kp.2
      have S49 := S5.trans S79
      have hx := stay H10 ⟨fun b o h1 h2 => kp.1 b o (g3.free h1) (S49 _ _ h2), fun a zs z => kp.2 a zs (same_seqT S49 z)⟩
      refine kn_one (ys := cutV xs none (some at_)) (zs := cutV xs (some (at_ + 1)) none) (x := v) ?_ (gws_cut gx _ _) (gws_cut gx _ _) hx (by have := cl none (some at_); have := cl (some (at_ + 1)) none; omega)
      have sq5 := kp.2 _ _ sq4
      rw [List.append_assoc] at sq5
      exact sq5
    refine ⟨_, rfl, rfl, _, rfl, ite2 (fun y4 => ?_) (fun y4 => ?_)⟩
    · -- a minute less
      refine ⟨_, rfl, _, rfl, _, rfl, t, _, rfl, T2, fun q1 H3 S3 sq1 => ?_⟩
      have g3 := gg.same S3
      have row3 : SqT K H3 ra [.int r.m, .str r.l, r.w.v] := (t2.trans (.same S3)) _ _ row
      refine ⟨_, rfl, ra, _, _, _, rfl, rfl, row3, rfl, _, _, rfl, rfl, (by show 1 ≤ sizeLine; decide), fun u hu => ?_⟩
      generalize hX : upd H3 u _ = H4
      obtain ⟨S4, f4⟩ := alloc hu hX
      clear hX
      refine ⟨_, rfl, _, rfl, ra, _, rfl, same_seqT S4 row3, fun q5 H5 S5 sq5 => ?_⟩
      have sq5 : SqT K H5 q5 [.str r.l, r.w.v] := sq5
      refine ⟨u, q5, _, _, rfl, rfl, SqT.of (S5 _ _ f4), sq5, (by show 3 ≤ sizeLine; decide), fun q6 H6 S6 sq6 => ⟨(by show 1 ≤ sizeLine; decide), fun u7 hu7 => ?_⟩⟩
      have sq6 : SqT K H6 q6 [.int (r.m - 1), .str r.l, r.w.v] := sq6
      generalize hX : upd H6 u7 _ = H6b
      obtain ⟨S6b, f7⟩ := alloc hu7 hX
      clear hX
      have S3b := S4.trans (S5.trans (S6.trans S6b))
      have t3 : Tk K H3 H6b := .same S3b
      refine ⟨q1, u7, _, _, rfl, rfl, (t3) _ _ sq1, SqT.of f7, sz _ (by have := cl none (some at_); show _ + 1 ≤ 200; omega), fun q2 H7 S7 sq2 => ?_⟩
      have t37 := (t3).trans (Tk.same S7)
      refine ⟨_, rfl, _, rfl, _, _, rfl, rfl, _, rfl, t, _, rfl, t37 _ _ (same_seqT S3 T2), fun q3 H8 S8 sq3 => ?_⟩
      refine ⟨q2, q3, _, _, rfl, rfl, same_seqT S8 sq2, sq3, sz _ (by have := cl none (some at_); have := cl (some (at_ + 1)) none; rw [List.length_append]; show _ + 1 + _ ≤ 200; omega), fun q4 H9 S9 sq4 => ?_⟩
      have S79 := S7.trans (S8.trans S9)
      refine k H9 _ (((g3.same S3b).same S79).mono (by omega)) fun H10 kp => ?_
      have gx : GwS K H9 xs := gws.tk (t2.trans ((Tk.same S3).trans (t37.trans (.same (S8.trans S9)))))
      have gx := gx.tk kp.2
      obtain ⟨wd, sw⟩ := what_small ok
      have gn : Gw K H9 (.ref q6) := ⟨q6, r.m - 1, r.l, r.w.v, wd, rfl, same_seqT (S6b.trans S79) sq6, by have := ok.m0; have := ok.m1; omega, ok.ln, sw⟩
      exact kn_all (kp.2 _ _ sq4) (gws_app (gws_app (gws_cut gx _ _) (gws_one (gn.tk kp.2))) (gws_cut gx _ _)) (by have := cl none (some at_); have := cl (some (at_ + 1)) none; rw [List.length_append, List.length_append]; show _ + 1 + _ ≤ 150; omega)
    refine ⟨_, rfl, rfl, _, rfl, ite2 (fun y5 => ?_) (fun y5 => ?_)⟩
    · -- two rows change places
      refine ⟨_, rfl, _, rfl, _, rfl, t, _, rfl, T2, fun q1 H3 S3 sq1 => ?_⟩
      have g3 := gg.same S3
      refine ⟨_, rfl, _, rfl, _, rfl, _, rfl, _, _, rfl, rfl, _, rfl, t, _, rfl, same_seqT S3 T2, fun q5 H5 S5 sq5 => ⟨q5, _, rfl, sq5, fun u hu => ?_⟩⟩
      generalize hX : upd H5 u _ = H6
      obtain ⟨S6, f6⟩ := alloc hu hX
      clear hX
      have t3 : Tk K H3 H6 := .same (S5.trans S6)
      refine ⟨q1, u, _, _, rfl, rfl, (t3) _ _ sq1, SqT.of f6, sz _ (by have := cl none (some at_); have := cl (some at_) (some (at_ + 2)); rw [List.length_reverse]; omega), fun q2 H7 S7 sq2 => ?_⟩
      have t37 := (t3).trans (Tk.same S7)
      refine ⟨_, rfl, _, rfl, _, _, rfl, rfl, _, rfl, t, _, rfl, t37 _ _ (same_seqT S3 T2), fun q3 H8 S8 sq3 => ?_⟩
      refine ⟨q2, q3, _, _, rfl, rfl, same_seqT S8 sq2, sq3, sz _ (by have := cl none (some at_); have := cl (some (at_ + 2)) none; rw [List.length_append]; have := cl (some at_) (some (at_ + 2)); rw [List.length_reverse]; omega), fun q4 H9 S9 sq4 => ?_⟩
      have S79 := S7.trans (S8.trans S9)
      refine k H9 _ (((g3.same (S5.trans S6)).same S79).mono (by omega)) fun H10 kp => ?_
      have gx : GwS K H9 xs := gws.tk (t2.trans ((Tk.same S3).trans (t37.trans (.same (S8.trans S9)))))
      have gx := gx.tk kp.2
      exact kn_all (kp.2 _ _ sq4) (gws_app (gws_app (gws_cut gx _ _) (fun y hy => gws_cut gx _ _ y (List.mem_reverse.mp hy))) (gws_cut gx _ _)) (by have := cl none (some at_); have := cl (some (at_ + 2)) none; have := cl (some at_) (some (at_ + 2)); rw [List.length_append, List.length_append, List.length_reverse]; omega)
    refine ⟨_, rfl, rfl, _, rfl, ite2 (fun y6 => ?_) (fun y6 => ?_)⟩
    · -- a row often
      refine ⟨_, rfl, _, rfl, _, rfl, t, _, rfl, T2, fun q1 H3 S3 sq1 => ?_⟩
      have g3 := gg.same S3
      refine ⟨_, rfl, (by show 1 ≤ sizeLine; decide), fun u hu => ?_⟩
      generalize hX : upd H3 u _ = H4
      obtain ⟨S4, f4⟩ := alloc hu hX
      clear hX
      have g4 := g3.same S4
      refine ⟨_, rfl, p, c, _, _, rfl, g4.pen, g4.cel, by omega, by decide, by decide, fun H5 kk g5 b0 b1 => ⟨_, _, rfl, rfl, ?_⟩⟩
      have t45 : Tk K H4 H5 := .go g4 g5
      have t35 := (Tk.same S4).trans t45
      refine ⟨u, _, _, rfl, rfl, t45 _ _ (SqT.of f4), (by simp), by omega, by omega, by show 1 ≤ 1000; decide, fun q5 H6 S6 sq5 => ?_⟩
      rw [rep_flat] at sq5
      have t36 := t35.trans (.same S6)
      have lr : (List.replicate (1 + kk).toNat (V.ref ra)).length = (1 + kk).toNat := List.length_replicate
      generalize hm : List.replicate (1 + kk).toNat (V.ref ra) = mid at lr sq5
      have memm : ∀ y ∈ mid, y = V.ref ra := fun y hy => by rw [← hm] at hy; exact (List.mem_replicate.mp hy).2
      refine ⟨q1, q5, _, _, rfl, rfl, (t36) _ _ sq1, sq5, sz _ (by have := cl none (some at_); omega), fun q2 H7 S7 sq2 => ?_⟩
      have t37 := (t36).trans (Tk.same S7)
      refine ⟨_, rfl, _, rfl, _, rfl, t, _, rfl, t37 _ _ (same_seqT S3 T2), fun q3 H8 S8 sq3 => ?_⟩
      refine ⟨q2, q3, _, _, rfl, rfl, same_seqT S8 sq2, sq3, sz _ (by have := cl none (some at_); have := cl (some at_) none; rw [List.length_append]; omega), fun q4 H9 S9 sq4 => ?_⟩
      have S79 := S7.trans (S8.trans S9)
      refine k H9 _ ((((g4.trans g5).same S6).same S79).mono (by omega)) fun H10 kp => ?_
      have gx : GwS K H9 xs := gws.tk (t2.trans ((Tk.same S3).trans (t37.trans (.same (S8.trans S9)))))
      have gx := gx.tk kp.2
      have gn : Gw K H10 (.ref ra) := gv.tk (t2.trans ((Tk.same S3).trans (t37.trans ((Tk.same (S8.trans S9)).trans kp.2))))
      exact kn_all (kp.2 _ _ sq4) (gws_app (gws_app (gws_cut gx _ _) (fun y hy => by rw [memm y hy]; exact gn)) (gws_cut gx _ _)) (by have := cl none (some at_); have := cl (some at_) none; rw [List.length_append, List.length_append]; omega)
    · -- another row in its place
      refine ⟨_, rfl, _, rfl, _, rfl, t, _, rfl, T2, fun q1 H3 S3 sq1 => ?_⟩
      have g3 := gg.same S3
      refine ⟨_, rfl, _, rfl, _, rfl, t, _, rfl, .inr (same_seqT S3 T2), p, c, _, _, rfl, g3.pen, g3.cel, by omega, by omega, by omega, fun H4 j g4 b0 b1 => ?_⟩
      obtain ⟨v2, hv2, ev2⟩ := atI_lt (xs := xs) b0 (by omega)
      have t34 : Tk K H3 H4 := .go g3 g4
      refine ⟨t, _, _, _, rfl, rfl, t34 _ _ (same_seqT S3 T2), ev2, (by show 1 ≤ sizeLine; decide), fun u hu => ?_⟩
      have g34 := g3.trans g4
      generalize hX : upd H4 u _ = H5
      obtain ⟨S5, f5⟩ := alloc hu hX
      clear hX
      have t35 : Tk K H3 H5 := t34.trans (.same S5)
      refine ⟨q1, u, _, _, rfl, rfl, (t35) _ _ sq1, SqT.of f5, sz _ (by have := cl none (some at_); show _ + 1 ≤ 200; omega), fun q2 H7 S7 sq2 => ?_⟩
      have t37 := (t35).trans (Tk.same S7)
      refine ⟨_, rfl, _, rfl, _, _, rfl, rfl, _, rfl, t, _, rfl, t37 _ _ (same_seqT S3 T2), fun q3 H8 S8 sq3 => ?_⟩
      refine ⟨q2, q3, _, _, rfl, rfl, same_seqT S8 sq2, sq3, sz _ (by have := cl none (some at_); have := cl (some (at_ + 1)) none; rw [List.length_append]; show _ + 1 + _ ≤ 200; omega), fun q4 H9 S9 sq4 => ?_⟩
      have S79 := S7.trans (S8.trans S9)
      refine k H9 _ (((g34.same S5).same S79).mono (by omega)) fun H10 kp => ?_
      have gx : GwS K H9 xs := gws.tk (t2.trans ((Tk.same S3).trans (t37.trans (.same (S8.trans S9)))))
      have gx := gx.tk kp.2
      exact kn_all (kp.2 _ _ sq4) (gws_app (gws_app (gws_cut gx _ _) (gws_one (gx v2 hv2))) (gws_cut gx _ _)) (by have := cl none (some at_); have := cl (some (at_ + 1)) none; rw [List.length_append, List.length_append]; show _ + 1 + _ ≤ 150; omega)
def spLaw (K : PySem.W.Frag) : Sp := fun vs H Q _ => ∃ (a : Addr) (ns : List Int), vs = [.ref a] ∧ SqL K H a (ns.map V.int) ∧ ns.length ≤ 63 ∧ ∀ H', Q (.bl true) H'
theorem law_in (K : PySem.W.Frag) (H : Hp) (a : Addr) (ns : List Int) (h1 : ns.length ≤ 63) (_ : ∀ k ∈ ns, Builtin.Int.intBits k ≤ 1048576) (_ : Only H) (h2 : SqL K H a (ns.map V.int)) : spLaw K [.ref a] H (fun v _ => v = .bl true) fun _ _ _ => False :=
  ⟨a, ns, rfl, h2, h1, fun _ => rfl⟩
theorem cut_all (xs : List V) (i : Nat) (h : xs.length ≤ i) : cutV xs none (some (i : Int)) = xs := by
  unfold cutV
  rw [HT.sIx_none, HT.sIx_nat, List.drop_zero, Nat.min_eq_right h, Nat.sub_zero, List.take_length]
theorem seqT_keep2 {K : PySem.W.Frag} {H H1 : Hp} {p D a : Addr} {xs ys zs : List V} (f : ∀ b o, b ≠ p → b ≠ D → H b = some o → H1 b = some o) (hp : H p = some (.lst ys)) (hD : H D = some (.lst zs)) (h : SqT K H a xs) : SqT K H1 a xs := by
  rcases h with (h | ⟨o, h⟩) | h
  · exact .inl (.inl (f _ _ (ne_of h hp (by intro z; cases z)) (ne_of h hD (by intro z; cases z)) h))
  · exact .inl (.inr ⟨o, f _ _ (ne_of h hp (by intro z; cases z)) (ne_of h hD (by intro z; cases z)) h⟩)
  · exact .inr h
theorem mk_ok {r : Row} (h : r.Ok2) : mkV [.int r.m, .str r.l, r.w.v] = true := by
  have m0 := h.ok.m0
  have m1 := h.ok.m1
  show (decide (r.l ∈ lines6) && ((if decide (r.l ∈ tubes) = true then nameV r.w.v else betV (-4) 4 r.w.v) && (decide (0 ≤ r.m) && decide (r.m ≤ 99999)))) = true
  rw [decide_eq_true h.ok.ln, decide_eq_true m0, decide_eq_true m1, Bool.true_and, Bool.and_true, Bool.and_true]
  rcases h.ok.wh with ⟨tb, _⟩ | ⟨nt, i, e, i1, i2⟩
  · obtain ⟨t, e, nm⟩ := h.nm tb
    rw [if_pos (decide_eq_true tb), e]
    show (decide ((1 : Int) ≤ (t.length : Int)) && decide ((t.length : Int) ≤ 8) && lettersS t) = true
    obtain ⟨n1, n2, n3⟩ := nm
    have l : lettersS t = true := by
      unfold lettersS
      rw [List.all_eq_true]
      intro c hc
      have := n3 c hc
      unfold letter
      simp
      omega
    rw [l, decide_eq_true (by omega), decide_eq_true (by omega)]
    rfl
  · rw [if_neg (fun z => nt (of_decide_eq_true z)), e]
    show (decide (-4 ≤ i) && decide (i ≤ 4)) = true
    rw [decide_eq_true i1, decide_eq_true i2]
    rfl
theorem rows_els {K : PySem.W.Frag} {H : Hp} {as : List Addr} {rs : List Row} (h : RowsAt K H as rs) (ok : ∀ r ∈ rs, r.Ok2) : Els K H (as.map V.ref) (rs.map fun r => ⟨true, true, r.m⟩) := by
  induction h with
  | nil => exact .nil
  | @cons a r as rs h _ ih =>
    have o := ok r (List.mem_cons_self ..)
    obtain ⟨wd, sw⟩ := what_small o.ok
    have m0 := o.ok.m0
    have m1 := o.ok.m1
    have ps : Paired Small [.int r.m, .str r.l, r.w.v] [.int r.m, .str r.l, wd] := .cons (.int (by omega)) (.cons (.str (lines6_ok _ o.ok.ln)) (.cons sw .nil))
    obtain ⟨_, _, _, p4⟩ := small_dps (K := K) (H := H) ps
    refine .cons ?_ (ih fun q hq => ok q (List.mem_cons_of_mem _ hq))
    have z : El K H (.ref a) ⟨mkV [.int r.m, .str r.l, r.w.v], true, r.m⟩ := .tup ⟨h, by show 3 ≤ 90; decide, fun y hy H' _ => p4 y hy H', fun b hb => by
      obtain rfl := Option.some.inj hb
      exact mid_line o.ok.ln⟩
    rw [mk_ok o] at z
    exact z
theorem up_rising : ∀ (rs : List Row) (last : Int), Rising rs → (∀ r ∈ rs, last ≤ r.m) → upB (fun e => e.mk && e.tp) last (rs.map fun r => ⟨true, true, r.m⟩) = true
  | [], _, _, _ => rfl
  | r :: rs, last, h, l => by
    obtain ⟨h1, h2⟩ := List.pairwise_cons.mp h
    have := l r (List.mem_cons_self ..)
    show (true && true && (!decide (r.m < last) && upB _ r.m _)) = true
    rw [up_rising rs r.m h2 h1, decide_eq_false (by omega)]
    rfl
theorem book_log {K : PySem.W.Frag} {H : Hp} {t : Addr} {as : List Addr} {rs : List Row} (sq : SqT K H t (as.map V.ref)) (h : RowsAt K H as rs) (ok : ∀ r ∈ rs, r.Ok2) (ris : Rising rs) (l : rs.length ≤ 40) : Book K H (.ref t) true := by
  have z := Book.tup sq (rows_els h ok)
  have e : logB (rs.map fun r => ⟨true, true, r.m⟩) = true := by
    unfold logB
    rw [up_rising rs 0 ris fun r hr => (ok r hr).ok.m0, List.length_map, decide_eq_true l]
    rfl
  rw [e] at z
  exact z
theorem Tk.keep {K : PySem.W.Frag} {H H1 : Hp} {p D : Addr} {ys zs : List V} (f : ∀ b o, b ≠ p → b ≠ D → H b = some o → H1 b = some o) (hp : H p = some (.lst ys)) (hD : H D = some (.lst zs)) : Tk K H H1 := fun _ _ q => seqT_keep2 f hp hD q
theorem ok_law (T : Txt w K mg) : GOk P w K mg base CX0 6 T.a_law T.d_law ["_law_script"] (spLaw K) := by
  have G_draw := ok_draw (P := P) (base := base) T
  have G_log := ok_log (P := P) (base := base) T
  have G_spoilt := ok_spoilt (P := P) (base := base) T
  have G_is_log := ok_is_log (P := P) (base := base) T
  have G_law_is_log := ok_law_is_log (P := P) (base := base) T
  refine GOk.body T.F_law sc_law (fun vs H Q E h => ?_) (fun cdv A outer s H vs Q E hr hG h => ?_)
  · obtain ⟨a, ns, rfl, _⟩ := h
    rfl
  · obtain ⟨a, ns, rfl, hS, hl, k⟩ := h
    have hr_log := hr.mono (show 3 ≤ 5 by decide)
    have hr_law_is_log := hr_log
    have hr_spoilt := hr.mono (show 4 ≤ 5 by decide)
    have hr_is_log := hr
    refine ⟨_, (pss_cons (ps_set (i := 1) sc_law.nd rfl (by first | exact Or.inl rfl | exact Or.inr rfl) (pe_lst (pa_cons (pe_callTy (k_listOf K) (by rfl) T.z_list (by decide +kernel) (pa_cons (pe_slice (k_slL K) (pv 0) po_none (po_some pe_int)) pa_nil)) (pa_cons pe_int (pa_cons pe_int pa_nil)))))
  (pss_cons (ps_for PassesOwn.never rfl (pi_range1 (by rfl) T.z_range (pa_cons pe_int pa_nil)) (pg_name (i := 2) sc_law.nd rfl (by first | exact Or.inl rfl | exact Or.inr rfl)) (pss_cons (ps_set (i := 3) sc_law.nd rfl (by first | exact Or.inl rfl | exact Or.inr rfl) (pe_call G_log hr_log (by rfl) T.g_log T.F_log.kp T.b_log .nil pass0 (pa_cons (pv 1) (pa_cons pe_int pa_nil))))
  (pss_cons (ps_if (PW.pt (pw_or (pt_cmpR op_notBl (pe_call G_is_log hr_is_log (by rfl) T.g_is_log T.F_is_log.kp T.b_is_log .nil pass0 (pa_cons (pv 3) pa_nil)) pe_bl (nomark _)) (pw_or1 (pt_cmpR op_notBl (pe_call G_is_log hr_is_log (by rfl) T.g_is_log T.F_is_log.kp T.b_is_log .nil pass0 (pa_cons (pe_slice (k_slU K) (pv 3) (po_some pe_int) po_none) pa_nil)) pe_bl (nomark _))))) (pss_one (ps_ret pe_bl)) pss_nil)
  (pss_one (ps_for PassesOwn.never rfl (k_piL K (pe_lc (own := [("_law_k", 6)]) rfl sc_law.nd (pi_range1 (by rfl) T.z_range (pa_cons pe_int pa_nil)) (blkOk_by (own := [("_law_k", 6)]) (N := ["_law_script", "_law_pen", "_law_turn", "_law_log_here", "_law_thing", "_law_kept", "_law_k"]) (sc := defScope s_law) (by decide +kernel)) (fun _ _ _ _ _ => (pg_name (i := 6) sc_law.nd rfl (by first | exact Or.inl rfl | exact Or.inr rfl))) (fun _ _ _ _ _ => pts_nil) (fun _ _ _ _ _ => (pe_call G_spoilt hr_spoilt (by rfl) T.g_spoilt T.F_spoilt.kp T.b_spoilt .nil pass0 (pa_cons (pv 1) (pa_cons (pv 3) pa_nil)))))) (pg_name (i := 4) sc_law.nd rfl (by first | exact Or.inl rfl | exact Or.inr rfl)) (pss_cons (ps_set (i := 5) sc_law.nd rfl (by first | exact Or.inl rfl | exact Or.inr rfl) (pe_callB (k_repr5 K hG hr.units) (by rfl) T.z_repr (by decide +kernel) (pa_cons (pv 4) pa_nil)))
  (pss_one (ps_if (PW.pt (pw_or (pt_cmpR op_ne (pe_callB (k_repr K hG hr.units) (by rfl) T.z_repr (by decide +kernel) (pa_cons (pe_call G_is_log hr_is_log (by rfl) T.g_is_log T.F_is_log.kp T.b_is_log .nil pass0 (pa_cons (pv 4) pa_nil)) pa_nil)) (pe_callB (k_repr K hG hr.units) (by rfl) T.z_repr (by decide +kernel) (pa_cons (pe_call G_law_is_log hr_law_is_log (by rfl) T.g_law_is_log T.F_law_is_log.kp T.b_law_is_log .nil pass0 (pa_cons (pv 4) pa_nil)) pa_nil)) (nomark _)) (pw_or1 (pt_cmpR op_ne (pe_callB (k_repr5 K hG hr.units) (by rfl) T.z_repr (by decide +kernel) (pa_cons (pv 4) pa_nil)) (pv 5) (nomark _))))) (pss_one (ps_ret pe_bl)) pss_nil))))))))
  (pss_one (ps_ret (pe_and (pe_cmpR op_isBl (pe_call G_is_log hr_is_log (by rfl) T.g_is_log T.F_is_log.kp T.b_is_log .nil pass0 (pa_cons (pe_tup pa_nil) pa_nil)) pe_bl (nomark _)) (pe_one (pe_cmpR op_isBl (pe_call G_is_log hr_is_log (by rfl) T.g_is_log T.F_is_log.kp T.b_is_log .nil pass0 (pa_cons (pe_lst pa_nil) pa_nil)) pe_bl (nomark _)))))))), ?_⟩
    refine ⟨_, rfl, _, rfl, a, _, rfl, hS, fun c0 hc0 => ?_⟩
    generalize hX : upd H c0 _ = H1
    obtain ⟨S1, f1⟩ := alloc hc0 hX
    clear hX
    refine ⟨c0, _, rfl, .inl (SqL.of f1), fun c hc => ?_⟩
    generalize hX : upd H1 c _ = H2
    obtain ⟨S2, f2⟩ := alloc hc hX
    clear hX
    refine ⟨(by show 3 ≤ sizeLine; decide), fun p hp0 => ?_⟩
    generalize hX : upd H2 p _ = H3
    obtain ⟨S3, f3⟩ := alloc hp0 hX
    clear hX
    rw [show ((63 : Int)) = ((63 : Nat) : Int) from rfl, cut_all _ _ (by rw [List.length_map]; exact hl)] at f2
    have hp : PenAt H3 p c 0 := ⟨0, 0, f3, Int.le_refl _, Int.le_refl _, Int.le_refl _⟩
    have hc : Cells K H3 p c := ⟨ne_of_none f2 hp0, ns, SqL.of (S3 _ _ f2), hl⟩
    have g3 := Go.refl hp hc
    refine ⟨2, rfl, by decide, by decide, ?_⟩
    refine for_it walk_range (fun i σ H' => ∃ (x2 x3 x4 x5 x6 : Option V), σ = [some (.ref a), some (.ref p), x2, x3, x4, x5, x6] ∧ Go K p c H3 (1100 * i) H')
      ⟨none, none, none, none, none, rfl, g3⟩ (fun _ _ _ _ _ => trivial) ?_ ?_
    · rintro i x σ _ H6 hi ⟨x2, x3, x4, x5, x6, rfl, g6⟩ ⟨rfl, rfl⟩
      have hi : i < 2 := hi
      refine ⟨_, rfl, p, c, _, _, rfl, g6.pen, g6.cel, by omega, by decide, by decide, fun H7 t rs q7 tn hL l40 oks ris => ?_⟩
      have g7 := g6.trans q7
      obtain ⟨as, sqt, rows⟩ := hL
      refine ⟨_, rfl, .ref t, true, rfl, book_log sqt rows oks ris l40, fun H8 S8 => ⟨true, true, rfl, rfl, _, rfl, ?_⟩⟩
      show if (!decide (true = true)) = true then _ else _
      refine iteF ?_
      have sq8 := same_seqT S8 sqt
      refine ⟨_, rfl, _, rfl, t, _, rfl, sq8, fun q1 H9 S9 sq9 => ?_⟩
      have e1 : cutV (as.map V.ref) (some 1) none = (as.drop 1).map V.ref := by
        rw [show (1 : Int) = ((1 : Nat) : Int) from rfl, cut_drop, List.map_drop]
      rw [e1] at sq9
      refine ⟨.ref q1, true, rfl, book_log sq9 ((rows.same (S8.trans S9)).drop 1) (fun r hr => oks r (List.mem_of_mem_drop hr)) (List.Pairwise.sublist (List.drop_sublist 1 rs) ris) (by rw [List.length_drop]; omega), fun H10 S10 => ⟨true, true, rfl, rfl, _, rfl, ?_⟩⟩
      show if (!decide (true = true)) = true then _ else _
      refine iteF ?_
      have S710 := S8.trans (S9.trans S10)
      have g10 := g7.same S710
      have sq10 := same_seqT S710 sqt
      have rows10 := rows.same S710
      -- spoilt logs
      refine ⟨8, rfl, by decide, by decide, fun D hD => ?_⟩
      have nD := Ne.symm (g10.ne_new hD)
      have cel10 := g10.cel
      refine lc_it walk_range (fun j H' => Go K p c H10 (1100 * i + 1000 + 6 * j) H' ∧ ∃ vs : List V, H' D = some (.lst vs) ∧ vs.length = j ∧ ∀ v ∈ vs, ∀ H'', (∀ b o, b ≠ p → b ≠ D → H' b = some o → H'' b = some o) → Kn K H'' v)
        ⟨(g10.self.mono (by omega)).new hD, [], upd_same, rfl, fun x hx => nomatch hx⟩ (fun _ _ _ _ => trivial) ?_ ?_
      · rintro j x _ Ha hj ⟨ga, vs, ea, lv, ov⟩ ⟨rfl, rfl⟩
        have hj : j < 8 := hj
        have ta : Tk K H10 Ha := .pen g10.pen ga
        refine ⟨rfl, _, rfl, _, rfl, p, c, t, _, as, rs, rfl, ga.pen, ga.cel, by omega, ta _ _ sq10, rows10.imp (fun _ _ q => ta _ _ q), l40, oks, fun Hb v gb stay => ?_⟩
        have eb := gb.but _ _ nD ea
        obtain ⟨_, _, pa, _⟩ := id ga.pen
        obtain ⟨_, _, pb, _⟩ := id gb.pen
        refine ⟨_, eb, small1000 (by omega), ((ga.trans gb).own hD nD cel10).mono (by omega), vs ++ [v], upd_same, by rw [List.length_append, lv]; rfl, fun y hy H'' keep => ?_⟩
        have keep2 : ∀ b o, b ≠ p → b ≠ D → Hb b = some o → H'' b = some o := fun b o h1 h2 h3 => keep b o h1 h2 ((upd_ne h2).trans h3)
        rcases List.mem_append.mp hy with z | z
        · exact ov y z H'' fun b o h1 h2 h3 => keep2 b o h1 h2 (gb.but b o h1 h3)
        · rw [List.mem_singleton.mp z]
          exact stay H'' ⟨fun b o h1 h2 => keep2 b o (fun e => by rw [e, pa] at h1; cases h1) (fun e => by rw [e, ea] at h1; cases h1) h2, fun a xs q => seqT_keep2 keep2 pb eb q⟩
      rintro H12 ⟨g12, vs, e12, lv, ov⟩
      have ov : ∀ v ∈ vs, Kn K H12 v := fun v hv => ov v hv H12 fun _ _ _ _ h => h
      have say : ∀ d : Str, (!decide (V.str d = V.str d)) = false := fun d => by rw [decide_eq_true rfl]; rfl
      refine ⟨D, rfl, ⟨_, SqL.of e12⟩, ?_⟩
      refine for_it (walk_list (xs := vs)) (fun j σ H' => ∃ (x4 x5 x6 : Option V), σ = [some (.ref a), some (.ref p), some (.int (0 + (i : Nat))), some (.ref t), x4, x5, x6] ∧ Same H12 H')
        ⟨x4, x5, x6, rfl, Same.refl _⟩ (fun j σ H' _ ⟨_, _, _, _, s⟩ => SqL.of (s _ _ e12)) ?_ ?_
      · rintro j x σ _ H13 hj ⟨y4, y5, y6, rfl, s13⟩ ⟨rfl, hx⟩
        obtain ⟨b, d, th, te⟩ := ov x (List.mem_of_getElem? hx)
        have th := th.same s13
        have te := te.same s13
        refine ⟨_, rfl, x, d, rfl, te, ?_⟩
        refine ⟨_, rfl, x, b, rfl, th, fun H14 s14 => ⟨.bl b, .bool b, 0, 0, rfl, .bl b, RepOk.bool b, by decide, by decide, ?_⟩⟩
        refine ⟨_, rfl, x, b, rfl, th.same s14, fun H15 s15 => ⟨.bl b, .bool b, 0, 0, rfl, .bl b, RepOk.bool b, by decide, by decide, rfl, _, rfl, ?_⟩⟩
        rw [say]
        refine iteF ?_
        refine ⟨_, rfl, x, d, rfl, te.same (s14.trans s15), _, rfl, rfl, _, rfl, ?_⟩
        rw [say]
        refine iteF ?_
        exact ⟨_, _, _, rfl, s13.trans (s14.trans s15)⟩
      · rintro σ H13 ⟨y4, y5, y6, rfl, s13⟩
        exact ⟨_, _, _, _, _, rfl, ((g10.trans g12).same s13).mono (by omega)⟩
    · rintro σ H6 ⟨x2, x3, x4, x5, x6, rfl, g6⟩
      refine ⟨(by show 0 ≤ sizeLine; decide), fun u1 hu1 => ?_⟩
      generalize hX : upd H6 u1 _ = H7
      obtain ⟨S7, f7⟩ := alloc hu1 hX
      clear hX
      refine ⟨.ref u1, true, rfl, book_log (as := []) (rs := []) (SqT.of f7) .nil (fun r hr => nomatch hr) .nil (Nat.zero_le _), fun H8 S8 => ⟨true, true, rfl, rfl, _, rfl, ?_⟩⟩
      rw [decide_eq_true rfl, if_pos rfl]
      refine ⟨(by show 0 ≤ sizeLine; decide), fun u2 hu2 => ?_⟩
      generalize hX : upd H8 u2 _ = H9
      obtain ⟨S9, f9⟩ := alloc hu2 hX
      clear hX
      refine ⟨.ref u2, false, rfl, .other (ty := .type "list") (fun _ s' => .base (.lst (s' _ _ f9))) (kit_ty (by decide +kernel)), fun H10 S10 => ⟨false, false, rfl, rfl, ?_⟩⟩
      rw [decide_eq_true rfl]
      exact k _
end
theorem all_mk {l : PySem.W.OpenLaw} {w : World} {K : PySem.W.Frag} {h : Heap} {mg : Str → Option Value} {fa : Addr} (X : K.In h) (G : h.Ns mainGlobals mg) (hfa : mg "law" = some (.ref fa))
    {f0 : Addr} {od0 an0 : Option Addr} {sl0 : Array (Option Value)} {oc0 kV0 dc0 pm0 cd0 ct0 : Value} (a0 : PySem.W.nsIn K mainGlobals "is_whole" = some (some (.ref f0))) (l0 : K.lookup f0 = some ⟨oc0, od0, .func (PySem.W.fnOf "is_whole" "is_whole" (defArgs s_is_whole) (defBody s_is_whole) (defScope s_is_whole) .none kV0 dc0 pm0 an0 cd0 ct0), sl0⟩) (c0 : PySem.W.codeIn K cd0 "is_whole" = true) (k0 : PySem.W.keepIn K (.ref f0) = true)
    {f1 : Addr} {od1 an1 : Option Addr} {sl1 : Array (Option Value)} {oc1 kV1 dc1 pm1 cd1 ct1 : Value} (a1 : PySem.W.nsIn K mainGlobals "is_minute" = some (some (.ref f1))) (l1 : K.lookup f1 = some ⟨oc1, od1, .func (PySem.W.fnOf "is_minute" "is_minute" (defArgs s_is_minute) (defBody s_is_minute) (defScope s_is_minute) .none kV1 dc1 pm1 an1 cd1 ct1), sl1⟩) (c1 : PySem.W.codeIn K cd1 "is_minute" = true) (k1 : PySem.W.keepIn K (.ref f1) = true)
    {f2 : Addr} {od2 an2 : Option Addr} {sl2 : Array (Option Value)} {oc2 kV2 dc2 pm2 cd2 ct2 : Value} (a2 : PySem.W.nsIn K mainGlobals "is_order" = some (some (.ref f2))) (l2 : K.lookup f2 = some ⟨oc2, od2, .func (PySem.W.fnOf "is_order" "is_order" (defArgs s_is_order) (defBody s_is_order) (defScope s_is_order) .none kV2 dc2 pm2 an2 cd2 ct2), sl2⟩) (c2 : PySem.W.codeIn K cd2 "is_order" = true) (k2 : PySem.W.keepIn K (.ref f2) = true)
    {f3 : Addr} {od3 an3 : Option Addr} {sl3 : Array (Option Value)} {oc3 kV3 dc3 pm3 cd3 ct3 : Value} (a3 : PySem.W.nsIn K mainGlobals "is_name" = some (some (.ref f3))) (l3 : K.lookup f3 = some ⟨oc3, od3, .func (PySem.W.fnOf "is_name" "is_name" (defArgs s_is_name) (defBody s_is_name) (defScope s_is_name) .none kV3 dc3 pm3 an3 cd3 ct3), sl3⟩) (c3 : PySem.W.codeIn K cd3 "is_name" = true) (k3 : PySem.W.keepIn K (.ref f3) = true)
    {f4 : Addr} {od4 an4 : Option Addr} {sl4 : Array (Option Value)} {oc4 kV4 dc4 pm4 cd4 ct4 : Value} (a4 : PySem.W.nsIn K mainGlobals "makes_row" = some (some (.ref f4))) (l4 : K.lookup f4 = some ⟨oc4, od4, .func (PySem.W.fnOf "makes_row" "makes_row" (defArgs s_makes_row) (defBody s_makes_row) (defScope s_makes_row) .none kV4 dc4 pm4 an4 cd4 ct4), sl4⟩) (c4 : PySem.W.codeIn K cd4 "makes_row" = true) (k4 : PySem.W.keepIn K (.ref f4) = true)
    {f5 : Addr} {od5 an5 : Option Addr} {sl5 : Array (Option Value)} {oc5 kV5 dc5 pm5 cd5 ct5 : Value} (a5 : PySem.W.nsIn K mainGlobals "is_line" = some (some (.ref f5))) (l5 : K.lookup f5 = some ⟨oc5, od5, .func (PySem.W.fnOf "is_line" "is_line" (defArgs s_is_line) (defBody s_is_line) (defScope s_is_line) .none kV5 dc5 pm5 an5 cd5 ct5), sl5⟩) (c5 : PySem.W.codeIn K cd5 "is_line" = true) (k5 : PySem.W.keepIn K (.ref f5) = true)
    {f6 : Addr} {od6 an6 : Option Addr} {sl6 : Array (Option Value)} {oc6 kV6 dc6 pm6 cd6 ct6 : Value} (a6 : PySem.W.nsIn K mainGlobals "is_log" = some (some (.ref f6))) (l6 : K.lookup f6 = some ⟨oc6, od6, .func (PySem.W.fnOf "is_log" "is_log" (defArgs s_is_log) (defBody s_is_log) (defScope s_is_log) .none kV6 dc6 pm6 an6 cd6 ct6), sl6⟩) (c6 : PySem.W.codeIn K cd6 "is_log" = true) (k6 : PySem.W.keepIn K (.ref f6) = true)
    {f7 : Addr} {od7 an7 : Option Addr} {sl7 : Array (Option Value)} {oc7 kV7 dc7 pm7 cd7 ct7 : Value} (a7 : PySem.W.nsIn K mainGlobals "wrong_at" = some (some (.ref f7))) (l7 : K.lookup f7 = some ⟨oc7, od7, .func (PySem.W.fnOf "wrong_at" "wrong_at" (defArgs s_wrong_at) (defBody s_wrong_at) (defScope s_wrong_at) .none kV7 dc7 pm7 an7 cd7 ct7), sl7⟩) (c7 : PySem.W.codeIn K cd7 "wrong_at" = true) (k7 : PySem.W.keepIn K (.ref f7) = true)
    {f8 : Addr} {od8 an8 : Option Addr} {sl8 : Array (Option Value)} {oc8 kV8 dc8 pm8 cd8 ct8 : Value} (a8 : PySem.W.nsIn K mainGlobals "_law_draw" = some (some (.ref f8))) (l8 : K.lookup f8 = some ⟨oc8, od8, .func (PySem.W.fnOf "_law_draw" "_law_draw" (defArgs s_draw) (defBody s_draw) (defScope s_draw) .none kV8 dc8 pm8 an8 cd8 ct8), sl8⟩) (c8 : PySem.W.codeIn K cd8 "_law_draw" = true) (k8 : PySem.W.keepIn K (.ref f8) = true)
    {f9 : Addr} {od9 an9 : Option Addr} {sl9 : Array (Option Value)} {oc9 kV9 dc9 pm9 cd9 ct9 : Value} (a9 : PySem.W.nsIn K mainGlobals "_law_word" = some (some (.ref f9))) (l9 : K.lookup f9 = some ⟨oc9, od9, .func (PySem.W.fnOf "_law_word" "_law_word" (defArgs s_word) (defBody s_word) (defScope s_word) .none kV9 dc9 pm9 an9 cd9 ct9), sl9⟩) (c9 : PySem.W.codeIn K cd9 "_law_word" = true) (k9 : PySem.W.keepIn K (.ref f9) = true)
    {f10 : Addr} {od10 an10 : Option Addr} {sl10 : Array (Option Value)} {oc10 kV10 dc10 pm10 cd10 ct10 : Value} (a10 : PySem.W.nsIn K mainGlobals "_law_row" = some (some (.ref f10))) (l10 : K.lookup f10 = some ⟨oc10, od10, .func (PySem.W.fnOf "_law_row" "_law_row" (defArgs s_row) (defBody s_row) (defScope s_row) .none kV10 dc10 pm10 an10 cd10 ct10), sl10⟩) (c10 : PySem.W.codeIn K cd10 "_law_row" = true) (k10 : PySem.W.keepIn K (.ref f10) = true)
    {f11 : Addr} {od11 an11 : Option Addr} {sl11 : Array (Option Value)} {oc11 kV11 dc11 pm11 cd11 ct11 : Value} (a11 : PySem.W.nsIn K mainGlobals "_law_log" = some (some (.ref f11))) (l11 : K.lookup f11 = some ⟨oc11, od11, .func (PySem.W.fnOf "_law_log" "_law_log" (defArgs s_log) (defBody s_log) (defScope s_log) .none kV11 dc11 pm11 an11 cd11 ct11), sl11⟩) (c11 : PySem.W.codeIn K cd11 "_law_log" = true) (k11 : PySem.W.keepIn K (.ref f11) = true)
    {f12 : Addr} {od12 an12 : Option Addr} {sl12 : Array (Option Value)} {oc12 kV12 dc12 pm12 cd12 ct12 : Value} (a12 : PySem.W.nsIn K mainGlobals "_law_whole" = some (some (.ref f12))) (l12 : K.lookup f12 = some ⟨oc12, od12, .func (PySem.W.fnOf "_law_whole" "_law_whole" (defArgs s_whole) (defBody s_whole) (defScope s_whole) .none kV12 dc12 pm12 an12 cd12 ct12), sl12⟩) (c12 : PySem.W.codeIn K cd12 "_law_whole" = true) (k12 : PySem.W.keepIn K (.ref f12) = true)
    {f13 : Addr} {od13 an13 : Option Addr} {sl13 : Array (Option Value)} {oc13 kV13 dc13 pm13 cd13 ct13 : Value} (a13 : PySem.W.nsIn K mainGlobals "_law_named" = some (some (.ref f13))) (l13 : K.lookup f13 = some ⟨oc13, od13, .func (PySem.W.fnOf "_law_named" "_law_named" (defArgs s_named) (defBody s_named) (defScope s_named) .none kV13 dc13 pm13 an13 cd13 ct13), sl13⟩) (c13 : PySem.W.codeIn K cd13 "_law_named" = true) (k13 : PySem.W.keepIn K (.ref f13) = true)
    {f14 : Addr} {od14 an14 : Option Addr} {sl14 : Array (Option Value)} {oc14 kV14 dc14 pm14 cd14 ct14 : Value} (a14 : PySem.W.nsIn K mainGlobals "_law_is_row" = some (some (.ref f14))) (l14 : K.lookup f14 = some ⟨oc14, od14, .func (PySem.W.fnOf "_law_is_row" "_law_is_row" (defArgs s_is_row) (defBody s_is_row) (defScope s_is_row) .none kV14 dc14 pm14 an14 cd14 ct14), sl14⟩) (c14 : PySem.W.codeIn K cd14 "_law_is_row" = true) (k14 : PySem.W.keepIn K (.ref f14) = true)
    {f15 : Addr} {od15 an15 : Option Addr} {sl15 : Array (Option Value)} {oc15 kV15 dc15 pm15 cd15 ct15 : Value} (a15 : PySem.W.nsIn K mainGlobals "_law_odd" = some (some (.ref f15))) (l15 : K.lookup f15 = some ⟨oc15, od15, .func (PySem.W.fnOf "_law_odd" "_law_odd" (defArgs s_odd) (defBody s_odd) (defScope s_odd) .none kV15 dc15 pm15 an15 cd15 ct15), sl15⟩) (c15 : PySem.W.codeIn K cd15 "_law_odd" = true) (k15 : PySem.W.keepIn K (.ref f15) = true)
    {f16 : Addr} {od16 an16 : Option Addr} {sl16 : Array (Option Value)} {oc16 kV16 dc16 pm16 cd16 ct16 : Value} (a16 : PySem.W.nsIn K mainGlobals "_law_bent" = some (some (.ref f16))) (l16 : K.lookup f16 = some ⟨oc16, od16, .func (PySem.W.fnOf "_law_bent" "_law_bent" (defArgs s_bent) (defBody s_bent) (defScope s_bent) .none kV16 dc16 pm16 an16 cd16 ct16), sl16⟩) (c16 : PySem.W.codeIn K cd16 "_law_bent" = true) (k16 : PySem.W.keepIn K (.ref f16) = true)
    {f17 : Addr} {od17 an17 : Option Addr} {sl17 : Array (Option Value)} {oc17 kV17 dc17 pm17 cd17 ct17 : Value} (a17 : PySem.W.nsIn K mainGlobals "_law_is_log" = some (some (.ref f17))) (l17 : K.lookup f17 = some ⟨oc17, od17, .func (PySem.W.fnOf "_law_is_log" "_law_is_log" (defArgs s_law_is_log) (defBody s_law_is_log) (defScope s_law_is_log) .none kV17 dc17 pm17 an17 cd17 ct17), sl17⟩) (c17 : PySem.W.codeIn K cd17 "_law_is_log" = true) (k17 : PySem.W.keepIn K (.ref f17) = true)
    {f18 : Addr} {od18 an18 : Option Addr} {sl18 : Array (Option Value)} {oc18 kV18 dc18 pm18 cd18 ct18 : Value} (a18 : PySem.W.nsIn K mainGlobals "_law_spoilt" = some (some (.ref f18))) (l18 : K.lookup f18 = some ⟨oc18, od18, .func (PySem.W.fnOf "_law_spoilt" "_law_spoilt" (defArgs s_spoilt) (defBody s_spoilt) (defScope s_spoilt) .none kV18 dc18 pm18 an18 cd18 ct18), sl18⟩) (c18 : PySem.W.codeIn K cd18 "_law_spoilt" = true) (k18 : PySem.W.keepIn K (.ref f18) = true)
    {f19 : Addr} {od19 an19 : Option Addr} {sl19 : Array (Option Value)} {oc19 kV19 dc19 pm19 cd19 ct19 : Value} (a19 : PySem.W.nsIn K mainGlobals "law" = some (some (.ref f19))) (l19 : K.lookup f19 = some ⟨oc19, od19, .func (PySem.W.fnOf "law" "law" (defArgs s_law) (defBody s_law) (defScope s_law) .none kV19 dc19 pm19 an19 cd19 ct19), sl19⟩) (c19 : PySem.W.codeIn K cd19 "law" = true) (k19 : PySem.W.keepIn K (.ref f19) = true)
    (z_abs : PySem.W.nsIn K mainGlobals "abs" = some none)
    (z_all : PySem.W.nsIn K mainGlobals "all" = some none)
    (z_bool : PySem.W.nsIn K mainGlobals "bool" = some none)
    (z_dict : PySem.W.nsIn K mainGlobals "dict" = some none)
    (z_enumerate : PySem.W.nsIn K mainGlobals "enumerate" = some none)
    (z_int : PySem.W.nsIn K mainGlobals "int" = some none)
    (z_isinstance : PySem.W.nsIn K mainGlobals "isinstance" = some none)
    (z_len : PySem.W.nsIn K mainGlobals "len" = some none)
    (z_list : PySem.W.nsIn K mainGlobals "list" = some none)
    (z_min : PySem.W.nsIn K mainGlobals "min" = some none)
    (z_range : PySem.W.nsIn K mainGlobals "range" = some none)
    (z_repr : PySem.W.nsIn K mainGlobals "repr" = some none)
    (z_str : PySem.W.nsIn K mainGlobals "str" = some none)
    (z_tuple : PySem.W.nsIn K mainGlobals "tuple" = some none)
    {t_FULL_AHEAD : Tok} (m_FULL_AHEAD : PySem.W.nsIn K mainGlobals "FULL_AHEAD" = some (some (.int (4) t_FULL_AHEAD)))
    {t_FULL_ASTERN : Tok} (m_FULL_ASTERN : PySem.W.nsIn K mainGlobals "FULL_ASTERN" = some (some (.int (-4) t_FULL_ASTERN)))
    {t_LAST_MINUTE : Tok} (m_LAST_MINUTE : PySem.W.nsIn K mainGlobals "LAST_MINUTE" = some (some (.int (99999) t_LAST_MINUTE)))
    {t_LONGEST_NAME : Tok} (m_LONGEST_NAME : PySem.W.nsIn K mainGlobals "LONGEST_NAME" = some (some (.int (8) t_LONGEST_NAME)))
    {t_MOST_ROWS : Tok} (m_MOST_ROWS : PySem.W.nsIn K mainGlobals "MOST_ROWS" = some (some (.int (40) t_MOST_ROWS)))
    {D_SENDERS : Addr} (m_SENDERS : PySem.W.nsIn K mainGlobals "SENDERS" = some (some (.ref D_SENDERS))) {es_SENDERS : Array DictEntry} {n_SENDERS : Nat} (kl_SENDERS : K.lookup D_SENDERS = some ⟨.type "dict", none, .dict es_SENDERS n_SENDERS, #[]⟩) (kk_SENDERS : PySem.W.KeysLit w.params es_SENDERS.toList) (ks_SENDERS : (D_SENDERS == sysModules) = false) {u0_SENDERS : Tok} (ki0_SENDERS : PySem.W.nsIn K D_SENDERS "port" = some (some (.str "bridge" u0_SENDERS))) {u1_SENDERS : Tok} (ki1_SENDERS : PySem.W.nsIn K D_SENDERS "star" = some (some (.str "bridge" u1_SENDERS))) {u2_SENDERS : Tok} (ki2_SENDERS : PySem.W.nsIn K D_SENDERS "down" = some (some (.str "bridge" u2_SENDERS))) {u3_SENDERS : Tok} (ki3_SENDERS : PySem.W.nsIn K D_SENDERS "aport" = some (some (.str "room" u3_SENDERS))) {u4_SENDERS : Tok} (ki4_SENDERS : PySem.W.nsIn K D_SENDERS "astar" = some (some (.str "room" u4_SENDERS))) {u5_SENDERS : Tok} (ki5_SENDERS : PySem.W.nsIn K D_SENDERS "up" = some (some (.str "room" u5_SENDERS))) (ab0_SENDERS : PySem.W.nsIn K D_SENDERS "" = some none) (ab1_SENDERS : PySem.W.nsIn K D_SENDERS "Port" = some none) (ab2_SENDERS : PySem.W.nsIn K D_SENDERS "ninethree" = some none) (ab3_SENDERS : PySem.W.nsIn K D_SENDERS "a b" = some none) (ab4_SENDERS : PySem.W.nsIn K D_SENDERS "a1" = some none) (ab5_SENDERS : PySem.W.nsIn K D_SENDERS "port " = some none) (ab6_SENDERS : PySem.W.nsIn K D_SENDERS "a\n" = some none) (ab7_SENDERS : PySem.W.nsIn K D_SENDERS "bell" = some none)
    {D_TUBES : Addr} {td_TUBES : Option Addr} {its_TUBES : Array Value} {tn_TUBES : Nat} {tsl_TUBES : Array (Option Value)} (m_TUBES : PySem.W.nsIn K mainGlobals "TUBES" = some (some (.ref D_TUBES))) (lt_TUBES : K.lookup D_TUBES = some ⟨.type "tuple", td_TUBES, .seq its_TUBES tn_TUBES, tsl_TUBES⟩) (vv_TUBES : Vals [V.str "down", V.str "up"] its_TUBES.toList) :
    ∃ fd : FuncData, (∀ (s : Shared) (v : Value), BindsTo s fd ⟨[v], []⟩ [("_law_script", v)]) ∧ ∀ base : Heap, K.In base → base.Ns mainGlobals mg → GOk l.prog w K mg base CX0 6 fa fd ["_law_script"] (spLaw K) := by
  have e := hfa.symm.trans (PySem.W.mg_of X G a19)
  cases e
  have F0 := fun_mk (st := s_is_whole) l0 c0 k0
  have F1 := fun_mk (st := s_is_minute) l1 c1 k1
  have F2 := fun_mk (st := s_is_order) l2 c2 k2
  have F3 := fun_mk (st := s_is_name) l3 c3 k3
  have F4 := fun_mk (st := s_makes_row) l4 c4 k4
  have F5 := fun_mk (st := s_is_line) l5 c5 k5
  have F6 := fun_mk (st := s_is_log) l6 c6 k6
  have F7 := fun_mk (st := s_wrong_at) l7 c7 k7
  have F8 := fun_mk (st := s_draw) l8 c8 k8
  have F9 := fun_mk (st := s_word) l9 c9 k9
  have F10 := fun_mk (st := s_row) l10 c10 k10
  have F11 := fun_mk (st := s_log) l11 c11 k11
  have F12 := fun_mk (st := s_whole) l12 c12 k12
  have F13 := fun_mk (st := s_named) l13 c13 k13
  have F14 := fun_mk (st := s_is_row) l14 c14 k14
  have F15 := fun_mk (st := s_odd) l15 c15 k15
  have F16 := fun_mk (st := s_bent) l16 c16 k16
  have F17 := fun_mk (st := s_law_is_log) l17 c17 k17
  have F18 := fun_mk (st := s_spoilt) l18 c18 k18
  have F19 := fun_mk (st := s_law) l19 c19 k19
  let T : Txt w K mg := {
    a_is_whole := f0, d_is_whole := _, F_is_whole := F0, b_is_whole := F0.binds (ps := ["thing"]) (fun _ _ _ _ _ _ us hl => match us, hl with | [_], _ => rfl), g_is_whole := PySem.W.mg_of X G a0,
    a_is_minute := f1, d_is_minute := _, F_is_minute := F1, b_is_minute := F1.binds (ps := ["thing"]) (fun _ _ _ _ _ _ us hl => match us, hl with | [_], _ => rfl), g_is_minute := PySem.W.mg_of X G a1,
    a_is_order := f2, d_is_order := _, F_is_order := F2, b_is_order := F2.binds (ps := ["thing"]) (fun _ _ _ _ _ _ us hl => match us, hl with | [_], _ => rfl), g_is_order := PySem.W.mg_of X G a2,
    a_is_name := f3, d_is_name := _, F_is_name := F3, b_is_name := F3.binds (ps := ["thing"]) (fun _ _ _ _ _ _ us hl => match us, hl with | [_], _ => rfl), g_is_name := PySem.W.mg_of X G a3,
    a_makes_row := f4, d_makes_row := _, F_makes_row := F4, b_makes_row := F4.binds (ps := ["thing"]) (fun _ _ _ _ _ _ us hl => match us, hl with | [_], _ => rfl), g_makes_row := PySem.W.mg_of X G a4,
    a_is_line := f5, d_is_line := _, F_is_line := F5, b_is_line := F5.binds (ps := ["thing"]) (fun _ _ _ _ _ _ us hl => match us, hl with | [_], _ => rfl), g_is_line := PySem.W.mg_of X G a5,
    a_is_log := f6, d_is_log := _, F_is_log := F6, b_is_log := F6.binds (ps := ["thing"]) (fun _ _ _ _ _ _ us hl => match us, hl with | [_], _ => rfl), g_is_log := PySem.W.mg_of X G a6,
    a_wrong_at := f7, d_wrong_at := _, F_wrong_at := F7, b_wrong_at := F7.binds (ps := ["rows"]) (fun _ _ _ _ _ _ us hl => match us, hl with | [_], _ => rfl), g_wrong_at := PySem.W.mg_of X G a7,
    a_draw := f8, d_draw := _, F_draw := F8, b_draw := F8.binds (ps := ["_law_pen", "_law_many"]) (fun _ _ _ _ _ _ us hl => match us, hl with | [_, _], _ => rfl), g_draw := PySem.W.mg_of X G a8,
    a_word := f9, d_word := _, F_word := F9, b_word := F9.binds (ps := ["_law_pen"]) (fun _ _ _ _ _ _ us hl => match us, hl with | [_], _ => rfl), g_word := PySem.W.mg_of X G a9,
    a_row := f10, d_row := _, F_row := F10, b_row := F10.binds (ps := ["_law_pen", "_law_minute", "_law_words"]) (fun _ _ _ _ _ _ us hl => match us, hl with | [_, _, _], _ => rfl), g_row := PySem.W.mg_of X G a10,
    a_log := f11, d_log := _, F_log := F11, b_log := F11.binds (ps := ["_law_pen", "_law_most"]) (fun _ _ _ _ _ _ us hl => match us, hl with | [_, _], _ => rfl), g_log := PySem.W.mg_of X G a11,
    a_whole := f12, d_whole := _, F_whole := F12, b_whole := F12.binds (ps := ["_law_thing", "_law_least", "_law_most"]) (fun _ _ _ _ _ _ us hl => match us, hl with | [_, _, _], _ => rfl), g_whole := PySem.W.mg_of X G a12,
    a_named := f13, d_named := _, F_named := F13, b_named := F13.binds (ps := ["_law_thing"]) (fun _ _ _ _ _ _ us hl => match us, hl with | [_], _ => rfl), g_named := PySem.W.mg_of X G a13,
    a_is_row := f14, d_is_row := _, F_is_row := F14, b_is_row := F14.binds (ps := ["_law_thing"]) (fun _ _ _ _ _ _ us hl => match us, hl with | [_], _ => rfl), g_is_row := PySem.W.mg_of X G a14,
    a_odd := f15, d_odd := _, F_odd := F15, b_odd := F15.binds (ps := ["_law_pen", "_law_part"]) (fun _ _ _ _ _ _ us hl => match us, hl with | [_, _], _ => rfl), g_odd := PySem.W.mg_of X G a15,
    a_bent := f16, d_bent := _, F_bent := F16, b_bent := F16.binds (ps := ["_law_pen", "_law_row_here"]) (fun _ _ _ _ _ _ us hl => match us, hl with | [_, _], _ => rfl), g_bent := PySem.W.mg_of X G a16,
    a_law_is_log := f17, d_law_is_log := _, F_law_is_log := F17, b_law_is_log := F17.binds (ps := ["_law_thing"]) (fun _ _ _ _ _ _ us hl => match us, hl with | [_], _ => rfl), g_law_is_log := PySem.W.mg_of X G a17,
    a_spoilt := f18, d_spoilt := _, F_spoilt := F18, b_spoilt := F18.binds (ps := ["_law_pen", "_law_log_here"]) (fun _ _ _ _ _ _ us hl => match us, hl with | [_, _], _ => rfl), g_spoilt := PySem.W.mg_of X G a18,
    a_law := fa, d_law := _, F_law := F19, b_law := F19.binds (ps := ["_law_script"]) (fun _ _ _ _ _ _ us hl => match us, hl with | [_], _ => rfl), g_law := PySem.W.mg_of X G a19,
    z_abs := PySem.W.mg_none_of X G z_abs,
    z_all := PySem.W.mg_none_of X G z_all,
    z_bool := PySem.W.mg_none_of X G z_bool,
    z_dict := PySem.W.mg_none_of X G z_dict,
    z_enumerate := PySem.W.mg_none_of X G z_enumerate,
    z_int := PySem.W.mg_none_of X G z_int,
    z_isinstance := PySem.W.mg_none_of X G z_isinstance,
    z_len := PySem.W.mg_none_of X G z_len,
    z_list := PySem.W.mg_none_of X G z_list,
    z_min := PySem.W.mg_none_of X G z_min,
    z_range := PySem.W.mg_none_of X G z_range,
    z_repr := PySem.W.mg_none_of X G z_repr,
    z_str := PySem.W.mg_none_of X G z_str,
    z_tuple := PySem.W.mg_none_of X G z_tuple,
    t_FULL_AHEAD := t_FULL_AHEAD, c_FULL_AHEAD := PySem.W.mg_of X G m_FULL_AHEAD,
    t_FULL_ASTERN := t_FULL_ASTERN, c_FULL_ASTERN := PySem.W.mg_of X G m_FULL_ASTERN,
    t_LAST_MINUTE := t_LAST_MINUTE, c_LAST_MINUTE := PySem.W.mg_of X G m_LAST_MINUTE,
    t_LONGEST_NAME := t_LONGEST_NAME, c_LONGEST_NAME := PySem.W.mg_of X G m_LONGEST_NAME,
    t_MOST_ROWS := t_MOST_ROWS, c_MOST_ROWS := PySem.W.mg_of X G m_MOST_ROWS,
    D_SENDERS := D_SENDERS, c_SENDERS := PySem.W.mg_of X G m_SENDERS, es_SENDERS := es_SENDERS, n_SENDERS := n_SENDERS, kD_SENDERS := ⟨kl_SENDERS, kk_SENDERS, ks_SENDERS⟩, ki_SENDERS := fun p hp => (List.mem_cons.mp hp).elim (fun e => e ▸ ⟨_, ki0_SENDERS, ⟨_, rfl⟩⟩) (fun hp => (List.mem_cons.mp hp).elim (fun e => e ▸ ⟨_, ki1_SENDERS, ⟨_, rfl⟩⟩) (fun hp => (List.mem_cons.mp hp).elim (fun e => e ▸ ⟨_, ki2_SENDERS, ⟨_, rfl⟩⟩) (fun hp => (List.mem_cons.mp hp).elim (fun e => e ▸ ⟨_, ki3_SENDERS, ⟨_, rfl⟩⟩) (fun hp => (List.mem_cons.mp hp).elim (fun e => e ▸ ⟨_, ki4_SENDERS, ⟨_, rfl⟩⟩) (fun hp => (List.mem_cons.mp hp).elim (fun e => e ▸ ⟨_, ki5_SENDERS, ⟨_, rfl⟩⟩) (fun hp => nomatch hp)))))), kd_SENDERS := fun p hp => (List.mem_cons.mp hp).elim (fun e => e ▸ ⟨es_SENDERS, n_SENDERS, _, kl_SENDERS, kk_SENDERS, ki0_SENDERS, ⟨_, rfl⟩⟩) (fun hp => (List.mem_cons.mp hp).elim (fun e => e ▸ ⟨es_SENDERS, n_SENDERS, _, kl_SENDERS, kk_SENDERS, ki1_SENDERS, ⟨_, rfl⟩⟩) (fun hp => (List.mem_cons.mp hp).elim (fun e => e ▸ ⟨es_SENDERS, n_SENDERS, _, kl_SENDERS, kk_SENDERS, ki2_SENDERS, ⟨_, rfl⟩⟩) (fun hp => (List.mem_cons.mp hp).elim (fun e => e ▸ ⟨es_SENDERS, n_SENDERS, _, kl_SENDERS, kk_SENDERS, ki3_SENDERS, ⟨_, rfl⟩⟩) (fun hp => (List.mem_cons.mp hp).elim (fun e => e ▸ ⟨es_SENDERS, n_SENDERS, _, kl_SENDERS, kk_SENDERS, ki4_SENDERS, ⟨_, rfl⟩⟩) (fun hp => (List.mem_cons.mp hp).elim (fun e => e ▸ ⟨es_SENDERS, n_SENDERS, _, kl_SENDERS, kk_SENDERS, ki5_SENDERS, ⟨_, rfl⟩⟩) (fun hp => nomatch hp)))))), ka_SENDERS := fun p hp => (List.mem_cons.mp hp).elim (fun e => e ▸ ab0_SENDERS) (fun hp => (List.mem_cons.mp hp).elim (fun e => e ▸ ab1_SENDERS) (fun hp => (List.mem_cons.mp hp).elim (fun e => e ▸ ab2_SENDERS) (fun hp => (List.mem_cons.mp hp).elim (fun e => e ▸ ab3_SENDERS) (fun hp => (List.mem_cons.mp hp).elim (fun e => e ▸ ab4_SENDERS) (fun hp => (List.mem_cons.mp hp).elim (fun e => e ▸ ab5_SENDERS) (fun hp => (List.mem_cons.mp hp).elim (fun e => e ▸ ab6_SENDERS) (fun hp => (List.mem_cons.mp hp).elim (fun e => e ▸ ab7_SENDERS) (fun hp => nomatch hp)))))))),
    D_TUBES := D_TUBES, c_TUBES := PySem.W.mg_of X G m_TUBES, kt_TUBES := fun H => .inr ⟨_, its_TUBES, tn_TUBES, lt_TUBES, rfl, rfl, (Nat.le_trans (Nat.le_of_eq (show its_TUBES.size = 2 by simpa using vv_TUBES.length.symm)) (by decide)), vv_TUBES⟩ }
  exact ⟨PySem.W.fnOf "law" "law" (defArgs s_law) (defBody s_law) (defScope s_law) .none kV19 dc19 pm19 an19 cd19 ct19, fun s v => .of_eq rfl, fun base _ _ => ok_law T⟩
end RO
open PySem PySem.W PyProof.Rows in
set_option maxRecDepth 100000 in
set_option maxHeartbeats 0 in
theorem PySem.Challenge.cw_ringorders_k04_logs_known_holds : PySem.Challenge.rw_ringorders_k04_logs_known.Holds := by
  w_on; o_law; k_head; (case hw => w_witness2)
  k_fill
  refine RO.walk_G (l := PySem.Challenge.rw_ringorders_k04_logs_known) (n := 63) (k := 6) (x := "_law_script") (sp := RO.spLaw) rfl (by decide) rfl ⟨rfl, by decide, by decide⟩ (fun w h Y => PySem.W.kIn_of Y) ?F RO.law_in
  case F =>
    intro w mg fa h KX G hmg
    refine' RO.all_mk KX G hmg ?a0 ?l0 ?c0 ?k0 ?a1 ?l1 ?c1 ?k1 ?a2 ?l2 ?c2 ?k2 ?a3 ?l3 ?c3 ?k3 ?a4 ?l4 ?c4 ?k4 ?a5 ?l5 ?c5 ?k5 ?a6 ?l6 ?c6 ?k6 ?a7 ?l7 ?c7 ?k7 ?a8 ?l8 ?c8 ?k8 ?a9 ?l9 ?c9 ?k9 ?a10 ?l10 ?c10 ?k10 ?a11 ?l11 ?c11 ?k11 ?a12 ?l12 ?c12 ?k12 ?a13 ?l13 ?c13 ?k13 ?a14 ?l14 ?c14 ?k14 ?a15 ?l15 ?c15 ?k15 ?a16 ?l16 ?c16 ?k16 ?a17 ?l17 ?c17 ?k17 ?a18 ?l18 ?c18 ?k18 ?a19 ?l19 ?c19 ?k19 ?z_abs ?z_all ?z_bool ?z_dict ?z_enumerate ?z_int ?z_isinstance ?z_len ?z_list ?z_min ?z_range ?z_repr ?z_str ?z_tuple ?m_FULL_AHEAD ?m_FULL_ASTERN ?m_LAST_MINUTE ?m_LONGEST_NAME ?m_MOST_ROWS ?m_SENDERS ?kl_SENDERS ?kk_SENDERS ?ks_SENDERS ?ki0_SENDERS ?ki1_SENDERS ?ki2_SENDERS ?ki3_SENDERS ?ki4_SENDERS ?ki5_SENDERS ?ab0_SENDERS ?ab1_SENDERS ?ab2_SENDERS ?ab3_SENDERS ?ab4_SENDERS ?ab5_SENDERS ?ab6_SENDERS ?ab7_SENDERS ?m_TUBES ?lt_TUBES ?vv_TUBES
    (case a0 => k_is)
    (case l0 => k_is)
    (case c0 => k_is)
    (case k0 => k_is)
    (case a1 => k_is)
    (case l1 => k_is)
    (case c1 => k_is)
    (case k1 => k_is)
    (case a2 => k_is)
    (case l2 => k_is)
    (case c2 => k_is)
    (case k2 => k_is)
    (case a3 => k_is)
    (case l3 => k_is)
    (case c3 => k_is)
    (case k3 => k_is)
    (case a4 => k_is)
    (case l4 => k_is)
    (case c4 => k_is)
    (case k4 => k_is)
    (case a5 => k_is)
    (case l5 => k_is)
    (case c5 => k_is)
    (case k5 => k_is)
    (case a6 => k_is)
    (case l6 => k_is)
    (case c6 => k_is)
    (case k6 => k_is)
    (case a7 => k_is)
    (case l7 => k_is)
    (case c7 => k_is)
    (case k7 => k_is)
    (case a8 => k_is)
    (case l8 => k_is)
    (case c8 => k_is)
    (case k8 => k_is)
    (case a9 => k_is)
    (case l9 => k_is)
    (case c9 => k_is)
    (case k9 => k_is)
    (case a10 => k_is)
    (case l10 => k_is)
    (case c10 => k_is)
    (case k10 => k_is)
    (case a11 => k_is)
    (case l11 => k_is)
    (case c11 => k_is)
    (case k11 => k_is)
    (case a12 => k_is)
    (case l12 => k_is)
    (case c12 => k_is)
    (case k12 => k_is)
    (case a13 => k_is)
    (case l13 => k_is)
    (case c13 => k_is)
    (case k13 => k_is)
    (case a14 => k_is)
    (case l14 => k_is)
    (case c14 => k_is)
    (case k14 => k_is)
    (case a15 => k_is)
    (case l15 => k_is)
    (case c15 => k_is)
    (case k15 => k_is)
    (case a16 => k_is)
    (case l16 => k_is)
    (case c16 => k_is)
    (case k16 => k_is)
    (case a17 => k_is)
    (case l17 => k_is)
    (case c17 => k_is)
    (case k17 => k_is)
    (case a18 => k_is)
    (case l18 => k_is)
    (case c18 => k_is)
    (case k18 => k_is)
    (case a19 => k_is)
    (case l19 => k_is)
    (case c19 => k_is)
    (case k19 => k_is)
    (case z_abs => k_is)
    (case z_all => k_is)
    (case z_bool => k_is)
    (case z_dict => k_is)
    (case z_enumerate => k_is)
    (case z_int => k_is)
    (case z_isinstance => k_is)
    (case z_len => k_is)
    (case z_list => k_is)
    (case z_min => k_is)
    (case z_range => k_is)
    (case z_repr => k_is)
    (case z_str => k_is)
    (case z_tuple => k_is)
    (case m_FULL_AHEAD => k_is)
    (case m_FULL_ASTERN => k_is)
    (case m_LAST_MINUTE => k_is)
    (case m_LONGEST_NAME => k_is)
    (case m_MOST_ROWS => k_is)
    (case m_SENDERS => k_is)
    (case kl_SENDERS => k_is)
    (case kk_SENDERS => k_keys)
    (case ks_SENDERS => (first | rfl | decide +kernel))
    (case ki0_SENDERS => k_is)
    (case ki1_SENDERS => k_is)
    (case ki2_SENDERS => k_is)
    (case ki3_SENDERS => k_is)
    (case ki4_SENDERS => k_is)
    (case ki5_SENDERS => k_is)
    (case ab0_SENDERS => k_is)
    (case ab1_SENDERS => k_is)
    (case ab2_SENDERS => k_is)
    (case ab3_SENDERS => k_is)
    (case ab4_SENDERS => k_is)
    (case ab5_SENDERS => k_is)
    (case ab6_SENDERS => k_is)
    (case ab7_SENDERS => k_is)
    (case m_TUBES => k_is)
    (case lt_TUBES => k_is)
    (case vv_TUBES => exact .cons ⟨_, rfl⟩ (.cons ⟨_, rfl⟩ (.nil)))
