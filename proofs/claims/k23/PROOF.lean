import PyProof.Rows.All
import Wide.All
import OpenK.AllK
import Wide.FinOn
import HandS.ForMost
import HandS.Walk
import HandS.Wide
import HandS.Style
import HandS.More
import HandS.SetFor
import HandS.SortInts
import HandS.IsInst
import HandS.Codes
import PyProof.ReprRoads
import HandS.Defaults
import HandS.FStr
import HandS.RaiseMore
import KE.KIndexOf
import HandS.Deep
import HandS.Strs
import HandS.TupSets
import PyProof.WalksMore
import PyProof.TupleIter
import HandS.Dict
import KE.KExcSuper
import HandS.Exc
import PyProof.FString2
import HandS.Conv
import HandS.TryOnly
import PySem.Challenge.RW_holdtap_k23_combos_judged
set_option Elab.async false
set_option linter.all false
set_option maxRecDepth 100000
set_option maxHeartbeats 4000000
/-! A layer over the hand layer in which a def knows that no display is being shown (A.guards): repr needs it. -/
namespace Gd
open PySem PySem.Spec PyProof.Rows L2

/-- what a def promises where no guard stands -/
structure FnG (P : Program) (w : World) (K : PySem.W.Frag) (mg : Str → Option Value) (base : Heap)
    (k : Nat) (f : Addr) (fd : FuncData) (ps : List Str) (sp : Sp) : Prop where
  len : ∀ vs H Q E, sp vs H Q E → vs.length = ps.length
  go : ∀ (A : Around) (outer : List Env) (s : Shared) (H : Hp) (args : Args) (us : List Value) (vs : List V) (Q : VK),
    A.guards = some [] → Room k A → Env0 P w K mg base A outer s H → BindsTo s fd args (ps.zip us) →
    Vals vs us → sp vs H Q E0 →
    codeAny (model P w) A (.call (.ref f) args) (CR CX0 outer P w H s Q E0) s

theorem deep_guards {A : Around} {e : Env} (h : A.guards = some []) : (A.deeper e).guards = some [] := h

section
variable {P : Program} {w : World} {K : PySem.W.Frag} {mg : Str → Option Value} {base : Heap}
theorem fnG {x qual : Str} {st : Stmt} {f : Addr} {fd : FuncData} {N ps : List Str} {k : Nat} {sp : Sp}
    (F : Fun K x qual st f fd) (S : FnScope N ps (defScope st))
    (len : ∀ vs H Q E, sp vs H Q E → vs.length = ps.length)
    (hb : ∀ (cdv : Value) (A : Around) (outer : List Env) (s : Shared) (H : Hp) (vs : List V) (Q : VK),
      A.guards = some [] → Room k (A.deeper (envOfC qual (defScope st) s.heap.objs.size f cdv)) → sp vs H Q E0 →
      ∃ t, PSs (cxOf CX0 P w K mg base N qual (defScope st) f cdv A outer s H E0).nox (defBody st) t ∧
        t { nx := fun _ H' => Q .non H', rt := Q } (start N vs) H) :
    FnG P w K mg base (k + 1) f fd ps sp := by
  obtain ⟨oc, od, kV, doc, pm, an, cdv, ct, osl, rfl, lk, hcd⟩ := F.ex
  refine ⟨len, fun A outer s H args us vs Q hg hr e0 bt rv hsp => ?_⟩
  have kin : K.In s.heap := e0.mod.kin.keeps (fun b o e => (e0.bs b o e).1)
  have nol : s.heap.NoLimit := e0.mod.nolimit.keeps (fun b o e => (e0.bs b o e).1)
  have pk : ((ps.zip us).all fun y => (defScope st).names.lookup y.1 == some NameKind.local ||
      (defScope st).names.lookup y.1 == some NameKind.cell) = true := by
    rw [List.all_eq_true]
    rintro ⟨n, v⟩ hm
    have hp := S.par n (List.of_mem_zip hm).1
    rcases hp with e | e <;> simp [e]
  refine Att.call_fn kin nol lk hcd hr.depth bt pk (fun s1 ic => ?_) S.co S.gen S.kind
  obtain ⟨t, ht, hq⟩ := hb cdv A outer s H vs Q hg (hr.deeper _) hsp
  have J := inv_start (CX := CX0) (E := E0) (P := P) (w := w) (mg := mg) (base := base) S hr.hd e0 (len _ _ _ _ hsp) rv ic
  have J' := J.wish (fun _ _ => False)
  refine wpAny_mono (ht.run [] s1 (start N vs) H _ J' hq) (fun fl s' sp' => ?_) (fun _ _ z => z.elim)
  match fl, sp' with
  | .next, ⟨σ', H', L, q⟩ => exact ⟨.non, H', L.os, L.bare, L.base, L.hok, rfl, q⟩
  | .ret u, ⟨v, σ', H', L, rr, q⟩ => exact ⟨v, H', L.os, L.bare, L.base, L.hok, rr, q⟩
  | .brk, ⟨_, _, _, q⟩ => exact False.elim q
  | .cont, ⟨_, _, _, q⟩ => exact False.elim q
end

/-- a def that may be called by its name -/
structure Cl (P : Program) (w : World) (K : PySem.W.Frag) (mg : Str → Option Value) (base : Heap) (k : Nat) (x : Str) (sp : Sp) : Prop where
  ex : ∃ (f : Addr) (fd : FuncData) (ps : List Str), FnG P w K mg base k f fd ps sp ∧ mg x = some (.ref f) ∧
    PySem.W.keepIn K (.ref f) = true ∧ Binds K fd ps []
/-- where a def stands: its text, its name in the module -/
structure At (K : PySem.W.Frag) (mg : Str → Option Value) (x : Str) (st : Stmt) (ps : List Str) : Prop where
  ex : ∃ (f : Addr) (fd : FuncData), Fun K x x st f fd ∧ mg x = some (.ref f) ∧ Binds K fd ps []
section
variable {P : Program} {w : World} {K : PySem.W.Frag} {mg : Str → Option Value} {base : Heap}
theorem clG {x : Str} {st : Stmt} {N ps : List Str} {k : Nat} {sp : Sp} (a : At K mg x st ps) (S : FnScope N ps (defScope st))
    (len : ∀ vs H Q E, sp vs H Q E → vs.length = ps.length)
    (hb : ∀ (f : Addr) (cdv : Value) (A : Around) (outer : List Env) (s : Shared) (H : Hp) (vs : List V) (Q : VK),
      A.guards = some [] → Room k (A.deeper (envOfC x (defScope st) s.heap.objs.size f cdv)) → sp vs H Q E0 →
      ∃ t, PSs (cxOf CX0 P w K mg base N x (defScope st) f cdv A outer s H E0).nox (defBody st) t ∧
        t { nx := fun _ H' => Q .non H', rt := Q } (start N vs) H) : Cl P w K mg base (k + 1) x sp := by
  obtain ⟨f, fd, F, hm, b⟩ := a.ex
  exact ⟨f, fd, ps, fnG F S len (hb f), hm, F.kp, b⟩
theorem Cl.imp {x : Str} {k : Nat} {sp sp' : Sp} (c : Cl P w K mg base k x sp) (h : ∀ vs H Q E, sp' vs H Q E → sp vs H Q E) :
    Cl P w K mg base k x sp' := by
  obtain ⟨f, fd, ps, F, hm, kp, b⟩ := c.ex
  exact ⟨f, fd, ps, ⟨fun vs H Q E z => F.len vs H Q E (h _ _ _ _ z), fun A o s H as us vs Q g r e bt rv z => F.go A o s H as us vs Q g r e bt rv (h _ _ _ _ z)⟩, hm, kp, b⟩
end
section
variable {X : Cx} {k j : Nat} {x : Str} {sp : Sp} {p pos : Pos} {e : Expr} {es : List Expr} {t : TA}
theorem run_cl {f : Addr} {fd : FuncData} {ps : List Str} {pins : List (Addr × Obj)} {σ : L2.St} {H : Hp} {s : Shared} {Q : VK} {us : List Value} {vs : List V}
    (F : FnG X.prog X.w X.K X.mg X.base k f fd ps sp) (hg : X.A.guards = some []) (hr : Room k X.A) (b : Binds X.K fd ps [])
    (I : Inv X pins σ H s) (rv : Vals vs us) (h : sp vs H Q E0) : wpAny (model X.prog X.w) X.A (call (.ref f) us) (EP X pins σ Q) X.xe s := by
  have hl : us.length = ps.length := rv.length.symm.trans (F.len _ _ _ _ h)
  have bt := b s us I.kIn (by simpa using hl)
  rw [List.append_nil] at bt
  refine wpAny_call (codeAny_mono (F.go X.A X.stack s H ⟨us, []⟩ us vs Q hg hr I.env0 bt rv h) (fun r s' hq => ?_))
  match r, hq with
  | .ok (.ret u), hq => exact I.after hq
  | .ok .next, hq => exact False.elim hq
  | .ok .brk, hq => exact False.elim hq
  | .ok .cont, hq => exact False.elim hq
  | .error _, hq => exact False.elim hq
/-- f(e, ..) -/
theorem pe_cl (c : Cl X.prog X.w X.K X.mg X.base k x sp) (hg : X.A.guards = some []) (hr : Room j X.A) (hk : k ≤ j) (gl : Gl X x) (ha : PA X (e :: es) t)
    (hd : (x == ("__debug__" : Str)) = false := by decide)
    (he : starEach (e :: es) X.env = (false, eval e X.env) :: starEach es X.env := by rfl)
    (hp : (backTo pos (starEach es X.env)).any (·.1) = false := by rfl) :
    PE X (.Call (.Name x p) (e :: es) [] pos) (tCall sp [] E0 t) := by
  obtain ⟨f, fd, ps, F, hm, kp, b⟩ := c.ex
  refine ⟨fun pins s σ H Q I h => wpAny_Call_Name_kw (ld_glob I gl hm (PySem.W.callWith_K (h₀ := X.base) I.ok.mod.kin kp ?_ he hp) hd)⟩
  refine thn (ha.run pos pins s σ H _ I h) (fun us s1 z => ?_)
  obtain ⟨vs, H1, I1, rv, q⟩ := z
  exact ⟨I1.kIn, run_cl F hg (hr.mono hk) b I1 rv (by simpa using q)⟩
/-- f() -/
theorem pe_cl0 (c : Cl X.prog X.w X.K X.mg X.base k x sp) (hg : X.A.guards = some []) (hr : Room j X.A) (hk : k ≤ j) (gl : Gl X x)
    (hd : (x == ("__debug__" : Str)) = false := by decide) :
    PE X (.Call (.Name x p) [] [] pos) (tCall sp [] E0 tNil) := by
  obtain ⟨f, fd, ps, F, hm, kp, b⟩ := c.ex
  refine ⟨fun pins s σ H Q I h => wpAny_Call_Name_kw (ld_glob I gl hm (PySem.W.callWith_K0 I.kIn kp ?_) hd)⟩
  exact run_cl (us := []) F hg (hr.mono hk) b I .nil h
end

/-! ### rules that lack: a great power, repr of data -/
def CPowW (i j : Int) : Prop := 0 ≤ j ∧ (Builtin.Int.intBits i : Int) * j ≤ 2 ^ 27
theorem op_powW {X : Cx} : OpR X (binaryOp .Pow) (rI CPowW fun i j => .int (i ^ j.toNat)) := opI fun _ _ _ _ _ _ _ hc q => pow_int hc.1 hc.2 q
theorem bits_le {i : Int} {n : Nat} (h : i.natAbs < 2 ^ n) : Builtin.Int.intBits i ≤ n := by
  unfold Builtin.Int.intBits
  split
  · exact Nat.zero_le _
  · rename_i hz
    have h0 : i.natAbs ≠ 0 := by
      intro z
      apply hz
      have : i = 0 := Int.natAbs_eq_zero.mp z
      simp [this]
    have := (Nat.log2_lt h0).mpr h
    omega
theorem powW {i : Int} {n k : Nat} (h : i.natAbs < 2 ^ n) (hs : n * k ≤ 2 ^ 27) : CPowW i (k : Int) := by
  refine ⟨by omega, ?_⟩
  have b := bits_le h
  have m : Builtin.Int.intBits i * k ≤ 2 ^ 27 := Nat.le_trans (Nat.mul_le_mul_right k b) hs
  exact_mod_cast m

/-- repr(x), x a list or a tuple of data -/
def rRep (K : PySem.W.Frag) : List V → Hp → VK → Prop := fun xs H Q => ∃ (a : Addr) (d : PyData), xs = [.ref a] ∧ Dp K H (.ref a) d ∧
  d.showable = true ∧ d.depth ≤ 50 ∧ d.shown.length ≤ sizeLine ∧ Q (.str d.shown) H
mutual
theorem dp_nodict {K : PySem.W.Frag} {H : Hp} : ∀ (d : PyData) (v : V), Dp K H v d → d.hasDict = false
  | .none, _, _ => rfl
  | .bool _, _, _ => rfl
  | .int _, _, _ => rfl
  | .str _, _, _ => rfl
  | .list ds, _, h => by
    cases h with
    | lst _ ha => exact dps_nodict ds _ ha
  | .tuple ds, _, h => by
    cases h with
    | tup _ ha => exact dps_nodict ds _ ha
  | .dict _, _, h => by cases h
theorem dps_nodict {K : PySem.W.Frag} {H : Hp} : ∀ (ds : List PyData) (vs : List V), DpAll K H vs ds → PyData.hasDictAll ds = false
  | [], _, _ => rfl
  | d :: ds, _, h => by
    cases h with
    | cons h1 h2 =>
      show (d.hasDict || PyData.hasDictAll ds) = false
      rw [dp_nodict d _ h1, dps_nodict ds _ h2]
      rfl
end
theorem call_rep {X : Cx} {k : Nat} (hg : X.A.guards = some []) (hr : Room k X.A) : CallR X (.builtin "repr") (rRep X.K) := by
  intro pins s σ H xs us Q I r h
  obtain ⟨a, d, rfl, hd, hs, hdp, hz, q⟩ := h
  obtain ⟨u, rfl, ru⟩ := vals1 r
  obtain ⟨as, rd⟩ := Dp.reads I d (.ref a) u hd ru
  cases ru
  have hu := hr.un
  exact repr_of_reads' rd hs (PyData.noDict_hsm (dp_nodict d _ hd)) hg (by omega) (fun _ _ e => e)
    (fun h' t tk hk => ⟨.str d.shown, H, I.kept (t' := tk) hk, ⟨t, rfl⟩, q⟩) hz

/-! ### the law's own call -/
section
variable {P : Program} {w : World} {K : PySem.W.Frag} {mg mb : Str → Option Value} {k : Nat} {fa a : Addr} {fd : FuncData} {x : Str} {sp : Sp} {s₁ : Shared} {vs : List Value} {ns : List Int}
/-- the heap as the caller has it, H what is tracked of it: at most the script -/
theorem top_run (KX : K.In s₁.heap) (gl : s₁.heap.Ns mainGlobals mg) (bl : s₁.heap.Ns builtinsNs mb) (bb : ∀ y : Str, y ≠ "__name__" → mb y = bootBuiltins y)
    (nol : s₁.heap.NoLimit) (ng : s₁.gens = #[]) (oa : s₁.heap.get? a = some { cls := .type "list", data := .seq vs.toArray }) (hr : Room k callerA)
    (F : ∀ base : Heap, K.In base → base.Ns mainGlobals mg → FnG P w K mg base k fa fd [x] sp)
    (bt : ∀ (s : Shared) (u : Value), BindsTo s fd ⟨[u], []⟩ [(x, u)]) {H : Hp} (only : Only H) (hok : HOk P w H s₁.heap)
    (at_a : ∀ b, H b ≠ none → b = a ∧ K.lookup a = none) (h : sp [.ref a] H (fun v _ => v = .bl true) E0) :
    codeAny (model P w) callerA (.call (.ref fa) ⟨[.ref a], []⟩)
      (fun r s' => r = .ok (.ret (.bool true)) ∧ OldK s₁.heap s'.heap ∧ s'.os = s₁.os ∧ AllBare s'.gens) s₁ := by
  have free : ∀ {b : Addr} {o : Obj}, s₁.heap.get? b = some o → (b = a → ∃ es ep, o.data = .dict es ep) → H b = none := by
    intro b o e d
    rcases Classical.em (H b = none) with z | z
    · exact z
    · obtain ⟨rfl, _⟩ := at_a b z
      obtain ⟨es, ep, hd⟩ := d rfl
      rw [oa] at e
      cases e
      cases hd
  have nsAt : ∀ {b : Addr} {m : Str → Option Value}, s₁.heap.Ns b m → (hidT s₁.heap H).Ns b m := by
    intro b m z
    obtain ⟨o, es, ep, e, d, r⟩ := z
    exact ⟨o, es, ep, hidT_get e (free e fun _ => ⟨es, ep, d⟩), d, r⟩
  have KB : K.In (hidT s₁.heap H) := by
    intro b o e
    refine hidT_get (KX b o e) ?_
    rcases Classical.em (H b = none) with z | z
    · exact z
    · obtain ⟨rfl, q⟩ := at_a b z
      rw [q] at e
      cases e
  obtain ⟨ml, l1, l2⟩ := nol
  have M : Mod K mg (hidT s₁.heap H) := ⟨KB, nsAt gl, ⟨mb, nsAt bl, bb⟩, ⟨ml, nsAt l1, l2⟩⟩
  have E : Env0 P w K mg (hidT s₁.heap H) callerA [] s₁ H := by
    refine ⟨rfl, M, fun b o e => of_hidT e, Nat.le_of_eq (hidT_size _ _), True.intro, fun b hb => ?_, hok, .of_eq ng⟩
    exact nomatch (show b ∈ ([] : List Addr) from hb)
  refine codeAny_mono ((F _ KB (nsAt gl)).go callerA [] s₁ H ⟨[.ref a], []⟩ [.ref a] [.ref a] _ rfl hr E (bt s₁ (.ref a)) (.cons rfl .nil) h) ?_
  intro r s' z
  match r, z with
  | .ok .next, z => exact False.elim z
  | .ok .brk, z => exact False.elim z
  | .ok .cont, z => exact False.elim z
  | .error _, z => exact False.elim z
  | .ok (.ret u), ⟨v, H', os, bare, un, hok', rv, q⟩ =>
    have q : v = .bl true := q
    subst q
    have ru : u = Value.bool true := rv
    subst ru
    refine ⟨rfl, OldK.of_keep fun b o e => ?_, os, bare⟩
    rcases only b with n | ⟨ob, xs, n⟩
    · exact un.keep b o e n (fun m => nomatch (show b ∈ ([] : List Addr) from m)) (fun m => nomatch m)
    · have f1 := hok b _ n
      have f2 := hok' b _ (un.frzs b ob _ n)
      have g1 : s₁.heap.get? b = some ob := f1.1
      have g2 : s'.heap.get? b = some ob := f2.1
      rw [e] at g1
      cases g1
      exact g2
theorem law_callG (KX : K.In s₁.heap) (gl : s₁.heap.Ns mainGlobals mg) (bl : s₁.heap.Ns builtinsNs mb) (bb : ∀ y : Str, y ≠ "__name__" → mb y = bootBuiltins y)
    (nol : s₁.heap.NoLimit) (ng : s₁.gens = #[]) (oa : s₁.heap.get? a = some { cls := .type "list", data := .seq vs.toArray }) (hi : IntsAre vs ns) (hl : ns.length ≤ sizeLine) (hr : Room k callerA)
    (F : ∀ base : Heap, K.In base → base.Ns mainGlobals mg → FnG P w K mg base k fa fd [x] sp)
    (bt : ∀ (s : Shared) (u : Value), BindsTo s fd ⟨[u], []⟩ [(x, u)])
    (hsp : ∀ H : Hp, Only H → SqL K H a (ns.map V.int) → sp [.ref a] H (fun v _ => v = .bl true) E0) :
    codeAny (model P w) callerA (.call (.ref fa) ⟨[.ref a], []⟩)
      (fun r s' => r = .ok (.ret (.bool true)) ∧ OldK s₁.heap s'.heap ∧ s'.os = s₁.os ∧ AllBare s'.gens) s₁ := by
  have rv := vals_ints hi
  have lenV := hi.length
  by_cases hk : K.lookup a = none
  · let H : Hp := fun b => if b = a then some (.frz { cls := .type "list", data := .seq vs.toArray } (.lst (ns.map V.int))) else none
    have Ha : H a = some (.frz { cls := .type "list", data := .seq vs.toArray } (.lst (ns.map V.int))) := if_pos rfl
    have Hn : ∀ {b : Addr}, b ≠ a → H b = none := fun h => if_neg h
    have only : Only H := by
      intro b
      by_cases e : b = a
      · subst e; exact .inr ⟨_, _, Ha⟩
      · exact .inl (Hn e)
    refine top_run KX gl bl bb nol ng oa hr F bt (H := H) only ?_ ?_ (hsp H only (.inl (.inr ⟨_, Ha⟩)))
    · intro b u z
      by_cases e : b = a
      · subst e
        rw [Ha] at z
        cases z
        exact ⟨oa, by rw [List.length_map]; exact hl, vs, _, rv, oa⟩
      · rw [Hn e] at z; cases z
    · intro b z
      by_cases e : b = a
      · exact ⟨e, hk⟩
      · exact absurd (Hn e) z
  · obtain ⟨o, ho⟩ := Option.ne_none_iff_exists'.mp hk
    have e := KX a o ho
    rw [oa] at e
    cases e
    have only : Only (fun _ => none) := fun _ => .inl rfl
    refine top_run KX gl bl bb nol ng oa hr F bt (H := fun _ => none) only (fun b u z => nomatch z) (fun b z => absurd rfl z) (hsp _ only (.inr ?_))
    exact ⟨_, vs.toArray, _, ho, rfl, rfl, rfl, by rw [List.size_toArray, lenV]; exact hl, by simpa using rv⟩
end
/-- what k_head leaves, from the promise of the law's def -/
theorem walkG {l : PySem.W.OpenLaw} {n k : Nat} {q : Program} {loose : List Str} {XP : (Str → Option Value) → Heap → Prop} {YP : World → Heap → Prop} {d : DefRec} {K : Params → PySem.W.Frag} {sp : PySem.W.Frag → Sp} {x : Str}
    (hn : l.most = some n) (hn2 : n ≤ sizeLine) (hdf : d.params.defaults = []) (hr : Room k callerA)
    (hY : ∀ (w : World) (h : Heap), YP w h → (K w.params).In h)
    (F : ∀ (w : World) (mg : Str → Option Value) (fa : Addr) (h : Heap), (K w.params).In h → h.Ns mainGlobals mg → mg d.name = some (.ref fa) →
      ∃ fd : FuncData, (∀ (s : Shared) (u : Value), BindsTo s fd ⟨[u], []⟩ [(x, u)]) ∧
        ∀ base : Heap, (K w.params).In base → base.Ns mainGlobals mg → FnG l.prog w (K w.params) mg base k fa fd [x] (sp (K w.params)))
    (hsp : ∀ (K : PySem.W.Frag) (H : Hp) (a : Addr) (ns : List Int), ns.length ≤ n → SqL K H a (ns.map V.int) →
      sp K [.ref a] H (fun v _ => v = .bl true) E0) :
    PySem.W.WalkO q loose XP YP l.row.toRowW d [] (fun f vs => PySem.call f vs) := by
  refine Att.attach_call hn hdf ?_
  intro w s₀ s₁ mg mb fa o pm cd doc a vs ns G Y ho hd hcd hmg oa hi hlen ng
  have KX := hY w _ Y
  obtain ⟨fd, bt, hF⟩ := F w mg fa _ KX G.T.g hmg
  exact law_callG KX G.T.g G.T.b G.T.builtins G.T.nolimit ng oa hi (Nat.le_trans hlen hn2) hr hF bt (fun H _ hS => hsp _ H a ns hlen hS)
end Gd

set_option Elab.async false
set_option linter.all false
set_option maxRecDepth 100000
set_option maxHeartbeats 4000000
/-! a def with defaults, called with all of its arguments, or with some of them -/
namespace Gd
open PySem PySem.Spec PyProof.Rows L2
theorem room65 {k : Nat} {A : Around} (r : Room k A) : A.units + 65 < cLine := by have := r.un; omega
/-- where a def with defaults stands; ds: the values that fill up -/
structure AtX (K : PySem.W.Frag) (mg : Str → Option Value) (x : Str) (st : Stmt) (ps : List Str) (ds : List Value) : Prop where
  ex : ∃ (f : Addr) (oc : Value) (od : Option Addr) (dV kV doc pm : Value) (an : Option Addr) (cdv ct : Value) (osl : Array (Option Value)),
    K.lookup f = some ⟨oc, od, .func (PySem.W.fnOf x x (defArgs st) (defBody st) (defScope st) dV kV doc pm an cdv ct), osl⟩ ∧ PySem.W.codeIn K cdv x = true ∧ PySem.W.keepIn K (.ref f) = true ∧ mg x = some (.ref f) ∧
    Binds K (PySem.W.fnOf x x (defArgs st) (defBody st) (defScope st) dV kV doc pm an cdv ct) ps ds
section
variable {P : Program} {w : World} {K : PySem.W.Frag} {mg : Str → Option Value} {base : Heap}
theorem clX {x : Str} {st : Stmt} {N ps : List Str} {k : Nat} {sp : Sp} (a : AtX K mg x st ps []) (S : FnScope N ps (defScope st))
    (len : ∀ vs H Q E, sp vs H Q E → vs.length = ps.length)
    (hb : ∀ (f : Addr) (cdv : Value) (A : Around) (outer : List Env) (s : Shared) (H : Hp) (vs : List V) (Q : VK),
      A.guards = some [] → Room k (A.deeper (envOfC x (defScope st) s.heap.objs.size f cdv)) → sp vs H Q E0 →
      ∃ t, PSs (cxOf CX0 P w K mg base N x (defScope st) f cdv A outer s H E0).nox (defBody st) t ∧
        t { nx := fun _ H' => Q .non H', rt := Q } (start N vs) H) : Cl P w K mg base (k + 1) x sp := by
  obtain ⟨f, oc, od, dV, kV, doc, pm, an, cdv, ct, osl, lk, hcd, kp, hm, bd⟩ := a.ex
  refine ⟨f, _, ps, ⟨len, fun A outer s H args us vs Q hg hr e0 bt rv hsp => ?_⟩, hm, kp, bd⟩
  have kin : K.In s.heap := e0.mod.kin.keeps (fun b o e => (e0.bs b o e).1)
  have nol : s.heap.NoLimit := e0.mod.nolimit.keeps (fun b o e => (e0.bs b o e).1)
  have pk : ((ps.zip us).all fun y => (defScope st).names.lookup y.1 == some NameKind.local ||
      (defScope st).names.lookup y.1 == some NameKind.cell) = true := by
    rw [List.all_eq_true]
    rintro ⟨n, v⟩ hm
    have hp := S.par n (List.of_mem_zip hm).1
    rcases hp with e | e <;> simp [e]
  refine Att.call_fn kin nol lk hcd hr.depth bt pk (fun s1 ic => ?_) S.co S.gen S.kind
  obtain ⟨t, ht, hq⟩ := hb f cdv A outer s H vs Q hg (hr.deeper _) hsp
  have J := inv_start (CX := CX0) (E := E0) (P := P) (w := w) (mg := mg) (base := base) S hr.hd e0 (len _ _ _ _ hsp) rv ic
  have J' := J.wish (fun _ _ => False)
  refine wpAny_mono (ht.run [] s1 (start N vs) H _ J' hq) (fun fl s' sp' => ?_) (fun _ _ z => z.elim)
  match fl, sp' with
  | .next, ⟨σ', H', L, q⟩ => exact ⟨.non, H', L.os, L.bare, L.base, L.hok, rfl, q⟩
  | .ret u, ⟨v, σ', H', L, rr, q⟩ => exact ⟨v, H', L.os, L.bare, L.base, L.hok, rr, q⟩
  | .brk, ⟨_, _, _, q⟩ => exact False.elim q
  | .cont, ⟨_, _, _, q⟩ => exact False.elim q
end
/-- one default behind: all arguments are given -/
theorem atX_all {K : PySem.W.Frag} {h : Heap} {mg : Str → Option Value} {x : Str} {st : Stmt} {ps : List Str} {f T : Addr} {od an td : Option Addr} {sl ts : Array (Option Value)} {oc kV dc pm cd ct d : Value} {tn : Nat} (X : K.In h) (G : h.Ns mainGlobals mg)
    (a : PySem.W.nsIn K mainGlobals x = some (some (.ref f))) (l : K.lookup f = some ⟨oc, od, .func (PySem.W.fnOf x x (defArgs st) (defBody st) (defScope st) (.ref T) kV dc pm an cd ct), sl⟩) (c : PySem.W.codeIn K cd x = true) (k : PySem.W.keepIn K (.ref f) = true)
    (u : K.lookup T = some ⟨.type "tuple", td, .seq #[d] tn, ts⟩)
    (hb : ∀ (T : Addr) (kV doc pm : Value) (an : Option Addr) (cdv ct : Value) (us its : List Value), us.length = ps.length → its.length = 1 →
      ∃ k, bindArgs (PySem.W.fnOf x x (defArgs st) (defBody st) (defScope st) (.ref T) kV doc pm an cdv ct) ⟨us, []⟩ = seqItems? (.ref T) >>= k ∧ k (some its.toArray) = pure (ps.zip us)) : AtX K mg x st ps [] := by
  refine ⟨f, oc, od, .ref T, kV, dc, pm, an, cd, ct, sl, l, c, k, PySem.W.mg_of X G a, fun s us KX hl => ?_⟩
  rw [List.append_nil] at hl ⊢
  obtain ⟨g, e1, e2⟩ := hb T kV dc pm an cd ct us [d] hl rfl
  refine BindsTo.of_looks fun M => ?_
  rw [e1]
  exact looks_items (its := #[d]) KX u rfl (PySem.W.Looks.of_pure e2)
/-- a method's call within a comprehension: the constants said -/
theorem pe_bmB {X : Cx} {K0 : PySem.W.Frag} {T : String} {name : Str} {id : String} {r : V → List V → Hp → VK → Prop} {o e : Expr} {es : List Expr} {to : TE} {t : TA} {apos cpos : Pos} (hK : X.K = K0) (pa : PlainAttrs T) (slot : Slot T name id) (hty : typeOf (.builtin id) = pure (.type "method_descriptor")) (hm : MtR X id r) (ho : PE X o to) (ha : PA X (e :: es) t)
    (hbase : attributeBase o name X.env (eval o X.env) = eval o X.env := by rfl)
    (hfew : ((backTo cpos (starEach (e :: es) X.env)).all (fun x => !x.1) && (backToKw cpos (keywordEach [] X.env)).all (fun x => x.1.isSome)
      && decide ((e :: es).length + ([] : List Keyword).length + (if ([] : List Keyword).isEmpty then 0 else 1) < 30)) = true := by rfl)
    (hline : (apos.endLine == cpos.line) = true := by rfl) (hs : starEach (e :: es) X.env = (false, eval e X.env) :: starEach es X.env := by rfl) (hplain : (backTo cpos (starEach es X.env)).any (·.1) = false := by rfl) :
    PE X (.Call (.Attribute o name apos) (e :: es) [] cpos) (tBM K0 T r to t) := by
  subst hK
  exact pe_bm pa slot hty hm ho ha hbase hfew hline hs hplain
end Gd

set_option Elab.async false
set_option linter.all false
set_option maxRecDepth 100000
set_option maxHeartbeats 4000000
namespace Rm
open PySem PySem.Spec PyProof.Rows L2 Gd

/-! ### how long a display is -/
structure Fit (L n : Nat) (d : PyData) : Prop where
  sh : d.showable = true
  dp : d.depth ≤ n
  ln : d.shown.length ≤ L
theorem Fit.mono {L n L' n' : Nat} {d : PyData} (f : Fit L n d) (h : L ≤ L') (h' : n ≤ n') : Fit L' n' d := ⟨f.sh, by have := f.dp; omega, by have := f.ln; omega⟩
theorem allSh {L n : Nat} : ∀ {ds : List PyData}, (∀ d ∈ ds, Fit L n d) → PyData.showableAll ds = true ∧ PyData.depthAll ds ≤ n ∧ piled (PyData.shownAll ds) ≤ ds.length * (L + 2)
  | [], _ => ⟨rfl, Nat.zero_le _, Nat.zero_le _⟩
  | d :: ds, h => by
    obtain ⟨a, b, c⟩ := allSh (ds := ds) fun x hx => h x (List.mem_cons_of_mem _ hx)
    have f := h d List.mem_cons_self
    refine ⟨?_, ?_, ?_⟩
    · show (d.showable && PyData.showableAll ds) = true
      rw [f.sh, a]; rfl
    · show max d.depth (PyData.depthAll ds) ≤ n
      have := f.dp
      omega
    · show piled (d.shown :: PyData.shownAll ds) ≤ _
      rw [piled_cons, List.length_cons]
      have := f.ln
      have e : (ds.length + 1) * (L + 2) = ds.length * (L + 2) + (L + 2) := Nat.succ_mul _ _
      omega
theorem listText_le (ts : List Str) : (listText ts).length ≤ piled ts + 2 := by
  cases ts with
  | nil => decide
  | cons t r =>
    have h := textFrom_length_pos r 1 (("[" : Str) ++ (if (0 : Nat) > 0 then ", " else "" : String) ++ t) (Nat.succ_pos 0)
    have e : ((("[" : Str) ++ (if (0 : Nat) > 0 then ", " else "" : String) ++ t)).length = 1 + t.length := by
      rw [strLen_append, strLen_append]; rfl
    have x : (listText (t :: r)).length = (textFrom 1 (("[" : Str) ++ (if (0 : Nat) > 0 then ", " else "" : String) ++ t) r).length + 1 := by
      show (textFrom 1 (("[" : Str) ++ (if (0 : Nat) > 0 then ", " else "" : String) ++ t) r ++ "]").length = _
      rw [strLen_append]; rfl
    rw [x, h, e, piled_cons]
    omega
theorem tupleText_le (ts : List Str) : (tupleText ts).length ≤ piled ts + 3 := by
  unfold tupleText
  rw [strLen_append, strLen_append]
  have e1 : ((("(" : String) : Str)).length = 1 := rfl
  have e3 : (((if ts.length == 1 then ",)" else ")" : String) : Str)).length ≤ 2 := by split <;> decide
  rw [e1]
  cases ts with
  | nil =>
    have : (Str.join ", " []).length = 0 := by decide
    omega
  | cons t r =>
    have := join_length_add (t :: r) (by simp)
    omega
theorem fit_list {L n : Nat} {ds : List PyData} (h : ∀ d ∈ ds, Fit L n d) : Fit (ds.length * (L + 2) + 3) (n + 1) (.list ds) := by
  obtain ⟨a, b, c⟩ := allSh h
  have := listText_le (PyData.shownAll ds)
  exact ⟨a, by show PyData.depthAll ds + 1 ≤ _; omega, by show (listText (PyData.shownAll ds)).length ≤ _; omega⟩
theorem fit_tup {L n : Nat} {ds : List PyData} (h : ∀ d ∈ ds, Fit L n d) : Fit (ds.length * (L + 2) + 3) (n + 1) (.tuple ds) := by
  obtain ⟨a, b, c⟩ := allSh h
  have := tupleText_le (PyData.shownAll ds)
  exact ⟨a, by show PyData.depthAll ds + 1 ≤ _; omega, by show (tupleText (PyData.shownAll ds)).length ≤ _; omega⟩
theorem fit_int {i : Int} (h : i.natAbs < 2 ^ 200) : Fit 210 0 (.int i) := by
  have hl : i.natAbs.log2 < 200 := PySem.Flt.log2_lt_of (by decide) h
  refine ⟨?_, Nat.le_refl _, ?_⟩
  · show decide (i.natAbs.log2 < 1920) = true
    exact decide_eq_true (by omega)
  · show (Str.ofString (toString i)).length ≤ 210
    rw [PySem.ofString_length]
    have := int_text_length_le (k := 200) (by decide) hl
    omega
theorem fit_none : Fit 210 0 .none := ⟨rfl, Nat.le_refl _, by decide +kernel⟩
theorem fit_bool (b : Bool) : Fit 210 0 (.bool b) := ⟨rfl, Nat.le_refl _, by cases b <;> decide +kernel⟩

/-! ### records -/
structure Ev where
  t : Int
  k : Int
  d : Bool
def wayS (d : Bool) : Str := if d then "down" else "up"
theorem wayS_inj {a b : Bool} : wayS a = wayS b ↔ a = b := by cases a <;> cases b <;> decide +kernel
theorem wayS_down (d : Bool) : decide (V.str (wayS d) = V.str "down") = d := by cases d <;> decide +kernel
def evD (e : Ev) : PyData := .tuple [.int e.t, .int e.k, .str (wayS e.d)]
def stD (e : Ev) : PyData := .tuple [.int e.k, .str (wayS e.d)]
def evV (e : Ev) : List V := [.int e.t, .int e.k, .str (wayS e.d)]
def stV (e : Ev) : List V := [.int e.k, .str (wayS e.d)]
def recD (es : List Ev) : PyData := .list (es.map evD)
def ordD (es : List Ev) : PyData := .list (es.map stD)
def after (h : Int → Bool) (e : Ev) : Int → Bool := fun k => if k = e.k then e.d else h k
def heldB (es : List Ev) : Int → Bool := es.foldl after fun _ => false
theorem heldB_snoc (es : List Ev) (e : Ev) : heldB (es ++ [e]) = after (heldB es) e := by unfold heldB; rw [List.foldl_append]; rfl
theorem heldB_take {es : List Ev} {i : Nat} {e : Ev} (h : es[i]? = some e) : heldB (es.take (i + 1)) = after (heldB (es.take i)) e := by
  rw [List.take_add_one, h]
  exact heldB_snoc _ _
/-- a record as the document has it -/
def Valid (es : List Ev) : Prop := ∀ (i : Nat) (e : Ev), es[i]? = some e → 0 ≤ e.k ∧ heldB (es.take i) e.k = !e.d ∧ ∀ (j : Nat) (e' : Ev), j < i → es[j]? = some e' → e'.t ≤ e.t
/-- an order: the same without ticks -/
def ValidO (es : List Ev) : Prop := ∀ (i : Nat) (e : Ev), es[i]? = some e → 0 ≤ e.k ∧ heldB (es.take i) e.k = !e.d
theorem Valid.o {es : List Ev} (h : Valid es) : ValidO es := fun i e x => ⟨(h i e x).1, (h i e x).2.1⟩
theorem Valid.nil : Valid [] := fun _ _ h => by simp at h
theorem Valid.take {es : List Ev} (h : Valid es) (n : Nat) : Valid (es.take n) := fun i e x => by
  have hi : i < n := by
    rcases Nat.lt_or_ge i n with q | q
    · exact q
    · rw [List.getElem?_eq_none (by rw [List.length_take]; omega)] at x; cases x
  rw [List.getElem?_take_of_lt hi] at x
  obtain ⟨a, b, c⟩ := h i e x
  refine ⟨a, ?_, fun j e' hj y => ?_⟩
  · rw [List.take_take, Nat.min_eq_left (by omega)]; exact b
  · rw [List.getElem?_take_of_lt (by omega)] at y
    exact c j e' hj y
theorem ValidO.take {es : List Ev} (h : ValidO es) (n : Nat) : ValidO (es.take n) := fun i e x => by
  have hi : i < n := by
    rcases Nat.lt_or_ge i n with q | q
    · exact q
    · rw [List.getElem?_eq_none (by rw [List.length_take]; omega)] at x; cases x
  rw [List.getElem?_take_of_lt hi] at x
  obtain ⟨a, b⟩ := h i e x
  exact ⟨a, by rw [List.take_take, Nat.min_eq_left (by omega)]; exact b⟩
theorem Valid.snoc {es : List Ev} {e : Ev} (h : Valid es) (h0 : 0 ≤ e.k) (hb : heldB es e.k = !e.d) (ht : ∀ e' ∈ es, e'.t ≤ e.t) : Valid (es ++ [e]) := fun i x hx => by
  rcases Nat.lt_or_ge i es.length with q | q
  · rw [List.getElem?_append_left q] at hx
    obtain ⟨a, b, c⟩ := h i x hx
    refine ⟨a, ?_, fun j e' hj y => ?_⟩
    · rw [List.take_append_of_le_length (by omega)]; exact b
    · rw [List.getElem?_append_left (by omega)] at y
      exact c j e' hj y
  · have hi : i = es.length := by
      have := (List.getElem?_eq_some_iff.mp hx).1
      rw [List.length_append] at this
      simp at this
      omega
    subst hi
    rw [List.getElem?_append_right (Nat.le_refl _), Nat.sub_self] at hx
    have ex : e = x := Option.some.inj hx
    subst ex
    refine ⟨h0, ?_, fun j e' hj y => ?_⟩
    · rw [List.take_append_of_le_length (Nat.le_refl _), List.take_length]; exact hb
    · rw [List.getElem?_append_left hj] at y
      exact ht e' (List.mem_of_getElem? y)
/-- the ticks and keys are not too great to be shown -/
def Small (es : List Ev) : Prop := ∀ e ∈ es, e.t.natAbs < 2 ^ 200 ∧ e.k.natAbs < 2 ^ 200
theorem fit_ev {e : Ev} (h : e.t.natAbs < 2 ^ 200 ∧ e.k.natAbs < 2 ^ 200) : Fit 1000 1 (evD e) := by
  refine Fit.mono (fit_tup (L := 210) (n := 0) fun d hd => ?_) (by show 3 * 212 + 3 ≤ 1000; decide) (Nat.le_refl _)
  simp only [List.mem_cons, List.mem_nil_iff, or_false] at hd
  rcases hd with rfl | rfl | rfl
  · exact fit_int h.1
  · exact fit_int h.2
  · exact ⟨rfl, Nat.le_refl _, by cases e.d <;> decide +kernel⟩
theorem fit_st {e : Ev} (h : e.k.natAbs < 2 ^ 200) : Fit 1000 1 (stD e) := by
  refine Fit.mono (fit_tup (L := 210) (n := 0) fun d hd => ?_) (by show 2 * 212 + 3 ≤ 1000; decide) (Nat.le_refl _)
  simp only [List.mem_cons, List.mem_nil_iff, or_false] at hd
  rcases hd with rfl | rfl
  · exact fit_int h
  · exact ⟨rfl, Nat.le_refl _, by cases e.d <;> decide +kernel⟩
theorem fit_rec {es : List Ev} (h : Small es) (hl : es.length ≤ 1000) : Fit 1100000 2 (recD es) := by
  refine Fit.mono (fit_list (L := 1000) (n := 1) fun d hd => ?_) (by rw [List.length_map]; omega) (Nat.le_refl _)
  obtain ⟨e, he, rfl⟩ := List.mem_map.mp hd
  exact fit_ev (h e he)
theorem fit_ord {es : List Ev} (h : Small es) (hl : es.length ≤ 1000) : Fit 1100000 2 (ordD es) := by
  refine Fit.mono (fit_list (L := 1000) (n := 1) fun d hd => ?_) (by rw [List.length_map]; omega) (Nat.le_refl _)
  obtain ⟨e, he, rfl⟩ := List.mem_map.mp hd
  exact fit_st (h e he).2

/-! ### the dict of what is held -/
structure HeldK (kvs : List (Key × V)) (h : Int → Bool) : Prop where
  fm : ∀ p ∈ kvs, ∃ (k : Int) (b : Bool), p = (Sum.inl k, V.bl b)
  nd : (kvs.map (·.1)).Nodup
  at_ : ∀ k : Int, (valV kvs (Sum.inl k)).getD (.bl false) = .bl (h k)
theorem HeldK.nil : HeldK [] fun _ => false := ⟨fun _ h => by simp at h, List.nodup_nil, fun _ => rfl⟩
theorem put_len (kvs : List (Key × V)) (k : Key) (v : V) : (putK kvs k v).length ≤ kvs.length + 1 := by
  unfold putK
  split
  · rw [List.length_map]; omega
  · rw [List.length_append]; exact Nat.le_refl _
theorem put_keys (kvs : List (Key × V)) (k : Key) (v : V) (h : (kvs.map (·.1)).Nodup) : ((putK kvs k v).map (·.1)).Nodup := by
  cases e : valV kvs k with
  | none => exact nd_putK v h e
  | some x =>
    have a : (kvs.any fun kv => decide (kv.1 = k)) = true := by rw [valV_any, e]; rfl
    unfold putK
    rw [if_pos a, List.map_map]
    have : ((fun p : Key × V => p.1) ∘ fun kv => if kv.1 = k then (kv.1, v) else kv) = (·.1) := by
      funext p
      show (if p.1 = k then (p.1, v) else p).1 = p.1
      split <;> rfl
    rw [this]
    exact h
theorem HeldK.put {kvs : List (Key × V)} {es : List Ev} {e : Ev} (h : HeldK kvs (heldB es)) : HeldK (putK kvs (Sum.inl e.k) (.bl e.d)) (heldB (es ++ [e])) := by
  refine ⟨fun p hp => ?_, put_keys _ _ _ h.nd, fun k => ?_⟩
  · unfold putK at hp
    split at hp
    · obtain ⟨q, hq, rfl⟩ := List.mem_map.mp hp
      obtain ⟨k, b, rfl⟩ := h.fm q hq
      by_cases z : (Sum.inl k : Key) = Sum.inl e.k
      · exact ⟨k, e.d, by simp [z]⟩
      · exact ⟨k, b, by simp [z]⟩
    · rcases List.mem_append.mp hp with hp | hp
      · exact h.fm p hp
      · exact ⟨e.k, e.d, List.mem_singleton.mp hp⟩
  · rw [valV_put, heldB_snoc]
    unfold after
    by_cases z : k = e.k
    · subst z; simp
    · rw [if_neg (fun q => z (Sum.inl.inj q)), if_neg z]
      exact h.at_ k
def downs (kvs : List (Key × V)) : List Int := kvs.filterMap fun p => match p with
  | (Sum.inl k, .bl true) => some k
  | _ => none
theorem downs_cons (k : Int) (b : Bool) (r : List (Key × V)) : downs ((Sum.inl k, .bl b) :: r) = if b then k :: downs r else downs r := by
  cases b <;> simp [downs, List.filterMap_cons]
theorem downs_sub : ∀ {kvs : List (Key × V)} {k : Int}, k ∈ downs kvs → (Sum.inl k : Key) ∈ kvs.map (·.1)
  | kvs, k, h => by
    obtain ⟨p, hp, e⟩ := List.mem_filterMap.mp h
    refine List.mem_map.mpr ⟨p, hp, ?_⟩
    obtain ⟨a, b⟩ := p
    cases a with
    | inr _ => cases e
    | inl k' =>
      cases b with
      | bl c => cases c <;> simp at e; rw [e]
      | non => cases e
      | int _ => cases e
      | str _ => cases e
      | byt _ => cases e
      | flt _ => cases e
      | ref _ => cases e
      | ty _ => cases e
theorem downs_nd : ∀ {kvs : List (Key × V)}, (∀ p ∈ kvs, ∃ (k : Int) (b : Bool), p = (Sum.inl k, V.bl b)) → (kvs.map (·.1)).Nodup → (downs kvs).Nodup
  | [], _, _ => List.nodup_nil
  | p :: r, fm, nd => by
    obtain ⟨k, b, rfl⟩ := fm p List.mem_cons_self
    have nd' : ((Sum.inl k : Key) :: r.map (·.1)).Nodup := nd
    obtain ⟨n1, n2⟩ := List.nodup_cons.mp nd'
    have ih := downs_nd (fun q hq => fm q (List.mem_cons_of_mem _ hq)) n2
    rw [downs_cons]
    split
    · exact List.nodup_cons.mpr ⟨fun m => n1 (downs_sub m), ih⟩
    · exact ih
theorem downs_mem : ∀ {kvs : List (Key × V)}, (∀ p ∈ kvs, ∃ (k : Int) (b : Bool), p = (Sum.inl k, V.bl b)) → (kvs.map (·.1)).Nodup → ∀ k : Int, k ∈ downs kvs ↔ valV kvs (Sum.inl k) = some (.bl true)
  | [], _, _, k => by simp [downs, valV]
  | p :: r, fm, nd, k => by
    obtain ⟨k', b, rfl⟩ := fm p List.mem_cons_self
    have nd' : ((Sum.inl k' : Key) :: r.map (·.1)).Nodup := nd
    obtain ⟨n1, n2⟩ := List.nodup_cons.mp nd'
    have ih := downs_mem (fun q hq => fm q (List.mem_cons_of_mem _ hq)) n2 k
    rw [downs_cons]
    by_cases z : k' = k
    · subst z
      rw [valV_pos rfl]
      cases b with
      | true => simp
      | false =>
        simp only [Bool.false_eq_true, if_false]
        constructor
        · intro m; exact absurd (downs_sub m) n1
        · intro m; cases m
    · rw [valV_neg (fun q => z (Sum.inl.inj q))]
      rw [← ih]
      split
      · rw [List.mem_cons]
        exact ⟨fun q => q.resolve_left fun e => z e.symm, .inr⟩
      · exact Iff.rfl
theorem HeldK.mem {kvs : List (Key × V)} {h : Int → Bool} (x : HeldK kvs h) (k : Int) : k ∈ downs kvs ↔ h k = true := by
  rw [downs_mem x.fm x.nd k]
  have q := x.at_ k
  cases e : valV kvs (Sum.inl k) with
  | none =>
    rw [e] at q
    have q : V.bl false = .bl (h k) := q
    have : h k = false := (V.bl.inj q).symm
    simp [this]
  | some v =>
    rw [e] at q
    have q : v = .bl (h k) := q
    subst q
    constructor
    · intro z
      exact V.bl.inj (Option.some.inj z)
    · intro z
      rw [z]
/-- two ascending lists of the same keys -/
theorem same_sorted {a b c d : List Int} (h : ∀ k, k ∈ a ↔ k ∈ b) (na : a.Nodup) (nb : b.Nodup) (pa : c.Perm a) (pb : d.Perm b) (sa : c.Pairwise (· ≤ ·)) (sb : d.Pairwise (· ≤ ·)) : c = d := by
  have p : a.Perm b := (List.perm_ext_iff_of_nodup na nb).mpr h
  exact List.Perm.eq_of_pairwise (fun x y _ _ h1 h2 => Int.le_antisymm h1 h2) sa sb ((pa.trans p).trans pb.symm)

/-! ### heaps that change at one address alone -/
def Off (r : Addr) (H H' : Hp) : Prop := ∀ b o, H b = some o → b ≠ r → H' b = some o
theorem Off.refl {r : Addr} (H : Hp) : Off r H H := fun _ _ h _ => h
theorem Off.trans {r : Addr} {H H1 H2 : Hp} (a : Off r H H1) (b : Off r H1 H2) : Off r H H2 := fun c o h n => b c o (a c o h n) n
theorem Off.of {r : Addr} {H H1 : Hp} (a : Same H H1) : Off r H H1 := fun c o h _ => a c o h
theorem off_upd {r : Addr} {H : Hp} {o : HO} : Off r H (upd H r o) := fun b _ h n => by rw [upd_ne n]; exact h
theorem same_upd {H : Hp} {p : Addr} {o : HO} (h : H p = none) : Same H (upd H p o) := fun b x e => by
  rw [upd_ne (ne_of_none e h)]
  exact e
/-- what is new may change -/
theorem Same.off {H H1 H2 : Hp} {p : Addr} (s : Same H H1) (h : H p = none) (o : Off p H1 H2) : Same H H2 := fun b x e => o b x (s b x e) (ne_of_none e h)

/-! ### lists of tuples -/
def Tups {α : Type} (H : Hp) (f : α → List V) (as : List Addr) (es : List α) : Prop := as.length = es.length ∧ ∀ (i : Nat) (a : Addr) (e : α), as[i]? = some a → es[i]? = some e → H a = some (.tup (f e))
def Lst {α : Type} (f : α → List V) (H : Hp) (c : Addr) (es : List α) : Prop := ∃ as : List Addr, H c = some (.lst (as.map V.ref)) ∧ Tups H f as es
section
variable {α : Type} {f : α → List V} {H H' : Hp} {c r : Addr} {as : List Addr} {es : List α}
theorem Tups.nil : Tups H f [] ([] : List α) := ⟨rfl, fun i a e h _ => by simp at h⟩
theorem Tups.same (h : Tups H f as es) (s : Same H H') : Tups H' f as es := ⟨h.1, fun i a e x y => s _ _ (h.2 i a e x y)⟩
theorem Tups.off {ys : List V} (h : Tups H f as es) (hr : H r = some (.lst ys)) (o : Off r H H') : Tups H' f as es :=
  ⟨h.1, fun i a e x y => o _ _ (h.2 i a e x y) (ne_of (h.2 i a e x y) hr (by intro z; cases z))⟩
theorem Tups.snoc {a : Addr} {e : α} (h : Tups H f as es) (ha : H a = some (.tup (f e))) : Tups H f (as ++ [a]) (es ++ [e]) := by
  refine ⟨by rw [List.length_append, List.length_append, h.1]; rfl, fun i b x hb hx => ?_⟩
  rcases Nat.lt_or_ge i as.length with q | q
  · rw [List.getElem?_append_left q] at hb
    rw [List.getElem?_append_left (by rw [← h.1]; exact q)] at hx
    exact h.2 i b x hb hx
  · have hl := h.1
    have hi : i = as.length := by
      have := (List.getElem?_eq_some_iff.mp hb).1
      rw [List.length_append] at this
      simp at this
      omega
    subst hi
    rw [List.getElem?_append_right (Nat.le_refl _), Nat.sub_self] at hb
    rw [List.getElem?_append_right (by omega), show as.length - es.length = 0 by omega] at hx
    have e1 : a = b := Option.some.inj hb
    have e2 : e = x := Option.some.inj hx
    subst e1 e2
    exact ha
theorem Tups.take (h : Tups H f as es) (n : Nat) : Tups H f (as.take n) (es.take n) := by
  refine ⟨by rw [List.length_take, List.length_take, h.1], fun i b x hb hx => ?_⟩
  have hi : i < n := by
    rcases Nat.lt_or_ge i n with q | q
    · exact q
    · rw [List.getElem?_eq_none (by rw [List.length_take]; omega)] at hb; cases hb
  rw [List.getElem?_take_of_lt hi] at hb hx
  exact h.2 i b x hb hx
theorem Tups.append {bs : List Addr} {gs : List α} (h : Tups H f as es) (h' : Tups H f bs gs) : Tups H f (as ++ bs) (es ++ gs) := by
  refine ⟨by rw [List.length_append, List.length_append, h.1, h'.1], fun i b x hb hx => ?_⟩
  have hl := h.1
  rcases Nat.lt_or_ge i as.length with q | q
  · rw [List.getElem?_append_left q] at hb
    rw [List.getElem?_append_left (by omega)] at hx
    exact h.2 i b x hb hx
  · rw [List.getElem?_append_right q] at hb
    rw [List.getElem?_append_right (by omega), ← hl] at hx
    exact h'.2 _ b x hb hx
theorem Tups.at_ (h : Tups H f as es) {i : Nat} (hi : i < es.length) : ∃ a, as[i]? = some a ∧ H a = some (.tup (f es[i])) := by
  have hl := h.1
  exact ⟨as[i], List.getElem?_eq_getElem (by omega), h.2 i _ _ (List.getElem?_eq_getElem (by omega)) (List.getElem?_eq_getElem hi)⟩
theorem Tups.map {β : Type} {g : β → α} {bs : List β} (h : Tups H f as (bs.map g)) : Tups H (fun b => f (g b)) as bs := by
  refine ⟨by rw [h.1, List.length_map], fun i a b x y => h.2 i a (g b) x (by rw [List.getElem?_map, y]; rfl)⟩
theorem Tups.map' {β : Type} {g : β → α} {bs : List β} (h : Tups H (fun b => f (g b)) as bs) : Tups H f as (bs.map g) := by
  refine ⟨by rw [h.1, List.length_map], fun i a e x y => ?_⟩
  rw [List.getElem?_map] at y
  cases z : bs[i]? with
  | none => rw [z] at y; cases y
  | some b =>
    rw [z] at y
    have y : g b = e := Option.some.inj y
    subst y
    exact h.2 i a b x z
theorem Lst.same (h : Lst f H c es) (s : Same H H') : Lst f H' c es := by
  obtain ⟨as, a, b⟩ := h
  exact ⟨as, s _ _ a, b.same s⟩
theorem Lst.off {ys : List V} (h : Lst f H c es) (hr : H r = some (.lst ys)) (n : c ≠ r) (o : Off r H H') : Lst f H' c es := by
  obtain ⟨as, a, b⟩ := h
  exact ⟨as, o _ _ a n, b.off hr o⟩
end
theorem dp_int {K : PySem.W.Frag} {H : Hp} {i : Int} : Dp K H (.int i) (.int i) := .int i
theorem dpAll_of {K : PySem.W.Frag} {H : Hp} {α : Type} {f : α → List V} {g : α → PyData} (hg : ∀ (a : Addr) (e : α), H a = some (.tup (f e)) → Dp K H (.ref a) (g e)) :
    ∀ (as : List Addr) (es : List α), Tups H f as es → DpAll K H (as.map V.ref) (es.map g)
  | [], [], _ => .nil
  | [], _ :: _, h => by have := h.1; simp at this
  | _ :: _, [], h => by have := h.1; simp at this
  | a :: as, e :: es, h => .cons (hg a e (h.2 0 a e rfl rfl)) (dpAll_of hg as es ⟨by have := h.1; simpa using this, fun i b x hb hx => h.2 (i + 1) b x (by simpa using hb) (by simpa using hx)⟩)
theorem Lst.dp {K : PySem.W.Frag} {H : Hp} {c : Addr} {es : List Ev} (h : Lst evV H c es) : Dp K H (.ref c) (recD es) := by
  obtain ⟨as, a, b⟩ := h
  refine .lst (SqL.of a) (dpAll_of (fun a e ha => ?_) as es b)
  exact .tup (SqT.of ha) (.cons (.int _) (.cons (.int _) (.cons (.str _) .nil)))
theorem Lst.dpO {K : PySem.W.Frag} {H : Hp} {c : Addr} {es : List Ev} (h : Lst stV H c es) : Dp K H (.ref c) (ordD es) := by
  obtain ⟨as, a, b⟩ := h
  refine .lst (SqL.of a) (dpAll_of (fun a e ha => ?_) as es b)
  exact .tup (SqT.of ha) (.cons (.int _) (.cons (.str _) .nil))
theorem dpInts {K : PySem.W.Frag} {H : Hp} : ∀ ns : List Int, DpAll K H (ns.map V.int) (ns.map PyData.int)
  | [] => .nil
  | n :: ns => .cons (.int n) (dpInts ns)
theorem Lst.sql {K : PySem.W.Frag} {α : Type} {f : α → List V} {H : Hp} {c : Addr} {es : List α} (h : Lst f H c es) : ∃ xs : List V, SqL K H c xs ∧ xs.length = es.length := by
  obtain ⟨as, a, b⟩ := h
  exact ⟨_, SqL.of a, by rw [List.length_map]; exact b.1⟩

theorem val_at : ∀ {kvs : List (Key × V)} {i : Nat} {k : Key} {v : V}, (kvs.map (·.1)).Nodup → kvs[i]? = some (k, v) → valV kvs k = some v
  | [], _, _, _, _, h => by simp at h
  | p :: r, 0, k, v, _, h => by
    have e : p = (k, v) := Option.some.inj h
    subst e
    exact valV_pos rfl
  | p :: r, i + 1, k, v, nd, h => by
    have nd' : (p.1 :: r.map (·.1)).Nodup := nd
    obtain ⟨n1, n2⟩ := List.nodup_cons.mp nd'
    have h' : r[i]? = some (k, v) := by simpa using h
    have m : k ∈ r.map (·.1) := List.mem_map.mpr ⟨(k, v), List.mem_of_getElem? h', rfl⟩
    rw [valV_neg (fun e => n1 (e ▸ m))]
    exact val_at n2 h'
theorem downs_append (a b : List (Key × V)) : downs (a ++ b) = downs a ++ downs b := by unfold downs; rw [List.filterMap_append]
theorem downs_take {kvs : List (Key × V)} {i : Nat} {k : Int} {b : Bool} (h : kvs[i]? = some (Sum.inl k, .bl b)) : downs (kvs.take (i + 1)) = if b then downs (kvs.take i) ++ [k] else downs (kvs.take i) := by
  rw [List.take_add_one, h, downs_append]
  cases b <;> simp [downs]
theorem downs_len (kvs : List (Key × V)) : (downs kvs).length ≤ kvs.length := by unfold downs; exact List.length_filterMap_le _ _
end Rm

set_option Elab.async false
set_option linter.all false
set_option maxRecDepth 100000
set_option maxHeartbeats 4000000
namespace Rm
open PySem PySem.Spec PyProof.Rows L2 Gd

theorem Off.new {r p : Addr} {H H1 : Hp} {o : HO} (a : Off r H H1) (n : H p = none) : Off r H (upd H1 p o) := fun b x e ne => by
  rw [upd_ne (ne_of_none e n)]
  exact a b x e ne
theorem Off.at_ {r : Addr} {H H1 : Hp} {o : HO} (a : Off r H H1) : Off r H (upd H1 r o) := a.trans off_upd
theorem Off.sameTrans {r : Addr} {H H1 H2 : Hp} (a : Off r H H1) (b : Same H1 H2) : Off r H H2 := a.trans (Off.of b)
/-- what was free stays free of it: a new address of a later heap is new for the earlier one too -/
theorem Off.free {r p : Addr} {H H1 : Hp} {o : HO} (a : Off r H H1) (hr : H1 r = some o) (n : H1 p = none) : H p = none := by
  cases e : H p with
  | none => rfl
  | some x =>
    have h : p ≠ r := fun z => by rw [z, hr] at n; cases n
    rw [a p x e h] at n
    cases n

theorem getI {ns : List Int} {d : Int} (h0 : 0 ≤ d) (h1 : d < (ns.length : Int)) : ∃ (v : Int), atI (ns.map V.int) d = some (.int v) ∧ ns[d.toNat]? = some v := by
  have hd : d.toNat < ns.length := by omega
  refine ⟨ns[d.toNat], ?_, List.getElem?_eq_getElem hd⟩
  refine at_of (j := d.toNat) (by omega) ?_
  rw [List.getElem?_map, List.getElem?_eq_getElem hd]
  rfl
theorem inv_int (k : Int) : ∀ ns : List Int, inV (.int k) (ns.map V.int) = decide (k ∈ ns)
  | [] => rfl
  | n :: ns => by
    show (eqV (.int n) (.int k) || inV (.int k) (ns.map V.int)) = _
    rw [inv_int k ns]
    have e : eqV (.int n) (.int k) = decide (n = k) := by
      by_cases z : n = k <;> simp [eqV, z]
    rw [e]
    by_cases z : n = k
    · subst z; simp
    · have z' : ¬ k = n := fun q => z q.symm
      simp [z, z']
theorem flat_ints : ∀ ns : List Int, (ns.map V.int).all flatV = true
  | [] => rfl
  | n :: ns => by
    show (flatV (.int n) && (ns.map V.int).all flatV) = true
    rw [flat_ints ns]
    rfl
theorem lay_ints : ∀ ns : List Int, PyData.canLayAll0 (ns.map PyData.int) = true ∧ PyData.depthAll (ns.map PyData.int) = 0
  | [] => ⟨rfl, rfl⟩
  | n :: ns => by
    obtain ⟨a, b⟩ := lay_ints ns
    refine ⟨?_, ?_⟩
    · show (PyData.canLay0 (.int n) && PyData.canLayAll0 (ns.map PyData.int)) = true
      rw [a]
      rfl
    · show max (PyData.depth (.int n)) (PyData.depthAll (ns.map PyData.int)) = 0
      rw [b]
      rfl
theorem shaped_ints (ns : List Int) : SeqAt.shaped (.list (ns.map PyData.int)) = true := by
  obtain ⟨a, b⟩ := lay_ints ns
  show (PyData.canLayAll0 (ns.map PyData.int) && decide (PyData.depthAll (ns.map PyData.int) + 1 ≤ 64)) = true
  rw [a, b]
  rfl
theorem eqv_nil (ds : List PyData) : PyData.eqv (.list ds) (.list []) = ds.isEmpty := by
  cases ds <;> rfl
theorem mem_eraseIdx {ns : List Int} {j : Nat} {k : Int} (nd : ns.Nodup) (h : ns[j]? = some k) (x : Int) : x ∈ ns.eraseIdx j ↔ x ≠ k ∧ x ∈ ns := by
  rw [List.mem_eraseIdx_iff_getElem?]
  constructor
  · rintro ⟨i, hi, e⟩
    refine ⟨fun z => ?_, List.mem_of_getElem? e⟩
    subst z
    exact hi (nd_ix nd e h)
  · rintro ⟨hx, hm⟩
    obtain ⟨i, e⟩ := List.getElem?_of_mem hm
    refine ⟨i, fun z => ?_, e⟩
    subst z
    rw [h] at e
    exact hx (Option.some.inj e).symm
theorem first_ix {ns : List Int} {j : Nat} {k : Int} (nd : ns.Nodup) (h : ns[j]? = some k) : ∀ m : Nat, m < j → ns[m]? ≠ some k := fun m hm e => by
  have := nd_ix nd e h
  omega

/-! ### the keys that are down, as a list -/
structure DownOk (ns : List Int) (es : List Ev) : Prop where
  nd : ns.Nodup
  mem : ∀ k, k ∈ ns ↔ heldB es k = true
theorem DownOk.nil : DownOk [] [] := ⟨List.nodup_nil, fun k => by simp [heldB]⟩
theorem DownOk.down {ns : List Int} {es : List Ev} {t k : Int} (h : DownOk ns es) (n : ¬ k ∈ ns) : DownOk (ns ++ [k]) (es ++ [⟨t, k, true⟩]) := by
  refine ⟨nd_snoc h.nd n, fun x => ?_⟩
  rw [heldB_snoc]
  unfold after
  rw [List.mem_append, List.mem_singleton, h.mem]
  by_cases z : x = k
  · subst z; simp
  · simp [z]
theorem DownOk.up {ns : List Int} {es : List Ev} {t k : Int} {j : Nat} (h : DownOk ns es) (e : ns[j]? = some k) : DownOk (ns.eraseIdx j) (es ++ [⟨t, k, false⟩]) := by
  refine ⟨h.nd.eraseIdx j, fun x => ?_⟩
  rw [heldB_snoc, mem_eraseIdx h.nd e, h.mem]
  unfold after
  by_cases z : x = k
  · subst z; simp
  · simp [z]
theorem DownOk.not {ns : List Int} {es : List Ev} {k : Int} (h : DownOk ns es) (n : ¬ k ∈ ns) : heldB es k = false := by
  cases e : heldB es k with
  | false => rfl
  | true => exact absurd ((h.mem k).mpr e) n
/-- other keys for the same -/
theorem heldB_map {f : Int → Int} (hf : ∀ a b, f a = f b → a = b) : ∀ (es : List Ev) (k : Int), heldB (es.map fun e => ⟨e.t, f e.k, e.d⟩) (f k) = heldB es k := by
  intro es k
  suffices h : ∀ (es : List Ev) (g g' : Int → Bool), (∀ k, g' (f k) = g k) → ∀ k, (es.map fun e => (⟨e.t, f e.k, e.d⟩ : Ev)).foldl after g' (f k) = es.foldl after g k from h es _ _ (fun _ => rfl) k
  intro es
  induction es with
  | nil => intro g g' h k; exact h k
  | cons e es ih =>
    intro g g' h k
    refine ih (after g e) (after g' ⟨e.t, f e.k, e.d⟩) (fun x => ?_) k
    unfold after
    by_cases z : x = e.k
    · subst z; simp
    · have z' : ¬ f x = f e.k := fun q => z (hf _ _ q)
      show (if f x = f e.k then e.d else g' (f x)) = if x = e.k then e.d else g x
      rw [if_neg z, if_neg z', h]
theorem Valid.rekey {f : Int → Int} (hf : ∀ a b, f a = f b → a = b) {es : List Ev} (h : Valid es) (h0 : ∀ e ∈ es, 0 ≤ f e.k) : Valid (es.map fun e => ⟨e.t, f e.k, e.d⟩) := fun i e x => by
  rw [List.getElem?_map] at x
  cases y : es[i]? with
  | none => rw [y] at x; cases x
  | some e' =>
    rw [y] at x
    have x : (⟨e'.t, f e'.k, e'.d⟩ : Ev) = e := Option.some.inj x
    subst x
    obtain ⟨a, b, c⟩ := h i e' y
    refine ⟨h0 e' (List.mem_of_getElem? y), ?_, fun j g hj z => ?_⟩
    · rw [← List.map_take]
      show heldB _ (f e'.k) = !e'.d
      rw [heldB_map hf]
      exact b
    · rw [List.getElem?_map] at z
      cases y2 : es[j]? with
      | none => rw [y2] at z; cases z
      | some g' =>
        rw [y2] at z
        have z : (⟨g'.t, f g'.k, g'.d⟩ : Ev) = g := Option.some.inj z
        subst z
        exact c j g' hj y2
/-- ups behind all for keys that are down -/
theorem Valid.ups {t : Int} : ∀ (ns : List Int) {es : List Ev}, Valid es → ns.Nodup → (∀ k ∈ ns, heldB es k = true ∧ 0 ≤ k) → (∀ e ∈ es, e.t ≤ t) → Valid (es ++ ns.map fun k => ⟨t, k, false⟩)
  | [], es, h, _, _, _ => by simpa using h
  | k :: ns, es, h, nd, hb, ht => by
    obtain ⟨n1, n2⟩ := List.nodup_cons.mp nd
    have h1 : Valid (es ++ [⟨t, k, false⟩]) := h.snoc (hb k List.mem_cons_self).2 (by have := (hb k List.mem_cons_self).1; simpa using this) ht
    have := Valid.ups ns h1 n2 (fun x hx => ⟨by
        rw [heldB_snoc]
        unfold after
        have z : x ≠ k := fun q => n1 (q ▸ hx)
        rw [if_neg z]
        exact (hb x (List.mem_cons_of_mem _ hx)).1, (hb x (List.mem_cons_of_mem _ hx)).2⟩) (fun e he => by
        rcases List.mem_append.mp he with he | he
        · exact ht e he
        · rw [List.mem_singleton.mp he]; exact Int.le_refl _)
    simpa using this
theorem heldB_ups {t : Int} : ∀ (ns : List Int) (es : List Ev) (k : Int), heldB (es ++ ns.map fun k => ⟨t, k, false⟩) k = (heldB es k && !decide (k ∈ ns))
  | [], es, k => by simp
  | n :: ns, es, k => by
    have e : es ++ (n :: ns).map (fun k => (⟨t, k, false⟩ : Ev)) = (es ++ [⟨t, n, false⟩]) ++ ns.map fun k => ⟨t, k, false⟩ := by simp
    rw [e, heldB_ups ns, heldB_snoc]
    unfold after
    by_cases z : k = n
    · subst z; simp
    · have : (k ∈ n :: ns) ↔ k ∈ ns := by simp [z]
      simp [z]
/-- who is down is a key of the record -/
theorem held_mem : ∀ {es : List Ev} {k : Int}, heldB es k = true → ∃ e ∈ es, e.k = k := by
  intro es k
  suffices h : ∀ (es : List Ev) (g : Int → Bool), es.foldl after g k = true → g k = true ∨ ∃ e ∈ es, e.k = k by
    intro z
    rcases h es _ z with q | q
    · cases q
    · exact q
  intro es
  induction es with
  | nil => intro g h; exact .inl h
  | cons e es ih =>
    intro g h
    rcases ih (after g e) h with q | ⟨e', he, hk⟩
    · unfold after at q
      by_cases z : k = e.k
      · exact .inr ⟨e, List.mem_cons_self, z.symm⟩
      · rw [if_neg z] at q
        exact .inl q
    · exact .inr ⟨e', List.mem_cons_of_mem _ he, hk⟩
theorem Valid.mono {es : List Ev} (h : Valid es) : ∀ (i j : Nat) (a b : Ev), i < j → es[i]? = some a → es[j]? = some b → a.t ≤ b.t := fun i j a b hij ha hb => (h j b hb).2.2 i a hij ha
theorem lay_st : ∀ es : List Ev, PyData.canLayAll0 (es.map stD) = true ∧ PyData.depthAll (es.map stD) ≤ 1
  | [] => ⟨rfl, Nat.zero_le _⟩
  | e :: es => by
    obtain ⟨a, b⟩ := lay_st es
    refine ⟨?_, ?_⟩
    · have h : PyData.canLay0 (.str (wayS e.d)) = true := by cases e.d <;> decide +kernel
      show ((true && (PyData.canLay0 (.str (wayS e.d)) && true)) && PyData.canLayAll0 (es.map stD)) = true
      rw [a, h]
      rfl
    · show max (PyData.depth (stD e)) (PyData.depthAll (es.map stD)) ≤ 1
      have : PyData.depth (stD e) = 1 := rfl
      omega
theorem shaped_ord (es : List Ev) : SeqAt.shaped (ordD es) = true := by
  obtain ⟨a, b⟩ := lay_st es
  show (PyData.canLayAll0 (es.map stD) && decide (PyData.depthAll (es.map stD) + 1 ≤ 64)) = true
  rw [a, decide_eq_true (by omega)]
  rfl
theorem shaped_nil : SeqAt.shaped (.list []) = true := rfl
end Rm

set_option Elab.async false
set_option linter.all false
set_option maxRecDepth 100000
set_option maxHeartbeats 4000000
namespace La
open PySem PySem.Spec PyProof.Rows L2 Gd Rm

/-! ### codes -/
def signs : Str := "abcdefghijklmnopqrstuvwxyz0123456789"
def CodeOk (c : Str) : Prop := 1 ≤ c.cps.size ∧ c.cps.size ≤ 8 ∧ ∀ x ∈ c.cps.toList, x ∈ signs.cps.toList
instance (c : Str) : Decidable (CodeOk c) := by unfold CodeOk; infer_instance
theorem signs_low : ∀ x ∈ signs.cps.toList, x < 16 ^ 8 := by decide +kernel
theorem fit_code {c : Str} (h : CodeOk c) : Fit 210 0 (.str c) := by
  refine ⟨rfl, Nat.le_refl _, ?_⟩
  have q := PySem.StrLaws.reprText_len c fun x hx => signs_low x (h.2.2 x hx)
  have e : c.length = c.cps.size := rfl
  have := h.2.1
  show (reprText c).length ≤ 210
  omega
theorem joinL_one : ∀ cs : List Nat, TL.joinL [] (cs.map fun c => [c]) = cs
  | [] => rfl
  | [c] => rfl
  | c :: d :: r => by
    have ih := joinL_one (d :: r)
    show [c] ++ ([] ++ TL.joinL [] ((d :: r).map fun c => [c])) = c :: d :: r
    rw [ih]
    rfl
theorem join_one (cs : List Nat) : (Txt.join (("" : String) : Str) (cs.map fun c => (⟨#[c]⟩ : Str))).cps.toList = cs := by
  have h : ∀ a ys, Txt.join a ys = Str.join a ys := fun a ys => TL.join_eq a ys
  rw [h]
  show TL.tl (Str.join _ _) = cs
  rw [TL.tl_join, List.map_map]
  exact joinL_one cs
theorem code_join {cs : List Nat} (h1 : 1 ≤ cs.length) (h8 : cs.length ≤ 8) (h : ∀ c ∈ cs, c ∈ signs.cps.toList) : CodeOk (Txt.join (("" : String) : Str) (cs.map fun c => (⟨#[c]⟩ : Str))) := by
  have e := join_one cs
  refine ⟨?_, ?_, fun x hx => ?_⟩
  · rw [← Array.length_toList, e]; exact h1
  · rw [← Array.length_toList, e]; exact h8
  · rw [e] at hx; exact h x hx

/-! ### actions -/
inductive Actn where
  | none
  | thr
  | code (c : Str)
  | lay (w : Str) (j : Int)
  | dualC (c d : Str) (t : Int) (r : Str)
  | dualL (c : Str) (j t : Int) (r : Str)
def layWords : List Str := ["layer", "lock", "once"]
def rules : List Str := ["time", "other", "within"]
def ActOk (n i : Int) : Actn → Prop
  | .none => True
  | .thr => 0 < i
  | .code c => CodeOk c
  | .lay w j => w ∈ layWords ∧ 1 ≤ j ∧ j ≤ n - 1
  | .dualC c d t r => CodeOk c ∧ CodeOk d ∧ (1 ≤ t ∧ t ≤ 1000000000) ∧ r ∈ rules
  | .dualL c j t r => CodeOk c ∧ (1 ≤ j ∧ j ≤ n - 1) ∧ (1 ≤ t ∧ t ≤ 1000000000) ∧ r ∈ rules
def ActV (H : Hp) : Actn → V → Prop
  | .none, v => v = .str "none"
  | .thr, v => v = .str "through"
  | .code c, v => ∃ a, v = .ref a ∧ H a = some (.tup [.str "code", .str c])
  | .lay w j, v => ∃ a, v = .ref a ∧ H a = some (.tup [.str w, .int j])
  | .dualC c d t r, v => ∃ a b, v = .ref a ∧ H a = some (.tup [.str "dual", .str c, .ref b, .int t, .str r]) ∧ H b = some (.tup [.str "code", .str d])
  | .dualL c j t r, v => ∃ a b, v = .ref a ∧ H a = some (.tup [.str "dual", .str c, .ref b, .int t, .str r]) ∧ H b = some (.tup [.str "layer", .int j])
def actD : Actn → PyData
  | .none => .str "none"
  | .thr => .str "through"
  | .code c => .tuple [.str "code", .str c]
  | .lay w j => .tuple [.str w, .int j]
  | .dualC c d t r => .tuple [.str "dual", .str c, .tuple [.str "code", .str d], .int t, .str r]
  | .dualL c j t r => .tuple [.str "dual", .str c, .tuple [.str "layer", .int j], .int t, .str r]
theorem fit_word {w : Str} (h : w ∈ layWords ∨ w ∈ rules) : Fit 210 0 (.str w) := by
  refine ⟨rfl, Nat.le_refl _, ?_⟩
  unfold layWords rules at h
  simp only [List.mem_cons, List.mem_nil_iff, or_false] at h
  rcases h with (rfl | rfl | rfl) | (rfl | rfl | rfl) <;> decide +kernel
theorem fit_const (w : Str) (h : (reprText w).length ≤ 210 := by decide +kernel) : Fit 210 0 (.str w) := ⟨rfl, Nat.le_refl _, h⟩
theorem fit_two' {a b : PyData} (ha : Fit 210 0 a) (hb : Fit 210 0 b) : Fit 500 1 (.tuple [a, b]) := by
  refine Fit.mono (fit_tup (L := 210) (n := 0) fun d hd => ?_) (by show 2 * 212 + 3 ≤ 500; decide) (Nat.le_refl _)
  simp only [List.mem_cons, List.mem_nil_iff, or_false] at hd
  rcases hd with rfl | rfl
  · exact ha
  · exact hb
theorem fit_five {a b c d e : PyData} (ha : Fit 210 0 a) (hb : Fit 210 0 b) (hc : Fit 500 1 c) (hd : Fit 210 0 d) (he : Fit 210 0 e) : Fit 3000 2 (.tuple [a, b, c, d, e]) := by
  refine Fit.mono (fit_tup (L := 500) (n := 1) fun x hx => ?_) (by show 5 * 502 + 3 ≤ 3000; decide) (Nat.le_refl _)
  simp only [List.mem_cons, List.mem_nil_iff, or_false] at hx
  rcases hx with rfl | rfl | rfl | rfl | rfl
  · exact ha.mono (by decide) (by decide)
  · exact hb.mono (by decide) (by decide)
  · exact hc
  · exact hd.mono (by decide) (by decide)
  · exact he.mono (by decide) (by decide)
theorem fit_low {i : Int} (h : 0 ≤ i) (h2 : i ≤ 1000000000) : Fit 210 0 (.int i) := fit_int (by
  have : (2 : Nat) ^ 200 > 1000000000 := by decide
  omega)
theorem fit_act {n i : Int} {x : Actn} (h : ActOk n i x) (hn : n ≤ 1000) : Fit 3000 2 (actD x) := by
  cases x with
  | none => exact (fit_const "none").mono (by decide) (by decide)
  | thr => exact (fit_const "through").mono (by decide) (by decide)
  | code c => exact (fit_two' (fit_const "code") (fit_code h)).mono (by decide) (by decide)
  | lay w j =>
    obtain ⟨a, b, c⟩ := h
    exact (fit_two' (fit_word (.inl a)) (fit_low (by omega) (by omega))).mono (by decide) (by decide)
  | dualC c d t r =>
    obtain ⟨a, b, ⟨c1, c2⟩, e⟩ := h
    exact fit_five (fit_const "dual") (fit_code a) (fit_two' (fit_const "code") (fit_code b)) (fit_low (by omega) c2) (fit_word (.inr e))
  | dualL c j t r =>
    obtain ⟨a, ⟨b1, b2⟩, ⟨c1, c2⟩, e⟩ := h
    exact fit_five (fit_const "dual") (fit_code a) (fit_two' (fit_const "layer") (fit_low (by omega) (by omega))) (fit_low (by omega) c2) (fit_word (.inr e))

/-! ### heaps in which tuples stay -/
def Tk (H H' : Hp) : Prop := ∀ b xs, H b = some (.tup xs) → H' b = some (.tup xs)
theorem Tk.of {H H' : Hp} (s : Same H H') : Tk H H' := fun b xs h => s _ _ h
theorem Tk.trans {H H1 H2 : Hp} (a : Tk H H1) (b : Tk H1 H2) : Tk H H2 := fun c xs h => b c xs (a c xs h)
theorem Tk.refl (H : Hp) : Tk H H := fun _ _ h => h
theorem tk_upd {H : Hp} {r : Addr} {ys zs : List V} (h : H r = some (.lst ys)) : Tk H (upd H r (.lst zs)) := fun b xs e => by
  rw [upd_ne (ne_of e h (by intro z; cases z))]
  exact e
theorem ActV.keep {H H' : Hp} (t : Tk H H') : ∀ {x : Actn} {v : V}, ActV H x v → ActV H' x v
  | .none, _, h => h
  | .thr, _, h => h
  | .code _, _, ⟨a, e, h⟩ => ⟨a, e, t _ _ h⟩
  | .lay _ _, _, ⟨a, e, h⟩ => ⟨a, e, t _ _ h⟩
  | .dualC _ _ _ _, _, ⟨a, b, e, h, g⟩ => ⟨a, b, e, t _ _ h, t _ _ g⟩
  | .dualL _ _ _ _, _, ⟨a, b, e, h, g⟩ => ⟨a, b, e, t _ _ h, t _ _ g⟩
theorem ActV.dp {K : PySem.W.Frag} {H : Hp} : ∀ {x : Actn} {v : V}, ActV H x v → Dp K H v (actD x)
  | .none, _, h => by cases h; exact .str _
  | .thr, _, h => by cases h; exact .str _
  | .code _, _, ⟨a, e, h⟩ => by cases e; exact .tup (SqT.of h) (.cons (.str _) (.cons (.str _) .nil))
  | .lay _ _, _, ⟨a, e, h⟩ => by cases e; exact .tup (SqT.of h) (.cons (.str _) (.cons (.int _) .nil))
  | .dualC _ _ _ _, _, ⟨a, b, e, h, g⟩ => by
    cases e
    exact .tup (SqT.of h) (.cons (.str _) (.cons (.str _) (.cons (.tup (SqT.of g) (.cons (.str _) (.cons (.str _) .nil))) (.cons (.int _) (.cons (.str _) .nil)))))
  | .dualL _ _ _ _, _, ⟨a, b, e, h, g⟩ => by
    cases e
    exact .tup (SqT.of h) (.cons (.str _) (.cons (.str _) (.cons (.tup (SqT.of g) (.cons (.str _) (.cons (.int _) .nil))) (.cons (.int _) (.cons (.str _) .nil)))))

/-! ### rows and layouts -/
def Acts (H : Hp) (vs : List V) (xs : List Actn) : Prop := vs.length = xs.length ∧ ∀ (i : Nat) (v : V) (x : Actn), vs[i]? = some v → xs[i]? = some x → ActV H x v
def Row (H : Hp) (r : Addr) (xs : List Actn) : Prop := ∃ vs, H r = some (.lst vs) ∧ Acts H vs xs
def Rows (H : Hp) (rs : List Addr) (L : List (List Actn)) : Prop := rs.length = L.length ∧ ∀ (i : Nat) (r : Addr) (row : List Actn), rs[i]? = some r → L[i]? = some row → Row H r row
def Lay (H : Hp) (c : Addr) (L : List (List Actn)) : Prop := ∃ rs : List Addr, H c = some (.lst (rs.map V.ref)) ∧ Rows H rs L
def rowD (xs : List Actn) : PyData := .list (xs.map actD)
def layD (L : List (List Actn)) : PyData := .list (L.map rowD)
structure LayOk (L : List (List Actn)) (m : Nat) : Prop where
  n1 : 1 ≤ L.length
  n6 : L.length ≤ 6
  m1 : 1 ≤ m
  m16 : m ≤ 16
  len : ∀ row ∈ L, row.length = m
  ok : ∀ (i : Nat) (row : List Actn), L[i]? = some row → ∀ x ∈ row, ActOk L.length i x
section
variable {H H' : Hp} {c r : Addr} {vs : List V} {xs : List Actn} {rs : List Addr} {L : List (List Actn)} {m : Nat}
theorem Acts.nil : Acts H [] [] := ⟨rfl, fun i v x h _ => by simp at h⟩
theorem Acts.keep (h : Acts H vs xs) (t : Tk H H') : Acts H' vs xs := ⟨h.1, fun i v x a b => (h.2 i v x a b).keep t⟩
theorem Acts.at_ (h : Acts H vs xs) {i : Nat} (hi : i < xs.length) : ∃ v, vs[i]? = some v ∧ ActV H xs[i] v := by
  have hl := h.1
  exact ⟨vs[i], List.getElem?_eq_getElem (by omega), h.2 i _ _ (List.getElem?_eq_getElem (by omega)) (List.getElem?_eq_getElem hi)⟩
theorem Acts.snoc {v : V} {x : Actn} (h : Acts H vs xs) (hv : ActV H x v) : Acts H (vs ++ [v]) (xs ++ [x]) := by
  refine ⟨by rw [List.length_append, List.length_append, h.1]; rfl, fun i u y a b => ?_⟩
  have hl := h.1
  rcases Nat.lt_or_ge i vs.length with q | q
  · rw [List.getElem?_append_left q] at a
    rw [List.getElem?_append_left (by omega)] at b
    exact h.2 i u y a b
  · have hi : i = vs.length := by
      have := (List.getElem?_eq_some_iff.mp a).1
      rw [List.length_append] at this
      simp at this
      omega
    subst hi
    rw [List.getElem?_append_right (Nat.le_refl _), Nat.sub_self] at a
    rw [List.getElem?_append_right (by omega), show vs.length - xs.length = 0 by omega] at b
    have e1 : v = u := Option.some.inj a
    have e2 : x = y := Option.some.inj b
    subst e1 e2
    exact hv
theorem Acts.set {v : V} {x : Actn} {j : Nat} (h : Acts H vs xs) (hv : ActV H x v) : Acts H (vs.set j v) (xs.set j x) := by
  refine ⟨by rw [List.length_set, List.length_set, h.1], fun i u y a b => ?_⟩
  have hl := h.1
  by_cases z : j = i
  · subst z
    have hj : j < vs.length := by
      have := (List.getElem?_eq_some_iff.mp a).1
      rwa [List.length_set] at this
    rw [List.getElem?_set_self hj] at a
    rw [List.getElem?_set_self (by omega)] at b
    have e1 : v = u := Option.some.inj a
    have e2 : x = y := Option.some.inj b
    subst e1 e2
    exact hv
  · rw [List.getElem?_set_ne z] at a b
    exact h.2 i u y a b
theorem Row.same (h : Row H r xs) (s : Same H H') : Row H' r xs := by
  obtain ⟨vs, a, b⟩ := h
  exact ⟨vs, s _ _ a, b.keep (Tk.of s)⟩
theorem Rows.same (h : Rows H rs L) (s : Same H H') : Rows H' rs L := ⟨h.1, fun i r row a b => (h.2 i r row a b).same s⟩
theorem Lay.same (h : Lay H c L) (s : Same H H') : Lay H' c L := by
  obtain ⟨rs, a, b⟩ := h
  exact ⟨rs, s _ _ a, b.same s⟩
theorem Rows.at_ (h : Rows H rs L) {i : Nat} (hi : i < L.length) : ∃ r, rs[i]? = some r ∧ Row H r L[i] := by
  have hl := h.1
  exact ⟨rs[i], List.getElem?_eq_getElem (by omega), h.2 i _ _ (List.getElem?_eq_getElem (by omega)) (List.getElem?_eq_getElem hi)⟩
theorem Acts.dp {K : PySem.W.Frag} : ∀ {vs : List V} {xs : List Actn}, Acts H vs xs → DpAll K H vs (xs.map actD)
  | [], [], _ => .nil
  | [], _ :: _, h => by have := h.1; simp at this
  | _ :: _, [], h => by have := h.1; simp at this
  | v :: vs, x :: xs, h => .cons ((h.2 0 v x rfl rfl).dp) (Acts.dp ⟨by have := h.1; simpa using this, fun i u y a b => h.2 (i + 1) u y (by simpa using a) (by simpa using b)⟩)
theorem Row.dp {K : PySem.W.Frag} (h : Row H r xs) : Dp K H (.ref r) (rowD xs) := by
  obtain ⟨vs, a, b⟩ := h
  exact .lst (SqL.of a) b.dp
theorem Rows.dp {K : PySem.W.Frag} : ∀ {rs : List Addr} {L : List (List Actn)}, Rows H rs L → DpAll K H (rs.map V.ref) (L.map rowD)
  | [], [], _ => .nil
  | [], _ :: _, h => by have := h.1; simp at this
  | _ :: _, [], h => by have := h.1; simp at this
  | r :: rs, row :: L, h => .cons ((h.2 0 r row rfl rfl).dp) (Rows.dp ⟨by have := h.1; simpa using this, fun i u y a b => h.2 (i + 1) u y (by simpa using a) (by simpa using b)⟩)
theorem Lay.dp {K : PySem.W.Frag} (h : Lay H c L) : Dp K H (.ref c) (layD L) := by
  obtain ⟨rs, a, b⟩ := h
  exact .lst (SqL.of a) b.dp
theorem LayOk.fit (h : LayOk L m) : Fit 300100 4 (layD L) := by
  refine Fit.mono (fit_list (L := 50000) (n := 3) fun d hd => ?_) (by rw [List.length_map]; have := h.n6; omega) (Nat.le_refl _)
  obtain ⟨row, hr, rfl⟩ := List.mem_map.mp hd
  obtain ⟨i, hi⟩ := List.getElem?_of_mem hr
  refine Fit.mono (fit_list (L := 3000) (n := 2) fun d hd => ?_) (by rw [List.length_map, h.len row hr]; have := h.m16; omega) (Nat.le_refl _)
  obtain ⟨x, hx, rfl⟩ := List.mem_map.mp hd
  exact fit_act (h.ok i row hi x hx) (by have := h.n6; omega)
theorem LayOk.set (h : LayOk L m) {i j : Nat} {x : Actn} {row : List Actn} (hi : L[i]? = some row) (hx : ActOk L.length i x) : LayOk (L.set i (row.set j x)) m := by
  have hil := (List.getElem?_eq_some_iff.mp hi).1
  refine ⟨by rw [List.length_set]; exact h.n1, by rw [List.length_set]; exact h.n6, h.m1, h.m16, fun r hr => ?_, fun k r hk y hy => ?_⟩
  · rcases List.mem_or_eq_of_mem_set hr with q | q
    · exact h.len r q
    · rw [q, List.length_set]; exact h.len row (List.mem_of_getElem? hi)
  · rw [List.length_set]
    by_cases z : i = k
    · subst z
      rw [List.getElem?_set_self hil] at hk
      have e : row.set j x = r := Option.some.inj hk
      subst e
      rcases List.mem_or_eq_of_mem_set hy with q | q
      · exact h.ok i row hi y q
      · rw [q]; exact hx
    · rw [List.getElem?_set_ne z] at hk
      exact h.ok k r hk y hy
end
theorem inv_str (k : Str) : ∀ ws : List Str, inV (.str k) (ws.map V.str) = decide (k ∈ ws)
  | [] => rfl
  | n :: ns => by
    show (eqV (.str n) (.str k) || inV (.str k) (ns.map V.str)) = _
    rw [inv_str k ns]
    have e : eqV (.str n) (.str k) = decide (n = k) := by
      by_cases z : n = k <;> simp [eqV, z]
    rw [e]
    by_cases z : n = k
    · subst z; simp
    · have z' : ¬ k = n := fun q => z q.symm
      simp [z, z']
end La

set_option Elab.async false
set_option linter.all false
set_option maxRecDepth 100000
set_option maxHeartbeats 4000000
namespace Tx
open PySem PySem.Spec PyProof.Rows L2 Gd Rm La

/-! ### signs and numbers -/
theorem empty_app (x : Str) : Str.empty ++ x = x := TL.ext_tl (by rw [TL.tl_append]; rfl)
def numS (i : Int) : Str := Str.ofString (toString i)
theorem numS_tl {i : Int} (h : 0 ≤ i) : TL.tl (numS i) = TL.numL i.toNat := by
  have e : i = ((i.toNat : Nat) : Int) := by omega
  unfold numS
  rw [e]
  exact TL.tl_num _
theorem numL_head : ∀ n : Nat, 1 ≤ n → ∃ c r, TL.numL n = c :: r ∧ c ≠ 48 := by
  intro n
  induction n using Nat.strongRecOn with
  | _ n ih =>
    intro h
    by_cases z : n < 10
    · exact ⟨48 + n, [], TL.numL_lt z, by omega⟩
    · obtain ⟨c, r, e, hc⟩ := ih (n / 10) (by omega) (by omega)
      refine ⟨c, r ++ [48 + n % 10], ?_, hc⟩
      rw [TL.numL_step (by omega), e]
      rfl
theorem numL_low {n c : Nat} (h : c ∈ TL.numL n) : 48 ≤ c ∧ c ≤ 57 := TL.numL_digits n c h
theorem numS_len {i : Int} (h0 : 0 ≤ i) (h : i ≤ 1000000000) : (numS i).length ≤ 10 := by
  rw [TL.len_tl, numS_tl h0]
  refine TL.numL_len (by decide) ?_
  have : (10 : Nat) ^ 10 = 10000000000 := by decide
  omega
theorem numS_int {i : Int} (h0 : 0 ≤ i) (h : i ≤ 1000000000) : intText? (numS i) = some i := by
  have e : i = ((i.toNat : Nat) : Int) := by omega
  have l := numS_len h0 h
  rw [TL.len_tl, numS_tl h0] at l
  have := TL.int_num (n := i.toNat) (by omega)
  unfold numS
  rw [e]
  exact this
def sgn (w : Str) : Str := if w = ("layer" : String) then "@" else if w = ("lock" : String) then "!" else "^"
def rsg (r : Str) : Str := if r = ("time" : String) then "t" else if r = ("other" : String) then "o" else "w"
theorem signs_cases : ∀ c ∈ signs.cps.toList, (48 ≤ c ∧ c ≤ 57) ∨ (97 ≤ c ∧ c ≤ 122) := by decide +kernel
theorem code_low {c : Str} (h : CodeOk c) : ∀ x ∈ TL.tl c, (48 ≤ x ∧ x ≤ 57) ∨ (97 ≤ x ∧ x ≤ 122) := fun x hx => signs_cases x (h.2.2 x hx)
theorem code_len {c : Str} (h : CodeOk c) : c.length ≤ 8 := h.2.1
theorem sgn_tl {w : Str} (h : w ∈ layWords) : ∃ c, TL.tl (sgn w) = [c] ∧ (c = 64 ∨ c = 33 ∨ c = 94) ∧ sgn w = ⟨#[c]⟩ := by
  unfold layWords at h
  simp only [List.mem_cons, List.mem_nil_iff, or_false] at h
  rcases h with rfl | rfl | rfl
  · exact ⟨64, by decide +kernel, .inl rfl, by decide +kernel⟩
  · exact ⟨33, by decide +kernel, .inr (.inl rfl), by decide +kernel⟩
  · exact ⟨94, by decide +kernel, .inr (.inr rfl), by decide +kernel⟩
theorem rsg_tl {r : Str} (h : r ∈ rules) : ∃ c, TL.tl (rsg r) = [c] ∧ 97 ≤ c ∧ c ≤ 122 ∧ rsg r = ⟨#[c]⟩ := by
  unfold rules at h
  simp only [List.mem_cons, List.mem_nil_iff, or_false] at h
  rcases h with rfl | rfl | rfl
  · exact ⟨116, by decide +kernel, by decide, by decide, by decide +kernel⟩
  · exact ⟨111, by decide +kernel, by decide, by decide, by decide +kernel⟩
  · exact ⟨119, by decide +kernel, by decide, by decide, by decide +kernel⟩
/-- the word of an action -/
def wtx : Actn → Str
  | .none => "."
  | .thr => "-"
  | .code c => c
  | .lay w j => sgn w ++ numS j
  | .dualC c d t r => c ++ "/" ++ d ++ ":" ++ numS t ++ rsg r
  | .dualL c j t r => c ++ "/" ++ (sgn "layer" ++ numS j) ++ ":" ++ numS t ++ rsg r
theorem tl_s1 : TL.tl (("/" : String) : Str) = [47] := by decide +kernel
theorem tl_s2 : TL.tl (((":" : String)) : Str) = [58] := by decide +kernel
theorem tl_s3 : TL.tl (((" " : String)) : Str) = [32] := by decide +kernel
theorem tl_s4 : TL.tl (((  "\n" : String)) : Str) = [10] := by decide +kernel
theorem lay_in : (("layer" : String) : Str) ∈ layWords := by decide +kernel
theorem low33 {n i : Int} {x : Actn} (h : ActOk n i x) : ∀ c ∈ TL.tl (wtx x), 33 ≤ c := by
  have code : ∀ {c : Str}, CodeOk c → ∀ x ∈ TL.tl c, 33 ≤ x := fun hc x hx => by
    rcases code_low hc x hx with z | z <;> omega
  have num : ∀ {j : Int}, 0 ≤ j → ∀ x ∈ TL.tl (numS j), 33 ≤ x := fun hj x hx => by
    rw [numS_tl hj] at hx
    have := numL_low hx
    omega
  cases x with
  | none => decide +kernel
  | thr => decide +kernel
  | code c => exact code h
  | lay w j =>
    obtain ⟨h1, h2, h3⟩ := h
    intro c hc
    obtain ⟨d, e, hd, _⟩ := sgn_tl h1
    rw [wtx, TL.tl_append, e] at hc
    rcases List.mem_append.mp hc with z | z
    · rw [List.mem_singleton.mp z]; omega
    · exact num (by omega) c z
  | dualC c d t r =>
    obtain ⟨h1, h2, ⟨h3, h4⟩, h5⟩ := h
    obtain ⟨k, e, k1, k2, _⟩ := rsg_tl h5
    intro x hx
    simp only [wtx, TL.tl_append, tl_s1, tl_s2, e, List.mem_append, List.mem_singleton] at hx
    rcases hx with ((((z | z) | z) | z) | z) | z
    · exact code h1 x z
    · omega
    · exact code h2 x z
    · omega
    · exact num (by omega) x z
    · omega
  | dualL c j t r =>
    obtain ⟨h1, ⟨h2, h2'⟩, ⟨h3, h4⟩, h5⟩ := h
    obtain ⟨k, e, k1, k2, _⟩ := rsg_tl h5
    obtain ⟨g, eg, hg, _⟩ := sgn_tl lay_in
    intro x hx
    simp only [wtx, TL.tl_append, tl_s1, tl_s2, e, eg, List.mem_append, List.mem_singleton] at hx
    rcases hx with ((((z | z) | z) | z) | z) | z
    · exact code h1 x z
    · omega
    · rcases z with z | z
      · omega
      · exact num (by omega) x z
    · omega
    · exact num (by omega) x z
    · omega
theorem len_app (x y : Str) : (x ++ y).length = x.length + y.length := by
  rw [TL.len_tl, TL.tl_append, List.length_append, ← TL.len_tl, ← TL.len_tl]
theorem sgn_len {w : Str} (h : w ∈ layWords) : (sgn w).length = 1 := by
  obtain ⟨c, e, _⟩ := sgn_tl h
  rw [TL.len_tl, e]; rfl
theorem rsg_len {r : Str} (h : r ∈ rules) : (rsg r).length = 1 := by
  obtain ⟨c, e, _⟩ := rsg_tl h
  rw [TL.len_tl, e]; rfl
theorem wtx_len {n i : Int} {x : Actn} (h : ActOk n i x) (hn : n ≤ 1000) : (wtx x).length ≤ 40 := by
  have l1 : ((("/" : String) : Str)).length = 1 := by rw [TL.len_tl, tl_s1]; rfl
  have l2 : (((":" : String) : Str)).length = 1 := by rw [TL.len_tl, tl_s2]; rfl
  cases x with
  | none => decide +kernel
  | thr => decide +kernel
  | code c => have := code_len h; show c.length ≤ 40; omega
  | lay w j =>
    obtain ⟨h1, h2, h3⟩ := h
    have := numS_len (i := j) (by omega) (by omega)
    rw [wtx, len_app, sgn_len h1]; omega
  | dualC c d t r =>
    obtain ⟨h1, h2, ⟨h3, h4⟩, h5⟩ := h
    have a1 := numS_len (i := t) (by omega) (by omega)
    have a2 := code_len h1
    have a3 := code_len h2
    simp only [wtx, len_app, l1, l2, rsg_len h5]; omega
  | dualL c j t r =>
    obtain ⟨h1, ⟨h2, h2'⟩, ⟨h3, h4⟩, h5⟩ := h
    have a1 := numS_len (i := t) (by omega) (by omega)
    have a2 := code_len h1
    have a3 := numS_len (i := j) (by omega) (by omega)
    simp only [wtx, len_app, l1, l2, rsg_len h5, sgn_len lay_in]; omega

/-! ### joined, split -/
theorem joinL_len (S : List Nat) : ∀ ps : List (List Nat), (TL.joinL S ps).length ≤ (ps.map (·.length)).sum + ps.length * S.length
  | [] => Nat.zero_le _
  | [p] => by simp [TL.joinL]
  | p :: q :: r => by
    have ih := joinL_len S (q :: r)
    simp only [TL.joinL, List.length_append, List.map_cons, List.sum_cons, List.length_cons, Nat.add_mul] at ih ⊢
    omega
theorem joinL_mem (S : List Nat) (c : Nat) : ∀ ps : List (List Nat), c ∈ TL.joinL S ps → c ∈ S ∨ ∃ p ∈ ps, c ∈ p
  | [], h => by cases h
  | [p], h => .inr ⟨p, List.mem_singleton.mpr rfl, h⟩
  | p :: q :: r, h => by
    simp only [TL.joinL, List.mem_append] at h
    rcases h with z | z | z
    · exact .inr ⟨p, List.mem_cons_self .., z⟩
    · exact .inl z
    · rcases joinL_mem S c (q :: r) z with y | ⟨p', a, b⟩
      · exact .inl y
      · exact .inr ⟨p', List.mem_cons_of_mem _ a, b⟩
theorem join_tl (y : Str) (ps : List Str) : TL.tl (Txt.join y ps) = TL.joinL (TL.tl y) (ps.map TL.tl) := by rw [TL.join_eq, TL.tl_join]
theorem sum_le {k : Nat} : ∀ {ps : List Str}, (∀ p ∈ ps, p.length ≤ k) → (ps.map (·.length)).sum ≤ ps.length * k
  | [], _ => Nat.zero_le _
  | p :: r, h => by
    have ih := sum_le (fun q hq => h q (List.mem_cons_of_mem _ hq))
    have := h p (List.mem_cons_self ..)
    simp only [List.map_cons, List.sum_cons, List.length_cons, Nat.add_mul]
    omega
theorem join_len {y : Str} {ps : List Str} {k : Nat} (h : ∀ p ∈ ps, p.length ≤ k) (hy : y.length = 1) : (Txt.join y ps).length ≤ ps.length * (k + 1) := by
  rw [TL.len_tl, join_tl]
  have a := joinL_len (TL.tl y) (ps.map TL.tl)
  have b := sum_le h
  rw [List.length_map, ← TL.len_tl, hy, List.map_map] at a
  have e : (ps.map ((fun x : List Nat => x.length) ∘ TL.tl)) = ps.map (·.length) := List.map_congr_left fun p _ => (TL.len_tl p).symm
  rw [e] at a
  rw [Nat.mul_add]
  omega
def rowT (xs : List Actn) : Str := Txt.join ((" " : String) : Str) (xs.map wtx)
def layT (L : List (List Actn)) : Str := Txt.join (("\n" : String) : Str) (L.map rowT)
theorem sp_len : ((" " : String) : Str).length = 1 := by rw [TL.len_tl, tl_s3]; rfl
theorem nl_len : (("\n" : String) : Str).length = 1 := by rw [TL.len_tl, tl_s4]; rfl
def RowsOk (n : Int) (xs : List Actn) : Prop := xs ≠ [] ∧ xs.length ≤ 16 ∧ ∀ x ∈ xs, ∃ i, ActOk n i x
theorem words_len {n : Int} {xs : List Actn} (h : RowsOk n xs) (hn : n ≤ 1000) : ∀ p ∈ xs.map wtx, p.length ≤ 40 := fun p hp => by
  obtain ⟨x, hx, rfl⟩ := List.mem_map.mp hp
  obtain ⟨i, hi⟩ := h.2.2 x hx
  exact wtx_len hi hn
theorem rowT_len {n : Int} {xs : List Actn} (h : RowsOk n xs) (hn : n ≤ 1000) : (rowT xs).length ≤ 700 := by
  have a := join_len (words_len h hn) sp_len
  have := h.2.1
  rw [List.length_map] at a
  unfold rowT
  omega
theorem split_row {n : Int} {xs : List Actn} (h : RowsOk n xs) : Txt.split (rowT xs) ((" " : String) : Str) = xs.map wtx :=
  TL.split_join tl_s3 (by decide +kernel) (fun z => h.1 (List.map_eq_nil_iff.mp z)) fun p hp hm => by
    obtain ⟨x, hx, rfl⟩ := List.mem_map.mp hp
    obtain ⟨i, hi⟩ := h.2.2 x hx
    have := low33 hi 32 hm
    omega
theorem split_lay {n : Int} {L : List (List Actn)} (hL : L ≠ []) (h : ∀ xs ∈ L, RowsOk n xs) : Txt.split (layT L) (("\n" : String) : Str) = L.map rowT :=
  TL.split_join tl_s4 (by decide +kernel) (fun z => hL (List.map_eq_nil_iff.mp z)) fun p hp hm => by
    obtain ⟨xs, hx, rfl⟩ := List.mem_map.mp hp
    unfold rowT at hm
    rw [join_tl, tl_s3] at hm
    rcases joinL_mem _ _ _ hm with z | ⟨q, hq, z⟩
    · exact absurd (List.mem_singleton.mp z) (by decide)
    · rw [List.map_map] at hq
      obtain ⟨x, hx', rfl⟩ := List.mem_map.mp hq
      obtain ⟨i, hi⟩ := (h xs hx).2.2 x hx'
      have := low33 hi 10 z
      omega
theorem layT_len {n : Int} {L : List (List Actn)} (h6 : L.length ≤ 6) (h : ∀ xs ∈ L, RowsOk n xs) (hn : n ≤ 1000) : (layT L).length ≤ 5000 := by
  have a := join_len (y := (("\n" : String) : Str)) (ps := L.map rowT) (k := 700) (fun p hp => by
    obtain ⟨xs, hx, rfl⟩ := List.mem_map.mp hp
    exact rowT_len (h xs hx) hn) nl_len
  rw [List.length_map] at a
  unfold layT
  omega

/-! ### pieces of texts -/
theorem cut_last (a : Str) (c : Nat) : cutS (a ++ ⟨#[c]⟩) none (some (-1)) = a := by
  refine TL.ext_tl ?_
  unfold cutS
  rw [TL.tl_mk]
  have hl : (a ++ (⟨#[c]⟩ : Str)).length = a.length + 1 := by rw [len_app]; rfl
  rw [hl]
  have e1 : HT.sIx (a.length + 1) 0 none = 0 := rfl
  have e2 : HT.sIx (a.length + 1) (a.length + 1) (some (-1)) = a.length := by
    show (if (-1 : Int) < 0 then ((-1 : Int) + ((a.length + 1 : Nat) : Int)).toNat else min ((-1 : Int).toNat) (a.length + 1)) = _
    rw [if_pos (by decide)]
    omega
  rw [e1, e2, List.drop_zero, Nat.sub_zero]
  show ((TL.tl (a ++ (⟨#[c]⟩ : Str))).take a.length) = _
  rw [TL.tl_append, TL.len_tl, List.take_left]
theorem cut_end (a : Str) (c : Nat) : cutS (a ++ ⟨#[c]⟩) (some (-1)) none = ⟨#[c]⟩ := by
  refine TL.ext_tl ?_
  unfold cutS
  rw [TL.tl_mk]
  have hl : (a ++ (⟨#[c]⟩ : Str)).length = a.length + 1 := by rw [len_app]; rfl
  rw [hl]
  have e1 : HT.sIx (a.length + 1) (a.length + 1) none = a.length + 1 := rfl
  have e2 : HT.sIx (a.length + 1) 0 (some (-1)) = a.length := by
    show (if (-1 : Int) < 0 then ((-1 : Int) + ((a.length + 1 : Nat) : Int)).toNat else min ((-1 : Int).toNat) (a.length + 1)) = _
    rw [if_pos (by decide)]
    omega
  rw [e1, e2]
  show (((TL.tl (a ++ (⟨#[c]⟩ : Str))).drop a.length).take _) = _
  rw [TL.tl_append, TL.len_tl, List.drop_left, Nat.add_sub_cancel_left]
  rfl
theorem cut_head (a : Str) (c : Nat) : cutS (⟨#[c]⟩ ++ a) none (some 1) = ⟨#[c]⟩ := by
  refine TL.ext_tl ?_
  unfold cutS
  rw [TL.tl_mk]
  have hl : ((⟨#[c]⟩ : Str) ++ a).length = a.length + 1 := by rw [len_app, Nat.add_comm]; rfl
  rw [hl]
  have e1 : HT.sIx (a.length + 1) 0 none = 0 := rfl
  have e2 : HT.sIx (a.length + 1) (a.length + 1) (some 1) = 1 := by
    show (if (1 : Int) < 0 then ((1 : Int) + ((a.length + 1 : Nat) : Int)).toNat else min ((1 : Int).toNat) (a.length + 1)) = _
    rw [if_neg (by decide)]
    show min 1 (a.length + 1) = 1
    omega
  rw [e1, e2, List.drop_zero]
  show ((TL.tl ((⟨#[c]⟩ : Str) ++ a)).take 1) = _
  rw [TL.tl_append]
  rfl
theorem cut_tail (a : Str) (c : Nat) : cutS (⟨#[c]⟩ ++ a) (some 1) none = a := by
  refine TL.ext_tl ?_
  unfold cutS
  rw [TL.tl_mk]
  have hl : ((⟨#[c]⟩ : Str) ++ a).length = a.length + 1 := by rw [len_app, Nat.add_comm]; rfl
  rw [hl]
  have e1 : HT.sIx (a.length + 1) (a.length + 1) none = a.length + 1 := rfl
  have e2 : HT.sIx (a.length + 1) 0 (some 1) = 1 := by
    show (if (1 : Int) < 0 then ((1 : Int) + ((a.length + 1 : Nat) : Int)).toNat else min ((1 : Int).toNat) (a.length + 1)) = _
    rw [if_neg (by decide)]
    show min 1 (a.length + 1) = 1
    omega
  rw [e1, e2]
  show (((TL.tl ((⟨#[c]⟩ : Str) ++ a)).drop 1).take _) = _
  rw [TL.tl_append]
  show ((TL.tl a).take (a.length + 1 - 1)) = _
  rw [Nat.add_sub_cancel, TL.len_tl, List.take_length]
/-- the text of a hold -/
def HoldT (h : Str) : Prop := 47 ∉ TL.tl h ∧ 58 ∉ TL.tl h ∧ h.length ≤ 20
theorem hold_code {d : Str} (h : CodeOk d) : HoldT d := by
  refine ⟨fun z => ?_, fun z => ?_, by have := code_len h; omega⟩
  · rcases code_low h _ z with q | q <;> omega
  · rcases code_low h _ z with q | q <;> omega
theorem hold_lay {j : Int} (h : 1 ≤ j) (h2 : j ≤ 1000000000) : HoldT (sgn "layer" ++ numS j) := by
  obtain ⟨g, eg, hg, _⟩ := sgn_tl lay_in
  refine ⟨fun z => ?_, fun z => ?_, ?_⟩
  · rw [TL.tl_append, eg] at z
    rcases List.mem_append.mp z with q | q
    · have := List.mem_singleton.mp q; omega
    · rw [numS_tl (by omega)] at q
      have := numL_low q; omega
  · rw [TL.tl_append, eg] at z
    rcases List.mem_append.mp z with q | q
    · have := List.mem_singleton.mp q; omega
    · rw [numS_tl (by omega)] at q
      have := numL_low q; omega
  · have := numS_len (i := j) (by omega) h2
    rw [len_app, sgn_len lay_in]; omega
theorem part1 {c h : Str} {t : Int} {r : Str} (hc : CodeOk c) : Txt.partition (c ++ "/" ++ h ++ ":" ++ numS t ++ rsg r) (("/" : String) : Str) = (c, (("/" : String) : Str), h ++ ":" ++ (numS t ++ rsg r)) := by
  have e : c ++ "/" ++ h ++ ":" ++ numS t ++ rsg r = c ++ (("/" : String) : Str) ++ (h ++ ":" ++ (numS t ++ rsg r)) := TL.ext_tl (by simp only [TL.tl_append, List.append_assoc])
  rw [e]
  exact TL.partition_app tl_s1 (hold_code hc).1
theorem part2 {h : Str} {t : Int} {r : Str} (hh : HoldT h) : Txt.partition (h ++ ":" ++ (numS t ++ rsg r)) ((":" : String) : Str) = (h, ((":" : String) : Str), numS t ++ rsg r) :=
  TL.partition_app tl_s2 hh.2.1
theorem no_slash_code {c : Str} (h : CodeOk c) : 47 ∉ TL.tl c := (hold_code h).1
theorem no_slash_lay {w : Str} {j : Int} (h : w ∈ layWords) (hj : 1 ≤ j) : 47 ∉ TL.tl (sgn w ++ numS j) := fun z => by
  obtain ⟨g, eg, hg, _⟩ := sgn_tl h
  rw [TL.tl_append, eg] at z
  rcases List.mem_append.mp z with q | q
  · have := List.mem_singleton.mp q; omega
  · rw [numS_tl (by omega)] at q
    have := numL_low q; omega
theorem slash_in {c h : Str} {t : Int} {r : Str} : 47 ∈ TL.tl (c ++ "/" ++ h ++ ":" ++ numS t ++ rsg r) := by
  simp only [TL.tl_append, tl_s1, List.mem_append, List.mem_singleton]
  exact .inl (.inl (.inl (.inl (.inr trivial))))

/-! ### rules: index of a sign, of a word -/
section
variable {X : Cx}
def rSIndex : V → List V → Hp → VK → Prop := fun x xs H Q => ∃ (a b : Str) (i : Nat) (rest : List Nat), x = .str a ∧ xs = [.str b] ∧ Builtin.Str.occurrences a b 0 a.length 1 = i :: rest ∧ Q (.int (i : Nat)) H
theorem mt_sindex : MtR X "str.index" rSIndex := by
  intro pins s σ H x xs v us Q I rx rs h
  obtain ⟨a, b, i, rest, rfl, rfl, ho, q⟩ := h
  obtain ⟨t, rfl⟩ := rx
  cases rs with
  | cons r1 rs =>
    cases rs
    obtain ⟨u, rfl⟩ := r1
    exact PySem.SC.index ho ⟨.int (i : Nat), H, I.tok _, ⟨_, rfl⟩, q⟩
def rTIndex (K : PySem.W.Frag) : V → List V → Hp → VK → Prop := fun x xs H Q => ∃ (a : Addr) (ys : List Str) (y : Str), x = .ref a ∧ xs = [.str y] ∧ SqT K H a (ys.map V.str) ∧ y ∈ ys ∧ Q (.int (ys.idxOf y : Nat)) H
theorem mt_tindex : MtR X "tuple.index" (rTIndex X.K) := by
  intro pins s σ H x xs v us Q I rx rs h
  obtain ⟨a, ys, y, rfl, rfl, hs, hy, q⟩ := h
  cases rx
  cases rs with
  | cons r1 rs =>
    cases rs
    obtain ⟨u, rfl⟩ := r1
    obtain ⟨its, r, ht, _⟩ := I.tuple hs
    exact PySem.SeqAt.tuple_index_strs ht (L2.strs_of_vals r) hy ⟨.int _, H, I.tok _, ⟨_, rfl⟩, q⟩
theorem call_strB : CallR X (.type "str") (fun xs H Q => (∃ a, xs = [.str a] ∧ Q (.str a) H) ∨ (∃ i : Int, xs = [.int i] ∧ i.natAbs.log2 < 1920 ∧ Q (.str (numS i)) H)) := by
  intro pins s σ H xs us Q I r h
  rcases h with h | ⟨i, e, a, q⟩
  · exact SkE.call_str_str pins s σ H xs us Q I r h
  · exact call_str_int pins s σ H xs us Q I r ⟨i, e, a, q⟩
end
end Tx
namespace Tx
open PySem PySem.Spec PyProof.Rows L2 Gd Rm La
def rJoin (K : PySem.W.Frag) : V → List V → Hp → VK → Prop := fun x xs H Q => ∃ a p, ∃ ys : List Str, x = .str a ∧ xs = [.ref p] ∧ (SqL K H p (ys.map V.str) ∨ SqT K H p (ys.map V.str)) ∧
    (ys.map (·.length)).sum + ys.length * a.length ≤ 16777216 ∧ Q (.str (Txt.join a ys)) H
end Tx

set_option Elab.async false
set_option linter.all false
set_option maxRecDepth 100000
set_option maxHeartbeats 4000000
/-! repr of any data; bounds in the heap -/
namespace Gd
open PySem PySem.Spec PyProof.Rows L2
def rRepA (K : PySem.W.Frag) : List V → Hp → VK → Prop := fun xs H Q => ∃ (v : V) (d : PyData), xs = [v] ∧ Dp K H v d ∧
  d.showable = true ∧ d.depth ≤ 50 ∧ d.shown.length ≤ sizeLine ∧ Q (.str d.shown) H
theorem call_repA {X : Cx} {k : Nat} (hg : X.A.guards = some []) (hr : Room k X.A) : CallR X (.builtin "repr") (rRepA X.K) := by
  intro pins s σ H xs us Q I r h
  obtain ⟨v, d, rfl, hd, hs, hdp, hz, q⟩ := h
  cases d with
  | list ds =>
    cases hd with
    | lst h1 h2 => exact call_rep hg hr pins s σ H _ us Q I r ⟨_, _, rfl, .lst h1 h2, hs, hdp, hz, q⟩
  | tuple ds =>
    cases hd with
    | tup h1 h2 => exact call_rep hg hr pins s σ H _ us Q I r ⟨_, _, rfl, .tup h1 h2, hs, hdp, hz, q⟩
  | dict ds => cases hd
  | none =>
    cases hd
    obtain ⟨u, rfl, ru⟩ := vals1 r
    cases ru
    exact PySem.P.repr_of_none ⟨.str _, H, I.tok _, ⟨_, rfl⟩, q⟩
  | bool b =>
    cases hd
    obtain ⟨u, rfl, ru⟩ := vals1 r
    cases ru
    exact PySem.P.repr_of_bool ⟨.str _, H, I.tok _, ⟨_, rfl⟩, q⟩
  | int i =>
    cases hd
    obtain ⟨u, rfl, ⟨t, rfl⟩⟩ := vals1 r
    exact PySem.P.repr_of_int (of_decide_eq_true hs) ⟨.str _, H, I.tok _, ⟨_, rfl⟩, q⟩
  | str z =>
    cases hd
    obtain ⟨u, rfl, ⟨t, rfl⟩⟩ := vals1 r
    exact PySem.P.repr_of_str ⟨.str _, H, I.tok _, ⟨_, rfl⟩, q⟩ hz
end Gd

set_option Elab.async false
set_option linter.all false
set_option maxRecDepth 100000
set_option maxHeartbeats 4000000
/-! combos, and the pieces of a record -/
namespace Cb
open PySem PySem.Spec PyProof.Rows L2 Gd Rm La
structure Cmb where
  ks : List Int
  t : Int
  c : Str
structure CmbOk (many : Int) (cb : Cmb) : Prop where
  asc : cb.ks.Pairwise (· < ·)
  len : cb.ks.length = 2 ∨ cb.ks.length = 3
  key : ∀ k ∈ cb.ks, 0 ≤ k ∧ k < many
  time : 1 ≤ cb.t ∧ cb.t ≤ 10 ^ 9
  code : CodeOk cb.c
def CmbV (H : Hp) (cb : Cmb) (v : V) : Prop := ∃ a k, v = .ref a ∧ H a = some (.tup [.ref k, .int cb.t, .str cb.c]) ∧ H k = some (.tup (cb.ks.map V.int))
theorem CmbV.tk {H H' : Hp} {cb : Cmb} {v : V} (h : CmbV H cb v) (t : Tk H H') : CmbV H' cb v := by
  obtain ⟨a, k, e, h1, h2⟩ := h
  exact ⟨a, k, e, t _ _ h1, t _ _ h2⟩
/-- a list of combos -/
def Cmbs (H : Hp) (c : Addr) (cbs : List Cmb) : Prop := ∃ vs : List V, H c = some (.lst vs) ∧ vs.length = cbs.length ∧ ∀ (i : Nat) (v : V) (cb : Cmb), vs[i]? = some v → cbs[i]? = some cb → CmbV H cb v
theorem Cmbs.same {H H' : Hp} {c : Addr} {cbs : List Cmb} (h : Cmbs H c cbs) (s : Same H H') : Cmbs H' c cbs := by
  obtain ⟨vs, a, b, d⟩ := h
  exact ⟨vs, s _ _ a, b, fun i v cb x y => (d i v cb x y).tk (Tk.of s)⟩
theorem Cmbs.go {H H' : Hp} {c : Addr} {cbs : List Cmb} (h : Cmbs H c cbs) (t : Tk H H') (e : ∀ vs, H c = some (.lst vs) → H' c = some (.lst vs)) : Cmbs H' c cbs := by
  obtain ⟨vs, a, b, d⟩ := h
  exact ⟨vs, e _ a, b, fun i v cb x y => (d i v cb x y).tk t⟩
theorem Cmbs.at_ {H : Hp} {cbs : List Cmb} {vs : List V} (h : vs.length = cbs.length ∧ ∀ (i : Nat) (v : V) (cb : Cmb), vs[i]? = some v → cbs[i]? = some cb → CmbV H cb v) {i : Nat} (hi : i < cbs.length) :
    ∃ a k, vs[i]? = some (.ref a) ∧ H a = some (.tup [.ref k, .int cbs[i].t, .str cbs[i].c]) ∧ H k = some (.tup (cbs[i].ks.map V.int)) := by
  obtain ⟨hl, hv⟩ := h
  have hi' : i < vs.length := by omega
  obtain ⟨a, k, e, h1, h2⟩ := hv i vs[i] cbs[i] (List.getElem?_eq_getElem hi') (List.getElem?_eq_getElem hi)
  exact ⟨a, k, by rw [List.getElem?_eq_getElem hi', e], h1, h2⟩
/-- combos for so many keys -/
structure CbsOk (many : Int) (cbs : List Cmb) : Prop where
  all : ∀ cb ∈ cbs, CmbOk many cb
  few : cbs.length ≤ 6
  apart : (cbs.map Cmb.ks).Nodup
theorem CbsOk.nil (many : Int) : CbsOk many [] := ⟨fun cb h => by simp at h, by decide, List.nodup_nil⟩
def ksD (ks : List Int) : PyData := .tuple (ks.map PyData.int)
def cmbD (cb : Cmb) : PyData := .tuple [ksD cb.ks, .int cb.t, .str cb.c]
def cmbsD (cbs : List Cmb) : PyData := .list (cbs.map cmbD)
theorem CmbV.dp {K : PySem.W.Frag} {H : Hp} {cb : Cmb} {v : V} (h : CmbV H cb v) : Dp K H v (cmbD cb) := by
  obtain ⟨a, k, rfl, h1, h2⟩ := h
  exact .tup (SqT.of h1) (.cons (.tup (SqT.of h2) (dpInts _)) (.cons (.int _) (.cons (.str _) .nil)))
theorem dpAll_idx {α : Type} {K : PySem.W.Frag} {H : Hp} {g : α → PyData} {R : α → V → Prop} (hg : ∀ x v, R x v → Dp K H v (g x)) : ∀ (vs : List V) (xs : List α), vs.length = xs.length → (∀ (i : Nat) (v : V) (x : α), vs[i]? = some v → xs[i]? = some x → R x v) → DpAll K H vs (xs.map g)
  | [], [], _, _ => .nil
  | [], _ :: _, h, _ => by simp at h
  | _ :: _, [], h, _ => by simp at h
  | v :: vs, x :: xs, h, f => .cons (hg x v (f 0 v x rfl rfl)) (dpAll_idx hg vs xs (by simpa using h) fun i v x a b => f (i + 1) v x (by simpa using a) (by simpa using b))
theorem Cmbs.dp {K : PySem.W.Frag} {H : Hp} {c : Addr} {cbs : List Cmb} (h : Cmbs H c cbs) : Dp K H (.ref c) (cmbsD cbs) := by
  obtain ⟨vs, a, b, d⟩ := h
  exact .lst (SqL.of a) (dpAll_idx (R := CmbV H) (fun x v h => h.dp) vs cbs b d)
theorem fit_cmb {many : Int} {cb : Cmb} (hm : many ≤ 1000) (h : CmbOk many cb) : Fit 4000 2 (cmbD cb) := by
  have hk : Fit 1000 1 (ksD cb.ks) := by
    refine Fit.mono (fit_tup (L := 210) (n := 0) fun d hd => ?_) (by rw [List.length_map]; have := h.len; omega) (Nat.le_refl _)
    obtain ⟨v, hv, rfl⟩ := List.mem_map.mp hd
    have := h.key v hv
    exact fit_int (by omega)
  have ht := h.time
  refine Fit.mono (fit_tup (L := 1000) (n := 1) fun d hd => ?_) (by show 3 * 1002 + 3 ≤ 4000; decide) (Nat.le_refl _)
  simp only [List.mem_cons, List.mem_nil_iff, or_false] at hd
  rcases hd with rfl | rfl | rfl
  · exact hk
  · exact Fit.mono (fit_int (by omega)) (by decide) (by decide)
  · exact Fit.mono (fit_code h.code) (by decide) (by decide)
theorem fit_cmbs {many : Int} {cbs : List Cmb} (hm : many ≤ 1000) (h : CbsOk many cbs) : Fit 40000 3 (cmbsD cbs) := by
  refine Fit.mono (fit_list (L := 4000) (n := 2) fun d hd => ?_) (by rw [List.length_map]; have := h.few; omega) (Nat.le_refl _)
  obtain ⟨cb, hc, rfl⟩ := List.mem_map.mp hd
  exact fit_cmb hm (h.all cb hc)
theorem lay_cmb (cb : Cmb) (hc : CodeOk cb.c) : PyData.canLay0 (cmbD cb) = true ∧ PyData.depth (cmbD cb) = 2 := by
  obtain ⟨a, b⟩ := lay_ints cb.ks
  refine ⟨?_, ?_⟩
  · show (PyData.canLayAll0 (cb.ks.map PyData.int) && (PyData.canLay0 (.int cb.t) && (PyData.canLay0 (.str cb.c) && true))) = true
    have hs : PyData.strOk cb.c = true := by
      unfold PyData.strOk
      rw [← Array.all_toList, List.all_eq_true]
      have all : ∀ y ∈ signs.cps.toList, decide (y < 0x110000) = true := by decide +kernel
      exact fun y hy => all y (hc.2.2 y hy)
    rw [a]; simp [PyData.canLay0, hs]
  · show max (PyData.depthAll (cb.ks.map PyData.int) + 1) (max 0 (max 0 0)) + 1 = 2
    rw [b]; rfl
theorem lay_cmbs : ∀ cbs : List Cmb, (∀ cb ∈ cbs, CodeOk cb.c) → PyData.canLayAll0 (cbs.map cmbD) = true ∧ PyData.depthAll (cbs.map cmbD) ≤ 2
  | [], _ => ⟨rfl, by decide⟩
  | cb :: cbs, h => by
    obtain ⟨a, b⟩ := lay_cmbs cbs fun c hc => h c (List.mem_cons_of_mem _ hc)
    obtain ⟨x, y⟩ := lay_cmb cb (h cb List.mem_cons_self)
    refine ⟨?_, ?_⟩
    · show (PyData.canLay0 (cmbD cb) && PyData.canLayAll0 (cbs.map cmbD)) = true
      rw [x, a]; rfl
    · show max (PyData.depth (cmbD cb)) (PyData.depthAll (cbs.map cmbD)) ≤ 2
      omega
theorem shaped_cmbs (cbs : List Cmb) (h : ∀ cb ∈ cbs, CodeOk cb.c) : SeqAt.shaped (cmbsD cbs) = true := by
  obtain ⟨a, b⟩ := lay_cmbs cbs h
  show (PyData.canLayAll0 (cbs.map cmbD) && decide (PyData.depthAll (cbs.map cmbD) + 1 ≤ 64)) = true
  rw [a, decide_eq_true (by omega)]; rfl
theorem shaped_ks (ks : List Int) : SeqAt.shaped (ksD ks) = true := by
  obtain ⟨a, b⟩ := lay_ints ks
  show (PyData.canLayAll0 (ks.map PyData.int) && decide (PyData.depthAll (ks.map PyData.int) + 1 ≤ 64)) = true
  rw [a, b]; rfl
theorem lay_kss : ∀ kss : List (List Int), PyData.canLayAll0 (kss.map ksD) = true ∧ PyData.depthAll (kss.map ksD) ≤ 1
  | [] => ⟨rfl, by decide⟩
  | ks :: kss => by
    obtain ⟨a, b⟩ := lay_kss kss
    obtain ⟨x, y⟩ := lay_ints ks
    refine ⟨?_, ?_⟩
    · show (PyData.canLayAll0 (ks.map PyData.int) && PyData.canLayAll0 (kss.map ksD)) = true
      rw [x, a]; rfl
    · show max (PyData.depthAll (ks.map PyData.int) + 1) (PyData.depthAll (kss.map ksD)) ≤ 1
      omega
theorem shaped_kss (kss : List (List Int)) : SeqAt.shaped (.list (kss.map ksD)) = true := by
  obtain ⟨a, b⟩ := lay_kss kss
  show (PyData.canLayAll0 (kss.map ksD) && decide (PyData.depthAll (kss.map ksD) + 1 ≤ 64)) = true
  rw [a, decide_eq_true (by omega)]; rfl
theorem eqv_intsA : ∀ xs ys : List Int, PyData.eqvAll (xs.map PyData.int) (ys.map PyData.int) = decide (xs = ys)
  | [], [] => rfl
  | [], _ :: _ => rfl
  | _ :: _, [] => rfl
  | o :: xs, p :: ys => by
    show (PyData.eqv (.int o) (.int p) && PyData.eqvAll (xs.map PyData.int) (ys.map PyData.int)) = _
    have e : PyData.eqv (.int o) (.int p) = decide (o = p) := by
      by_cases z : o = p
      · subst z; simp [PyData.eqv]
      · simp [PyData.eqv, z]
    rw [e, eqv_intsA xs ys]
    by_cases a : o = p <;> by_cases b : xs = ys <;> simp [a, b]
theorem eqv_intL (xs ys : List Int) : PyData.eqv (.list (xs.map PyData.int)) (.list (ys.map PyData.int)) = decide (xs = ys) := by rw [← eqv_intsA]; rfl
theorem eqv_ks (xs ys : List Int) : PyData.eqv (ksD xs) (ksD ys) = decide (xs = ys) := by rw [← eqv_intsA]; rfl
theorem any_ks (ks : List Int) (kss : List (List Int)) : ((kss.map ksD).any fun z => PyData.eqv z (ksD ks)) = decide (ks ∈ kss) := by
  induction kss with
  | nil => rfl
  | cons x kss ih =>
    rw [List.map_cons, List.any_cons, ih, eqv_ks]
    by_cases a : x = ks
    · subst a; simp
    · have a' : ¬ ks = x := fun e => a e.symm
      by_cases b : ks ∈ kss <;> simp [a, a', b]
/-! ### pieces -/
def Match (cb : Cmb) (s : Nat) (ds : List Ev) : Prop := cb.ks.length = s ∧ cb.ks.Perm ((ds.take s).map Ev.k) ∧ ∃ a b, ds[0]? = some a ∧ ds[s - 1]? = some b ∧ b.t < a.t + cb.t
open Classical in
noncomputable def fp (cbs : List Cmb) (ds : List Ev) : Nat := if ∃ cb ∈ cbs, Match cb 3 ds then 3 else if ∃ cb ∈ cbs, Match cb 2 ds then 2 else 1
theorem match_le {cb : Cmb} {s : Nat} {ds : List Ev} (h : Match cb s ds) : s ≤ ds.length := by
  have a := h.2.1.length_eq
  rw [h.1, List.length_map, List.length_take] at a
  omega
theorem fp_pos (cbs : List Cmb) (ds : List Ev) : 1 ≤ fp cbs ds := by
  unfold fp
  split
  · decide
  · split <;> decide
theorem fp_le (cbs : List Cmb) {ds : List Ev} (h : ds ≠ []) : fp cbs ds ≤ ds.length := by
  unfold fp
  split
  · rename_i q
    obtain ⟨cb, _, m⟩ := q
    exact match_le m
  · split
    · rename_i q
      obtain ⟨cb, _, m⟩ := q
      exact match_le m
    · cases ds with
      | nil => exact absurd rfl h
      | cons _ _ => rw [List.length_cons]; omega
theorem fp_three {cbs : List Cmb} {ds : List Ev} {cb : Cmb} (h : cb ∈ cbs) (m : Match cb 3 ds) : fp cbs ds = 3 := by unfold fp; rw [if_pos ⟨cb, h, m⟩]
theorem fp_two {cbs : List Cmb} {ds : List Ev} {cb : Cmb} (n : ∀ cb ∈ cbs, ¬ Match cb 3 ds) (h : cb ∈ cbs) (m : Match cb 2 ds) : fp cbs ds = 2 := by
  unfold fp
  rw [if_neg (fun ⟨c, hc, q⟩ => n c hc q), if_pos ⟨cb, h, m⟩]
theorem fp_one {cbs : List Cmb} {ds : List Ev} (n : ∀ cb ∈ cbs, ¬ Match cb 3 ds) (n2 : ∀ cb ∈ cbs, ¬ Match cb 2 ds) : fp cbs ds = 1 := by
  unfold fp
  rw [if_neg (fun ⟨c, hc, q⟩ => n c hc q), if_neg (fun ⟨c, hc, q⟩ => n2 c hc q)]
/-- the numbers from a on, below b -/
def seg (a b : Nat) : List Int := (List.range' a (b - a)).map fun k : Nat => (k : Int)
/-- the events from s on, below e -/
def prt (es : List Ev) (s e : Nat) : List Ev := (es.drop s).take (e - s)
inductive Cut (es : List Ev) (cbs : List Cmb) (e : Nat) : Nat → List (List Int) → Prop
  | nil : Cut es cbs e e []
  | cons {s : Nat} {r : List (List Int)} : s < e → Cut es cbs e (s + fp cbs (prt es s e)) r → Cut es cbs e s (seg s (s + fp cbs (prt es s e)) :: r)
/-- from s on, below e, all are downs -/
def Downs (es : List Ev) (s e : Nat) : Prop := ∀ i, s ≤ i → i < e → ∃ ev, es[i]? = some ev ∧ ev.d = true
def Stops (es : List Ev) (e : Nat) : Prop := e = es.length ∨ ∃ ev, es[e]? = some ev ∧ ev.d = false
inductive Due (es : List Ev) (cbs : List Cmb) : Nat → List (List Int) → Prop
  | fin {s : Nat} : es.length ≤ s → Due es cbs s []
  | up {s : Nat} {ev : Ev} {r : List (List Int)} : es[s]? = some ev → ev.d = false → Due es cbs (s + 1) r → Due es cbs s r
  | down {s e : Nat} {r : List (List Int)} : s < e → Downs es s e → Stops es e → Due es cbs (s + fp cbs (prt es s e)) r → Due es cbs s (seg s (s + fp cbs (prt es s e)) :: r)
theorem Downs.le {es : List Ev} {s e : Nat} (h : Downs es s e) (hs : s < e) : e ≤ es.length := by
  obtain ⟨ev, q, _⟩ := h (e - 1) (by omega) (by omega)
  have := (List.getElem?_eq_some_iff.mp q).1
  omega
theorem prt_len {es : List Ev} {s e : Nat} (h : e ≤ es.length) : (prt es s e).length = e - s := by
  unfold prt
  rw [List.length_take, List.length_drop]
  omega
theorem stop_uniq {es : List Ev} {s e e' : Nat} (hs : s < e) (hs' : s < e') (d : Downs es s e) (d' : Downs es s e') (t : Stops es e) (t' : Stops es e') : e = e' := by
  have l := d.le hs
  have l' := d'.le hs'
  rcases Nat.lt_trichotomy e e' with q | q | q
  · rcases t with t | ⟨ev, g, f⟩
    · omega
    · obtain ⟨ev', g', f'⟩ := d' e (by omega) q
      rw [g] at g'
      cases g'
      rw [f] at f'; cases f'
  · exact q
  · rcases t' with t | ⟨ev, g, f⟩
    · omega
    · obtain ⟨ev', g', f'⟩ := d e' (by omega) q
      rw [g] at g'
      cases g'
      rw [f] at f'; cases f'
theorem Due.uniq {es : List Ev} {cbs : List Cmb} {s : Nat} {r : List (List Int)} (h : Due es cbs s r) : ∀ {r' : List (List Int)}, Due es cbs s r' → r = r' := by
  induction h with
  | fin hl =>
    intro r' h'
    cases h' with
    | fin _ => rfl
    | up g _ _ => have := (List.getElem?_eq_some_iff.mp g).1; omega
    | down hs d _ _ => have := d.le hs; omega
  | up g f _ ih =>
    intro r' h'
    cases h' with
    | fin hl => have := (List.getElem?_eq_some_iff.mp g).1; omega
    | up g' f' h' => exact ih h'
    | down hs d _ _ =>
      obtain ⟨ev', g', f'⟩ := d _ (Nat.le_refl _) hs
      rw [g] at g'
      cases g'
      rw [f] at f'; cases f'
  | down hs d t _ ih =>
    intro r' h'
    cases h' with
    | fin hl => have := d.le hs; omega
    | up g f h' =>
      obtain ⟨ev', g', f'⟩ := d _ (Nat.le_refl _) hs
      rw [g] at g'
      cases g'
      rw [f] at f'; cases f'
    | down hs' d' t' h' =>
      have e := stop_uniq hs hs' d d' t t'
      subst e
      rw [ih h']
theorem cut_due {es : List Ev} {cbs : List Cmb} {e : Nat} (t : Stops es e) {r : List (List Int)} (hr : Due es cbs e r) {s : Nat} {r1 : List (List Int)} (h : Cut es cbs e s r1) : Downs es s e → s ≤ e → Due es cbs s (r1 ++ r) := by
  induction h with
  | nil => intro _ _; exact hr
  | @cons s r1 hs _ ih =>
    intro d _
    have hl := prt_len (s := s) (d.le hs)
    have ne : prt es s e ≠ [] := fun z => by rw [z] at hl; simp at hl; omega
    have f := fp_le cbs ne
    rw [hl] at f
    exact Due.down hs d t (ih (fun i a b => d i (by omega) b) (by omega))
end Cb

set_option Elab.async false
set_option linter.all false
set_option maxRecDepth 100000
set_option maxHeartbeats 4000000
/-! a list's slice with a step -/
namespace Gd
open PySem PySem.Spec PyProof.Rows L2
def stepIx (n : Nat) (lo hi : Option Int) (k : Int) : List Nat :=
  let b := sliceBounds lo hi (some k) n
  sliceRange b.1 b.2.1 b.2.2
def stepV {α : Type} (xs : List α) (lo hi : Option Int) (k : Int) : List α := (stepIx xs.length lo hi k).filterMap fun i => xs[i]?
def tSlK (K : PySem.W.Frag) (te : TE) (tl th ts : TO) : TE := fun σ H Q => te σ H fun x H1 => tl σ H1 fun l H2 => th σ H2 fun u H3 => ts σ H3 fun y H4 =>
  ∃ (a : Addr) (xs : List V) (k : Int), x = .ref a ∧ y = some k ∧ k ≠ 0 ∧ SqL K H4 a xs ∧ (stepV xs l u k).length ≤ xs.length ∧ ∀ p, H4 p = none → Q (.ref p) (upd H4 p (.lst (stepV xs l u k)))
theorem vals_pick {xs : List V} {us : List Value} (r : Vals xs us) : ∀ is : List Nat, Vals (is.filterMap fun i => xs[i]?) (is.filterMap fun i => us[i]?)
  | [] => .nil
  | i :: is => by
    have ih := vals_pick r is
    rw [List.filterMap_cons, List.filterMap_cons]
    cases h : xs[i]? with
    | none =>
      have : us[i]? = none := by
        rw [List.getElem?_eq_none_iff] at h ⊢
        rw [← r.length]; exact h
      rw [this]
      exact ih
    | some x =>
      obtain ⟨u, hu, ru⟩ := r.get h
      rw [hu]
      exact .cons ru ih
section
variable {X : Cx} {e : Expr} {lo hi : Option Expr} {st : Expr} {p2 pos : Pos} {te : TE} {tl th ts : TO}
theorem pe_slk (he : PE X e te) (hl : PO X lo tl) (hu : PO X hi th) (hs : PO X (some st) ts) : PE X (.Subscript e (.Slice lo hi (some st) p2) pos) (tSlK X.K te tl th ts) := by
  refine ⟨fun pins s σ H Q I h => Subscript_ (thn (he.run pins s σ H _ I h) fun v s1 z1 => ?_)⟩
  obtain ⟨x, H1, I1, r1, q1⟩ := z1
  refine wpAny_Slice (thn (hl.run pins s1 σ H1 _ I1 q1) fun vl s2 z2 => ?_)
  obtain ⟨l, H2, I2, pl, q2⟩ := z2
  refine thn (hu.run pins s2 σ H2 _ I2 q2) fun vu s3 z3 => ?_
  obtain ⟨u, H3, I3, pu, q3⟩ := z3
  refine thn (hs.run pins s3 σ H3 _ I3 q3) fun vs s4 z4 => ?_
  obtain ⟨y, H4, I4, ps, a, xs, k, rfl, rfl, k0, hx, hlen, q⟩ := z4
  have I5 : Inv X pins σ H4 { s4 with heap := s4.heap.push { cls := .type "slice", data := .fields #[vl, vu, vs] } } := I4.kept (t' := s4.toks) fun b o m => Heap.get?_push_of_some _ m
  cases r1
  obtain ⟨its, r, ht, hz⟩ := I5.list hx
  have hn := r.length
  refine tail_any (ops := [.ref a, .ref s4.heap.objs.size]) ht.isList.typeIs slot_list_getitem.lookup ?_ (by with_unfolding_all rfl)
  refine wpAny_getItem_list_slice ht.isList (Heap.IsSliceOf.new ..) pl pu ps (fun m => k0 (Option.some.inj m)) ?_ (by rw [List.size_toArray, ← hn]; exact hz)
  have er : (slicePick its.toArray l u (some k)).toList = (stepIx xs.length l u k).filterMap fun i => its[i]? := by
    unfold slicePick stepIx
    rw [List.size_toArray, hn]
    simp
  have rv := vals_pick r (stepIx xs.length l u k)
  have I6 := I5.laid (t' := s4.toks) (a := (s4.heap.push { cls := .type "slice", data := .fields #[vl, vu, vs] }).objs.size) (o := .lst (stepV xs l u k)) (h' := (s4.heap.push { cls := .type "slice", data := .fields #[vl, vu, vs] }).push { cls := .type "list", data := .seq (slicePick its.toArray l u (some k)) }) (fun b o m => Heap.get?_push_of_some _ m) (Nat.le_refl _)
    ⟨Nat.le_trans hlen (by rw [hn]; omega), _, 0, rv, by rw [← er, Array.toArray_toList]; exact Heap.get?_push_size _ rfl⟩
  exact ⟨.ref _, _, I6, rfl, q _ (I5.hok.fresh (Nat.le_refl _))⟩
end
end Gd

set_option Elab.async false
set_option linter.all false
set_option maxRecDepth 100000
set_option maxHeartbeats 8000000
/-! set(xs) of a list of ints -/
namespace Gd
open PySem PySem.Spec PyProof.Rows L2
/-- a set as it begins -/
abbrev set0 (w : World) : Obj :=
  { cls := .type "set", dict := none,
    data := .set #[] 0 (.fresh 0 0 (!w.params.followText "set-order")) }
section
variable {P : Program} {w : World} {A : Around} {E : Value → Shared → Prop} {s : Shared}
/-- the loop of set.update over a list of ints, from an empty set at S -/
theorem fill_set {h1 : Heap} {l S : Addr} {its : Array Value} {ns : List Int} {g : Array GenState} {d : Drawn} {tk : Nat} {os : OsState}
    (free : A.handled = none) (hS : h1.get? S = some (set0 w)) (hl : h1.IsList l its) (ne : S ≠ l) (hit : IntsAre its.toList ns) (small : ns.length + 1 < scanBound) :
    codeAny (model P w) A (.builtin "set.update.loop" ⟨[.ref S, .ref h1.objs.size], []⟩)
      (fun r s' => ∃ (h' : Heap) (t c : Nat), r = .ok (.ret .none) ∧ s' = ⟨h', g, d, t, os⟩ ∧ SetR w h' S (fun j => decide (j ∈ ns)) c ∧ c ≤ ns.length ∧ ∀ b o, b ≠ S → h1.get? b = some o → h'.get? b = some o)
      ⟨h1.push { cls := .type "list_iterator", data := .fields #[.ref l, .int 0 0] }, g, d, tk, os⟩ := by
  have len : its.size = ns.length := by
    have e := IntsAre.length hit
    rwa [Array.length_toList] at e
  have lS : S < h1.objs.size := Heap.lt_size hS
  obtain ⟨ol, hol, _⟩ := id hl
  have ll : l < h1.objs.size := Heap.lt_size hol
  have out : S ∉ [h1.objs.size, l] := by
    intro m
    rcases List.mem_cons.mp m with e | m
    · exact Nat.ne_of_lt lS e
    · exact ne (List.mem_singleton.mp m)
  have at_ : ∀ (i : Nat) (v : Value), its[i]? = some v → ∃ k t, ns[i]? = some k ∧ v = .int k t := by
    intro i v e
    have hi : i < ns.length := len ▸ (Array.getElem?_eq_some_iff.mp e).1
    obtain ⟨t, z⟩ := IntsAre.int_at hit i v (by rw [Array.getElem?_toList]; exact e)
    exact ⟨ns[i], t, List.getElem?_eq_getElem hi, by rw [z, List.getD_eq_getElem?_getD, List.getElem?_eq_getElem hi]; rfl⟩
  have W := (Walks.list (prog := P) (w := w) (A := A.in1) (by simp [free]) h1.objs.size l (Nat.ne_of_lt ll) its).toS
  refine set_update_ints W S out ns len small at_ its.size 0 _ (by omega) (Nat.zero_le _) ⟨⟨_, Heap.get?_push_size _ rfl, rfl, rfl⟩, hl.push _⟩ ⟨0, Nat.le_refl _, setR_new_at (Heap.get?_push_of_some _ hS)⟩ (fun s' c m hc hR => ?_)
  obtain ⟨h', g', d', t', os'⟩ := s'
  obtain rfl : g' = g := m.gens
  obtain rfl : d' = d := m.drawn
  obtain rfl : os' = os := m.os
  refine ⟨h', t', c, rfl, rfl, hR, by omega, fun b o nb e => ?_⟩
  refine m.heap b o (fun z => ?_) (Heap.get?_push_of_some _ e)
  rcases List.mem_cons.mp z with z | z
  · exact nb z
  · have := Heap.lt_size e
    rw [List.mem_singleton.mp z] at this
    exact Nat.lt_irrefl _ this
theorem set_of_list {l : Addr} {its : Array Value} {ns : List Int} {Q : Value → Shared → Prop} (free : A.handled = none) (hl : s.heap.IsList l its) (hit : IntsAre its.toList ns) (small : ns.length + 1 < scanBound)
    (q : ∀ (h' : Heap) (t c : Nat), SetR w h' s.heap.objs.size (fun j => decide (j ∈ ns)) c → c ≤ ns.length → (∀ b o, s.heap.get? b = some o → h'.get? b = some o) →
      Q (.ref s.heap.objs.size) { s with heap := h', toks := t }) : wpAny (model P w) A (call (.type "set") [.ref l]) Q E s := by
  have K := F.called_set
  obtain ⟨_, _, mro⟩ := K.mro
  have made := K.made
  have sub := K.sub
  have nt := K.notType
  have can := K.canCreate
  have tc := F.typeCall_set_1 (.ref l)
  have look := K.init.lookup
  have bnd := K.init.bind (.ref s.heap.objs.size)
  refine wpAny_call (codeAny_of_tree (show wpAny _ _ (callAny (.type "set") _) _ _ _ from wpAny_pure ⟨Code.quiet_builtin _ (by decide +kernel), codeAny_builtin F.entry_type_call ?_⟩))
  rw [Around.under_plain (weight_type_call_type "set" [.ref l] []) rfl]
  repeat (any_goals (first | assumption | wp_step))
  refine codeAny_mono (code_set_led1 (.ref l) (E := E) (Q₁ := fun o s1 => o = .ref s.heap.objs.size ∧ s1 = { s with heap := s.heap.push (set0 w) }) ⟨rfl, rfl⟩) fun r s1 hr => ?_
  match r, hr with
  | .error _, hr => exact hr
  | .ok .next, hr => exact hr.elim
  | .ok .brk, hr => exact hr.elim
  | .ok .cont, hr => exact hr.elim
  | .ok (.ret o), hr =>
    obtain ⟨e1, e2⟩ := hr
    subst e1 e2
    have hS : (s.heap.push (set0 w)).get? s.heap.objs.size = some (set0 w) := Heap.get?_push_size _ rfl
    have tS : Shared.TypeIs { s with heap := s.heap.push (set0 w) } (.ref s.heap.objs.size) "set" := ⟨_, hS, rfl⟩
    have keep0 : ∀ b o, s.heap.get? b = some o → (s.heap.push (set0 w)).get? b = some o := fun b o e => Heap.get?_push_of_some _ e
    have hl1 := hl.push (set0 w)
    repeat (any_goals (first | assumption | wp_step))
    refine codeAny_mono (codeAny_call_builtin (R := fun r s2 => ∃ (h' : Heap) (t c : Nat), r = .ok (.ret .none) ∧ s2 = ⟨h', s.gens, s.drawn, t, s.os⟩ ∧ SetR w h' s.heap.objs.size (fun j => decide (j ∈ ns)) c ∧ c ≤ ns.length ∧ ∀ b o, s.heap.get? b = some o → h'.get? b = some o)
      K.init.plain F.entry_set_init (check_set_init_1 tS ?_)) (fun r2 s2 hr2 => ?_)
    · obtain ⟨⟨ocls, odict, odata, oslots⟩, hol, hcl, nl, hdl⟩ := id hl1
      have nd : (Value.type "list" == Value.type "dict") = false := by decide
      have s1 := F.sub_list_set
      have s2 := F.sub_list_frozenset
      simp only at hcl hdl
      subst hcl
      subst hdl
      unfold Builtin.«set.__init__» noKeywords Builtin.Frozenset.updateFrom
      generalize hI : pyIter = iter
      wp_walk
      subst hI
      have nSl : s.heap.objs.size ≠ l := by
        obtain ⟨ol, z, _⟩ := hl
        exact Nat.ne_of_gt (Heap.lt_size z)
      refine wpAny_pyIter_list hl1 (wpAny_bind (wpAny_runValue (codeAny_mono (fill_set (A := A.in1.in1) (by simp [free]) hS hl1 nSl hit small) (fun r s' z => ?_))))
      obtain ⟨h', t, c, rfl, rfl, hR, hc, hk⟩ := z
      have old : ∀ b o, s.heap.get? b = some o → h'.get? b = some o := fun b o e => hk b o (Nat.ne_of_lt (Heap.lt_size e)) (keep0 b o e)
      exact wpAny_pure (wpAny_pure ⟨h', t, c, rfl, rfl, hR, hc, old⟩)
    · obtain ⟨h', t, c, rfl, rfl, hR, hc, hk⟩ := hr2
      repeat (any_goals (first | assumption | wp_step))
      exact q h' t c hR hc hk
end
/-- set(xs) of a list of ints: as many members as different numbers -/
def rSetL (K : PySem.W.Frag) (w : World) : List V → Hp → VK → Prop := fun xs H Q => ∃ (l : Addr) (ns : List Int), xs = [.ref l] ∧ SqL K H l (ns.map V.int) ∧ ns.length ≤ 1000 ∧
  ∀ (a : Addr) (c : Nat), H a = none → (∀ ds : List Int, (∀ k ∈ ns, k ∈ ds) → c ≤ ds.length) → Q (.ref a) (upd H a (SetO w a (fun j => decide (j ∈ ns)) c))
theorem setR_few {w : World} {h : Heap} {a : Addr} {ns : List Int} {c : Nat} (R : SetR w h a (fun j => decide (j ∈ ns)) c) (ds : List Int) (hd : ∀ k ∈ ns, k ∈ ds) : c ≤ ds.length := by
  obtain ⟨o, es, ep, t, _, _, _, _, nd, mem, _, _, n, _⟩ := R
  rw [← n, ← Array.length_toList, ← List.length_map (f := keyOf)]
  refine List.Nodup.length_le_of_subset nd fun k hk => ?_
  exact hd k (of_decide_eq_true ((mem k).mpr hk))
theorem cr_setL {X : Cx} (hc : X.calm = true) : CallR X (.type "set") (rSetL X.K X.w) := by
  intro pins s σ H xs us Q I r h
  obtain ⟨l, ns, rfl, hx, hn, q⟩ := h
  rw [Vals.ref1 r]
  obtain ⟨its, rv, pl, _⟩ := I.list hx
  refine set_of_list (I.ok.hd hc) pl.isList (by simpa using rv.ints) (by unfold scanBound; omega) fun h' t c R _ k => ?_
  exact ⟨.ref s.heap.objs.size, _, I.laid (t' := t) k (Nat.le_refl _) (setO_new R), rfl, q _ c (I.hok.fresh (Nat.le_refl _)) (setR_few R)⟩
end Gd

set_option Elab.async false
set_option linter.all false
set_option maxRecDepth 100000
set_option maxHeartbeats 8000000
/-! set(t) of a tuple of ints; len(set) of tuples -/
namespace Gd
open PySem PySem.Spec PyProof.Rows L2
section
variable {P : Program} {w : World} {A : Around} {E : Value → Shared → Prop} {s : Shared}
/-- the loop of set.update over a list of ints, from an empty set at S -/
theorem fill_setT {h1 : Heap} {l S : Addr} {its : Array Value} {ns : List Int} {g : Array GenState} {d : Drawn} {tk : Nat} {os : OsState}
    (free : A.handled = none) (hS : h1.get? S = some (set0 w)) (hl : h1.IsTuple l its) (ne : S ≠ l) (hit : IntsAre its.toList ns) (small : ns.length + 1 < scanBound) :
    codeAny (model P w) A (.builtin "set.update.loop" ⟨[.ref S, .ref h1.objs.size], []⟩)
      (fun r s' => ∃ (h' : Heap) (t c : Nat), r = .ok (.ret .none) ∧ s' = ⟨h', g, d, t, os⟩ ∧ SetR w h' S (fun j => decide (j ∈ ns)) c ∧ c ≤ ns.length ∧ ∀ b o, b ≠ S → h1.get? b = some o → h'.get? b = some o)
      ⟨h1.push { cls := .type "tuple_iterator", data := .fields #[.ref l, .int 0 0] }, g, d, tk, os⟩ := by
  have len : its.size = ns.length := by
    have e := IntsAre.length hit
    rwa [Array.length_toList] at e
  have lS : S < h1.objs.size := Heap.lt_size hS
  obtain ⟨ol, hol, _⟩ := id hl
  have ll : l < h1.objs.size := Heap.lt_size hol
  have out : S ∉ [h1.objs.size, l] := by
    intro m
    rcases List.mem_cons.mp m with e | m
    · exact Nat.ne_of_lt lS e
    · exact ne (List.mem_singleton.mp m)
  have at_ : ∀ (i : Nat) (v : Value), its[i]? = some v → ∃ k t, ns[i]? = some k ∧ v = .int k t := by
    intro i v e
    have hi : i < ns.length := len ▸ (Array.getElem?_eq_some_iff.mp e).1
    obtain ⟨t, z⟩ := IntsAre.int_at hit i v (by rw [Array.getElem?_toList]; exact e)
    exact ⟨ns[i], t, List.getElem?_eq_getElem hi, by rw [z, List.getD_eq_getElem?_getD, List.getElem?_eq_getElem hi]; rfl⟩
  have W := (Walks.tuple (prog := P) (w := w) (A := A.in1) (by simp [free]) h1.objs.size l (Nat.ne_of_lt ll) its).toS
  refine set_update_ints W S out ns len small at_ its.size 0 _ (by omega) (Nat.zero_le _) ⟨⟨_, Heap.get?_push_size _ rfl, rfl, rfl⟩, hl.push _⟩ ⟨0, Nat.le_refl _, setR_new_at (Heap.get?_push_of_some _ hS)⟩ (fun s' c m hc hR => ?_)
  obtain ⟨h', g', d', t', os'⟩ := s'
  obtain rfl : g' = g := m.gens
  obtain rfl : d' = d := m.drawn
  obtain rfl : os' = os := m.os
  refine ⟨h', t', c, rfl, rfl, hR, by omega, fun b o nb e => ?_⟩
  refine m.heap b o (fun z => ?_) (Heap.get?_push_of_some _ e)
  rcases List.mem_cons.mp z with z | z
  · exact nb z
  · have := Heap.lt_size e
    rw [List.mem_singleton.mp z] at this
    exact Nat.lt_irrefl _ this
theorem set_of_tup {l : Addr} {its : Array Value} {ns : List Int} {Q : Value → Shared → Prop} (free : A.handled = none) (hl : s.heap.IsTuple l its) (hit : IntsAre its.toList ns) (small : ns.length + 1 < scanBound)
    (q : ∀ (h' : Heap) (t c : Nat), SetR w h' s.heap.objs.size (fun j => decide (j ∈ ns)) c → c ≤ ns.length → (∀ b o, s.heap.get? b = some o → h'.get? b = some o) →
      Q (.ref s.heap.objs.size) { s with heap := h', toks := t }) : wpAny (model P w) A (call (.type "set") [.ref l]) Q E s := by
  have K := F.called_set
  obtain ⟨_, _, mro⟩ := K.mro
  have made := K.made
  have sub := K.sub
  have nt := K.notType
  have can := K.canCreate
  have tc := F.typeCall_set_1 (.ref l)
  have look := K.init.lookup
  have bnd := K.init.bind (.ref s.heap.objs.size)
  refine wpAny_call (codeAny_of_tree (show wpAny _ _ (callAny (.type "set") _) _ _ _ from wpAny_pure ⟨Code.quiet_builtin _ (by decide +kernel), codeAny_builtin F.entry_type_call ?_⟩))
  rw [Around.under_plain (weight_type_call_type "set" [.ref l] []) rfl]
  repeat (any_goals (first | assumption | wp_step))
  refine codeAny_mono (code_set_led1 (.ref l) (E := E) (Q₁ := fun o s1 => o = .ref s.heap.objs.size ∧ s1 = { s with heap := s.heap.push (set0 w) }) ⟨rfl, rfl⟩) fun r s1 hr => ?_
  match r, hr with
  | .error _, hr => exact hr
  | .ok .next, hr => exact hr.elim
  | .ok .brk, hr => exact hr.elim
  | .ok .cont, hr => exact hr.elim
  | .ok (.ret o), hr =>
    obtain ⟨e1, e2⟩ := hr
    subst e1 e2
    have hS : (s.heap.push (set0 w)).get? s.heap.objs.size = some (set0 w) := Heap.get?_push_size _ rfl
    have tS : Shared.TypeIs { s with heap := s.heap.push (set0 w) } (.ref s.heap.objs.size) "set" := ⟨_, hS, rfl⟩
    have keep0 : ∀ b o, s.heap.get? b = some o → (s.heap.push (set0 w)).get? b = some o := fun b o e => Heap.get?_push_of_some _ e
    have hl1 := hl.push (set0 w)
    repeat (any_goals (first | assumption | wp_step))
    refine codeAny_mono (codeAny_call_builtin (R := fun r s2 => ∃ (h' : Heap) (t c : Nat), r = .ok (.ret .none) ∧ s2 = ⟨h', s.gens, s.drawn, t, s.os⟩ ∧ SetR w h' s.heap.objs.size (fun j => decide (j ∈ ns)) c ∧ c ≤ ns.length ∧ ∀ b o, s.heap.get? b = some o → h'.get? b = some o)
      K.init.plain F.entry_set_init (check_set_init_1 tS ?_)) (fun r2 s2 hr2 => ?_)
    · obtain ⟨⟨ocls, odict, odata, oslots⟩, hol, hcl, nl, hdl⟩ := id hl1
      have nd : (Value.type "tuple" == Value.type "dict") = false := by decide
      have s1 := F.sub_tuple_set
      have s2 := F.sub_tuple_frozenset
      simp only at hcl hdl
      subst hcl
      subst hdl
      unfold Builtin.«set.__init__» noKeywords Builtin.Frozenset.updateFrom
      generalize hI : pyIter = iter
      wp_walk
      subst hI
      have nSl : s.heap.objs.size ≠ l := by
        obtain ⟨ol, z, _⟩ := hl
        exact Nat.ne_of_gt (Heap.lt_size z)
      refine wpAny_pyIter_tuple hl1 (wpAny_bind (wpAny_runValue (codeAny_mono (fill_setT (A := A.in1.in1) (by simp [free]) hS hl1 nSl hit small) (fun r s' z => ?_))))
      obtain ⟨h', t, c, rfl, rfl, hR, hc, hk⟩ := z
      have old : ∀ b o, s.heap.get? b = some o → h'.get? b = some o := fun b o e => hk b o (Nat.ne_of_lt (Heap.lt_size e)) (keep0 b o e)
      exact wpAny_pure (wpAny_pure ⟨h', t, c, rfl, rfl, hR, hc, old⟩)
    · obtain ⟨h', t, c, rfl, rfl, hR, hc, hk⟩ := hr2
      repeat (any_goals (first | assumption | wp_step))
      exact q h' t c hR hc hk
end
/-- set(t) of a tuple of ints -/
def rSetU (K : PySem.W.Frag) (w : World) : List V → Hp → VK → Prop := fun xs H Q => ∃ (l : Addr) (ns : List Int), xs = [.ref l] ∧ SqT K H l (ns.map V.int) ∧ ns.length ≤ 1000 ∧
  ∀ (a : Addr) (c : Nat), H a = none → c ≤ ns.length → Q (.ref a) (upd H a (SetO w a (fun j => decide (j ∈ ns)) c))
theorem cr_setU {X : Cx} (hc : X.calm = true) : CallR X (.type "set") (rSetU X.K X.w) := by
  intro pins s σ H xs us Q I r h
  obtain ⟨l, ns, rfl, hx, hn, q⟩ := h
  rw [Vals.ref1 r]
  obtain ⟨its, rv, pl, _⟩ := I.tuple hx
  refine set_of_tup (I.ok.hd hc) pl (by simpa using rv.ints) (by unfold scanBound; omega) fun h' t c R hcn k => ?_
  exact ⟨.ref s.heap.objs.size, _, I.laid (t' := t) k (Nat.le_refl _) (setO_new R), rfl, q _ c (I.hok.fresh (Nat.le_refl _)) hcn⟩
/-- len(s), s a set of tuples of ints -/
def rLenST (P : Program) (w : World) : List V → Hp → VK → Prop := fun xs H Q => ∃ (a : Addr) (L : List (Addr × List Int)), xs = [.ref a] ∧ H a = some (SetTO P w a L) ∧ ((L.map (·.2)).Nodup → Q (.int (L.length : Nat)) H)
theorem call_lenST {X : Cx} : CallR X (.builtin "len") (rLenST X.prog X.w) := by
  intro pins s σ H xs us Q I r h
  obtain ⟨a, L, rfl, ha, q⟩ := h
  rw [Vals.ref1 r]
  have R : SetT0 X.prog X.w s.heap a L := (I.hok a _ ha).1
  obtain ⟨es, ep, t, ⟨o, ho, hex, hd⟩, hrows, T, nd, pl, _, room0, few⟩ := R.ex
  have hn : es.size = L.length := by
    have e := congrArg List.length hrows
    unfold rowsOf at e
    rw [Array.length_toList, List.length_map] at e
    exact e
  have room : L.length * 5 < t.mask * 3 := by assumption
  have fits : t.fits es.size = true := by
    have h1 := T.sz
    rw [List.length_map] at h1
    unfold SetTable.fits SetTable.fill
    rw [T.dm, h1, hn]
    simp
    omega
  refine call_len_set ho hex hd fits (by rw [hn]; omega) ⟨.int (L.length : Nat), H, I.tok _, ⟨_, by rw [hn]⟩, q nd⟩
end Gd

set_option Elab.async false
set_option linter.all false
set_option maxRecDepth 100000
set_option maxHeartbeats 4000000
/-! data of any kind, dicts too: what it reads as, its repr, its type -/
namespace Gd
open PySem PySem.Spec PyProof.Rows L2
mutual
inductive Dq (K : PySem.W.Frag) (H : Hp) : V → PyData → Prop
  | non : Dq K H .non .none
  | bl (b : Bool) : Dq K H (.bl b) (.bool b)
  | int (i : Int) : Dq K H (.int i) (.int i)
  | str (x : Str) : Dq K H (.str x) (.str x)
  | lst {a : Addr} {xs : List V} {ds : List PyData} : SqL K H a xs → DqAll K H xs ds → Dq K H (.ref a) (.list ds)
  | tup {a : Addr} {xs : List V} {ds : List PyData} : SqT K H a xs → DqAll K H xs ds → Dq K H (.ref a) (.tuple ds)
  | dct {a : Addr} {kvs : List (Key × V)} {ks vs : List PyData} : H a = some (.dK kvs) → DqAll K H (kvs.map fun p => kV p.1) ks → DqAll K H (kvs.map fun p => p.2) vs → Dq K H (.ref a) (.dict (ks.zip vs))
inductive DqAll (K : PySem.W.Frag) (H : Hp) : List V → List PyData → Prop
  | nil : DqAll K H [] []
  | cons {v : V} {vs : List V} {d : PyData} {ds : List PyData} : Dq K H v d → DqAll K H vs ds → DqAll K H (v :: vs) (d :: ds)
end
section
variable {K : PySem.W.Frag} {H H' : Hp}
mutual
theorem Dp.q : ∀ {d : PyData} {v : V}, Dp K H v d → Dq K H v d
  | .none, _, h => by cases h; exact .non
  | .bool b, _, h => by cases h; exact .bl b
  | .int i, _, h => by cases h; exact .int i
  | .str x, _, h => by cases h; exact .str x
  | .list ds, _, h => by
    cases h with
    | lst hs ha => exact .lst hs (DpAll.q ha)
  | .tuple ds, _, h => by
    cases h with
    | tup hs ha => exact .tup hs (DpAll.q ha)
  | .dict _, _, h => by cases h
theorem DpAll.q : ∀ {ds : List PyData} {vs : List V}, DpAll K H vs ds → DqAll K H vs ds
  | [], _, h => by cases h; exact .nil
  | d :: ds, _, h => by
    cases h with
    | cons h1 h2 => exact .cons (Dp.q h1) (DpAll.q h2)
end
theorem SqL.same_ {a : Addr} {xs : List V} (h : SqL K H a xs) (s : ∀ b o, H b = some o → H' b = some o) : SqL K H' a xs := by
  rcases h with (h | ⟨o, h⟩) | h
  · exact .inl (.inl (s _ _ h))
  · exact .inl (.inr ⟨o, s _ _ h⟩)
  · exact .inr h
theorem SqT.same_ {a : Addr} {xs : List V} (h : SqT K H a xs) (s : ∀ b o, H b = some o → H' b = some o) : SqT K H' a xs := by
  rcases h with (h | ⟨o, h⟩) | h
  · exact .inl (.inl (s _ _ h))
  · exact .inl (.inr ⟨o, s _ _ h⟩)
  · exact .inr h
mutual
theorem Dq.same {v : V} {d : PyData} : Dq K H v d → (∀ b o, H b = some o → H' b = some o) → Dq K H' v d
  | .non, _ => .non
  | .bl b, _ => .bl b
  | .int i, _ => .int i
  | .str x, _ => .str x
  | .lst h a, s => .lst (SqL.same_ h s) (DqAll.same a s)
  | .tup h a, s => .tup (SqT.same_ h s) (DqAll.same a s)
  | .dct h a b, s => .dct (s _ _ h) (DqAll.same a s) (DqAll.same b s)
theorem DqAll.same {vs : List V} {ds : List PyData} : DqAll K H vs ds → (∀ b o, H b = some o → H' b = some o) → DqAll K H' vs ds
  | .nil, _ => .nil
  | .cons a b, s => .cons (Dq.same a s) (DqAll.same b s)
end
theorem DqAll.length : ∀ {vs : List V} {ds : List PyData}, DqAll K H vs ds → vs.length = ds.length
  | _, _, .nil => rfl
  | _, _, .cons _ b => congrArg (· + 1) (DqAll.length b)
theorem DqAll.at_ : ∀ {vs : List V} {ds : List PyData} {i : Nat} {v : V}, DqAll K H vs ds → vs[i]? = some v → ∃ d, ds[i]? = some d ∧ Dq K H v d
  | _, _, 0, _, .cons a _, h => ⟨_, rfl, by cases h; exact a⟩
  | _, _, i + 1, _, .cons _ b, h => DqAll.at_ (i := i) b h
  | _, _, _, _, .nil, h => by simp at h
theorem DqAll.get : ∀ {vs : List V} {ds : List PyData} {i : Nat} {d : PyData}, DqAll K H vs ds → ds[i]? = some d → ∃ v, vs[i]? = some v ∧ Dq K H v d
  | _, _, 0, _, .cons a _, h => ⟨_, rfl, by cases h; exact a⟩
  | _, _, i + 1, _, .cons _ b, h => DqAll.get (i := i) b h
  | _, _, _, _, .nil, h => by simp at h
theorem DqAll.append : ∀ {vs : List V} {ds : List PyData} {vs' : List V} {ds' : List PyData}, DqAll K H vs ds → DqAll K H vs' ds' → DqAll K H (vs ++ vs') (ds ++ ds')
  | _, _, _, _, .nil, b => b
  | _, _, _, _, .cons a t, b => .cons a (DqAll.append t b)
theorem DqAll.take : ∀ {vs : List V} {ds : List PyData} (n : Nat), DqAll K H vs ds → DqAll K H (vs.take n) (ds.take n)
  | _, _, 0, _ => .nil
  | _, _, _ + 1, .nil => .nil
  | _, _, n + 1, .cons a t => .cons a (DqAll.take n t)
theorem DqAll.drop : ∀ {vs : List V} {ds : List PyData} (n : Nat), DqAll K H vs ds → DqAll K H (vs.drop n) (ds.drop n)
  | _, _, 0, h => h
  | _, _, _ + 1, .nil => .nil
  | _, _, n + 1, .cons _ t => DqAll.drop n t
theorem DqAll.ints : ∀ (ks : List Int), DqAll K H (ks.map V.int) (ks.map PyData.int)
  | [] => .nil
  | k :: ks => .cons (.int k) (DqAll.ints ks)
/-- the names of types -/
def kindS : PyData → String
  | .none => "NoneType"
  | .bool _ => "bool"
  | .int _ => "int"
  | .str _ => "str"
  | .list _ => "list"
  | .tuple _ => "tuple"
  | .dict _ => "dict"
theorem Dq.ty {v : V} {d : PyData} (h : Dq K H v d) : TyX K H v (.type (kindS d)) := by
  cases h with
  | non => exact .base .non
  | bl b => exact .base (.bl b)
  | int i => exact .base (.int i)
  | str x => exact .base (.str x)
  | lst h _ =>
    rcases h with (h | ⟨o, h⟩) | ⟨o, its, n, h, c, _⟩
    · exact .base (.lst h)
    · exact .base (.frz h)
    · exact .kList h c
  | tup h _ =>
    rcases h with (h | ⟨o, h⟩) | ⟨o, its, n, h, c, _⟩
    · exact .base (.tup h)
    · exact .fTuple h
    · exact .kTuple h c
  | dct h _ _ => exact .base (.dK h)
end
section
variable {X : Cx} {pins : List (Addr × Obj)} {σ : L2.St} {H : Hp} {s : Shared}
theorem pairs_vals {P : Program} {w : World} : ∀ {es : List DictEntry} {qs : List (Key × Value)} {kvs : List (Key × V)}, Pairs (mixKind P w) es qs → KV kvs qs →
    Vals (kvs.map fun p => kV p.1) (es.map (·.key)) ∧ Vals (kvs.map fun p => p.2) (es.map (·.val))
  | _, _, _, .nil, .nil => ⟨.nil, .nil⟩
  | _, _, _, .cons h1 h2 t, .cons ⟨e, r⟩ q => by
    obtain ⟨a, b⟩ := pairs_vals t q
    refine ⟨.cons ?_ a, .cons ?_ b⟩
    · show RelV (kV _) (DictEntry.key _)
      rw [e]
      rcases keyIs_shape h1 with ⟨i, t, e1, e2⟩ | ⟨x, t, e1, e2⟩
      · rw [e1, e2]; exact ⟨t, rfl⟩
      · rw [e1, e2]; exact ⟨t, rfl⟩
    · show RelV _ (DictEntry.val _)
      rw [h2]; exact r
theorem zip_fst {α β : Type} : ∀ {a : List α} {b : List β}, a.length = b.length → (a.zip b).map (·.1) = a
  | [], [], _ => rfl
  | _ :: a, _ :: b, h => congrArg (_ :: ·) (zip_fst (a := a) (b := b) (Nat.succ.inj h))
theorem zip_snd {α β : Type} : ∀ {a : List α} {b : List β}, a.length = b.length → (a.zip b).map (·.2) = b
  | [], [], _ => rfl
  | _ :: a, _ :: b, h => congrArg (_ :: ·) (zip_snd (a := a) (b := b) (Nat.succ.inj h))
/-- the modules' dict stands where it stood -/
def SysAt (base : Heap) : Prop := ∃ o es ep, base.get? sysModules = some o ∧ o.data = .dict es ep
mutual
theorem Dq.reads (I : Inv X pins σ H s) (hsm : SysAt X.base) {v : V} {d : PyData} : Dq X.K H v d → ∀ u, RelV v u → ∃ as, Reads s.heap u d as ∧ sysModules ∉ as
  | .non, _, r => by
    cases r
    exact ⟨_, Reads.none, by simp⟩
  | .bl b, _, r => by
    cases r
    exact ⟨_, Reads.bool b, by simp⟩
  | .int i, _, r => by
    obtain ⟨t, rfl⟩ := r
    exact ⟨_, Reads.int i t, by simp⟩
  | .str x, _, r => by
    obtain ⟨t, rfl⟩ := r
    exact ⟨_, Reads.str x t, by simp⟩
  | .lst (a := a) hs ha, u, r => by
    cases (show u = Value.ref a from r)
    obtain ⟨its, rv, ⟨o, n, ho, hc, _, hd⟩, _⟩ := I.list hs
    obtain ⟨as, hr, hn⟩ := DqAll.reads I hsm ha its rv
    refine ⟨_, Reads.list ho hc hd hr, fun hm => ?_⟩
    rcases List.mem_cons.mp hm with e | hm
    · obtain ⟨o', es, ep, h1, h2⟩ := hsm
      have h3 := I.bk _ _ h1
      rw [e, ho] at h3
      cases h3
      rw [hd] at h2
      cases h2
    · exact hn hm
  | .tup (a := a) hs ha, u, r => by
    cases (show u = Value.ref a from r)
    obtain ⟨its, rv, ⟨o, ho, hc, n, hd⟩, _⟩ := I.tuple hs
    obtain ⟨as, hr, hn⟩ := DqAll.reads I hsm ha its rv
    exact ⟨_, Reads.tuple ho hc hd hr, hn⟩
  | .dct (a := a) (kvs := kvs) hk ha hb, u, r => by
    cases (show u = Value.ref a from r)
    obtain ⟨_, hsys, qs, rel, o, es, ep, ho, hex, hdat, _, hp, _⟩ := dk_of I.hok hk
    obtain ⟨rk, rv⟩ := pairs_vals hp rel
    obtain ⟨as, hr, hn⟩ := DqAll.reads I hsm ha _ rk
    obtain ⟨bs, hr2, hn2⟩ := DqAll.reads I hsm hb _ rv
    have hl : _ = _ := (DqAll.length ha).symm.trans ((List.length_map _).trans ((List.length_map _).symm.trans (DqAll.length hb)))
    refine ⟨_, Reads.dict ho hex.1 hdat (by rw [zip_fst hl]; exact hr) (by rw [zip_snd hl]; exact hr2), fun hm => ?_⟩
    rcases List.mem_append.mp hm with hm | hm
    · rcases List.mem_cons.mp hm with e | hm
      · exact absurd e.symm (by simpa using hsys)
      · exact hn hm
    · exact hn2 hm
theorem DqAll.reads (I : Inv X pins σ H s) (hsm : SysAt X.base) {vs : List V} {ds : List PyData} : DqAll X.K H vs ds → ∀ us, Vals vs us → ∃ as, ReadsAll s.heap us ds as ∧ sysModules ∉ as
  | .nil, _, r => by
    cases r
    exact ⟨_, ReadsAll.nil, by simp⟩
  | .cons h1 h2, _, r => by
    cases r with
    | cons r1 r2 =>
      obtain ⟨as, q1, n1⟩ := Dq.reads I hsm h1 _ r1
      obtain ⟨bs, q2, n2⟩ := DqAll.reads I hsm h2 _ r2
      exact ⟨_, ReadsAll.cons q1 q2, fun hm => (List.mem_append.mp hm).elim n1 n2⟩
end
end
/-- repr(x), x data of any kind -/
def rRepQ (K : PySem.W.Frag) : List V → Hp → VK → Prop := fun xs H Q => ∃ (v : V) (d : PyData), xs = [v] ∧ Dq K H v d ∧
  d.showable = true ∧ d.depth ≤ 50 ∧ d.shown.length ≤ sizeLine ∧ Q (.str d.shown) H
theorem call_repQ {X : Cx} {k : Nat} (hsm : SysAt X.base) (hg : X.A.guards = some []) (hr : Room k X.A) : CallR X (.builtin "repr") (rRepQ X.K) := by
  intro pins s σ H xs us Q I r h
  obtain ⟨v, d, rfl, hd, hs, hdp, hz, q⟩ := h
  obtain ⟨u, rfl, ru⟩ := vals1 r
  have hu := hr.un
  have one : ∀ {a : Addr}, u = .ref a → wpAny (model X.prog X.w) X.A (call (.builtin "repr") [u]) (EP X pins σ Q) X.xe s := fun {a} e => by
    obtain ⟨as, rd, hn⟩ := Dq.reads I hsm hd u ru
    subst e
    exact repr_of_reads' rd hs (fun _ => hn) hg (by omega) (fun _ _ e => e)
      (fun h' t tk hk => ⟨.str d.shown, H, I.kept (t' := tk) hk, ⟨t, rfl⟩, q⟩) hz
  cases hd with
  | non =>
    cases ru
    exact PySem.P.repr_of_none ⟨.str _, H, I.tok _, ⟨_, rfl⟩, q⟩
  | bl b =>
    cases ru
    exact PySem.P.repr_of_bool ⟨.str _, H, I.tok _, ⟨_, rfl⟩, q⟩
  | int i =>
    obtain ⟨t, rfl⟩ := ru
    exact PySem.P.repr_of_int (of_decide_eq_true hs) ⟨.str _, H, I.tok _, ⟨_, rfl⟩, q⟩
  | str z =>
    obtain ⟨t, rfl⟩ := ru
    exact PySem.P.repr_of_str ⟨.str _, H, I.tok _, ⟨_, rfl⟩, q⟩ hz
  | lst _ _ => exact one ru
  | tup _ _ => exact one ru
  | dct _ _ _ => exact one ru
end Gd
namespace Gd
open PySem PySem.Spec PyProof.Rows L2
section
variable {K : PySem.W.Frag} {H H' : Hp}
theorem Dq.tupE {v : V} {d : PyData} (h : Dq K H v d) (e : kindS d = "tuple") : ∃ a xs ds, v = .ref a ∧ d = .tuple ds ∧ SqT K H a xs ∧ DqAll K H xs ds := by
  cases h with
  | tup hs ha => exact ⟨_, _, _, rfl, rfl, hs, ha⟩
  | non => exact absurd e (by decide)
  | bl b => exact absurd e (show ¬ ("bool" : String) = "tuple" by decide)
  | int i => exact absurd e (show ¬ ("int" : String) = "tuple" by decide)
  | str x => exact absurd e (show ¬ ("str" : String) = "tuple" by decide)
  | lst _ _ => exact absurd e (show ¬ ("list" : String) = "tuple" by decide)
  | dct _ _ _ => exact absurd e (show ¬ ("dict" : String) = "tuple" by decide)
theorem Dq.lstE {v : V} {d : PyData} (h : Dq K H v d) (e : kindS d = "list") : ∃ a xs ds, v = .ref a ∧ d = .list ds ∧ SqL K H a xs ∧ DqAll K H xs ds := by
  cases h with
  | lst hs ha => exact ⟨_, _, _, rfl, rfl, hs, ha⟩
  | non => exact absurd e (by decide)
  | bl b => exact absurd e (show ¬ ("bool" : String) = "list" by decide)
  | int i => exact absurd e (show ¬ ("int" : String) = "list" by decide)
  | str x => exact absurd e (show ¬ ("str" : String) = "list" by decide)
  | tup _ _ => exact absurd e (show ¬ ("tuple" : String) = "list" by decide)
  | dct _ _ _ => exact absurd e (show ¬ ("dict" : String) = "list" by decide)
theorem Dq.strE {v : V} {d : PyData} (h : Dq K H v d) (e : kindS d = "str") : ∃ x, v = .str x ∧ d = .str x := by
  cases h with
  | str x => exact ⟨_, rfl, rfl⟩
  | non => exact absurd e (by decide)
  | bl b => exact absurd e (show ¬ ("bool" : String) = "str" by decide)
  | int i => exact absurd e (show ¬ ("int" : String) = "str" by decide)
  | lst _ _ => exact absurd e (show ¬ ("list" : String) = "str" by decide)
  | tup _ _ => exact absurd e (show ¬ ("tuple" : String) = "str" by decide)
  | dct _ _ _ => exact absurd e (show ¬ ("dict" : String) = "str" by decide)
def kinds7 : List String := ["NoneType", "bool", "int", "str", "list", "tuple", "dict"]
theorem kindS_mem (d : PyData) : kindS d ∈ kinds7 := by cases d <;> simp [kindS, kinds7]
theorem kit_tuple (d : PyData) : kitB (kindS d) "tuple" = some (decide (kindS d = "tuple")) := (by decide +kernel : ∀ s ∈ kinds7, kitB s "tuple" = some (decide (s = "tuple"))) _ (kindS_mem d)
theorem kit_list (d : PyData) : kitB (kindS d) "list" = some (decide (kindS d = "list")) := (by decide +kernel : ∀ s ∈ kinds7, kitB s "list" = some (decide (s = "list"))) _ (kindS_mem d)
theorem kit_str (d : PyData) : kitB (kindS d) "str" = some (decide (kindS d = "str")) := (by decide +kernel : ∀ s ∈ kinds7, kitB s "str" = some (decide (s = "str"))) _ (kindS_mem d)
theorem kit_tupT {d : PyData} (h : kindS d = "tuple") : kitB (kindS d) "tuple" = some true := (kit_tuple d).trans (by rw [decide_eq_true h])
theorem kit_tupF {d : PyData} (h : kindS d ≠ "tuple") : kitB (kindS d) "tuple" = some false := (kit_tuple d).trans (by rw [decide_eq_false h])
theorem kit_lstT {d : PyData} (h : kindS d = "list") : kitB (kindS d) "list" = some true := (kit_list d).trans (by rw [decide_eq_true h])
theorem kit_lstF {d : PyData} (h : kindS d ≠ "list") : kitB (kindS d) "list" = some false := (kit_list d).trans (by rw [decide_eq_false h])
theorem kit_strT {d : PyData} (h : kindS d = "str") : kitB (kindS d) "str" = some true := (kit_str d).trans (by rw [decide_eq_true h])
theorem kit_strF {d : PyData} (h : kindS d ≠ "str") : kitB (kindS d) "str" = some false := (kit_str d).trans (by rw [decide_eq_false h])
mutual
theorem Dq.p : ∀ {d : PyData} {v : V}, Dq K H v d → d.hasDict = false → Dp K H v d
  | .none, _, h, _ => by cases h; exact .non
  | .bool b, _, h, _ => by cases h; exact .bl b
  | .int i, _, h, _ => by cases h; exact .int i
  | .str x, _, h, _ => by cases h; exact .str x
  | .list ds, _, h, n => by
    cases h with
    | lst hs ha => exact .lst hs (DqAll.p ha n)
  | .tuple ds, _, h, n => by
    cases h with
    | tup hs ha => exact .tup hs (DqAll.p ha n)
  | .dict _, _, _, n => by cases n
theorem DqAll.p : ∀ {ds : List PyData} {vs : List V}, DqAll K H vs ds → PyData.hasDictAll ds = false → DpAll K H vs ds
  | [], _, h, _ => by cases h; exact .nil
  | d :: ds, _, h, n => by
    cases h with
    | cons h1 h2 =>
      have n' : (d.hasDict || PyData.hasDictAll ds) = false := n
      exact .cons (Dq.p h1 (Bool.or_eq_false_iff.mp n').1) (DqAll.p h2 (Bool.or_eq_false_iff.mp n').2)
end
theorem DqAll.intsV : ∀ {vs : List V} {ks : List Int}, DqAll K H vs (ks.map PyData.int) → vs = ks.map V.int
  | _, [], .nil => rfl
  | _, k :: ks, .cons a b => by
    cases a
    rw [DqAll.intsV b] <;> rfl
end
mutual
/-- no long text in it -/
def szB : PyData → Bool
  | .str c => decide (c.length ≤ 1000)
  | .list ds => szAll ds
  | .tuple ds => szAll ds
  | _ => true
def szAll : List PyData → Bool
  | [] => true
  | d :: ds => szB d && szAll ds
end
theorem szAll_mem : ∀ {ds : List PyData}, szAll ds = true → ∀ d ∈ ds, szB d = true
  | [], _, d, h => by simp at h
  | e :: ds, h, d, hd => by
    have h' : (szB e && szAll ds) = true := h
    rw [Bool.and_eq_true] at h'
    rcases List.mem_cons.mp hd with rfl | hd
    · exact h'.1
    · exact szAll_mem h'.2 d hd
theorem szAll_of : ∀ {ds : List PyData}, (∀ d ∈ ds, szB d = true) → szAll ds = true
  | [], _ => rfl
  | e :: ds, h => by
    show (szB e && szAll ds) = true
    rw [h e List.mem_cons_self, szAll_of fun d hd => h d (List.mem_cons_of_mem _ hd)]
    rfl
end Gd
namespace Gd
open PySem PySem.Spec PyProof.Rows L2
section
variable {K : PySem.W.Frag} {H : Hp} {p : Addr} {ys zs : List V}
theorem SqT.lst_ {a : Addr} {xs : List V} (h : SqT K H a xs) (e : H p = some (.lst ys)) (u : HO) : SqT K (upd H p u) a xs := by
  rcases h with (h | ⟨o, h⟩) | h
  · exact .inl (.inl (by rw [upd_ne (ne_of h e (by intro z; cases z))]; exact h))
  · exact .inl (.inr ⟨o, by rw [upd_ne (ne_of h e (by intro z; cases z))]; exact h⟩)
  · exact .inr h
/-- data without a list at p: what is not a list or a dict -/
theorem DqAll.ints_off {b : Addr} {xs : List V} {ks : List Int} (h : SqT K H b xs) (hd : DqAll K H xs (ks.map PyData.int)) (e : H p = some (.lst ys)) (u : HO) : Dq K (upd H p u) (.ref b) (.tuple (ks.map PyData.int)) := by
  have ex := hd.intsV
  subst ex
  exact .tup (SqT.lst_ h e u) (DqAll.ints ks)
end
end Gd
namespace Gd
open PySem PySem.Spec PyProof.Rows L2
theorem kss_off {K : PySem.W.Frag} {H : Hp} {p : Addr} {ys : List V} (e : H p = some (.lst ys)) (u : HO) : ∀ {vs : List V} {kss : List (List Int)}, DqAll K H vs (kss.map fun ks => PyData.tuple (ks.map PyData.int)) → DqAll K (upd H p u) vs (kss.map fun ks => PyData.tuple (ks.map PyData.int))
  | _, [], .nil => .nil
  | _, _ :: _, .cons (.tup h a) t => .cons (DqAll.ints_off h a e u) (kss_off e u t)
end Gd

set_option Elab.async false
set_option linter.all false
set_option maxRecDepth 100000
set_option maxHeartbeats 4000000
/-! the law's own call, the modules' dict told -/
namespace Gd
open PySem PySem.Spec PyProof.Rows L2
section
variable {P : Program} {w : World} {K : PySem.W.Frag} {mg mb : Str → Option Value} {k : Nat} {fa a : Addr} {fd : FuncData} {x : Str} {sp : Sp} {s₁ : Shared} {vs : List Value} {ns : List Int}
/-- the heap as the caller has it, H what is tracked of it: at most the script -/
theorem top_runS (KX : K.In s₁.heap) (gl : s₁.heap.Ns mainGlobals mg) (bl : s₁.heap.Ns builtinsNs mb) (bb : ∀ y : Str, y ≠ "__name__" → mb y = bootBuiltins y)
    (nol : s₁.heap.NoLimit) (ng : s₁.gens = #[]) (oa : s₁.heap.get? a = some { cls := .type "list", data := .seq vs.toArray }) (hr : Room k callerA)
    (ss : SysAt s₁.heap) (F : ∀ base : Heap, K.In base → base.Ns mainGlobals mg → SysAt base → FnG P w K mg base k fa fd [x] sp)
    (bt : ∀ (s : Shared) (u : Value), BindsTo s fd ⟨[u], []⟩ [(x, u)]) {H : Hp} (only : Only H) (hok : HOk P w H s₁.heap)
    (at_a : ∀ b, H b ≠ none → b = a ∧ K.lookup a = none) (h : sp [.ref a] H (fun v _ => v = .bl true) E0) :
    codeAny (model P w) callerA (.call (.ref fa) ⟨[.ref a], []⟩)
      (fun r s' => r = .ok (.ret (.bool true)) ∧ OldK s₁.heap s'.heap ∧ s'.os = s₁.os ∧ AllBare s'.gens) s₁ := by
  have free : ∀ {b : Addr} {o : Obj}, s₁.heap.get? b = some o → (b = a → ∃ es ep, o.data = .dict es ep) → H b = none := by
    intro b o e d
    rcases Classical.em (H b = none) with z | z
    · exact z
    · obtain ⟨rfl, _⟩ := at_a b z
      obtain ⟨es, ep, hd⟩ := d rfl
      rw [oa] at e
      cases e
      cases hd
  have nsAt : ∀ {b : Addr} {m : Str → Option Value}, s₁.heap.Ns b m → (hidT s₁.heap H).Ns b m := by
    intro b m z
    obtain ⟨o, es, ep, e, d, r⟩ := z
    exact ⟨o, es, ep, hidT_get e (free e fun _ => ⟨es, ep, d⟩), d, r⟩
  have KB : K.In (hidT s₁.heap H) := by
    intro b o e
    refine hidT_get (KX b o e) ?_
    rcases Classical.em (H b = none) with z | z
    · exact z
    · obtain ⟨rfl, q⟩ := at_a b z
      rw [q] at e
      cases e
  obtain ⟨ml, l1, l2⟩ := nol
  have M : Mod K mg (hidT s₁.heap H) := ⟨KB, nsAt gl, ⟨mb, nsAt bl, bb⟩, ⟨ml, nsAt l1, l2⟩⟩
  have E : Env0 P w K mg (hidT s₁.heap H) callerA [] s₁ H := by
    refine ⟨rfl, M, fun b o e => of_hidT e, Nat.le_of_eq (hidT_size _ _), True.intro, fun b hb => ?_, hok, .of_eq ng⟩
    exact nomatch (show b ∈ ([] : List Addr) from hb)
  refine codeAny_mono ((F _ KB (nsAt gl) (by
    obtain ⟨o, es, ep, e, d⟩ := ss
    exact ⟨o, es, ep, hidT_get e (free e fun _ => ⟨es, ep, d⟩), d⟩)).go callerA [] s₁ H ⟨[.ref a], []⟩ [.ref a] [.ref a] _ rfl hr E (bt s₁ (.ref a)) (.cons rfl .nil) h) ?_
  intro r s' z
  match r, z with
  | .ok .next, z => exact False.elim z
  | .ok .brk, z => exact False.elim z
  | .ok .cont, z => exact False.elim z
  | .error _, z => exact False.elim z
  | .ok (.ret u), ⟨v, H', os, bare, un, hok', rv, q⟩ =>
    have q : v = .bl true := q
    subst q
    have ru : u = Value.bool true := rv
    subst ru
    refine ⟨rfl, OldK.of_keep fun b o e => ?_, os, bare⟩
    rcases only b with n | ⟨ob, xs, n⟩
    · exact un.keep b o e n (fun m => nomatch (show b ∈ ([] : List Addr) from m)) (fun m => nomatch m)
    · have f1 := hok b _ n
      have f2 := hok' b _ (un.frzs b ob _ n)
      have g1 : s₁.heap.get? b = some ob := f1.1
      have g2 : s'.heap.get? b = some ob := f2.1
      rw [e] at g1
      cases g1
      exact g2
theorem law_callGS (KX : K.In s₁.heap) (gl : s₁.heap.Ns mainGlobals mg) (bl : s₁.heap.Ns builtinsNs mb) (bb : ∀ y : Str, y ≠ "__name__" → mb y = bootBuiltins y)
    (nol : s₁.heap.NoLimit) (ng : s₁.gens = #[]) (oa : s₁.heap.get? a = some { cls := .type "list", data := .seq vs.toArray }) (hi : IntsAre vs ns) (hl : ns.length ≤ sizeLine) (hr : Room k callerA)
    (ss : SysAt s₁.heap) (F : ∀ base : Heap, K.In base → base.Ns mainGlobals mg → SysAt base → FnG P w K mg base k fa fd [x] sp)
    (bt : ∀ (s : Shared) (u : Value), BindsTo s fd ⟨[u], []⟩ [(x, u)])
    (hsp : ∀ H : Hp, Only H → SqL K H a (ns.map V.int) → sp [.ref a] H (fun v _ => v = .bl true) E0) :
    codeAny (model P w) callerA (.call (.ref fa) ⟨[.ref a], []⟩)
      (fun r s' => r = .ok (.ret (.bool true)) ∧ OldK s₁.heap s'.heap ∧ s'.os = s₁.os ∧ AllBare s'.gens) s₁ := by
  have rv := vals_ints hi
  have lenV := hi.length
  by_cases hk : K.lookup a = none
  · let H : Hp := fun b => if b = a then some (.frz { cls := .type "list", data := .seq vs.toArray } (.lst (ns.map V.int))) else none
    have Ha : H a = some (.frz { cls := .type "list", data := .seq vs.toArray } (.lst (ns.map V.int))) := if_pos rfl
    have Hn : ∀ {b : Addr}, b ≠ a → H b = none := fun h => if_neg h
    have only : Only H := by
      intro b
      by_cases e : b = a
      · subst e; exact .inr ⟨_, _, Ha⟩
      · exact .inl (Hn e)
    refine top_runS KX gl bl bb nol ng oa hr ss F bt (H := H) only ?_ ?_ (hsp H only (.inl (.inr ⟨_, Ha⟩)))
    · intro b u z
      by_cases e : b = a
      · subst e
        rw [Ha] at z
        cases z
        exact ⟨oa, by rw [List.length_map]; exact hl, vs, _, rv, oa⟩
      · rw [Hn e] at z; cases z
    · intro b z
      by_cases e : b = a
      · exact ⟨e, hk⟩
      · exact absurd (Hn e) z
  · obtain ⟨o, ho⟩ := Option.ne_none_iff_exists'.mp hk
    have e := KX a o ho
    rw [oa] at e
    cases e
    have only : Only (fun _ => none) := fun _ => .inl rfl
    refine top_runS KX gl bl bb nol ng oa hr ss F bt (H := fun _ => none) only (fun b u z => nomatch z) (fun b z => absurd rfl z) (hsp _ only (.inr ?_))
    exact ⟨_, vs.toArray, _, ho, rfl, rfl, rfl, by rw [List.size_toArray, lenV]; exact hl, by simpa using rv⟩
end
/-- what k_head leaves, from the promise of the law's def -/
theorem walkGS {l : PySem.W.OpenLaw} {n k : Nat} {q : Program} {loose : List Str} {XP : (Str → Option Value) → Heap → Prop} {YP : World → Heap → Prop} {d : DefRec} {K : Params → PySem.W.Frag} {sp : PySem.W.Frag → Sp} {x : Str}
    (hi0 : importsNone q = true) (hn : l.most = some n) (hn2 : n ≤ sizeLine) (hdf : d.params.defaults = []) (hr : Room k callerA)
    (hY : ∀ (w : World) (h : Heap), YP w h → (K w.params).In h)
    (F : ∀ (w : World) (mg : Str → Option Value) (fa : Addr) (h : Heap), (K w.params).In h → h.Ns mainGlobals mg → mg d.name = some (.ref fa) →
      ∃ fd : FuncData, (∀ (s : Shared) (u : Value), BindsTo s fd ⟨[u], []⟩ [(x, u)]) ∧
        ∀ base : Heap, (K w.params).In base → base.Ns mainGlobals mg → SysAt base → FnG l.prog w (K w.params) mg base k fa fd [x] (sp (K w.params)))
    (hsp : ∀ (K : PySem.W.Frag) (H : Hp) (a : Addr) (ns : List Int), ns.length ≤ n → SqL K H a (ns.map V.int) →
      sp K [.ref a] H (fun v _ => v = .bl true) E0) :
    PySem.W.WalkO q loose XP YP l.row.toRowW d [] (fun f vs => PySem.call f vs) := by
  refine Att.attach_call hn hdf ?_
  intro w s₀ s₁ mg mb fa o pm cd doc a vs ns G Y ho hd hcd hmg oa hi hlen ng
  have KX := hY w _ Y
  obtain ⟨fd, bt, hF⟩ := F w mg fa _ KX G.T.g hmg
  exact law_callGS KX G.T.g G.T.b G.T.builtins G.T.nolimit ng oa hi (Nat.le_trans hlen hn2) hr (by
    obtain ⟨mm, ⟨o, es, ep, e, d, _⟩, _⟩ := (G.T.seer hi0).mods
    exact ⟨o, es, ep, e, d⟩) hF bt (fun H _ hS => hsp _ H a ns hlen hS)
end Gd

set_option Elab.async false
set_option linter.all false
set_option maxRecDepth 100000
set_option maxHeartbeats 4000000
/-! own exceptions whose __init__ calls super().__init__(f'..') and keeps the index -/
namespace PySem
namespace Oxi
open PySem.W PySem.Calls PyProof.Rows PySem.HandSPX
def iA (p1 p2 : Pos) : Arguments := { posonlyargs := [], args := [{ arg := "self", annotation := none, pos := p1 }, { arg := "index", annotation := none, pos := p2 }], vararg := none, kwonlyargs := [], kw_defaults := [], kwarg := none, defaults := [] }
def iB (pre : Str) (q : Nat → Pos) : List Stmt :=
  [.Expr (.Call (.Attribute (.Call (.Name "super" (q 0)) [] [] (q 1)) "__init__" (q 2)) [.JoinedStr [.Constant (.str pre) 0 (q 3), .FormattedValue (.Name "index" (q 4)) (-1) none (q 5)] (q 6)] [] (q 7)) (q 8),
   .Assign [.Attribute (.Name "self" (q 9)) "index" (q 10)] (.Name "index" (q 11)) (q 12)]
def iS : Scope := { kind := .function, names := [(PySem.Str.ofString "self", .local), (PySem.Str.ofString "index", .local), (PySem.Str.ofString "__class__", .free), (PySem.Str.ofString "super", .globalImplicit)], isGenerator := false, isCoroutine := false, more := [] }
/-- what the written part says of the class at C, and of its __init__, at fI -/
structure ExcTxt (prog : Program) (K : Frag) (x : Str) (C fI : Addr) : Prop where
  cls : ∃ nm q N bs bm sn sub ab col dd k0 k1 k2 k3 k5, K.lookup C = some (excClassObj nm q C N bs bm true sn sub ab col dd k0 k1 k2 k3 k5 "ValueError.__new__") ∧ refsVE bm = true
  sa : findIn K (.ref C) "__setattr__" = some (some (.builtin "object.__setattr__"))
  noN : findIn K (.ref C) "index" = some none
  iC : findIn K (.ref C) "__init__" = some (some (.ref fI))
  tC : typeIn K (.ref fI) = some (.type "function")
  kC : keepIn K (.ref C) = true
  exC : subIn K (.ref C) (.type "BaseException") = some true
  veC : subIn K (.ref C) (.type "ValueError") = some true
  ccC : mroIn K C (.ref C) = some true
  tyC : typeIn K (.ref C) = some (.type "type")
  su : ks_superIn K C C "__init__" = some (some (.builtin "ValueError.__init__"))
  any : nsIn K cStatics "thirdparty.any" = some none
  ei : excInitIn K C [.type "ValueError", .type "Exception", .type "BaseException", .type "object"] "ValueError.__new__" = true
  sup : nsIn K mainGlobals "super" = some none
  top : (prog.main.scope.names.lookup ("super" : Str)).isSome = false
  fn : ∃ (oc : Value) (od : Option Addr) (doc pm : Value) (an : Option Addr) (cda cc : Addr) (ct : Value) (osl : Array (Option Value)) (p1 p2 : Pos) (pre qual : Str) (q : Nat → Pos),
    pre.length ≤ 1000 ∧ ((q 2).endLine == (q 7).line) = true ∧
    K.lookup fI = some ⟨oc, od, .func (ksFn "__init__" qual (iA p1 p2) (iB pre q) iS .none .none doc pm an (.ref cda) ct cc), osl⟩ ∧ codeIn K (.ref cda) qual = true ∧
    (∃ cl cld csl, K.lookup cc = some ⟨cl, cld, .cell (some (.ref C)), csl⟩) ∧
    (∃ ccl cdd vs ccs file tf, K.lookup cda = some ⟨ccl, cdd, .fields vs, ccs⟩ ∧ vs[2]? = some (.str file tf) ∧ ((prog.main.file : Str) == file) = true)
/-- an index: none or a number -/
def Ix (v : Value) : Prop := v = .none ∨ ∃ (i : Int) (t : Tok), v = .int i t ∧ i.natAbs < 2 ^ 200
theorem ldC {M : Model} {s : Shared} {env : Env} {L : Addr} {m : Str → Option Value} {x : Str} {pos : Pos} {v : Value} {Q : Value → Shared → Prop} {A : Around} {E : Value → Shared → Prop} (he : env.locals = L) (hn : s.heap.Ns L m) (hv : m x = some v) (h : Q v s)
    (hk : env.scope.kind = .function := by rfl) (hl : env.kindOf x = some .local := by rfl) (hd : (x == ("__debug__" : Str)) = false := by decide) :
    wpAny M A (eval (.Name x pos) env) Q E s := by
  subst he
  exact wpAny_Name (wpAny_loadName_local hk hl hn hv h) hd
structure InitEnd (h h' : Heap) (x C dx t1 : Addr) (v : Value) : Prop where
  keep : ∀ b o, b ≠ x → h.get? b = some o → h'.get? b = some o
  obj : h'.get? x = some { cls := .ref C, dict := some dx, data := .fields #[.ref t1, .none, .none, .none, .bool false, .none] }
  dbig : h.objs.size ≤ dx
  dne : dx ≠ x
  ns : h'.Ns1 dx (fun y => if y = "index" then some v else none)
section
variable {prog : Program} {w : World} {A : Around} {E : Value → Shared → Prop} {R : Result → Shared → Prop} {s : Shared} {K : Frag} {mg mb : Str → Option Value} {C fI : Addr} {xn : Str}
theorem ini_ok (T : ExcTxt prog K xn C fI) {x t0 : Addr} {v : Value} (hv : Ix v) (X : K.In s.heap) (G : s.heap.Ns mainGlobals mg) (GN : ∀ y, nsIn K mainGlobals y = some none → mg y = none) (B : s.heap.Ns builtinsNs mb) (hB : ∀ y : Str, y ≠ "__name__" → mb y = bootBuiltins y)
    (hlim : s.heap.NoLimit) (hx : s.heap.get? x = some (excO C t0)) (hnx : K.lookup x = none) (hroom : A.depth < recursionLimit)
    (hq : ∀ h' tk dx t1, InitEnd s.heap h' x C dx t1 v → R (.ok (.ret .none)) { s with heap := h', toks := tk }) :
    codeAny (model prog w) A (.call (.ref fI) ⟨[.ref x, v], []⟩) R s := by
  obtain ⟨oc, od, doc, pm, an, cda, cc, ct, osl, p1, p2, pre, qual, q, hpre, hline, ho, hcd, ⟨cl, cld, csl, hcell⟩, ⟨ccl, cdd, vs, ccs, file, tf, hcda, hvs, hfile⟩⟩ := T.fn
  obtain ⟨nm, qn, N, bs, bm, sn, sub, ab, col, dd, k0, k1, k2, k3, k5, hC, hbm⟩ := T.cls
  have hcl : clsIn K C = some { name := nm, bases := bs, mro := .ref C :: bm, ns := N, qualname := qn, hasDict := true, slotNames := sn, subclasses := sub, abstract := ab, collection := col, hasDel := false } := by unfold clsIn; rw [hC] <;> rfl
  refine ks_codeAny_call_defAt (fd := ksFn "__init__" qual (iA p1 p2) (iB pre q) iS .none .none doc pm an (.ref cda) ct cc) (body := iB pre q) (binds := [("self", .ref x), ("index", v)]) hroom (X _ _ ho) rfl hlim (codeRec_of X hcd) rfl (BindsTo.of_eq (by first | rfl | with_unfolding_all rfl)) (show ∀ y ∈ iS.names, y.2 ≠ .cell by decide) (fun y hy => ?_) (fun h₁ hns hk => ?_) rfl rfl rfl
  · rcases List.mem_cons.mp hy with rfl | hy
    · rfl
    · rw [List.mem_singleton.mp hy]; rfl
  have X1 : K.In h₁ := X.keeps hk
  have hx1 := hk _ _ hx
  have hxL : x ≠ s.heap.objs.size := Nat.ne_of_lt (Heap.lt_size hx)
  -- the ground: without the exception
  have FG : Fr (hideAll s.heap [x]) s.heap.objs.size h₁ (fun y => [((Str.ofString "self"), Value.ref x), (Str.ofString "index", v)].reverse.lookup y) := ⟨hns, fun b o e => hk b o (of_hideAll _ e), Nat.le_of_eq (hideAll_size _ _)⟩
  have N0 : News (hideAll s.heap [x]) s.heap.objs.size h₁ [(x, excObj C t0 none .none)] := fun p hp => by
    rw [List.mem_singleton.mp hp]
    exact ⟨hx1, hxL, hideAll_none _ List.mem_cons_self⟩
  have XG : K.In (hideAll s.heap [x]) := fun b o e => hideAll_get _ (X b o e) (fun hm => by
    rw [List.mem_singleton.mp hm, hnx] at e
    cases e)
  show wpAt (model prog w) (A.deeper (ksEnv qual iS s.heap.objs.size fI (.ref cda) cc)) (.func (iB pre q) (ksEnv qual iS s.heap.objs.size fI (.ref cda) cc)) (execs (iB pre q) (ksEnv qual iS s.heap.objs.size fI (.ref cda) cc)) _ _ _
  refine ks_wpAt_execs_cons (ks_wpAt_Expr_any (ks_wpAt_MethodCall (pl := do return (← importBound (.Call (.Name "super" (q 0)) [] [] (q 1)) (ksEnv qual iS s.heap.objs.size fI (.ref cda) cc)).getD true) ?_ ?he))
  case he =>
    rw [arm_eval_Call]
    unfold methodCall methodCallPos
    simp only [hline, Bool.or_true, if_true]
    rfl
  -- super()
  have G1 : h₁.Ns mainGlobals mg := G.keeps hk
  have B1 : h₁.Ns builtinsNs mb := B.keeps hk
  have IA1 : InstAt h₁ x (excObj C t0 none .none) C none := ⟨hx1, rfl, rfl, trivial⟩
  obtain ⟨oD, hD1, hD2⟩ : ∃ oD, h₁.get? C = some oD ∧ ∃ cd, oD.data = .cls cd := ⟨_, X1 _ _ hC, _, rfl⟩
  obtain ⟨cdD, hD2⟩ := hD2
  refine ks_wpAt_super_base (env := ksEnv qual iS s.heap.objs.size fI (.ref cda) cc) rfl rfl (by decide) rfl (X1 _ _ ho) rfl rfl rfl (X1 _ _ hcda) rfl hvs hfile T.top ?_
  refine ks_loadName_global rfl rfl (loadGlobal_builtin (env := ksEnv qual iS s.heap.objs.size fI (.ref cda) cc) G1 (GN _ T.sup) B1 ((hB _ (by decide +kernel)).trans (by decide +kernel : bootBuiltins "super" = some (.type "super"))) ⟨rfl, ?_⟩)
  refine wpAny_loadName_free rfl rfl rfl ⟨_, X1 _ _ hcell, rfl⟩ ?_
  refine wpAny_loadName_local rfl rfl FG.ns rfl ?_
  refine ks_wpAny_isType_cls hD1 hD2 ⟨rfl, ?_⟩
  refine ks_wpAny_call_super hD1 hD2 IA1.at_ IA1.cls (fun c e => by cases e) (looks_mroIn X1 T.ccC) (fun h' e k => ?_)
  obtain ⟨F2, N2, l2⟩ := ks_newsPush (s := ⟨h₁, s.gens, s.drawn, s.toks + 2, s.os⟩) FG N0 rfl e k
  have IA2 : InstAt h' x (excObj C t0 none .none) C none := ⟨k _ _ hx1, rfl, rfl, trivial⟩
  refine kxs_method kxs_ValueError F2 XG N2 List.mem_cons_self IA2 T.any T.su T.veC (by decide) (fun u h2 F3 N3 l3 => ?_)
  refine kxs_callWith1 N3 List.mem_cons_self ?_
  refine spliced_more ?_
  refine wpAny_JoinedStr ?_
  -- after the text: any text will do
  have call : ∀ (y : Str) (tk : Tok) (n : Nat), wpAny (model prog w) (A.deeper (ksEnv qual iS s.heap.objs.size fI (.ref cda) cc)) (call (.ref u) [.str y tk]) (fun _ s' => wpAt (model prog w) (A.deeper (ksEnv qual iS s.heap.objs.size fI (.ref cda) cc)) (.func (iB pre q) (ksEnv qual iS s.heap.objs.size fI (.ref cda) cc)) (execs [.Assign [.Attribute (.Name "self" (q 9)) "index" (q 10)] (.Name "index" (q 11)) (q 12)] (ksEnv qual iS s.heap.objs.size fI (.ref cda) cc))
      (fun f s' => R (.ok (.ret (match f with | .ret v => v | _ => .none))) s') (fun e s' => wpAny (model prog w) (A.deeper (ksEnv qual iS s.heap.objs.size fI (.ref cda) cc)) (leaving (ksEnv qual iS s.heap.objs.size fI (.ref cda) cc) e) (fun _ s'' => R (.error e) s'') (fun e' s'' => R (.error e') s'') s') s') (fun e s' => wpAny (model prog w) (A.deeper (ksEnv qual iS s.heap.objs.size fI (.ref cda) cc)) (leaving (ksEnv qual iS s.heap.objs.size fI (.ref cda) cc) e) (fun _ s'' => R (.error e) s'') (fun e' s'' => R (.error e') s'') s') ⟨h2, s.gens, s.drawn, n, s.os⟩ := fun y tk n => by
    have U : UpdF x (excObj C t0 none .none) [(u, kxs_mw "ValueError.__init__" x), (h₁.objs.size, ks_superObj C x C), (x, excObj C t0 none .none)] (fun o' => [(u, kxs_mw "ValueError.__init__" x), (h₁.objs.size, ks_superObj C x C), (x, o')]) :=
      .tail (Nat.ne_of_gt (l3 (x, excObj C t0 none .none) (List.mem_cons_of_mem _ List.mem_cons_self))) (.tail (Nat.ne_of_gt (l2 (x, excObj C t0 none .none) List.mem_cons_self)) (.head (fun p hp => (nomatch hp))))
    refine kxs_call (s := ⟨h2, s.gens, s.drawn, n, s.os⟩) F3 XG N3 PySem.F.excBase_ValueError T.ei List.mem_cons_self U (by rw [sizeLine_eq]; show 1 ≤ _; decide) (fun t1 h3 F4 N4 l4 => ?_)
    have hx4 : h3.get? x = some (excObj C t1 none .none) := (N4 (x, excObj C t1 none .none) (List.mem_cons_of_mem _ (List.mem_cons_of_mem _ (List.mem_cons_of_mem _ List.mem_cons_self)))).1
    have X4 : K.In h3 := XG.keeps F4.keep
    refine wpAt_of_wpAny (wpAny_execs_cons (plainObj_wpAny_Assign_Attribute ?_))
    refine ldC rfl F4.ns rfl (ldC rfl F4.ns rfl ?_)
    refine set_plain X4 (ox := excObj C t1 none .none) (od := none) ⟨hx4, rfl, rfl, trivial⟩ T.sa ?_
    refine exc_osa X4 hx4 hcl (show refsVE (.ref C :: bm) = true from hbm) rfl T.noN (fun h4 tk4 dx k4 dn dne hx5 hn5 => ?_)
    show wpAny _ _ (execs _ _) _ _ _
    have zz : s.heap.objs.size < h3.objs.size := F4.ns.lt
    exact wpAny_execs_nil (hq h4 tk4 dx t1 ⟨fun b o hb e => k4 b o hb (F4.keep b o (hideAll_get _ e (fun hm => hb (List.mem_singleton.mp hm)))), hx5, Nat.le_of_lt (Nat.lt_of_lt_of_le zz dn), dne, hn5⟩)
  have z0 : (Str.empty ++ pre).length = pre.length := by rw [strLen_append]; exact Nat.zero_add _
  refine (show wpAny _ _ (eval (.Constant (.str pre) 0 (q 3)) _) _ _ _ from wpAny_Constant_str ⟨pre, _, rfl, by rw [z0, sizeLine_eq]; omega, ?_⟩)
  refine (show wpAny _ _ (eval (.FormattedValue (.Name "index" (q 4)) (-1) none (q 5)) _) _ _ _ from wpAny_FormattedValue_plain (ldC rfl F3.ns rfl ?_))
  have fin : ∀ (y : Str) (s' : Shared), y.length ≤ 1000 → s'.heap = h2 → s'.gens = s.gens → s'.drawn = s.drawn → s'.os = s.os → True := fun _ _ _ _ _ _ _ => trivial
  rcases hv with rfl | ⟨i, tk, rfl, hi⟩
  · refine wpAny_formatField_none ⟨"None", _, rfl, by rw [strLen_append, z0, sizeLine_eq]; show _ + 4 ≤ _; omega, ?_⟩
    exact ⟨by rw [strLen_append, z0, sizeLine_eq]; show _ + 4 ≤ _; omega, spliced_none ⟨kxs_at N3 List.mem_cons_self, call _ _ _⟩⟩
  · have hl : (toString i : Str).length ≤ 210 := (Rm.fit_int hi).ln
    have hlog : i.natAbs.log2 < 1920 := by
      have := PySem.Flt.log2_lt_of (n := i.natAbs) (k := 200) (by decide) hi
      omega
    refine wpAny_formatField_int hlog ⟨toString i, _, rfl, by rw [strLen_append, z0, sizeLine_eq]; omega, ?_⟩
    exact ⟨by rw [strLen_append, z0, sizeLine_eq]; omega, spliced_none ⟨kxs_at N3 List.mem_cons_self, call _ _ _⟩⟩
theorem one_size (v : Value) : [v].length ≤ sizeLine := by
  rw [sizeLine_eq]
  exact (by decide : 1 ≤ 16777216)
/-- a made exception -/
structure OwnMade (h h' : Heap) (e C d : Addr) (v : Value) : Prop where
  keep : ∀ b o, h.get? b = some o → h'.get? b = some o
  new : h.objs.size ≤ e
  obj : ∃ oe vs, h'.get? e = some oe ∧ oe.cls = .ref C ∧ oe.dict = some d ∧ oe.data = .fields vs ∧ vs[1]? = some .none
  dbig : h.objs.size ≤ d
  dne : d ≠ e
  ns : h'.Ns1 d (fun y => if y = "index" then some v else none)
theorem made (T : ExcTxt prog K xn C fI) {v : Value} (hv : Ix v) (X : K.In s.heap) (G : s.heap.Ns mainGlobals mg) (GN : ∀ y, nsIn K mainGlobals y = some none → mg y = none) (B : s.heap.Ns builtinsNs mb) (hB : ∀ y : Str, y ≠ "__name__" → mb y = bootBuiltins y) (hlim : s.heap.NoLimit) (hroom : A.depth + 1 < recursionLimit)
    (hq : ∀ h' tk e d, OwnMade s.heap h' e C d v → R (.ok (.ret (.ref e))) { s with heap := h', toks := tk }) :
    codeAny (model prog w) A (.call (.ref C) ⟨[v], []⟩) R s := by
  obtain ⟨nm, q, N, bs, bm, sn, sub, ab, col, dd, k0, k1, k2, k3, k5, hC, hbm⟩ := T.cls
  obtain ⟨hp, g, dr, tk, os⟩ := s
  have k : ∀ b o, hp.get? b = some o → ((hp.push (kdv_tup [v])).push (excO C hp.objs.size)).get? b = some o := fun b o e => Heap.get?_push_of_some _ (Heap.get?_push_of_some _ e)
  have hget : ((hp.push (kdv_tup [v])).push (excO C hp.objs.size)).get? (hp.objs.size + 1) = some (excO C hp.objs.size) := by heap_get
  have hnx : K.lookup (hp.objs.size + 1) = none := by
    cases e : K.lookup (hp.objs.size + 1) with
    | none => rfl
    | some o =>
      have z : hp.get? (hp.objs.size + 1) = some o := X _ _ e
      exact absurd (Nat.lt_of_succ_lt (Heap.lt_size z)) (Nat.lt_irrefl _)
  refine call_own PySem.F.excBase_ValueError (fun X => refsVE_contains X bm hbm) (X _ _ hC) (looks_findIn X T.iC) (fun self => bind_fn X self T.tC) (one_size v) ?_
  refine ini_ok (s := ⟨(hp.push (kdv_tup [v])).push (excO C hp.objs.size), g, dr, tk, os⟩) T hv (X.keeps k) (G.keeps k) GN (B.keeps k) hB (hlim.keeps k) hget hnx ?_ fun h' tk' dx t1 M => ?_
  · show A.depth + 1 < recursionLimit
    exact hroom
  · obtain ⟨k', hx, dn, dne, hns⟩ := M
    have old : ∀ b o, hp.get? b = some o → h'.get? b = some o := fun b o e => k' b o (Nat.ne_of_lt (Nat.lt_succ_of_lt (Heap.lt_size e))) (k b o e)
    have z : hp.objs.size + 1 + 1 ≤ dx := by
      first
        | (simpa only [Heap.size_push] using dn)
        | exact dn
        | (have q := dn; rw [Heap.size_push, Heap.size_push] at q; exact q)
    exact ⟨rfl, hq h' tk' (hp.objs.size + 1) dx ⟨old, Nat.le_succ _, ⟨_, _, hx, rfl, rfl, rfl, rfl⟩, Nat.le_trans (Nat.le_trans (Nat.le_succ _) (Nat.le_succ _)) z, dne, hns⟩⟩
end
end Oxi
end PySem
namespace L2
open PySem PySem.Spec PyProof.Rows
theorem relO_ix {v : V} {v' : Value} (r : RelV v v') (f : Str) : RelO (List.lookup f [(("index" : Str), v)]) (if f = "index" then some v' else none) := by
  by_cases hw : f = "index"
  · subst hw
    rw [if_pos rfl]
    have q : List.lookup ("index" : Str) [(("index" : Str), v)] = some v := by simp [List.lookup]
    rw [q]
    exact r
  · rw [if_neg hw]
    have qw : (f == ("index" : Str)) = false := by simpa using hw
    have q2 : List.lookup f [(("index" : Str), v)] = none := by simp [List.lookup, qw]
    rw [q2]
    trivial
/-- an index, as a value of the layer -/
def IxV (v : V) : Prop := v = .non ∨ ∃ i : Int, v = .int i ∧ i.natAbs < 2 ^ 200
theorem IxV.rel {v : V} {u : Value} (h : IxV v) (r : RelV v u) : PySem.Oxi.Ix u := by
  rcases h with rfl | ⟨i, rfl, hi⟩
  · exact .inl r
  · obtain ⟨t, rfl⟩ := r
    exact .inr ⟨i, t, rfl, hi⟩
section
variable {X : Cx} {C fI : Addr} {xn : Str}
/-- InvalidX(e) -/
def tMkX (C : Addr) (ta : TA) : St → Hp → XK → Prop := fun σ H Q => ta σ H fun vs H1 => ∃ v, vs = [v] ∧ IxV v ∧ ∀ d, H1 d = none → Q (.ref C) (some d) (upd H1 d (.xd [(("index" : Str), v)]))
theorem pmk_x {a : Expr} {ta : TA} {p pos : Pos} {k : Nat} (T : PySem.Oxi.ExcTxt X.prog X.K xn C fI) (hm : X.mg xn = some (.ref C)) (hr : Room k X.A) (ha : PA X [a] ta) (hg : Gl X xn) (hd : (xn == ("__debug__" : Str)) = false := by decide)
    (he : starEach (a :: []) X.env = (false, eval a X.env) :: starEach [] X.env := by rfl) (hpl : (backTo pos (starEach [] X.env)).any (·.1) = false := by rfl) :
    PMk X (.Call (.Name xn p) [a] [] pos) (tMkX C ta) := by
  intro pins s σ H Q I h
  refine wpAny_Call_Name_kw (ld_glob I hg hm ?_ hd)
  refine PySem.W.callWith_K (h₀ := X.base) I.ok.mod.kin T.kC (thn (ha.run pos pins s σ H _ I h) fun us s1 hh => ?_) he hpl
  obtain ⟨vs, H1, I1, r1, v, ev, hix, q1⟩ := hh
  subst ev
  refine ⟨I1.kIn, ?_⟩
  cases r1 with
  | cons rv rn =>
    rename_i v' us'
    cases rn
    show wpAny _ _ (call (.ref C) [v']) _ _ _
    have hlim := I1.nolimit
    have kb : ∀ b o, X.base.get? b = some o → s1.heap.get? b = some o := fun b o e => (I1.bs b o e).1
    have G := I1.ok.mod.glob.keeps kb
    obtain ⟨mb, B0, hB⟩ := I1.ok.mod.blt
    have B := B0.keeps kb
    have kin := I1.kIn
    have GN : ∀ y, PySem.W.nsIn X.K mainGlobals y = some none → X.mg y = none := fun y z => PySem.W.mg_none_of I1.ok.mod.kin I1.ok.mod.glob z
    obtain ⟨hp, g, dr, tk, os⟩ := s1
    refine wpAny_call (PySem.Oxi.made T (hix.rel rv) kin G GN B hB hlim (by have := hr.dp; omega) fun h' tk' e d M => ?_)
    show MkP X pins σ Q (.ref e) ⟨h', g, dr, tk', os⟩
    obtain ⟨oe, fv, hoe, hc, hdd, hdat, h1⟩ := M.obj
    have hns := M.ns
    obtain ⟨G', g1, g2⟩ := restrict h' fun b => decide (b ≠ e)
    have gk : ∀ b, b ≠ e → G'.get? b = h'.get? b := fun b hb => g1 b (decide_eq_true hb)
    have ge : G'.get? e = none := g2 e (by simp)
    have old : ∀ b o, hp.get? b = some o → G'.get? b = some o := fun b o q => (gk b (Nat.ne_of_lt (Nat.lt_of_lt_of_le (Heap.lt_size q) M.new))).trans (M.keep b o q)
    have ob : ObjOk X.prog X.w (upd H1 d (.xd [(("index" : Str), v)])) G' d (.xd [(("index" : Str), v)]) :=
      ⟨_, hns.at (fun o q => (gk d M.dne).trans q), fun f => relO_ix rv f⟩
    have J : Inv X pins σ (upd H1 d (.xd [(("index" : Str), v)])) ⟨G', g, dr, tk', os⟩ := I1.laid (t' := tk') old M.dbig ob
    refine ⟨e, oe, fv, ⟨G', g, dr, tk', os⟩, _, .ref C, some d, rfl, J, fun b o q => ?_, ge, hoe, ⟨hc, hdd⟩, hdat, h1, ?_, rfl, I1.bare, raises_own T.exC T.tyC, q1 d (I1.hok.fresh M.dbig)⟩
    · by_cases hb : b = e
      · have q' : G'.get? b = some o := q
        rw [hb, ge] at q'; cases q'
      · exact (gk b hb).symm.trans q
    · rw [upd_ne (Ne.symm M.dne)]
      exact I1.hok.fresh M.new
/-- raise InvalidX(e) -/
def tRaiseX (C : Addr) (W : WX) (ta : TA) : TS := fun _ σ H => tMkX C ta σ H fun cls d H' => W cls d σ H'
theorem ps_raiseX {a : Expr} {ta : TA} {W : WX} {p pos pos2 : Pos} {k : Nat} (hc : X.calm = true) (T : PySem.Oxi.ExcTxt X.prog X.K xn C fI) (hm : X.mg xn = some (.ref C)) (hr : Room k X.A) (tk : Takes X W) (ha : PA X [a] ta) (hg : Gl X xn) (hd : (xn == ("__debug__" : Str)) = false := by decide)
    (he : starEach (a :: []) X.env = (false, eval a X.env) :: starEach [] X.env := by rfl) (hpl : (backTo pos (starEach [] X.env)).any (·.1) = false := by rfl) :
    PS X (.Raise (some (.Call (.Name xn p) [a] [] pos)) none pos2) (tRaiseX C W ta) := ps_raise hc tk (pmk_x T hm hr ha hg hd he hpl)
end
end L2

set_option Elab.async false
set_option linter.all false
set_option maxRecDepth 100000
set_option maxHeartbeats 4000000
/-! defs that may raise own exceptions, in the layer where no display is being shown -/
namespace Gd
open PySem PySem.Spec PyProof.Rows L2
structure FnGX (P : Program) (w : World) (K : PySem.W.Frag) (mg : Str → Option Value) (base : Heap)
    (k : Nat) (f : Addr) (fd : FuncData) (ps : List Str) (sp : Sp) : Prop where
  len : ∀ vs H Q E, sp vs H Q E → vs.length = ps.length
  go : ∀ (A : Around) (outer : List Env) (s : Shared) (H : Hp) (args : Args) (us : List Value) (vs : List V) (Q : VK) (E : XK),
    A.guards = some [] → Room k A → Env0 P w K mg base A outer s H → BindsTo s fd args (ps.zip us) →
    Vals vs us → sp vs H Q E →
    codeAny (model P w) A (.call (.ref f) args) (CR (CX P w) outer P w H s Q E) s
section
variable {P : Program} {w : World} {K : PySem.W.Frag} {mg : Str → Option Value} {base : Heap}
theorem fnGX {x qual : Str} {st : Stmt} {f : Addr} {fd : FuncData} {N ps : List Str} {k : Nat} {sp : Sp}
    (F : Fun K x qual st f fd) (S : FnScope N ps (defScope st))
    (len : ∀ vs H Q E, sp vs H Q E → vs.length = ps.length)
    (hb : ∀ (cdv : Value) (A : Around) (outer : List Env) (s : Shared) (H : Hp) (vs : List V) (Q : VK) (E : XK),
      A.guards = some [] → Room k (A.deeper (envOfC qual (defScope st) s.heap.objs.size f cdv)) → sp vs H Q E →
      ∃ t, PSs (cxOf (CX P w) P w K mg base N qual (defScope st) f cdv A outer s H E) (defBody st) t ∧
        t { nx := fun _ H' => Q .non H', rt := Q } (start N vs) H) :
    FnGX P w K mg base (k + 1) f fd ps sp := by
  obtain ⟨oc, od, kV, doc, pm, an, cdv, ct, osl, rfl, lk, hcd⟩ := F.ex
  refine ⟨len, fun A outer s H args us vs Q E hg hr e0 bt rv hsp => ?_⟩
  have kin : K.In s.heap := e0.mod.kin.keeps (fun b o e => (e0.bs b o e).1)
  have nol : s.heap.NoLimit := e0.mod.nolimit.keeps (fun b o e => (e0.bs b o e).1)
  have pk : ((ps.zip us).all fun y => (defScope st).names.lookup y.1 == some NameKind.local ||
      (defScope st).names.lookup y.1 == some NameKind.cell) = true := by
    rw [List.all_eq_true]
    rintro ⟨n, v⟩ hm
    have hp := S.par n (List.of_mem_zip hm).1
    rcases hp with e | e <;> simp [e]
  refine Att.call_fn kin nol lk hcd hr.depth bt pk (fun s1 ic => ?_) S.co S.gen S.kind
  obtain ⟨t, ht, hq⟩ := hb cdv A outer s H vs Q E hg (hr.deeper _) hsp
  have J := inv_start (CX := CX P w) (E := E) (P := P) (w := w) (mg := mg) (base := base) S hr.hd e0 (len _ _ _ _ hsp) rv ic
  refine wpAny_mono (ht.run [] s1 (start N vs) H _ J hq) (fun fl s' sp' => ?_) (fun e s' z => z)
  match fl, sp' with
  | .next, ⟨σ', H', L, q⟩ => exact ⟨.non, H', L.os, L.bare, L.base, L.hok, rfl, q⟩
  | .ret u, ⟨v, σ', H', L, rr, q⟩ => exact ⟨v, H', L.os, L.bare, L.base, L.hok, rr, q⟩
  | .brk, ⟨_, _, _, q⟩ => exact False.elim q
  | .cont, ⟨_, _, _, q⟩ => exact False.elim q
end
/-- a def that may be called by its name, and may raise -/
structure ClX (P : Program) (w : World) (K : PySem.W.Frag) (mg : Str → Option Value) (base : Heap) (k : Nat) (x : Str) (sp : Sp) : Prop where
  ex : ∃ (f : Addr) (fd : FuncData) (ps : List Str), FnGX P w K mg base k f fd ps sp ∧ mg x = some (.ref f) ∧
    PySem.W.keepIn K (.ref f) = true ∧ Binds K fd ps []
section
variable {P : Program} {w : World} {K : PySem.W.Frag} {mg : Str → Option Value} {base : Heap}
theorem clGX {x : Str} {st : Stmt} {N ps : List Str} {k : Nat} {sp : Sp} (a : At K mg x st ps) (S : FnScope N ps (defScope st))
    (len : ∀ vs H Q E, sp vs H Q E → vs.length = ps.length)
    (hb : ∀ (f : Addr) (cdv : Value) (A : Around) (outer : List Env) (s : Shared) (H : Hp) (vs : List V) (Q : VK) (E : XK),
      A.guards = some [] → Room k (A.deeper (envOfC x (defScope st) s.heap.objs.size f cdv)) → sp vs H Q E →
      ∃ t, PSs (cxOf (CX P w) P w K mg base N x (defScope st) f cdv A outer s H E) (defBody st) t ∧
        t { nx := fun _ H' => Q .non H', rt := Q } (start N vs) H) : ClX P w K mg base (k + 1) x sp := by
  obtain ⟨f, fd, F, hm, b⟩ := a.ex
  exact ⟨f, fd, ps, fnGX F S len (hb f), hm, F.kp, b⟩
end
section
variable {X : Cx} {k j : Nat} {x : Str} {sp : Sp} {p pos : Pos} {e : Expr} {es : List Expr} {t : TA} {E : XK}
theorem run_clX {f : Addr} {fd : FuncData} {ps : List Str} {pins : List (Addr × Obj)} {σ : L2.St} {H : Hp} {s : Shared} {Q : VK} {us : List Value} {vs : List V}
    (F : FnGX X.prog X.w X.K X.mg X.base k f fd ps sp) (hg : X.A.guards = some []) (hr : Room k X.A) (b : Binds X.K fd ps []) (hx : Passes (CX X.prog X.w) X E)
    (I : Inv X pins σ H s) (rv : Vals vs us) (h : sp vs H Q E) : wpAny (model X.prog X.w) X.A (call (.ref f) us) (EP X pins σ Q) X.xe s := by
  have hl : us.length = ps.length := rv.length.symm.trans (F.len _ _ _ _ h)
  have bt := b s us I.kIn (by simpa using hl)
  rw [List.append_nil] at bt
  refine wpAny_call (codeAny_mono (F.go X.A X.stack s H ⟨us, []⟩ us vs Q E hg hr I.env0 bt rv h) (fun r s' hq => ?_))
  match r, hq with
  | .ok (.ret u), hq => exact I.after hq
  | .ok .next, hq => exact False.elim hq
  | .ok .brk, hq => exact False.elim hq
  | .ok .cont, hq => exact False.elim hq
  | .error e, hq => exact hx pins σ H s e s' I hq
/-- f(e, ..), that may raise -/
theorem pe_clX (c : ClX X.prog X.w X.K X.mg X.base k x sp) (hg : X.A.guards = some []) (hr : Room j X.A) (hk : k ≤ j) (gl : Gl X x) (hx : Passes (CX X.prog X.w) X E) (ha : PA X (e :: es) t)
    (hd : (x == ("__debug__" : Str)) = false := by decide)
    (he : starEach (e :: es) X.env = (false, eval e X.env) :: starEach es X.env := by rfl)
    (hp : (backTo pos (starEach es X.env)).any (·.1) = false := by rfl) :
    PE X (.Call (.Name x p) (e :: es) [] pos) (tCall sp [] E t) := by
  obtain ⟨f, fd, ps, F, hm, kp, b⟩ := c.ex
  refine ⟨fun pins s σ H Q I h => wpAny_Call_Name_kw (ld_glob I gl hm (PySem.W.callWith_K (h₀ := X.base) I.ok.mod.kin kp ?_ he hp) hd)⟩
  refine thn (ha.run pos pins s σ H _ I h) (fun us s1 z => ?_)
  obtain ⟨vs, H1, I1, rv, q⟩ := z
  exact ⟨I1.kIn, run_clX F hg (hr.mono hk) b hx I1 rv (by simpa using q)⟩
/-- a def that raises nothing here, called where nothing is raised -/
theorem ClX.calm {P : Program} {w : World} {K : PySem.W.Frag} {mg : Str → Option Value} {base : Heap} (c : ClX P w K mg base k x sp) : ∃ (f : Addr) (fd : FuncData) (ps : List Str), FnG P w K mg base k f fd ps (fun vs H Q E => sp vs H Q E0) ∧ mg x = some (.ref f) ∧ PySem.W.keepIn K (.ref f) = true ∧ Binds K fd ps [] := by
  obtain ⟨f, fd, ps, F, hm, kp, b⟩ := c.ex
  refine ⟨f, fd, ps, ⟨fun vs H Q E h => F.len vs H Q E0 h, fun A outer s H args us vs Q hg hr e0 bt rv hsp => ?_⟩, hm, kp, b⟩
  refine codeAny_mono (F.go A outer s H args us vs Q E0 hg hr e0 bt rv hsp) fun r s' hq => ?_
  match r, hq with
  | .ok (.ret u), hq => exact hq
  | .ok .next, hq => exact False.elim hq
  | .ok .brk, hq => exact False.elim hq
  | .ok .cont, hq => exact False.elim hq
  | .error e, hq =>
    obtain ⟨a, B, H', cls, d, _, _, _, _, _, _, _, z⟩ := (show CX P w outer H s E0 e s' from hq)
    exact z.elim
theorem ClX.toCl {P : Program} {w : World} {K : PySem.W.Frag} {mg : Str → Option Value} {base : Heap} (c : ClX P w K mg base k x sp) : Cl P w K mg base k x (fun vs H Q _ => sp vs H Q E0) := ⟨c.calm⟩
end
section
variable {X : Cx} {k j : Nat} {x : Str} {sp : Sp} {p pos : Pos} {e : Expr} {es : List Expr} {t : TA} {E : L2.St → XK}
/-- f(e, ..), that may raise: what is wished then may speak of the state -/
def tCallX (sp : Sp) (E : L2.St → XK) (t : TA) : TE := fun σ H Q => t σ H fun vs H' => sp vs H' Q (E σ)
theorem pe_clXs (c : ClX X.prog X.w X.K X.mg X.base k x sp) (hg : X.A.guards = some []) (hr : Room j X.A) (hk : k ≤ j) (gl : Gl X x)
    (hx : ∀ (pins : List (Addr × Obj)) (σ : L2.St) (H : Hp) (s : Shared) (e : Value) (s' : Shared), Inv X pins σ H s → CX X.prog X.w X.stack H s (E σ) e s' → X.xe e s') (ha : PA X (e :: es) t)
    (hd : (x == ("__debug__" : Str)) = false := by decide)
    (he : starEach (e :: es) X.env = (false, eval e X.env) :: starEach es X.env := by rfl)
    (hp : (backTo pos (starEach es X.env)).any (·.1) = false := by rfl) :
    PE X (.Call (.Name x p) (e :: es) [] pos) (tCallX sp E t) := by
  obtain ⟨f, fd, ps, F, hm, kp, b⟩ := c.ex
  refine ⟨fun pins s σ H Q I h => wpAny_Call_Name_kw (ld_glob I gl hm (PySem.W.callWith_K (h₀ := X.base) I.ok.mod.kin kp ?_ he hp) hd)⟩
  refine thn (ha.run pos pins s σ H _ I h) (fun us s1 z => ?_)
  obtain ⟨vs, H1, I1, rv, q⟩ := z
  refine ⟨I1.kIn, ?_⟩
  have hl : us.length = ps.length := rv.length.symm.trans (F.len _ _ _ _ q)
  have bt := b s1 us I1.kIn (by simpa using hl)
  rw [List.append_nil] at bt
  refine wpAny_call (codeAny_mono (F.go X.A X.stack s1 H1 ⟨us, []⟩ us vs Q (E σ) hg (hr.mono hk) I1.env0 bt rv q) (fun r s' hq => ?_))
  match r, hq with
  | .ok (.ret u), hq => exact I1.after hq
  | .ok .next, hq => exact False.elim hq
  | .ok .brk, hq => exact False.elim hq
  | .ok .cont, hq => exact False.elim hq
  | .error e, hq => exact hx pins σ H1 s1 e s' I1 hq
end
theorem takes_no {X : Cx} : Takes X (fun _ _ _ _ => False) := fun _ _ ⟨_, _, _, _, _, _, _, _, _, _, _, _, _, _, _, _, w⟩ => w.elim
end Gd

set_option Elab.async false
set_option linter.all false
set_option maxRecDepth 100000
set_option maxHeartbeats 4000000
/-! t[::-1] of a tuple -/
namespace Gd
open PySem PySem.Spec PyProof.Rows L2
theorem adjust_rev (n : Nat) : Builtin.Slice.sliceAdjust none none (-1) (n : Int) = ((n : Int) - 1, -1) := rfl
theorem places_rev (n : Nat) : Builtin.Slice.slicePlaces ((n : Int) - 1) (-1) (-1) = n := by
  unfold Builtin.Slice.slicePlaces
  rw [if_neg (by decide)]
  split
  · rw [show (-(-1 : Int)) = 1 from rfl, Int.ediv_one]; omega
  · omega
theorem pick_rev (xs : Array Value) : ((List.range xs.size).filterMap fun (m : Nat) => xs[(((xs.size : Nat) : Int) - 1 + (m : Int) * (-1)).toNat]?).toArray = xs.toList.reverse.toArray := by
  congr 1
  refine List.ext_getElem? fun i => ?_
  have e : ((List.range xs.size).filterMap fun (m : Nat) => xs[(((xs.size : Nat) : Int) - 1 + (m : Int) * (-1)).toNat]?) = xs.toList.reverse := by
    have e2 : xs.toList.reverse = (List.range xs.size).filterMap fun m => xs.toList.reverse[m]? := by
      have h : ∀ l : List Value, l = (List.range l.length).filterMap fun m => l[m]? := fun l => by
        have h1 : (List.range l.length).map (fun m => l[m]?) = l.map some := by
          refine List.ext_getElem? fun j => ?_
          rw [List.getElem?_map, List.getElem?_map]
          rcases Nat.lt_or_ge j l.length with q | q
          · rw [List.getElem?_range q]
            show some (l[j]?) = _
            rw [List.getElem?_eq_getElem q]; rfl
          · rw [List.getElem?_eq_none (by rw [List.length_range]; exact q), List.getElem?_eq_none q]; rfl
        have h2 : (List.range l.length).filterMap (fun m => l[m]?) = ((List.range l.length).map (fun m => l[m]?)).filterMap id := by rw [List.filterMap_map]; rfl
        rw [h2, h1, List.filterMap_map]
        simp
      have := h xs.toList.reverse
      rw [List.length_reverse, Array.length_toList] at this
      exact this
    rw [e2]
    have cg : ∀ (f g : Nat → Option Value) (l : List Nat), (∀ m ∈ l, f m = g m) → l.filterMap f = l.filterMap g := fun f g l h => by
      rw [show l.filterMap f = (l.map f).filterMap id by rw [List.filterMap_map]; rfl, show l.filterMap g = (l.map g).filterMap id by rw [List.filterMap_map]; rfl, List.map_congr_left h]
    refine cg _ _ _ fun m hm => ?_
    have hm' := List.mem_range.mp hm
    rw [List.getElem?_reverse (by rw [Array.length_toList]; exact hm'), Array.length_toList, Array.getElem?_toList]
    congr 1
    omega
  rw [e]
section
variable {prog : Program} {w : World} {A : Around} {E : Value → Shared → Prop} {s : Shared}
theorem slicePart_g {v : Value} {o : Option Int} {Q : Option Int → Shared → Prop} (p : IsPart v o) (h : Q o s) : wpAny (model prog w) A (Builtin.Slice.slicePartIndex v) Q E s := by
  cases p with
  | none => exact slicePart_none h
  | int i t => exact slicePart_int h
theorem sliceApplied_rev {sl : Addr} {vl vu vs : Value} {n : Nat} {Q : Int × Int × Nat → Shared → Prop} (hs : s.heap.IsSliceOf sl vl vu vs) (pl : IsPart vl none) (pu : IsPart vu none) (ps : IsPart vs (some (-1)))
    (h : Q ((n : Int) - 1, -1, n) s) : wpAny (model prog w) A (Builtin.Slice.sliceApplied (.ref sl) (pure (n : Int))) Q E s := by
  obtain ⟨os, hos, hcs, hds⟩ := id hs
  unfold Builtin.Slice.sliceApplied Builtin.Slice.sliceFields
  refine wpAny_bind (wpAny_bind (wpAny_field hos hds (x := vl) rfl (wpAny_bind (wpAny_field hos hds (x := vu) rfl (wpAny_bind (wpAny_field hos hds (x := vs) rfl (wpAny_pure ?_)))))))
  refine wpAny_bind (slicePart_g ps ?_)
  show wpAny _ _ (if ((-1 : Int) == 0) = true then _ else _) _ _ s
  rw [if_neg (by decide)]
  refine wpAny_bind (slicePart_g pl (wpAny_bind (slicePart_g pu (wpAny_bind (wpAny_pure ?_)))))
  show wpAny _ _ (match Builtin.Slice.sliceAdjust none none (-1) (n : Int) with | (lo, hi) => pure (lo, (-1 : Int), Builtin.Slice.slicePlaces lo hi (-1))) _ _ s
  rw [adjust_rev]
  show wpAny _ _ (pure ((n : Int) - 1, (-1 : Int), Builtin.Slice.slicePlaces ((n : Int) - 1) (-1) (-1))) _ _ s
  rw [places_rev]
  exact wpAny_pure h
theorem getItem_tuple_rev {t sl : Addr} {items : Array Value} {vl vu vs : Value} {Q : Value → Shared → Prop} (ht : IsTup s.heap t items) (hs : s.heap.IsSliceOf sl vl vu vs) (pl : IsPart vl none) (pu : IsPart vu none) (ps : IsPart vs (some (-1)))
    (h : Q (.ref s.heap.objs.size) { s with heap := s.heap.push { cls := .type "tuple", data := .seq items.toList.reverse.toArray } })
    (hsz : items.size ≤ sizeLine) : wpAny (model prog w) A (getItem (.ref t) (.ref sl)) Q E s := by
  have htake : sizeOk (.seq items.toList.reverse.toArray) := by
    show items.toList.reverse.toArray.size ≤ sizeLine
    rw [List.size_toArray, List.length_reverse, Array.length_toList]
    exact hsz
  obtain ⟨os, hos, hcs, hds⟩ := id hs
  have hTs : s.TypeIs (.ref sl) "slice" := ⟨os, hos, hcs⟩
  unfold getItem
  try with_reducible refine wpAny_holding ?_
  first | refine wpAny_bind (wpAny_pure ?_) | skip
  refine wpAny_bind (wpAny_sequenceKey ht.typeIs (by decide) ?_)
  refine wpAny_bind (wpAny_callSpecial?_slot (name := Str.ofString "__getitem__") ht.typeIs PyProof.Rows.slot_tuple_getitem
    (wpAny_call_entry PyProof.Rows.slot_tuple_getitem ht.typeIs entry_tuple_getitem ?_ (args_tuple_getitem _ _)))
  show wpAny _ _ (Builtin.Tuple.tupleItemsOf (.ref t) >>= _) _ _ s
  refine wpAny_bind (tupleItemsOf_ ht ?_)
  refine wpAny_bind (wpAny_typeOf hTs ?_)
  rw [if_pos (by decide)]
  refine wpAny_bind (sliceApplied_rev hs pl pu ps ?_)
  have hno : ¬ ((((items.size : Int) - 1) == 0 && (-1 : Int) == 1 && items.size == items.size) = true) := by
    intro q
    rw [Bool.and_eq_true, Bool.and_eq_true] at q
    exact absurd q.1.2 (by decide)
  show wpAny _ _ (if (((items.size : Int) - 1) == 0 && (-1 : Int) == 1 && items.size == items.size) = true then _ else _) _ _ s
  rw [if_neg hno, pick_rev]
  first
    | exact wpAny_bind (m := Builtin.Tuple.tupleExact _) (wpAny_newObj_type (wpAny_pure ⟨_, rfl, wpAny_pure h⟩) htake)
    | exact wpAny_bind (m := Builtin.Tuple.tupleExact _) (wpAny_newObj_type (wpAny_bind (wpAny_pure (wpAny_pure ⟨_, rfl, wpAny_pure h⟩))) htake)
    | exact wpAny_bind (wpAny_bind (m := Builtin.Tuple.tupleExact _) (wpAny_newObj_type (wpAny_pure (wpAny_pure ⟨_, rfl, wpAny_pure h⟩)) htake))
    | exact wpAny_bind (wpAny_bind (m := Builtin.Tuple.tupleExact _) (wpAny_newObj_type (wpAny_pure ⟨_, rfl, wpAny_pure h⟩) htake))
end
section
variable {X : Cx}
def tRevT (K : PySem.W.Frag) (te : TE) : TE := fun σ H Q => te σ H fun x H1 => ∃ a xs, x = .ref a ∧ SqT K H1 a xs ∧ ∀ p, H1 p = none → Q (.ref p) (upd H1 p (.tup xs.reverse))
theorem pe_revT {e : Expr} {te : TE} {k : Nat} {p1 p2 p3 pos : Pos} (he : PE X e te) : PE X (.Subscript e (.Slice none none (some (.UnaryOp .USub (.Constant (.int 1) k p1) p2)) p3) pos) (tRevT X.K te) := by
  refine ⟨fun pins s σ H Q I h => ?_⟩
  refine Subscript_ (thn (he.run pins s σ H _ I h) fun v s1 ⟨x, H1, I1, r1, q1⟩ => ?_)
  obtain ⟨a, xs, ex, hx, q⟩ := q1
  subst ex
  cases r1
  have hst : PO X (some (.UnaryOp .USub (.Constant (.int 1) k p1) p2)) (tPart (tUn (rU fun i => .int (-i)) (tC (.int 1)))) := po_some (pe_un un_neg pe_int)
  refine wpAny_Slice (thn (po_none.run pins s1 σ H1 (fun o H2 => o = none ∧ H2 = H1) I1 ⟨rfl, rfl⟩) fun vl s2 ⟨l, H2, I2, pl, el, e2⟩ => ?_)
  subst el e2
  refine thn (po_none.run pins s2 σ H2 (fun o H3 => o = none ∧ H3 = H2) I2 ⟨rfl, rfl⟩) fun vu s3 ⟨u, H3, I3, pu, eu, e3⟩ => ?_
  subst eu e3
  refine thn (hst.run pins s3 σ H3 (fun o H4 => o = some (-1) ∧ H4 = H3) I3 ⟨1, rfl, -1, rfl, rfl, rfl⟩) fun vs s4 ⟨o, H4, I4, ps, eo, e4⟩ => ?_
  subst eo e4
  have I5 : Inv X pins σ H4 { s4 with heap := s4.heap.push { cls := .type "slice", data := .fields #[vl, vu, vs] } } := I4.kept (t' := s4.toks) fun b ob q => Heap.get?_push_of_some _ q
  obtain ⟨its, r, ht, hz⟩ := I5.tuple hx
  have hlen := r.length
  show wpAny (model X.prog X.w) X.A (subscriptTail e (.Slice none none (some (.UnaryOp .USub (.Constant (.int 1) k p1) p2)) p3) (.ref a) (.ref s4.heap.objs.size)) (EP X pins σ Q) X.xe { s4 with heap := s4.heap.push { cls := .type "slice", data := .fields #[vl, vu, vs] } }
  refine tail_any (ops := [.ref a, .ref s4.heap.objs.size]) ht.typeIs (PyProof.Rows.slot_tuple_getitem.lookup) ?_ (by with_unfolding_all rfl)
  refine getItem_tuple_rev ht (Heap.IsSliceOf.new _ vl vu vs) pl pu ps ?_ (by rw [List.size_toArray]; omega)
  refine ⟨.ref _, _, I5.laid (t' := s4.toks) (o := .tup xs.reverse) (fun b ob q => Heap.get?_push_of_some _ q) (Nat.le_refl _) ?_, rfl, q _ (I5.hok.fresh (Nat.le_refl _))⟩
  exact ⟨by rw [List.length_reverse]; exact hz, _, r.reverse, IsTup.new _ _⟩
end
end Gd

set_option Elab.async false
set_option linter.all false
set_option maxRecDepth 100000
set_option maxHeartbeats 4000000
namespace K23
open PySem PySem.Spec PyProof.Rows L2 Gd Rm La Cb
def topS (i : Nat) : Stmt := PySem.Challenge.pw_holdtap_k23_combos_judged.main.body.getD i (.Pass ⟨0, 0, 0, 0⟩)
abbrev s_is_an_integer : Stmt := topS 5
abbrev n_is_an_integer : List Str := ["value"]
theorem sc_is_an_integer : FnScope n_is_an_integer ["value"] (defScope s_is_an_integer) := ⟨rfl, rfl, rfl, by decide +kernel, rfl, by decide +kernel, by decide +kernel⟩
-- 0 value
abbrev s_is_between : Stmt := topS 6
abbrev n_is_between : List Str := ["value", "low", "high"]
theorem sc_is_between : FnScope n_is_between ["value", "low", "high"] (defScope s_is_between) := ⟨rfl, rfl, rfl, by decide +kernel, rfl, by decide +kernel, by decide +kernel⟩
-- 0 value, 1 low, 2 high
abbrev s_are_ascending : Stmt := topS 7
abbrev n_are_ascending : List Str := ["values", "many", "at", "value"]
theorem sc_are_ascending : FnScope n_are_ascending ["values", "many"] (defScope s_are_ascending) := ⟨rfl, rfl, rfl, by decide +kernel, rfl, by decide +kernel, by decide +kernel⟩
-- 0 values*, 1 many*, 2 at*, 3 value*
abbrev s_is_code : Stmt := topS 11
abbrev n_is_code : List Str := ["value", "sign"]
theorem sc_is_code : FnScope n_is_code ["value"] (defScope s_is_code) := ⟨rfl, rfl, rfl, by decide +kernel, rfl, by decide +kernel, by decide +kernel⟩
-- 0 value, 1 sign*
abbrev s_is_combos : Stmt := topS 16
abbrev n_is_combos : List Str := ["value", "many"]
theorem sc_is_combos : FnScope n_is_combos ["value", "many"] (defScope s_is_combos) := ⟨rfl, rfl, rfl, by decide +kernel, rfl, by decide +kernel, by decide +kernel⟩
-- 0 value, 1 many
abbrev s_check_many : Stmt := topS 17
abbrev n_check_many : List Str := ["many"]
theorem sc_check_many : FnScope n_check_many ["many"] (defScope s_check_many) := ⟨rfl, rfl, rfl, by decide +kernel, rfl, by decide +kernel, by decide +kernel⟩
-- 0 many
abbrev s_check_combos : Stmt := topS 18
abbrev n_check_combos : List Str := ["value", "many", "known", "index", "combo"]
theorem sc_check_combos : FnScope n_check_combos ["value", "many"] (defScope s_check_combos) := ⟨rfl, rfl, rfl, by decide +kernel, rfl, by decide +kernel, by decide +kernel⟩
-- 0 value, 1 many, 2 known, 3 index, 4 combo
abbrev s_is_combo : Stmt := topS 19
abbrev n_is_combo : List Str := ["value", "many", "keys", "time", "code"]
theorem sc_is_combo : FnScope n_is_combo ["value", "many"] (defScope s_is_combo) := ⟨rfl, rfl, rfl, by decide +kernel, rfl, by decide +kernel, by decide +kernel⟩
-- 0 value, 1 many, 2 keys, 3 time, 4 code
abbrev s_are_combo_keys : Stmt := topS 20
abbrev n_are_combo_keys : List Str := ["value", "many"]
theorem sc_are_combo_keys : FnScope n_are_combo_keys ["value", "many"] (defScope s_are_combo_keys) := ⟨rfl, rfl, rfl, by decide +kernel, rfl, by decide +kernel, by decide +kernel⟩
-- 0 value, 1 many
abbrev s__law_spring : Stmt := topS 22
abbrev n__law_spring : List Str := ["_law_script", "_law_k", "_law_cell"]
theorem sc__law_spring : FnScope n__law_spring ["_law_script", "_law_k"] (defScope s__law_spring) := ⟨rfl, rfl, rfl, by decide +kernel, rfl, by decide +kernel, by decide +kernel⟩
-- 0 _law_script, 1 _law_k, 2 _law_cell
abbrev s__law_take : Stmt := topS 23
abbrev n__law_take : List Str := ["_law_spring_here", "_law_many", "_law_digit", "_law_mixed"]
theorem sc__law_take : FnScope n__law_take ["_law_spring_here", "_law_many"] (defScope s__law_take) := ⟨rfl, rfl, rfl, by decide +kernel, rfl, by decide +kernel, by decide +kernel⟩
-- 0 _law_spring_here, 1 _law_many, 2 _law_digit, 3 _law_mixed
abbrev s__law_combos : Stmt := topS 24
abbrev n__law_combos : List Str := ["_law_spring_here", "_law_many", "_law_top", "_law_found", "_law_turn", "_law_some", "_law_size", "_law_keys", "_law_time", "_law_code_here", "_law_combo", "_law_part"]
theorem sc__law_combos : FnScope n__law_combos ["_law_spring_here", "_law_many", "_law_top"] (defScope s__law_combos) := ⟨rfl, rfl, rfl, by decide +kernel, rfl, by decide +kernel, by decide +kernel⟩
-- 0 _law_spring_here*, 1 _law_many, 2 _law_top, 3 _law_found, 4 _law_turn, 5 _law_some*, 6 _law_size, 7 _law_keys, 8 _law_time, 9 _law_code_here, 10 _law_combo*, 11 _law_part*
abbrev s__law_is_key : Stmt := topS 25
abbrev n__law_is_key : List Str := ["_law_one", "_law_many"]
theorem sc__law_is_key : FnScope n__law_is_key ["_law_one", "_law_many"] (defScope s__law_is_key) := ⟨rfl, rfl, rfl, by decide +kernel, rfl, by decide +kernel, by decide +kernel⟩
-- 0 _law_one, 1 _law_many
abbrev s__law_due : Stmt := topS 26
abbrev n__law_due : List Str := ["_law_value", "_law_many", "_law_combo", "_law_keys", "_law_time", "_law_code", "_law_sign", "_law_one"]
theorem sc__law_due : FnScope n__law_due ["_law_value", "_law_many"] (defScope s__law_due) := ⟨rfl, rfl, rfl, by decide +kernel, rfl, by decide +kernel, by decide +kernel⟩
-- 0 _law_value, 1 _law_many*, 2 _law_combo, 3 _law_keys, 4 _law_time, 5 _law_code, 6 _law_sign*, 7 _law_one*
abbrev s__law_values : Stmt := topS 27
abbrev n__law_values : List Str := ["_law_spring_here", "_law_many", "_law_combos_here", "_law_found", "_law_spot", "_law_keys", "_law_time", "_law_code", "_law_some", "_law_one", "_law_odd"]
theorem sc__law_values : FnScope n__law_values ["_law_spring_here", "_law_many", "_law_combos_here"] (defScope s__law_values) := ⟨rfl, rfl, rfl, by decide +kernel, rfl, by decide +kernel, by decide +kernel⟩
-- 0 _law_spring_here, 1 _law_many, 2 _law_combos_here*, 3 _law_found, 4 _law_spot*, 5 _law_keys*, 6 _law_time*, 7 _law_code, 8 _law_some, 9 _law_one*, 10 _law_odd*
abbrev s_law : Stmt := topS 28
abbrev n_law : List Str := ["_law_script", "_law_k", "_law_spring_here", "_law_many", "_law_combos_here", "_law_value", "_law_text", "_law_due_here"]
theorem sc_law : FnScope n_law ["_law_script"] (defScope s_law) := ⟨rfl, rfl, rfl, by decide +kernel, rfl, by decide +kernel, by decide +kernel⟩
-- 0 _law_script, 1 _law_k, 2 _law_spring_here, 3 _law_many, 4 _law_combos_here, 5 _law_value, 6 _law_text, 7 _law_due_here

/-! ### the spring -/
def Reel (H : Hp) (r : Addr) (n : Nat) : Prop := ∃ x y z : Int, H r = some (.lst [.int x, .int y, .int z]) ∧ 0 ≤ x ∧ 0 ≤ y ∧ y < 10 ^ 41 ∧ 0 ≤ z ∧ z ≤ (n : Int)
theorem Reel.mono {H : Hp} {r : Addr} {n m : Nat} (h : Reel H r n) (l : n ≤ m) : Reel H r m := by
  obtain ⟨x, y, z, a, b, c, d, e, f⟩ := h
  exact ⟨x, y, z, a, b, c, d, e, by omega⟩
theorem Reel.same {H H' : Hp} {r : Addr} {n : Nat} (h : Reel H r n) (l : Same H H') : Reel H' r n := by
  obtain ⟨x, y, z, a, b⟩ := h
  exact ⟨x, y, z, l _ _ a, b⟩
theorem Reel.upd {H : Hp} {r b : Addr} {n : Nat} {o : HO} (h : Reel H r n) (ne : b ≠ r) : Reel (upd H b o) r n := by
  obtain ⟨x, y, z, g, g'⟩ := h
  exact ⟨x, y, z, by rw [upd_ne ne.symm]; exact g, g'⟩
theorem Reel.new {H : Hp} {r b : Addr} {n : Nat} (h : Reel H r n) (nb : H b = none) : b ≠ r := by
  obtain ⟨_, _, _, hr, _⟩ := h
  exact (ne_of_none hr nb).symm
theorem Reel.free {H H1 : Hp} {r b : Addr} {n : Nat} (o : Off r H H1) (h : Reel H1 r n) (nb : H1 b = none) : H b = none := by
  obtain ⟨_, _, _, hr, _⟩ := h
  exact o.free hr nb
theorem Reel.lst {α : Type} {f : α → List V} {H H' : Hp} {r c : Addr} {n : Nat} {es : List α} (h : Reel H r n) (hl : Lst f H c es) (ne : c ≠ r) (o : Off r H H') : Lst f H' c es := by
  obtain ⟨_, _, _, hr, _⟩ := h
  exact hl.off hr ne o
theorem Reel.tk {H H' : Hp} {r : Addr} {n : Nat} (h : Reel H r n) (o : Off r H H') : Tk H H' := fun b xs e => o _ _ e (by
  obtain ⟨x, y, z, hr, _⟩ := h
  exact ne_of e hr (by intro q; cases q))
/-- the draws so far are fewer than this -/
abbrev most : Nat := 1000000000
def spDraw : Sp := fun vs H Q _ => ∃ (r : Addr) (m : Int) (n : Nat), vs = [.ref r, .int m] ∧ 0 < m ∧ m < 10 ^ 40 ∧ n < most ∧ Reel H r n ∧
  ∀ d H', 0 ≤ d → d < m → Reel H' r (n + 1) → Off r H H' → Q (.int d) H'
structure Bt (mg : Str → Option Value) : Prop where
  m_len : mg "len" = none
  m_max : mg "max" = none
  m_min : mg "min" = none
  m_repr : mg "repr" = none
  m_isinstance : mg "isinstance" = none
  m_all : mg "all" = none
  m_list : mg "list" = none
  m_tuple : mg "tuple" = none
  m_int : mg "int" = none
  m_bool : mg "bool" = none
  m_str : mg "str" = none
  m_range : mg "range" = none
  m_enumerate : mg "enumerate" = none
  m_sorted : mg "sorted" = none
  m_zip : mg "zip" = none
  m_set : mg "set" = none
section
variable {P : Program} {w : World} {K : PySem.W.Frag} {mg : Str → Option Value} {base : Heap}
theorem ok__law_take (a : At K mg "_law_take" s__law_take ["_law_spring_here", "_law_many"]) : Cl P w K mg base 1 "_law_take" spDraw := by
  refine clG a sc__law_take (fun vs H Q E h => ?_) (fun f cdv A outer s H vs Q hg hr h => ?_)
  · obtain ⟨r, m, n, rfl, _⟩ := h
    rfl
  · obtain ⟨r, m, n, rfl, hm, hm2, hn0, ⟨x, y, z, hR, hx, hy, hy2, hz, hz2⟩, q⟩ := h
    have hn : n < 1000000000 := hn0
    refine ⟨_, (pss_cons (ps_if (pt_cmpR op_gt (pe_ix ix_list (pv 0) pe_int (fun _ _ => rfl)) pe_int (nomark _)) (pss_cons (ps_set (i := 2) sc__law_take.nd rfl (Or.inl rfl) (pe_op op_mod (pe_ix ix_list (pv 0) pe_int (fun _ _ => rfl)) (pv 1)))
      (pss_cons (ps_asg (pe_op op_fdivW (pe_ix ix_list (pv 0) pe_int (fun _ _ => rfl)) (pv 1)) (pg_sub (pv 0) pe_int set_list))
      (pss_one (ps_ret (pv 2))))) pss_nil)
      (pss_cons (ps_asg (pe_op op_add (pe_ix ix_list (pv 0) pe_int (fun _ _ => rfl)) pe_int) (pg_sub (pv 0) pe_int set_list))
      (pss_cons (ps_set (i := 3) sc__law_take.nd rfl (Or.inl rfl) (pe_op op_mod (pe_op op_powW (pe_op op_add (pe_ix ix_list (pv 0) pe_int (fun _ _ => rfl)) (pe_op op_mulW pe_int (pe_ix ix_list (pv 0) pe_int (fun _ _ => rfl)))) pe_int) (pe_op op_add (pe_op op_powW pe_int pe_int) pe_int)))
      (pss_cons (ps_set (i := 3) sc__law_take.nd rfl (Or.inl rfl) (pe_op op_mod (pe_op op_powW (pe_op op_add (pv 3) (pe_op op_mulW pe_int (pe_ix ix_list (pv 0) pe_int (fun _ _ => rfl)))) pe_int) (pe_op op_add (pe_op op_powW pe_int pe_int) pe_int)))
      (pss_one (ps_ret (pe_op op_mod (pe_op op_fdivW (pv 3) (pe_op op_powW pe_int pe_int)) (pv 1)))))))), ?_⟩
    refine ⟨_, rfl, r, _, 0, _, rfl, rfl, SqL.of hR, atI_nat (j := 0) rfl, ?_⟩
    refine ⟨_, _, rfl, rfl, _, rfl, ite2 (fun e => ?_) (fun e => ?_)⟩
    · have e0 : 0 < x := of_decide_eq_true e
      refine ⟨_, rfl, r, _, 0, _, rfl, rfl, SqL.of hR, atI_nat (j := 0) rfl, _, rfl, _, _, rfl, rfl, hm, ?_⟩
      refine ⟨_, rfl, r, _, 0, _, rfl, rfl, SqL.of hR, atI_nat (j := 0) rfl, _, rfl, _, _, rfl, rfl, wide_div (b := 140) hm (by omega) (by decide) (by decide), ?_⟩
      refine ⟨_, rfl, r, _, 0, 0, rfl, rfl, hR, rfl, ?_⟩
      refine ⟨_, rfl, q _ _ (Int.emod_nonneg _ (by omega)) (Int.emod_lt_of_pos _ hm) ⟨x / m, y, z, upd_same, Int.ediv_nonneg hx (by omega), hy, hy2, hz, by omega⟩ off_upd⟩
    · refine ⟨_, rfl, r, _, 2, _, rfl, rfl, SqL.of hR, atI_nat (j := 2) rfl, _, _, rfl, rfl, ?_⟩
      refine ⟨_, rfl, r, _, 2, 2, rfl, rfl, hR, rfl, ?_⟩
      have hR1 : upd H r (.lst [.int x, .int y, .int (z + 1)]) r = some (.lst [.int x, .int y, .int (z + 1)]) := upd_same
      refine ⟨_, rfl, r, _, 1, _, rfl, rfl, SqL.of hR1, atI_nat (j := 1) rfl, ?_⟩
      refine ⟨_, rfl, r, _, 2, _, rfl, rfl, SqL.of hR1, atI_nat (j := 2) rfl, ?_⟩
      have b1 : (z + 1).natAbs < 2 ^ 40 := by omega
      have b2 : (73939133 * (z + 1)).natAbs < 2 ^ 80 := by omega
      refine ⟨_, _, rfl, rfl, wide_mul (a := 40) (b := 40) (by decide) b1 (by decide) (by decide) (by decide), ?_⟩
      refine ⟨_, _, rfl, rfl, ?_⟩
      have b3 : (y + 73939133 * (z + 1)).natAbs < 2 ^ 150 := by omega
      refine ⟨_, _, rfl, rfl, powW (n := 150) (k := 3) b3 (by decide), ?_⟩
      refine ⟨_, _, rfl, rfl, powW (n := 40) (k := 40) (by decide) (by decide), _, _, rfl, rfl, _, _, rfl, rfl, (show (0 : Int) < 10 ^ 40 + 3 by decide), ?_⟩
      have c1 : 0 ≤ (y + 73939133 * (z + 1)) ^ 3 % (10 ^ 40 + 3) := Int.emod_nonneg _ (by decide)
      have c2 : (y + 73939133 * (z + 1)) ^ 3 % (10 ^ 40 + 3) < 10 ^ 40 + 3 := Int.emod_lt_of_pos _ (by decide)
      generalize hu : (y + 73939133 * (z + 1)) ^ 3 % (10 ^ 40 + 3) = u at c1 c2
      refine ⟨.int u, congrArg (fun v => some (some (V.int v))) hu, ?_⟩
      refine ⟨_, rfl, r, _, 2, _, rfl, rfl, SqL.of hR1, atI_nat (j := 2) rfl, ?_⟩
      have b4 : (29986577 * (z + 1)).natAbs < 2 ^ 80 := by omega
      refine ⟨_, _, rfl, rfl, wide_mul (a := 40) (b := 40) (by decide) b1 (by decide) (by decide) (by decide), ?_⟩
      have b5 : (u + 29986577 * (z + 1)).natAbs < 2 ^ 150 := by omega
      refine ⟨_, _, rfl, rfl, _, _, rfl, rfl, powW (n := 150) (k := 2) b5 (by decide), ?_⟩
      refine ⟨_, _, rfl, rfl, powW (n := 40) (k := 37) (by decide) (by decide), _, _, rfl, rfl, _, _, rfl, rfl, (show (0 : Int) < 10 ^ 37 + 43 by decide), ?_⟩
      refine ⟨_, rfl, _, _, rfl, rfl, powW (n := 40) (k := 7) (by decide) (by decide), _, _, rfl, rfl, wide_div (b := 40) (by decide) (by decide) (by decide) (by decide), ?_⟩
      refine ⟨_, rfl, _, _, rfl, rfl, hm, ?_⟩
      exact q _ _ (Int.emod_nonneg _ (by omega)) (Int.emod_lt_of_pos _ hm) ⟨x, y, z + 1, upd_same, hx, hy, hy2, by omega, by omega⟩ off_upd
def spPool (K : PySem.W.Frag) : Sp := fun vs H Q _ => ∃ (s : Addr) (ns : List Int) (i : Nat), vs = [.ref s, .int (i : Int)] ∧ SqL K H s (ns.map V.int) ∧ ns.length ≤ 63 ∧ i < 60 ∧
  ∀ r H', Same H H' → H r = none → Reel H' r 0 → Q (.ref r) H'
theorem ok__law_spring (bt : Bt mg) (a : At K mg "_law_spring" s__law_spring ["_law_script", "_law_k"]) : Cl P w K mg base 1 "_law_spring" (spPool K) := by
  refine clG a sc__law_spring (fun vs H Q E h => ?_) (fun f cdv A outer s H vs Q hg hr h => ?_)
  · obtain ⟨r, m, n, rfl, _⟩ := h
    rfl
  · obtain ⟨sc, ns, i, rfl, hS, hl, hi, q⟩ := h
    refine ⟨_, (pss_cons (ps_set (i := 2) sc__law_spring.nd rfl (Or.inl rfl) (pe_ifExp (pt_cmpR op_lt (pv 1) (pe_callB call_len_seq (by rfl) bt.m_len (by decide +kernel) (pa_cons (pv 0) pa_nil)) (nomark _)) (pe_ix ix_list (pv 0) (pv 1) (fun _ _ => rfl)) pe_int))
      (pss_one (ps_ret (pe_lst (pa_cons (pe_callB (call_max2 rfl) (by rfl) bt.m_max (by decide +kernel) (pa_cons pe_int (pa_cons (pe_op op_sub (pv 2) (pe_op op_powW pe_int pe_int)) pa_nil))) (pa_cons (pe_op op_add (pe_op op_mulW (pe_op op_add (pe_op op_mod (pv 2) (pe_op op_add (pe_op op_powW pe_int pe_int) pe_int)) pe_int) pe_int) (pv 1)) (pa_cons pe_int pa_nil))))))), ?_⟩
    have bb : ∀ c : Int, 0 ≤ (c % (10 ^ 37 + 63) + 7) * 64 + (i : Int) ∧ (c % (10 ^ 37 + 63) + 7) * 64 + (i : Int) < 10 ^ 41 := fun c => by
      have a1 := Int.emod_nonneg c (b := 10 ^ 37 + 63) (by decide)
      have a2 := Int.emod_lt_of_pos c (b := 10 ^ 37 + 63) (by decide)
      omega
    have b2 : ∀ c : Int, (c % (10 ^ 37 + 63) + 7).natAbs < 2 ^ 140 := fun c => by
      have a1 := Int.emod_nonneg c (b := 10 ^ 37 + 63) (by decide)
      have a2 := Int.emod_lt_of_pos c (b := 10 ^ 37 + 63) (by decide)
      omega
    refine ⟨_, rfl, .ref sc, rfl, sc, _, rfl, .inl hS, _, _, rfl, rfl, _, rfl, ite2 (fun e => ?_) (fun e => ?_)⟩
    · have e0 : (i : Int) < ((ns.map V.int).length : Nat) := of_decide_eq_true e
      rw [List.length_map] at e0
      have hlt : i < ns.length := by omega
      have g : (ns.map V.int)[i]? = some (.int ns[i]) := by
        rw [List.getElem?_map, List.getElem?_eq_getElem hlt]; rfl
      refine ⟨_, rfl, _, rfl, sc, _, (i : Int), _, rfl, rfl, hS, atI_nat g, ?_⟩
      refine ⟨_, rfl, _, _, rfl, rfl, powW (n := 40) (k := 18) (by decide) (by decide), _, _, rfl, rfl, _, _, rfl, ?_⟩
      refine ⟨_, rfl, _, _, rfl, rfl, powW (n := 40) (k := 37) (by decide) (by decide), _, _, rfl, rfl, _, _, rfl, rfl, (show (0 : Int) < 10 ^ 37 + 63 by decide), _, _, rfl, rfl, _, _, rfl, rfl, wide_mul (a := 140) (b := 40) (b2 ns[i]) (by decide) (by decide) (by decide) (by decide), _, rfl, _, _, rfl, rfl, (by show 3 ≤ sizeLine; decide), fun p np => ?_⟩
      exact q p _ (same_upd np) np ⟨_, _, 0, upd_same, by split <;> omega, (bb ns[i]).1, (bb ns[i]).2, by decide, by decide⟩
    · refine ⟨_, rfl, _, _, rfl, rfl, powW (n := 40) (k := 18) (by decide) (by decide), _, _, rfl, rfl, _, _, rfl, ?_⟩
      refine ⟨_, rfl, _, _, rfl, rfl, powW (n := 40) (k := 37) (by decide) (by decide), _, _, rfl, rfl, _, _, rfl, rfl, (show (0 : Int) < 10 ^ 37 + 63 by decide), _, _, rfl, rfl, _, _, rfl, rfl, wide_mul (a := 140) (b := 40) (b2 0) (by decide) (by decide) (by decide) (by decide), _, rfl, _, _, rfl, rfl, (by show 3 ≤ sizeLine; decide), fun p np => ?_⟩
      exact q p _ (same_upd np) np ⟨_, _, 0, upd_same, by split <;> omega, (bb 0).1, (bb 0).2, by decide, by decide⟩
end
end K23

set_option Elab.async false
set_option linter.all false
set_option maxRecDepth 100000
set_option maxHeartbeats 8000000
namespace K23
open PySem PySem.Spec PyProof.Rows L2 Gd Rm La Cb
def rLenB (K : PySem.W.Frag) : List V → Hp → VK → Prop := fun xs H Q => ∃ p ys, xs = [.ref p] ∧ (SqL K H p ys ∨ SqT K H p ys) ∧ Q (.int ys.length) H
theorem allT (m : Nat) : (List.replicate m true).all id = true := by
  rw [List.all_eq_true]
  intro x hx
  exact (List.mem_replicate.mp hx).2
theorem get_map_ref {as : List Addr} {i : Nat} {b : Addr} (h : as[i]? = some b) : (as.map V.ref)[i]? = some (.ref b) := by rw [List.getElem?_map, h]; rfl
theorem get_map_int {ns : List Int} {i : Nat} {b : Int} (h : ns[i]? = some b) : (ns.map V.int)[i]? = some (.int b) := by rw [List.getElem?_map, h]; rfl
theorem at_int {ns : List Int} {i : Nat} (h : i < ns.length) : (ns.map V.int)[i]? = some (.int ns[i]) := get_map_int (List.getElem?_eq_getElem h)
def ksV (ks : List Int) : List V := ks.map V.int
/-! ### what data is -/
def intB : PyData → Bool
  | .int _ => true
  | _ => false
def btwB (lo hi : Int) : PyData → Bool
  | .int i => decide (lo ≤ i) && decide (i ≤ hi)
  | _ => false
def codeB : PyData → Bool
  | .str c => decide (CodeOk c)
  | _ => false
def intsOf : List PyData → List Int
  | [] => []
  | .int i :: ds => i :: intsOf ds
  | _ :: ds => intsOf ds
def ascB (m : Int) (ds : List PyData) : Bool := ds.all (btwB 0 (m - 1)) && decide ((intsOf ds).Pairwise (· < ·))
def keysB (m : Int) : PyData → Bool
  | .tuple ds => (decide (ds.length = 2) || decide (ds.length = 3)) && ascB m ds
  | _ => false
def cmbB (m : Int) : PyData → Bool
  | .tuple [k, t, c] => keysB m k && (btwB 1 1000000000 t && codeB c)
  | _ => false
theorem all_ints {lo hi : Int} : ∀ {ds : List PyData}, ds.all (btwB lo hi) = true → ds = (intsOf ds).map PyData.int ∧ ∀ k ∈ intsOf ds, lo ≤ k ∧ k ≤ hi
  | [], _ => ⟨rfl, fun k h => by cases h⟩
  | d :: ds, h => by
    rw [List.all_cons, Bool.and_eq_true] at h
    cases d with
    | int i =>
      obtain ⟨a, b⟩ := all_ints h.2
      have hi : (decide (lo ≤ i) && decide (i ≤ hi)) = true := h.1
      rw [Bool.and_eq_true, decide_eq_true_eq, decide_eq_true_eq] at hi
      refine ⟨congrArg (_ :: ·) a, fun k hk => ?_⟩
      rcases List.mem_cons.mp hk with rfl | hk
      · exact hi
      · exact b k hk
    | _ => cases h.1
theorem intsOf_map (ks : List Int) : intsOf (ks.map PyData.int) = ks := by
  induction ks with
  | nil => rfl
  | cons k ks ih => exact congrArg (k :: ·) ih
section
variable {P : Program} {w : World} {K : PySem.W.Frag} {mg : Str → Option Value} {base : Heap}
def spInt (K : PySem.W.Frag) : Sp := fun vs H Q _ => ∃ (v : V) (d : PyData), vs = [v] ∧ Dq K H v d ∧ Q (.bl (intB d)) H
theorem ok_is_an_integer (bt : Bt mg) (a : At K mg "is_an_integer" s_is_an_integer ["value"]) : Cl P w K mg base 1 "is_an_integer" (spInt K) := by
  refine clG a sc_is_an_integer (fun vs H Q E h => ?_) (fun f cdv A outer s H vs Q hg hr h => ?_)
  · obtain ⟨v, d, rfl, _⟩ := h
    rfl
  · obtain ⟨v, d, rfl, hd, q⟩ := h
    refine ⟨_, (pss_one (ps_ret (pe_and (pe_callB call_isi (by rfl) bt.m_isinstance (by decide +kernel) (pa_cons (pv 0) (pa_cons (pe_bltn (v := .ty "int") (by rfl) bt.m_int (by decide +kernel) rfl) pa_nil))) (pe_one (pe_not (pe_callB call_isi (by rfl) bt.m_isinstance (by decide +kernel) (pa_cons (pv 0) (pa_cons (pe_bltn (v := .ty "bool") (by rfl) bt.m_bool (by decide +kernel) rfl) pa_nil)))))))), ?_⟩
    have ty := hd.ty
    cases d with
    | int i =>
      refine ⟨_, rfl, _, _, _, _, true, rfl, .ty "int", ty, kit_ty (show kitB "int" "int" = some true by decide +kernel), _, rfl, iteT ?_⟩
      exact ⟨_, rfl, _, _, _, _, false, rfl, .ty "bool", ty, kit_ty (show kitB "int" "bool" = some false by decide +kernel), _, rfl, q⟩
    | bool b =>
      refine ⟨_, rfl, _, _, _, _, true, rfl, .ty "int", ty, kit_ty (show kitB "bool" "int" = some true by decide +kernel), _, rfl, iteT ?_⟩
      exact ⟨_, rfl, _, _, _, _, true, rfl, .ty "bool", ty, kit_ty (show kitB "bool" "bool" = some true by decide +kernel), _, rfl, q⟩
    | none => exact ⟨_, rfl, _, _, _, _, false, rfl, .ty "int", ty, kit_ty (show kitB "NoneType" "int" = some false by decide +kernel), _, rfl, iteF q⟩
    | str => exact ⟨_, rfl, _, _, _, _, false, rfl, .ty "int", ty, kit_ty (show kitB "str" "int" = some false by decide +kernel), _, rfl, iteF q⟩
    | list => exact ⟨_, rfl, _, _, _, _, false, rfl, .ty "int", ty, kit_ty (show kitB "list" "int" = some false by decide +kernel), _, rfl, iteF q⟩
    | tuple => exact ⟨_, rfl, _, _, _, _, false, rfl, .ty "int", ty, kit_ty (show kitB "tuple" "int" = some false by decide +kernel), _, rfl, iteF q⟩
    | dict => exact ⟨_, rfl, _, _, _, _, false, rfl, .ty "int", ty, kit_ty (show kitB "dict" "int" = some false by decide +kernel), _, rfl, iteF q⟩
def spBtw (K : PySem.W.Frag) : Sp := fun vs H Q _ => ∃ (v : V) (d : PyData) (lo hi : Int), vs = [v, .int lo, .int hi] ∧ Dq K H v d ∧ Q (.bl (btwB lo hi d)) H
theorem ok_is_between (a : At K mg "is_between" s_is_between ["value", "low", "high"]) (c_is_an_integer : Cl P w K mg base 1 "is_an_integer" (spInt K)) : Cl P w K mg base 2 "is_between" (spBtw K) := by
  refine clG a sc_is_between (fun vs H Q E h => ?_) (fun f cdv A outer s H vs Q hg hr h => ?_)
  · obtain ⟨v, d, lo, hi, rfl, _⟩ := h
    rfl
  · obtain ⟨v, d, lo, hi, rfl, hd, q⟩ := h
    refine ⟨_, (pss_one (ps_ret (pe_and (pe_cl c_is_an_integer hg hr (by decide) (by rfl) (pa_cons (pv 0) pa_nil)) (pe_one (pe_chain op_le op_le (pv 1) (pv 0) (pv 2)))))), ?_⟩
    refine ⟨_, rfl, v, d, rfl, hd, _, rfl, ?_⟩
    cases hd with
    | int i =>
      refine iteT ⟨_, rfl, _, rfl, _, _, rfl, rfl, ?_⟩
      by_cases h1 : lo ≤ i
      · refine ⟨true, congrArg V.bl (decide_eq_true h1), iteT ⟨_, rfl, _, _, rfl, rfl, ?_⟩⟩
        have q' : Q (.bl (decide (lo ≤ i) && decide (i ≤ hi))) H := q
        rw [decide_eq_true h1, Bool.true_and] at q'
        exact q'
      · refine ⟨false, congrArg V.bl (decide_eq_false h1), iteF ?_⟩
        have q' : Q (.bl (decide (lo ≤ i) && decide (i ≤ hi))) H := q
        rw [decide_eq_false h1, Bool.false_and] at q'
        exact q'
    | _ => exact iteF q
def spCode (K : PySem.W.Frag) : Sp := fun vs H Q _ => ∃ (v : V) (d : PyData), vs = [v] ∧ Dq K H v d ∧ szB d = true ∧ ∀ H', Same H H' → Q (.bl (codeB d)) H'
theorem ok_is_code (bt : Bt mg) {tk1 tk2 : Tok} (m_MOST_SIGNS : mg "MOST_SIGNS" = some (.int 8 tk1)) (m_CODE_SIGNS : mg "CODE_SIGNS" = some (.str "abcdefghijklmnopqrstuvwxyz0123456789" tk2)) (a : At K mg "is_code" s_is_code ["value"]) : Cl P w K mg base 1 "is_code" (spCode K) := by
  refine clG a sc_is_code (fun vs H Q E h => ?_) (fun f cdv A outer s H vs Q hg hr h => ?_)
  · obtain ⟨v, d, rfl, _⟩ := h
    rfl
  · obtain ⟨v, d, rfl, hd, sz, q⟩ := h
    refine ⟨_, (pss_cons (ps_if (PW.pt (pw_or (pt_not (pt_val (pe_callB call_isi (by rfl) bt.m_isinstance (by decide +kernel) (pa_cons (pv 0) (pa_cons (pe_bltn (v := .ty "str") (by rfl) bt.m_str (by decide +kernel) rfl) pa_nil))))) (pw_or1 (pt_not (pt_chain op_le op_le pe_int (pe_callB call_len_str (by rfl) bt.m_len (by decide +kernel) (pa_cons (pv 0) pa_nil)) (pe_glob (v := .int 8) (by rfl) m_MOST_SIGNS ⟨_, rfl⟩)))))) (pss_one (ps_ret pe_bl)) pss_nil)
      (pss_one (ps_ret (pe_callB (cr_all rfl) (by rfl) bt.m_all (by decide +kernel) (pa_cons (pe_lc (own := [("sign", 1)]) (g := (gName 1)) (by rfl) sc_is_code.nd (pi_str (pv 0)) (blkOk_by (N := n_is_code) (sc := defScope s_is_code) (by decide +kernel)) (fun _ _ _ _ _ => (pg_name (i := 1) sc_is_code.nd rfl (Or.inl rfl))) (fun _ _ _ _ _ => pts_nil) (fun _ _ _ _ _ => (pe_cmpR op_in_sign (pv 1) (pe_glob (v := .str "abcdefghijklmnopqrstuvwxyz0123456789") (by rfl) m_CODE_SIGNS ⟨_, rfl⟩) rfl))) pa_nil))))), ?_⟩
    by_cases hk : kindS d = "str"
    · obtain ⟨c, rfl, rfl⟩ := hd.strE hk
      have e1 : (c.length : Int) = (c.cps.size : Int) := rfl
      have e0 : c.length = c.cps.size := rfl
      have sz' : c.length ≤ 1000 := of_decide_eq_true sz
      refine ⟨_, rfl, _, _, _, _, true, rfl, .ty "str", hd.ty, kit_ty (kit_strT hk), _, rfl, iteF ?_⟩
      refine ⟨_, rfl, c, rfl, (by rw [sizeLine_eq]; omega), _, _, rfl, rfl, ?_⟩
      by_cases h1 : 1 ≤ c.cps.size
      · refine ⟨true, congrArg V.bl (decide_eq_true (by omega)), iteT ⟨_, _, rfl, rfl, ?_⟩⟩
        by_cases h8 : c.cps.size ≤ 8
        · refine ⟨true, congrArg V.bl (decide_eq_true (by omega)), ?_⟩
          refine iteF ⟨_, rfl, c, rfl, fun L nL => lc_it (walk_str (z := c)) (fun i H' => H' = upd H L (.lst (((c.cps.toList.take i).map fun x => decide (x ∈ signs.cps.toList)).map V.bl))) rfl (fun _ _ _ _ => True.intro) (fun i x H2 H3 hi p y => ?_) (fun H2 p => ?_)⟩
          · obtain ⟨rfl, d, hd, rfl⟩ := y
            subst p
            refine ⟨rfl, ⟨_, rfl, d, signs, rfl, rfl, _, upd_same, ?_, ?_⟩⟩
            · rw [List.length_map, List.length_map, List.length_take]; exact small1000 (by omega)
            · show upd (upd H L _) L (.lst (_ ++ [V.bl (decide (d ∈ signs.cps.toList))])) = _
              have hd' : c.cps.toList[i]? = some d := by rw [Array.getElem?_toList]; exact hd
              rw [upd_upd, List.take_add_one, hd', List.map_append, List.map_append]; rfl
          · subst p
            refine ⟨L, _, rfl, SqL.of upd_same, ?_⟩
            have e : ((c.cps.toList.take c.cps.size).map fun x => decide (x ∈ signs.cps.toList)).all id = codeB (.str c) := by
              rw [List.take_of_length_le (by rw [Array.length_toList]; exact Nat.le_refl _), List.all_map]
              show _ = decide (CodeOk c)
              rw [Bool.eq_iff_iff, decide_eq_true_eq, List.all_eq_true]
              constructor
              · intro h
                exact ⟨h1, h8, fun x hx => of_decide_eq_true (h x hx)⟩
              · intro h x hx
                exact decide_eq_true (h.2.2 x hx)
            rw [e]
            exact q _ (same_upd nL)
        · refine ⟨false, congrArg V.bl (decide_eq_false (by omega)), iteT ?_⟩
          have e : codeB (.str c) = false := decide_eq_false fun h => h8 h.2.1
          have q' := q _ (Same.refl _)
          rw [e] at q'
          exact q'
      · refine ⟨false, congrArg V.bl (decide_eq_false (by omega)), iteF ⟨_, rfl, iteT ?_⟩⟩
        have e : codeB (.str c) = false := decide_eq_false fun h => h1 h.1
        have q' := q _ (Same.refl _)
        rw [e] at q'
        exact q'
    · refine ⟨_, rfl, _, _, _, _, false, rfl, .ty "str", hd.ty, kit_ty (kit_strF hk), _, rfl, iteT ?_⟩
      have e : codeB d = false := by
        cases d with
        | str c => exact absurd rfl hk
        | _ => rfl
      have q' := q _ (Same.refl _)
      rw [e] at q'
      exact q'
end
end K23

set_option Elab.async false
set_option linter.all false
set_option maxRecDepth 100000
set_option maxHeartbeats 8000000
namespace K23
open PySem PySem.Spec PyProof.Rows L2 Gd Rm La Cb
/-- each item is below the next -/
def ascL (ks : List Int) : List Bool := (List.range (ks.length - 1)).map fun i => decide (ks.getD i 0 < ks.getD (i + 1) 0)
theorem ascL_all {ks : List Int} (h : ks.length = 2 ∨ ks.length = 3) : (ascL ks).all id = decide (ks.Pairwise (· < ·)) := by
  match ks, h with
  | [a, b], _ =>
    rw [Bool.eq_iff_iff, decide_eq_true_eq]
    simp [ascL, List.range_succ]
  | [a, b, c], _ =>
    rw [Bool.eq_iff_iff, decide_eq_true_eq]
    simp [ascL, List.range_succ]
    omega
theorem dq_three {K : PySem.W.Frag} {H : Hp} {xs : List V} {ds : List PyData} (h : DqAll K H xs ds) (hl : ds.length = 3) : ∃ k t c vk vt vc, ds = [k, t, c] ∧ xs = [vk, vt, vc] ∧ Dq K H vk k ∧ Dq K H vt t ∧ Dq K H vc c := by
  cases h with
  | nil => cases hl
  | cons a h =>
    cases h with
    | nil => cases hl
    | cons b h =>
      cases h with
      | nil => cases hl
      | cons c h =>
        cases h with
        | nil => exact ⟨_, _, _, _, _, _, rfl, rfl, a, b, c⟩
        | cons _ _ => simp at hl
theorem cmb_len {m : Int} {ds : List PyData} (h : ds.length ≠ 3) : cmbB m (.tuple ds) = false := by
  match ds, h with
  | [], _ => rfl
  | [_], _ => rfl
  | [_, _], _ => rfl
  | [_, _, _], h => exact absurd rfl h
  | _ :: _ :: _ :: _ :: _, _ => rfl
section
variable {P : Program} {w : World} {K : PySem.W.Frag} {mg : Str → Option Value} {base : Heap}
def spAsc (K : PySem.W.Frag) : Sp := fun vs H Q _ => ∃ (a : Addr) (xs : List V) (ds : List PyData) (m : Int), vs = [.ref a, .int m] ∧ SqT K H a xs ∧ DqAll K H xs ds ∧ (ds.length = 2 ∨ ds.length = 3) ∧ ∀ H', Same H H' → Q (.bl (ascB m ds)) H'
theorem ok_are_ascending (bt : Bt mg) (a : At K mg "are_ascending" s_are_ascending ["values", "many"]) (c_is_between : Cl P w K mg base 2 "is_between" (spBtw K)) : Cl P w K mg base 3 "are_ascending" (spAsc K) := by
  refine clG a sc_are_ascending (fun vs H Q E h => ?_) (fun f cdv A outer s H vs Q hg hr h => ?_)
  · obtain ⟨a, xs, ds, m, rfl, _⟩ := h
    rfl
  · obtain ⟨a, xs, ds, m, rfl, ha, hD, hlen, q⟩ := h
    refine ⟨_, (pss_cons (ps_if (pt_not (pt_val (pe_callB (cr_all rfl) (by rfl) bt.m_all (by decide +kernel) (pa_cons (pe_lc (own := [("value", 3)]) (g := (gName 3)) (by rfl) sc_are_ascending.nd (pi_tup (pv 0)) (blkOk_by (N := n_are_ascending) (sc := defScope s_are_ascending) (by decide +kernel)) (fun _ _ _ _ _ => (pg_name (i := 3) sc_are_ascending.nd rfl (Or.inl rfl))) (fun _ _ _ _ _ => pts_nil) (fun _ _ _ _ _ => (pe_cl c_is_between hg hr (by decide) (by rfl) (pa_cons (pv 3) (pa_cons pe_int (pa_cons (pe_op op_sub (pv 1) pe_int) pa_nil)))))) pa_nil)))) (pss_one (ps_ret pe_bl)) pss_nil)
      (pss_one (ps_ret (pe_callB (cr_all rfl) (by rfl) bt.m_all (by decide +kernel) (pa_cons (pe_lc (own := [("at", 2)]) (g := (gName 2)) (by rfl) sc_are_ascending.nd (pi_range2 (by rfl) bt.m_range (pa_cons pe_int (pa_cons (pe_callB call_len_seq (by rfl) bt.m_len (by decide +kernel) (pa_cons (pv 0) pa_nil)) pa_nil))) (blkOk_by (N := n_are_ascending) (sc := defScope s_are_ascending) (by decide +kernel)) (fun _ _ _ _ _ => (pg_name (i := 2) sc_are_ascending.nd rfl (Or.inl rfl))) (fun _ _ _ _ _ => pts_nil) (fun _ _ _ _ _ => (pe_cmpR op_lt (pe_ix (r := rIxT K) ix_tup (pv 0) (pe_op op_sub (pv 2) pe_int) (fun _ _ => rfl)) (pe_ix (r := rIxT K) ix_tup (pv 0) (pv 2) (fun _ _ => rfl)) (nomark _)))) pa_nil))))), ?_⟩
    have hl : xs.length = ds.length := hD.length
    refine ⟨_, rfl, a, rfl, ⟨_, ha⟩, fun M nM => lc_it (walk_tup (xs := xs)) (fun i H' => Same H H' ∧ H' M = some (.lst (((ds.take i).map (btwB 0 (m - 1))).map V.bl))) ⟨same_upd nM, upd_same⟩ (fun i H' _ p => SqT.same_ ha p.1) (fun i x Hx H3 hi p y => ?_) (fun H3 p => ?_)⟩
    · obtain ⟨rfl, e2⟩ := y
      obtain ⟨d, hd, hdq⟩ := hD.at_ e2
      refine ⟨rfl, _, rfl, _, rfl, _, _, rfl, rfl, x, d, 0, _, rfl, hdq.same p.1, _, p.2, ?_, Same.off p.1 nM off_upd, ?_⟩
      · rw [List.length_map, List.length_map, List.length_take]; exact small1000 (by omega)
      · rw [upd_same, List.take_add_one, hd, List.map_append, List.map_append]; rfl
    · refine ⟨M, _, rfl, SqL.of p.2, _, rfl, ?_⟩
      have eall : (((ds.take xs.length).map (btwB 0 (m - 1)))).all id = ds.all (btwB 0 (m - 1)) := by
        rw [List.take_of_length_le (by omega), List.all_map]; rfl
      rw [eall]
      by_cases hb : ds.all (btwB 0 (m - 1)) = true
      · rw [hb]
        obtain ⟨eds, hk⟩ := all_ints hb
        generalize hks : intsOf ds = ks at eds hk
        subst eds
        have exs := hD.intsV
        subst exs
        rw [List.length_map] at hlen hl
        refine iteF ?_
        have ha3 := SqT.same_ ha p.1
        refine ⟨_, rfl, a, _, rfl, .inr ha3, 1, _, rfl, ⟨by decide, by decide, by rw [List.length_map]; omega, by rw [List.length_map]; omega⟩, fun M2 nM2 => lc_it walk_range (fun i H' => Same H3 H' ∧ H' M2 = some (.lst (((ascL ks).take i).map V.bl))) ⟨same_upd nM2, upd_same⟩ (fun _ _ _ _ => True.intro) (fun i x Hx H5 hi p5 y => ?_) (fun H5 p5 => ?_)⟩
        · obtain ⟨rfl, rfl⟩ := y
          rw [List.length_map] at hi
          have hi' : i + 1 < ks.length := by omega
          have ha5 := SqT.same_ ha3 p5.1
          have e1 : (1 : Int) + (i : Int) - 1 = ((i : Nat) : Int) := by omega
          have e2 : (1 : Int) + (i : Int) = ((i + 1 : Nat) : Int) := by omega
          refine ⟨rfl, _, rfl, _, rfl, _, _, rfl, rfl, a, _, _, _, rfl, rfl, ha5, by rw [e1]; exact atI_nat (at_int (by omega)), _, rfl, _, rfl, a, _, _, _, rfl, rfl, ha5, by rw [e2]; exact atI_nat (at_int hi'), _, _, rfl, rfl, _, p5.2, ?_, Same.off p5.1 nM2 off_upd, ?_⟩
          · rw [List.length_map, List.length_take]; exact small1000 (by omega)
          · have hia : (ascL ks)[i]? = some (decide (ks[i] < ks[i + 1])) := by
              unfold ascL
              rw [List.getElem?_map, List.getElem?_range (by omega)]
              show some (decide (ks.getD i 0 < ks.getD (i + 1) 0)) = _
              rw [List.getD_eq_getElem?_getD, List.getD_eq_getElem?_getD, List.getElem?_eq_getElem (by omega), List.getElem?_eq_getElem hi']
              rfl
            rw [upd_same, List.take_add_one, hia, List.map_append]; rfl
        · refine ⟨M2, _, rfl, SqL.of p5.2, ?_⟩
          have e : (((ascL ks).take ((((ks.map V.int).length : Nat) : Int) - 1).toNat)).all id = ascB m (ks.map PyData.int) := by
            rw [List.take_of_length_le (by unfold ascL; rw [List.length_map, List.length_map, List.length_range]; omega), ascL_all hlen]
            unfold ascB
            rw [hb, intsOf_map]; rfl
          rw [e]
          exact q _ (p.1.trans p5.1)
      · have hb' : ds.all (btwB 0 (m - 1)) = false := by simpa using hb
        rw [hb']
        refine iteT ?_
        have q' := q _ p.1
        unfold ascB at q'
        rw [hb', Bool.false_and] at q'
        exact q'
def spKeys (K : PySem.W.Frag) : Sp := fun vs H Q _ => ∃ (v : V) (d : PyData) (m : Int), vs = [v, .int m] ∧ Dq K H v d ∧ ∀ H', Same H H' → Q (.bl (keysB m d)) H'
theorem ok_are_combo_keys (bt : Bt mg) (a : At K mg "are_combo_keys" s_are_combo_keys ["value", "many"]) (c_are_ascending : Cl P w K mg base 3 "are_ascending" (spAsc K)) : Cl P w K mg base 4 "are_combo_keys" (spKeys K) := by
  refine clG a sc_are_combo_keys (fun vs H Q E h => ?_) (fun f cdv A outer s H vs Q hg hr h => ?_)
  · obtain ⟨v, d, m, rfl, _⟩ := h
    rfl
  · obtain ⟨v, d, m, rfl, hd, q⟩ := h
    refine ⟨_, (pss_one (ps_ret (pe_and (pe_callB call_isi (by rfl) bt.m_isinstance (by decide +kernel) (pa_cons (pv 0) (pa_cons (pe_bltn (v := .ty "tuple") (by rfl) bt.m_tuple (by decide +kernel) rfl) pa_nil))) (pe_and (pe_chain op_le op_le pe_int (pe_callB call_len_seq (by rfl) bt.m_len (by decide +kernel) (pa_cons (pv 0) pa_nil)) pe_int) (pe_one (pe_cl c_are_ascending hg hr (by decide) (by rfl) (pa_cons (pv 0) (pa_cons (pv 1) pa_nil)))))))), ?_⟩
    by_cases hk : kindS d = "tuple"
    · obtain ⟨b, xs, ds, rfl, rfl, hs, hD⟩ := hd.tupE hk
      have hl : xs.length = ds.length := hD.length
      refine ⟨_, rfl, _, _, _, _, true, rfl, .ty "tuple", hd.ty, kit_ty (kit_tupT hk), _, rfl, iteT ?_⟩
      refine ⟨_, rfl, b, _, rfl, .inr hs, _, _, rfl, rfl, ?_⟩
      by_cases h2 : 2 ≤ ds.length
      · refine ⟨true, congrArg V.bl (decide_eq_true (by omega)), iteT ⟨_, _, rfl, rfl, ?_⟩⟩
        by_cases h3 : ds.length ≤ 3
        · refine ⟨true, congrArg V.bl (decide_eq_true (by omega)), iteT ?_⟩
          refine ⟨_, rfl, _, rfl, b, xs, ds, m, rfl, hs, hD, by omega, fun H1 s1 => ?_⟩
          have q' := q _ s1
          have e : keysB m (.tuple ds) = ascB m ds := by
            show ((decide (ds.length = 2) || decide (ds.length = 3)) && ascB m ds) = _
            have h23 : ds.length = 2 ∨ ds.length = 3 := by omega
            rcases h23 with h | h <;> rw [h] <;> rfl
          rw [e] at q'
          exact q'
        · refine ⟨false, congrArg V.bl (decide_eq_false (by omega)), iteF ?_⟩
          have e : keysB m (.tuple ds) = false := by
            show ((decide (ds.length = 2) || decide (ds.length = 3)) && ascB m ds) = _
            rw [decide_eq_false (by omega), decide_eq_false (by omega)]; rfl
          have q' := q _ (Same.refl _)
          rw [e] at q'
          exact q'
      · refine ⟨false, congrArg V.bl (decide_eq_false (by omega)), iteF ⟨_, rfl, iteF ?_⟩⟩
        have e : keysB m (.tuple ds) = false := by
          show ((decide (ds.length = 2) || decide (ds.length = 3)) && ascB m ds) = _
          rw [decide_eq_false (by omega), decide_eq_false (by omega)]; rfl
        have q' := q _ (Same.refl _)
        rw [e] at q'
        exact q'
    · refine ⟨_, rfl, _, _, _, _, false, rfl, .ty "tuple", hd.ty, kit_ty (kit_tupF hk), _, rfl, iteF ?_⟩
      have e : keysB m d = false := by
        cases d with
        | tuple ds => exact absurd rfl hk
        | _ => rfl
      have q' := q _ (Same.refl _)
      rw [e] at q'
      exact q'
def spCombo (K : PySem.W.Frag) : Sp := fun vs H Q _ => ∃ (v : V) (d : PyData) (m : Int), vs = [v, .int m] ∧ Dq K H v d ∧ szB d = true ∧ ∀ H', Same H H' → Q (.bl (cmbB m d)) H'
theorem ok_is_combo (bt : Bt mg) {tk : Tok} (m_GREATEST_COMBO_TIME : mg "GREATEST_COMBO_TIME" = some (.int 1000000000 tk)) (a : At K mg "is_combo" s_is_combo ["value", "many"]) (c_is_between : Cl P w K mg base 2 "is_between" (spBtw K)) (c_is_code : Cl P w K mg base 1 "is_code" (spCode K)) (c_are_combo_keys : Cl P w K mg base 4 "are_combo_keys" (spKeys K)) : Cl P w K mg base 5 "is_combo" (spCombo K) := by
  refine clG a sc_is_combo (fun vs H Q E h => ?_) (fun f cdv A outer s H vs Q hg hr h => ?_)
  · obtain ⟨v, d, m, rfl, _⟩ := h
    rfl
  · obtain ⟨v, d, m, rfl, hd, sz, q⟩ := h
    refine ⟨_, (pss_cons (ps_if (PW.pt (pw_or (pt_not (pt_val (pe_callB call_isi (by rfl) bt.m_isinstance (by decide +kernel) (pa_cons (pv 0) (pa_cons (pe_bltn (v := .ty "tuple") (by rfl) bt.m_tuple (by decide +kernel) rfl) pa_nil))))) (pw_or1 (pt_cmpR op_ne (pe_callB call_len_seq (by rfl) bt.m_len (by decide +kernel) (pa_cons (pv 0) pa_nil)) pe_int (nomark _))))) (pss_one (ps_ret pe_bl)) pss_nil)
      (pss_cons (ps_asg (pv 0) (pg_tup rfl (pgs_cons (pg_name (i := 2) sc_is_combo.nd rfl (Or.inl rfl)) (pgs_cons (pg_name (i := 3) sc_is_combo.nd rfl (Or.inl rfl)) (pgs_cons (pg_name (i := 4) sc_is_combo.nd rfl (Or.inl rfl)) pgs_nil)))))
      (pss_cons (ps_if (pt_not (pt_val (pe_cl c_are_combo_keys hg hr (by decide) (by rfl) (pa_cons (pv 2) (pa_cons (pv 1) pa_nil))))) (pss_one (ps_ret pe_bl)) pss_nil)
      (pss_one (ps_ret (pe_and (pe_cl c_is_between hg hr (by decide) (by rfl) (pa_cons (pv 3) (pa_cons pe_int (pa_cons (pe_glob (v := .int 1000000000) (by rfl) m_GREATEST_COMBO_TIME ⟨_, rfl⟩) pa_nil)))) (pe_one (pe_cl c_is_code hg hr (by decide) (by rfl) (pa_cons (pv 4) pa_nil))))))))), ?_⟩
    by_cases hk : kindS d = "tuple"
    · obtain ⟨b, xs, ds, rfl, rfl, hs, hD⟩ := hd.tupE hk
      have hl : xs.length = ds.length := hD.length
      refine ⟨_, rfl, _, _, _, _, true, rfl, .ty "tuple", hd.ty, kit_ty (kit_tupT hk), _, rfl, iteF ?_⟩
      refine ⟨_, rfl, b, _, rfl, .inr hs, rfl, ?_⟩
      by_cases h3 : ds.length = 3
      · obtain ⟨k, t, c, vk, vt, vc, rfl, rfl, hk', ht, hc⟩ := dq_three hD h3
        · have sz' := szAll_mem (ds := [k, t, c]) sz
          refine ⟨_, rfl, iteF ?_⟩
          refine ⟨_, rfl, b, _, rfl, hs, rfl, _, _, rfl, _, _, rfl, _, _, rfl, rfl, ?_⟩
          refine ⟨_, rfl, _, rfl, vk, k, m, rfl, hk', fun H1 s1 => ⟨_, rfl, ?_⟩⟩
          by_cases z1 : keysB m k = true
          · rw [z1]
            refine iteF ?_
            refine ⟨_, rfl, vt, t, 1, 1000000000, rfl, ht.same s1, _, rfl, ?_⟩
            by_cases z2 : btwB 1 1000000000 t = true
            · rw [z2]
              refine iteT ⟨_, rfl, vc, c, rfl, hc.same s1, sz' c (by simp), fun H2 s2 => ?_⟩
              have q' := q _ (s1.trans s2)
              have e : cmbB m (.tuple [k, t, c]) = codeB c := by
                show (keysB m k && (btwB 1 1000000000 t && codeB c)) = _
                rw [z1, z2]; rfl
              rw [e] at q'
              exact q'
            · have z2' : btwB 1 1000000000 t = false := by simpa using z2
              rw [z2']
              have q' := q _ s1
              have e : cmbB m (.tuple [k, t, c]) = false := by
                show (keysB m k && (btwB 1 1000000000 t && codeB c)) = _
                rw [z1, z2']; rfl
              rw [e] at q'
              exact iteF q'
          · have z1' : keysB m k = false := by simpa using z1
            rw [z1']
            have q' := q _ s1
            have e : cmbB m (.tuple [k, t, c]) = false := by
              show (keysB m k && (btwB 1 1000000000 t && codeB c)) = _
              rw [z1']; rfl
            rw [e] at q'
            exact iteT q'
      · have e : cmbB m (.tuple ds) = false := by
          exact cmb_len h3
        have q' := q _ (Same.refl _)
        rw [e] at q'
        exact ⟨_, congrArg V.bl (show (!decide (V.int (xs.length : Nat) = V.int 3)) = true by rw [decide_eq_false fun z => h3 (by have := V.int.inj z; omega)]; rfl), iteT q'⟩
    · have e : cmbB m d = false := by
        cases d with
        | tuple ds => exact absurd rfl hk
        | _ => rfl
      have q' := q _ (Same.refl _)
      rw [e] at q'
      exact ⟨_, rfl, _, _, _, _, false, rfl, .ty "tuple", hd.ty, kit_ty (kit_tupF hk), _, rfl, iteT q'⟩
end
end K23

set_option Elab.async false
set_option linter.all false
set_option maxRecDepth 100000
set_option maxHeartbeats 8000000
namespace K23
open PySem PySem.Spec PyProof.Rows L2 Gd Rm La Cb
def keyOf : PyData → List Int
  | .tuple (.tuple ks :: _) => intsOf ks
  | _ => []
def firstC (m : Int) : List PyData → List (List Int) → Nat → Option Nat
  | [], _, _ => none
  | d :: ds, known, i => if (!cmbB m d || decide (keyOf d ∈ known)) = true then some i else firstC m ds (known ++ [keyOf d]) (i + 1)
def faultC (m : Int) : PyData → Option (Option Nat)
  | .list ds => if ds.length ≤ 6 then (firstC m ds [] 0).map some else some none
  | _ => some none
def optV : Option Nat → V
  | none => .non
  | some i => .int (i : Int)
theorem cmb_key {m : Int} {d : PyData} (h : cmbB m d = true) : ∃ ks t c, d = .tuple [ksD ks, t, c] ∧ keyOf d = ks := by
  unfold cmbB at h
  split at h
  · rename_i k t c
    rw [Bool.and_eq_true] at h
    obtain ⟨h1, _⟩ := h
    unfold keysB at h1
    split at h1
    · rename_i ds
      rw [Bool.and_eq_true] at h1
      have h2 := h1.2
      unfold ascB at h2
      rw [Bool.and_eq_true] at h2
      obtain ⟨e, _⟩ := all_ints h2.1
      refine ⟨intsOf ds, t, c, ?_, rfl⟩
      show PyData.tuple [PyData.tuple ds, t, c] = .tuple [.tuple ((intsOf ds).map PyData.int), t, c]
      rw [← e]
    · cases h1
  · cases h
theorem ks_nodict : ∀ (ks : List Int), PyData.hasDictAll (ks.map PyData.int) = false
  | [] => rfl
  | k :: ks => ks_nodict ks
theorem kss_nodict : ∀ (ks : List (List Int)), PyData.hasDictAll (ks.map ksD) = false
  | [] => rfl
  | k :: ks => by
    show ((ksD k).hasDict || PyData.hasDictAll (ks.map ksD)) = false
    rw [kss_nodict ks, show (ksD k).hasDict = false from ks_nodict k]
    rfl
section
variable {P : Program} {w : World} {K : PySem.W.Frag} {mg : Str → Option Value} {base : Heap}
def spMany : Sp := fun vs H Q _ => ∃ m : Int, vs = [.int m] ∧ 1 ≤ m ∧ m ≤ 10 ∧ Q .non H
theorem ok_check_many {tk : Tok} (m_MOST_BOARD_KEYS : mg "MOST_BOARD_KEYS" = some (.int 10 tk)) (a : At K mg "check_many" s_check_many ["many"]) (c_is_between : Cl P w K mg base 2 "is_between" (spBtw K)) : Cl P w K mg base 3 "check_many" spMany := by
  refine clG a sc_check_many (fun vs H Q E h => ?_) (fun f cdv A outer s H vs Q hg hr h => ?_)
  · obtain ⟨m, rfl, _⟩ := h
    rfl
  · obtain ⟨m, rfl, h1, h2, q⟩ := h
    refine ⟨_, (pss_one (ps_if (pt_not (pt_val (pe_cl c_is_between hg hr (by decide) (by rfl) (pa_cons (pv 0) (pa_cons pe_int (pa_cons (pe_glob (v := .int 10) (by rfl) m_MOST_BOARD_KEYS ⟨_, rfl⟩) pa_nil)))))) pss_never pss_nil)), ?_⟩
    refine ⟨_, rfl, _, _, _, _, rfl, .int m, _, rfl, ?_⟩
    have e : btwB 1 10 (.int m) = true := by
      show (decide (1 ≤ m) && decide (m ≤ 10)) = true
      rw [decide_eq_true h1, decide_eq_true h2]; rfl
    rw [e]
    exact iteF q
def spCC (K : PySem.W.Frag) (C : Addr) : Sp := fun vs H Q E => ∃ (v : V) (d : PyData) (m : Int), vs = [v, .int m] ∧ Dq K H v d ∧ szB d = true ∧
  (faultC m d = none → ∀ H', Same H H' → Q .non H') ∧ (∀ f, faultC m d = some f → ∀ H' e, Same H H' → H' e = some (.xd [(("index" : Str), optV f)]) → E (.ref C) (some e) H')
theorem ok_check_combos (bt : Bt mg) {tk : Tok} {C fI : Addr} (ex_InvalidCombos : PySem.Oxi.ExcTxt P K "InvalidCombos" C fI) (m_InvalidCombos : mg "InvalidCombos" = some (.ref C)) (m_MOST_COMBOS : mg "MOST_COMBOS" = some (.int 6 tk)) (a : At K mg "check_combos" s_check_combos ["value", "many"]) (c_is_combo : Cl P w K mg base 5 "is_combo" (spCombo K)) : ClX P w K mg base 6 "check_combos" (spCC K C) := by
  refine clGX a sc_check_combos (fun vs H Q E h => ?_) (fun f cdv A outer s H vs Q E hg hr h => ?_)
  · obtain ⟨v, d, m, rfl, _⟩ := h
    rfl
  · obtain ⟨v, d, m, rfl, hd, sz, q, qe⟩ := h
    refine ⟨_, (pss_cons (ps_if (PW.pt (pw_or (pt_not (pt_val (pe_callB call_isi (by rfl) bt.m_isinstance (by decide +kernel) (pa_cons (pv 0) (pa_cons (pe_bltn (v := .ty "list") (by rfl) bt.m_list (by decide +kernel) rfl) pa_nil))))) (pw_or1 (pt_cmpR op_gt (pe_callB call_len_seq (by rfl) bt.m_len (by decide +kernel) (pa_cons (pv 0) pa_nil)) (pe_glob (v := .int 6) (by rfl) m_MOST_COMBOS ⟨_, rfl⟩) (nomark _))))) (pss_one (ps_raiseX rfl ex_InvalidCombos m_InvalidCombos hr (takes_of rfl rfl rfl rfl) (pa_cons pe_non pa_nil) (by rfl))) pss_nil)
      (pss_cons (ps_set (i := 2) sc_check_combos.nd rfl (Or.inl rfl) (pe_lst pa_nil))
      (pss_one (ps_for (passes_of rfl) rfl (pi_enum (by rfl) bt.m_enumerate (pa_cons (pv 0) pa_nil)) (pg_tup rfl (pgs_cons (pg_name (i := 3) sc_check_combos.nd rfl (Or.inl rfl)) (pgs_cons (pg_name (i := 4) sc_check_combos.nd rfl (Or.inl rfl)) pgs_nil))) (pss_cons (ps_if (PW.pt (pw_or (pt_not (pt_val (pe_cl c_is_combo hg hr (by decide) (by rfl) (pa_cons (pv 4) (pa_cons (pv 1) pa_nil))))) (pw_or1 (pt_cmpR (op_inD (room65 hr)) (pe_ix ix_tup (pv 4) pe_int (fun _ _ => rfl)) (pv 2) (by rfl))))) (pss_one (ps_raiseX rfl ex_InvalidCombos m_InvalidCombos hr (takes_of rfl rfl rfl rfl) (pa_cons (pv 3) pa_nil) (by rfl))) pss_nil)
      (pss_one (ps_expr (pe_bm PySem.F.plainAttrs_list PySem.F.slot_list_append PySem.F.type_list_append mt_append (pv 2) (pa_cons (pe_ix ix_tup (pv 4) pe_int (fun _ _ => rfl)) pa_nil))))))))), ?_⟩
    by_cases hk : kindS d = "list"
    · obtain ⟨c, xs, ds, rfl, rfl, hs, hD⟩ := hd.lstE hk
      have hl : xs.length = ds.length := hD.length
      refine ⟨_, rfl, _, _, _, _, true, rfl, .ty "list", hd.ty, kit_ty (kit_lstT hk), _, rfl, iteF ?_⟩
      refine ⟨_, rfl, c, _, rfl, .inl hs, _, _, rfl, rfl, ?_⟩
      by_cases h6 : ds.length ≤ 6
      · refine ⟨false, congrArg V.bl (decide_eq_false (by omega)), iteF ?_⟩
        have ef : faultC m (.list ds) = (firstC m ds [] 0).map some := if_pos h6
        refine ⟨Nat.zero_le _, fun Kn nKn => ?_⟩
        have sK := same_upd (o := .lst []) nKn
        refine ⟨_, rfl, c, _, rfl, SqL.same_ hs sK, for_it (walk_enum (xs := xs)) (fun i σ H' => ∃ y3 y4 ks', σ = [some (.ref c), some (.int m), some (.ref Kn), y3, y4] ∧ Same H H' ∧ H' Kn = some (.lst ks') ∧ ks'.length = i ∧ DqAll K H' ks' (((ds.take i).map keyOf).map ksD) ∧ firstC m ds [] 0 = firstC m (ds.drop i) ((ds.take i).map keyOf) i)
          ⟨_, _, [], rfl, sK, upd_same, rfl, .nil, rfl⟩ (fun i H' _ _ p => by obtain ⟨_, _, _, _, s, _⟩ := p; exact SqL.same_ hs s) (fun i x σ H1 H2 hi p y => ?_) (fun σ H1 p => ?_)⟩
        · obtain ⟨y3, y4, ks', rfl, s1, hKn, hkl, hkD, hfc⟩ := p
          obtain ⟨T, u, v, rfl, nT, rfl, e1, e2⟩ := y
          have hi' : i < ds.length := by omega
          obtain ⟨di, hdi, hdq⟩ := hD.at_ e2
          have e1' : u = .int (i : Nat) := (Option.some.inj e1).symm
          subst e1'
          have sT := same_upd (o := .tup [.int (i : Nat), v]) nT
          have s2 := s1.trans sT
          have szi : szB di = true := szAll_mem sz di (List.mem_of_getElem? hdi)
          have edrop : ds.drop i = di :: ds.drop (i + 1) := by
            rw [List.drop_eq_getElem_cons hi']
            rw [List.getElem?_eq_getElem hi'] at hdi
            rw [Option.some.inj hdi]
          have ix : IxV (.int ((i : Nat) : Int)) := .inr ⟨_, rfl, by omega⟩
          refine ⟨T, _, rfl, SqT.of upd_same, rfl, _, _, rfl, _, _, rfl, rfl, ?_⟩
          refine ⟨_, rfl, _, rfl, v, di, m, rfl, hdq.same s2, szi, fun H3 s3 => ⟨_, rfl, ?_⟩⟩
          have s4 := s2.trans s3
          rw [edrop] at hfc
          have bad : (!cmbB m di || decide (keyOf di ∈ (ds.take i).map keyOf)) = true → faultC m (.list ds) = some (some i) := fun z => by
            rw [ef, hfc]
            show Option.map some (if _ then _ else _) = _
            rw [if_pos z] <;> rfl
          by_cases z1 : cmbB m di = true
          · obtain ⟨ks, t, cc, rfl, eks⟩ := cmb_key z1
            rw [z1] at bad ⊢
            refine iteF ?_
            obtain ⟨b, ys, es, rfl, ee, hsb, hDb⟩ := (hdq.same s4).tupE rfl
            cases ee
            cases hDb with
            | @cons vk _ _ _ hvk hrest =>
              have hKn4 := s3 _ _ (sT _ _ hKn)
              have hkD4 := hkD.same (sT.trans s3)
              refine ⟨_, rfl, b, _, _, _, rfl, rfl, hsb, atI_nat (j := 0) rfl, _, rfl, ksD ks, ((ds.take i).map keyOf).map ksD, hvk.p (ks_nodict ks), .lst (SqL.of hKn4) (hkD4.p (kss_nodict _)), shaped_ks _, shaped_kss _, _, rfl, ?_⟩
              rw [any_ks]
              rw [eks] at bad
              by_cases z2 : ks ∈ (ds.take i).map keyOf
              · rw [decide_eq_true z2] at bad ⊢
                refine iteT ⟨_, rfl, _, rfl, ix, fun e ne => ?_⟩
                exact qe _ (bad rfl) _ e (s4.trans (same_upd ne)) upd_same
              · rw [decide_eq_false z2]
                refine iteF ?_
                refine ⟨_, rfl, .inl ⟨rfl, _, SqL.of hKn4⟩, _, rfl, b, _, _, _, rfl, rfl, hsb, atI_nat (j := 0) rfl, Kn, _, _, rfl, rfl, hKn4, ?_, _, _, ks' ++ [vk], rfl, Same.off s4 nKn off_upd, upd_same, ?_, ?_, ?_⟩
                · rw [hkl]; exact small1000 (by omega)
                · rw [List.length_append, hkl]; rfl
                · rw [List.take_add_one, hdi, List.map_append, List.map_append]
                  refine DqAll.append (kss_off hKn4 _ hkD4) ?_
                  show DqAll K _ [vk] [ksD (keyOf _)]
                  rw [eks]
                  cases hvk with
                  | tup h a => exact .cons (DqAll.ints_off h a hKn4 _) .nil
                · rw [hfc, List.take_add_one, hdi, List.map_append]
                  show (if _ then _ else _) = _
                  rw [z1, eks, decide_eq_false z2, if_neg (by decide)]
                  show firstC m _ (_ ++ [ks]) _ = firstC m _ (_ ++ [keyOf _]) _
                  rw [eks]
          · have z1' : cmbB m di = false := by simpa using z1
            rw [z1'] at bad ⊢
            refine iteT ⟨_, rfl, _, rfl, ix, fun e ne => ?_⟩
            exact qe _ (bad rfl) _ e (s4.trans (same_upd ne)) upd_same
        · obtain ⟨y3, y4, ks', rfl, s1, hKn, hkl, hkD, hfc⟩ := p
          refine q ?_ _ s1
          rw [ef, hfc, List.drop_of_length_le (by omega)]; rfl
      · refine ⟨true, congrArg V.bl (decide_eq_true (by omega)), iteT ?_⟩
        refine ⟨_, rfl, .inl rfl, fun e ne => ?_⟩
        exact qe none (if_neg h6) _ e (same_upd ne) upd_same
    · refine ⟨_, rfl, _, _, _, _, false, rfl, .ty "list", hd.ty, kit_ty (kit_lstF hk), _, rfl, iteT ?_⟩
      have e : faultC m d = some none := by
        cases d with
        | list ds => exact absurd rfl hk
        | _ => rfl
      refine ⟨_, rfl, .inl rfl, fun x ne => ?_⟩
      exact qe none e _ x (same_upd ne) upd_same
def spIsC (K : PySem.W.Frag) : Sp := fun vs H Q _ => ∃ (v : V) (d : PyData) (m : Int), vs = [v, .int m] ∧ 1 ≤ m ∧ m ≤ 10 ∧ Dq K H v d ∧ szB d = true ∧ ∀ H', Same H H' → Q (.bl (decide (faultC m d = none))) H'
theorem ok_is_combos {C_InvalidCombos : Addr} (m_InvalidCombos : mg "InvalidCombos" = some (.ref C_InvalidCombos)) (xm : PySem.W.exmOne K (.ref C_InvalidCombos) (.ref C_InvalidCombos) = some true) (a : At K mg "is_combos" s_is_combos ["value", "many"]) (c_check_many : Cl P w K mg base 3 "check_many" spMany) (c_check_combos : ClX P w K mg base 6 "check_combos" (spCC K C_InvalidCombos)) : Cl P w K mg base 7 "is_combos" (spIsC K) := by
  refine clG a sc_is_combos (fun vs H Q E h => ?_) (fun f cdv A outer s H vs Q hg hr h => ?_)
  · obtain ⟨v, d, m, rfl, _⟩ := h
    rfl
  · obtain ⟨v, d, m, rfl, m1, m2, hd, sz, q⟩ := h
    refine ⟨_, (pss_cons (ps_expr (pe_cl c_check_many hg hr (by decide) (by rfl) (pa_cons (pv 1) pa_nil)))
      (pss_cons (ps_try_only (c := .ref C_InvalidCombos) rfl rfl ⟨(by rfl), by decide, .inl m_InvalidCombos⟩ takes_no (fun W pn xe tk pw => (pss_one (ps_expr (pe_clXs c_check_combos hg hr (by decide) (by rfl) (fun _ _ _ _ _ _ I c => tk _ _ (XE.of_call I (fun _ _ _ h => h) c)) (pa_cons (pv 0) (pa_cons (pv 1) pa_nil)))))) (fun _ _ _ _ _ _ _ => (pss_one (ps_ret pe_bl))))
      (pss_one (ps_ret pe_bl)))), ?_⟩
    refine ⟨_, rfl, m, rfl, m1, m2, ?_⟩
    refine ⟨_, rfl, _, rfl, v, d, m, rfl, hd, sz, fun e H1 s1 => ?_, fun f e H1 x s1 hx => ?_⟩
    · have q' := q _ s1
      rw [decide_eq_true e] at q'
      exact q'
    · have q' := q _ s1
      rw [decide_eq_false (by rw [e]; intro z; cases z)] at q'
      exact ⟨true, xm, fun _ a na => q', fun z => by cases z⟩
end
end K23

set_option Elab.async false
set_option linter.all false
set_option maxRecDepth 100000
set_option maxHeartbeats 8000000
namespace K23
open PySem PySem.Spec PyProof.Rows L2 Gd Rm La Cb
def nI (n : Nat) : List Int := (List.range n).map fun k : Nat => (k : Int)
theorem rgV_nI (n : Nat) : rgV 0 (n : Int) = (nI n).map V.int := by
  unfold rgV nI
  rw [List.map_map, show ((n : Int) - 0).toNat = n by omega]
  refine List.map_congr_left fun k _ => ?_
  show V.int (0 + (k : Int)) = V.int (k : Int)
  rw [Int.zero_add]
theorem nI_nd (n : Nat) : (nI n).Nodup := by
  unfold nI
  rw [List.Nodup, List.pairwise_map]
  exact List.nodup_range.imp fun h e => h (by omega)
theorem nI_mem {n : Nat} {k : Int} : k ∈ nI n ↔ 0 ≤ k ∧ k < n := by
  unfold nI
  rw [List.mem_map]
  constructor
  · rintro ⟨j, hj, rfl⟩
    have := List.mem_range.mp hj
    omega
  · rintro ⟨h1, h2⟩
    exact ⟨k.toNat, List.mem_range.mpr (by omega), by omega⟩
theorem nI_len (n : Nat) : (nI n).length = n := by unfold nI; rw [List.length_map, List.length_range]
theorem eraseMap {α β : Type} (f : α → β) : ∀ (ns : List α) (j : Nat), (ns.map f).eraseIdx j = (ns.eraseIdx j).map f
  | [], _ => rfl
  | _ :: _, 0 => rfl
  | n :: ns, j + 1 => by
    show f n :: (ns.map f).eraseIdx j = f n :: (ns.eraseIdx j).map f
    rw [eraseMap f ns j]
theorem small30 {n : Nat} (h : n ≤ 1000) : n ≤ sizeLine := Nat.le_of_lt (small1000 h)
def codes8 : List Str := ["q", "w", "a", "zz9", "enter", "bksp", "a1b2c3d", "00000000"]
theorem codes_ok : ∀ c ∈ codes8, CodeOk c := by decide +kernel
theorem getC {d : Int} (h0 : 0 ≤ d) (h1 : d < 8) : ∃ c, atI (codes8.map V.str) d = some (.str c) ∧ CodeOk c := by
  have hd : d.toNat < codes8.length := by show d.toNat < 8; omega
  refine ⟨codes8[d.toNat], ?_, codes_ok _ (List.getElem_mem hd)⟩
  refine at_of (j := d.toNat) (by omega) ?_
  rw [List.getElem?_map, List.getElem?_eq_getElem hd]
  rfl
/-- other than at these two, nothing changes -/
def Off2 (r c : Addr) (H H' : Hp) : Prop := ∀ b o, H b = some o → b ≠ r → b ≠ c → H' b = some o
theorem Off2.same {r c : Addr} {H H1 H2 : Hp} (a : Off2 r c H H1) (s : Same H1 H2) : Off2 r c H H2 := fun b o h x y => s _ _ (a b o h x y)
theorem Off2.off {r c : Addr} {H H1 H2 : Hp} (a : Off2 r c H H1) (s : Off r H1 H2) : Off2 r c H H2 := fun b o h x y => s _ _ (a b o h x y) x
theorem Off2.new {r c p : Addr} {o : HO} {H H1 : Hp} (a : Off2 r c H H1) (n : H p = none) : Off2 r c H (upd H1 p o) := fun b x h y z => by rw [upd_ne (ne_of_none h n)]; exact a b x h y z
theorem Off2.at_ {r c : Addr} {o : HO} {H H1 : Hp} (a : Off2 r c H H1) : Off2 r c H (upd H1 c o) := fun b x h y z => by rw [upd_ne z]; exact a b x h y z
section
variable {P : Program} {w : World} {K : PySem.W.Frag} {mg : Str → Option Value} {base : Heap}
def spLCombos : Sp := fun vs H Q _ => ∃ (r : Addr) (k m : Nat) (top : Int), vs = [.ref r, .int (m : Int), .int top] ∧ Reel H r k ∧ k + 1000 < most ∧ 1 ≤ m ∧ m ≤ 10 ∧ 1 ≤ top ∧ top ≤ 10 ^ 9 ∧
  ∀ H' p cbs, Off r H H' → H p = none → Reel H' r (k + 100) → Cmbs H' p cbs → CbsOk m cbs → Q (.ref p) H'
theorem ok__law_combos (bt : Bt mg) (a : At K mg "_law_combos" s__law_combos ["_law_spring_here", "_law_many", "_law_top"]) (c__law_take : Cl P w K mg base 1 "_law_take" spDraw) : Cl P w K mg base 2 "_law_combos" spLCombos := by
  refine clG a sc__law_combos (fun vs H Q E h => ?_) (fun f cdv A outer s H vs Q hg hr h => ?_)
  · obtain ⟨r, k, m, top, rfl, _⟩ := h
    rfl
  · obtain ⟨r, k, m, top, rfl, R, hk, hm1, hm2, t1, t2, q⟩ := h
    have hk' : k + 1000 < 1000000000 := hk
    have big : (10 : Int) ^ 40 > 10 ^ 10 := by decide
    refine ⟨_, (pss_cons (ps_set (i := 3) sc__law_combos.nd rfl (Or.inl rfl) (pe_lst pa_nil))
      (pss_cons (ps_for PassesOwn.never rfl (pi_range1 (by rfl) bt.m_range (pa_cons (pe_op op_mulW (pe_cl c__law_take hg hr (by decide) (by rfl) (pa_cons (pv 0) (pa_cons pe_int pa_nil))) (pe_callTy call_int1 (by rfl) bt.m_int (by decide +kernel) (pa_cons (pe_cmpR op_gt (pv 1) pe_int (nomark _)) pa_nil))) pa_nil)) (pg_name (i := 4) sc__law_combos.nd rfl (Or.inl rfl)) (pss_cons (ps_set (i := 5) sc__law_combos.nd rfl (Or.inr rfl) (pe_listRg rfl (by rfl) bt.m_list (prg_1 (by rfl) bt.m_range (pe_ix ix_list (pe_lst (pa_cons (pe_callB (call_min2 rfl) (by rfl) bt.m_min (by decide +kernel) (pa_cons (pv 1) (pa_cons pe_int pa_nil))) (pa_cons (pv 1) pa_nil))) (pe_cl c__law_take hg hr (by decide) (by rfl) (pa_cons (pv 0) (pa_cons pe_int pa_nil))) (fun _ _ => rfl)))))
      (pss_cons (ps_set (i := 6) sc__law_combos.nd rfl (Or.inl rfl) (pe_callB (call_min2 rfl) (by rfl) bt.m_min (by decide +kernel) (pa_cons (pe_callB call_len_seq (by rfl) bt.m_len (by decide +kernel) (pa_cons (pv 5) pa_nil)) (pa_cons (pe_op op_add pe_int (pe_cl c__law_take hg hr (by decide) (by rfl) (pa_cons (pv 0) (pa_cons pe_int pa_nil)))) pa_nil))))
      (pss_cons (ps_set (i := 7) sc__law_combos.nd rfl (Or.inl rfl) (pe_callTy call_tuple_of (by rfl) bt.m_tuple (by decide +kernel) (pa_cons (pe_callB cr_sortedI (by rfl) bt.m_sorted (by decide +kernel) (pa_cons (pe_lc (own := [("_law_part", 11)]) (g := (gName 11)) (by rfl) sc__law_combos.nd (pi_range1 (by rfl) bt.m_range (pa_cons (pv 6) pa_nil)) (blkOk_by (N := n__law_combos) (sc := defScope s__law_combos) (by decide +kernel)) (fun _ _ _ _ _ => (pg_name (i := 11) sc__law_combos.nd rfl (Or.inl rfl))) (fun _ _ _ _ _ => pts_nil) (fun _ _ _ _ _ => (pe_bmB (K0 := K) rfl PySem.F.plainAttrs_list PySem.F.slot_list_pop PySem.F.type_list_pop mt_popAt (pv 5) (pa_cons (pe_cl c__law_take hg hr (by decide) (by rfl) (pa_cons (pv 0) (pa_cons (pe_callB (r := rLenB K) call_len_seq (by rfl) bt.m_len (by decide +kernel) (pa_cons (pv 5) pa_nil)) pa_nil))) pa_nil)))) pa_nil)) pa_nil)))
      (pss_cons (ps_set (i := 8) sc__law_combos.nd rfl (Or.inl rfl) (pe_op op_add pe_int (pe_cl c__law_take hg hr (by decide) (by rfl) (pa_cons (pv 0) (pa_cons (pe_ix ix_list (pe_lst (pa_cons pe_int (pa_cons pe_int (pa_cons (pv 2) pa_nil)))) (pe_cl c__law_take hg hr (by decide) (by rfl) (pa_cons (pv 0) (pa_cons pe_int pa_nil))) (fun _ _ => rfl)) pa_nil)))))
      (pss_cons (ps_set (i := 9) sc__law_combos.nd rfl (Or.inl rfl) (pe_ix ix_list (pe_lst (pa_cons pe_str (pa_cons pe_str (pa_cons pe_str (pa_cons pe_str (pa_cons pe_str (pa_cons pe_str (pa_cons pe_str (pa_cons pe_str pa_nil))))))))) (pe_cl c__law_take hg hr (by decide) (by rfl) (pa_cons (pv 0) (pa_cons pe_int pa_nil))) (fun _ _ => rfl)))
      (pss_one (ps_if (pt_cmpR (op_notInD (room65 hr)) (pv 7) (pe_lc (own := [("_law_combo", 10)]) (g := (gName 10)) (by rfl) sc__law_combos.nd (pi_list (pv 3)) (blkOk_by (N := n__law_combos) (sc := defScope s__law_combos) (by decide +kernel)) (fun _ _ _ _ _ => (pg_name (i := 10) sc__law_combos.nd rfl (Or.inl rfl))) (fun _ _ _ _ _ => pts_nil) (fun _ _ _ _ _ => (pe_ix (r := rIxT K) ix_tup (pv 10) pe_int (fun _ _ => rfl)))) (by rfl)) (pss_one (ps_expr (pe_bm PySem.F.plainAttrs_list PySem.F.slot_list_append PySem.F.type_list_append mt_append (pv 3) (pa_cons (pe_tup (pa_cons (pv 7) (pa_cons (pv 8) (pa_cons (pv 9) pa_nil)))) pa_nil)))) pss_nil))))))))
      (pss_one (ps_ret (pv 3))))), ?_⟩
    refine ⟨Nat.zero_le _, fun F nF => ?_⟩
    have sF := same_upd (o := .lst []) nF
    have Fr : F ≠ r := R.new nF
    refine ⟨_, rfl, r, 7, k, rfl, by decide, by decide, by show k < 1000000000; omega, R.same sF, fun d1 H1 d10 d11 R1 o1 => ?_⟩
    refine ⟨_, rfl, _, _, rfl, rfl, .inr ⟨_, rfl, ?_⟩⟩
    have hb : ∀ b : Bool, (if b = true then (1 : Int) else 0) = 0 ∨ (if b = true then (1 : Int) else 0) = 1 := fun b => by cases b <;> decide
    refine ⟨_, _, rfl, rfl, wide_mul (a := 40) (b := 40) (by omega) (by have := hb (decide ((m : Int) > 1)); omega) (by decide) (by decide) (by decide), ?_⟩
    have hN : ∃ N : Nat, d1 * (if decide ((m : Int) > 1) = true then 1 else 0) = (N : Int) ∧ N ≤ 6 ∧ (0 < N → 2 ≤ m) := by
      by_cases z : (m : Int) > 1
      · refine ⟨d1.toNat, ?_, by omega, fun _ => by omega⟩
        rw [decide_eq_true z, if_pos rfl]; omega
      · refine ⟨0, ?_, by omega, fun h => by omega⟩
        rw [decide_eq_false z, if_neg (by decide)]; omega
    obtain ⟨N, eN, hN6, hN2⟩ := hN
    have hF1 := o1 _ _ (upd_same (a := F) (o := .lst [])) Fr
    have ob : Off r H H1 := (Off.of sF).trans o1
    refine ⟨_, rfl, by rw [eN]; omega, by rw [eN]; omega, ?_⟩
    rw [eN, Int.toNat_natCast]
    refine for_it walk_range (fun i σ H' => ∃ (y4 y5 y6 y7 y8 y9 y10 y11 : Option V) (cbs : List Cmb), σ = [some (.ref r), some (.int (m : Int)), some (.int top), some (.ref F), y4, y5, y6, y7, y8, y9, y10, y11] ∧ Off r H H' ∧ Reel H' r (k + 1 + 10 * i) ∧ Cmbs H' F cbs ∧ CbsOk m cbs ∧ cbs.length ≤ i)
      ⟨_, _, _, _, _, _, _, _, [], rfl, ob, R1, ⟨[], hF1, rfl, fun i v cb h => by simp at h⟩, CbsOk.nil _, Nat.le_refl _⟩ (fun _ _ _ _ _ => True.intro) (fun i x σ H2 H3 hi p y => ?_) (fun σ H2 p => ?_)
    · obtain ⟨y4, y5, y6, y7, y8, y9, y10, y11, cbs, rfl, o2, R2, hC2, ok, hcl⟩ := p
      obtain ⟨rfl, rfl⟩ := y
      have hm := hN2 (by omega)
      -- some
      refine ⟨_, rfl, _, _, rfl, ?_⟩
      refine ⟨_, rfl, (by show 2 ≤ sizeLine; decide), fun W1 nW1 => ?_⟩
      have mn : ∃ v : Nat, (if (4 : Int) < (m : Int) then (4 : Int) else (m : Int)) = (v : Int) ∧ 2 ≤ v ∧ v ≤ m := by
        by_cases z : (4 : Int) < (m : Int)
        · exact ⟨4, by rw [if_pos z]; rfl, by decide, by omega⟩
        · exact ⟨m, by rw [if_neg z], by omega, Nat.le_refl _⟩
      obtain ⟨mv, emv, mv1, mv2⟩ := mn
      rw [emv] at *
      have k1 := same_upd (o := .lst [.int (mv : Int), .int (m : Int)]) nW1
      refine ⟨_, rfl, r, 2, k + 1 + 10 * i, rfl, by decide, by decide, by show _ < 1000000000; omega, R2.same k1, fun d2 H4 d20 d21 R4 o4 => ?_⟩
      have W1r : W1 ≠ r := R2.new nW1
      have hW1 : H4 W1 = some (.lst (([(mv : Int), (m : Int)] : List Int).map V.int)) := o4 _ _ upd_same W1r
      obtain ⟨sv, asv, msv⟩ := getI (ns := ([(mv : Int), (m : Int)] : List Int)) d20 (by show d2 < 2; exact d21)
      obtain ⟨M, rfl, hM1, hM2⟩ : ∃ M : Nat, sv = (M : Int) ∧ 2 ≤ M ∧ M ≤ m := by
        have hmm := List.mem_of_getElem? msv
        simp only [List.mem_cons, List.mem_nil_iff, or_false] at hmm
        rcases hmm with rfl | rfl
        · exact ⟨mv, rfl, mv1, mv2⟩
        · exact ⟨m, rfl, hm, Nat.le_refl _⟩
      refine ⟨W1, _, d2, _, rfl, rfl, SqL.of hW1, asv, _, rfl, ⟨by omega, by omega, by omega, by omega, by omega⟩, fun Sm nSm => ?_⟩
      rw [rgV_nI]
      have k2 := same_upd (o := .lst ((nI M).map V.int)) nSm
      have Smr : Sm ≠ r := R4.new nSm
      have o24 : Off r _ H4 := (Off.of k1).trans o4
      have hC4 := hC2.go (R2.tk o24) (fun vs h => o24 _ _ h Fr)
      have hC5 := hC4.same k2
      have R5 := R4.same k2
      have oH5 := (o2.trans o24).sameTrans k2
      have nSmH : H Sm = none := R4.free (o2.trans o24) nSm
      have FS : F ≠ Sm := by
        obtain ⟨vs, hF4, _⟩ := id hC4
        exact ne_of_none hF4 nSm
      have hS5 := upd_same (H := H4) (a := Sm) (o := .lst ((nI M).map V.int))
      refine (fun (G : ∀ H5 : Hp, Reel H5 r (k + 1 + 10 * i + 1) → Cmbs H5 F cbs → Rm.Off r H H5 → H5 Sm = some (.lst ((nI M).map V.int)) → _) => G _ R5 hC5 oH5 hS5) (fun H5 R5 hC5 oH5 hS5 => ?_)
      -- size
      refine ⟨_, rfl, Sm, _, rfl, .inl (SqL.of hS5), ?_⟩
      refine ⟨_, rfl, r, 2, k + 1 + 10 * i + 1, rfl, by decide, by decide, by show _ < 1000000000; omega, R5, fun d3 H6 d30 d31 R6 o6 => ⟨_, _, rfl, rfl, _, _, rfl, ?_⟩⟩
      rw [List.length_map, nI_len]
      obtain ⟨sz, esz, sz1, sz2⟩ : ∃ sz : Nat, (if 2 + d3 < ((M : Nat) : Int) then 2 + d3 else ((M : Nat) : Int)) = (sz : Int) ∧ (sz = 2 ∨ sz = 3) ∧ sz ≤ M := by
        by_cases z : 2 + d3 < ((M : Nat) : Int)
        · refine ⟨(2 + d3).toNat, by rw [if_pos z]; omega, by omega, by omega⟩
        · refine ⟨M, by rw [if_neg z], by omega, Nat.le_refl _⟩
      rw [esz]
      have hS6 := o6 _ _ hS5 Smr
      have hC6 := hC5.go (R5.tk o6) (fun vs h => o6 _ _ h Fr)
      have oH6 := oH5.trans o6
      -- keys
      refine ⟨_, rfl, _, rfl, by omega, by omega, ?_⟩
      rw [Int.toNat_natCast]
      refine fun Pp nPp => lc_it walk_range (fun j H' => Off2 r Sm H6 H' ∧ Reel H' r (k + 1 + 10 * i + 2 + j) ∧ ∃ rem got : List Int, H' Sm = some (.lst (rem.map V.int)) ∧ H' Pp = some (.lst (got.map V.int)) ∧ rem.Nodup ∧ got.Nodup ∧ got.length = j ∧ rem.length + j = M ∧ (∀ x ∈ rem, 0 ≤ x ∧ x < (m : Int)) ∧ (∀ x ∈ got, (0 ≤ x ∧ x < (m : Int)) ∧ ¬ x ∈ rem))
        ⟨fun b o h _ _ => same_upd nPp _ _ h, R6.same (same_upd nPp), nI M, [], (same_upd nPp) _ _ hS6, upd_same, nI_nd M, List.nodup_nil, rfl, nI_len M, fun x hx => by have := nI_mem.mp hx; omega, fun x h => by simp at h⟩ (fun _ _ _ _ => True.intro) (fun j x H7 H8 hj p y => ?_) (fun H7 p => ?_)
      · obtain ⟨o7, R7, rem, got, hS7, hP7, nd1, nd2, hgl, hrl, hr1, hg1⟩ := p
        obtain ⟨rfl, rfl⟩ := y
        have PpS : Pp ≠ Sm := (ne_of_none hS6 nPp).symm
        have Ppr : Pp ≠ r := R6.new nPp
        refine ⟨rfl, _, rfl, .inl ⟨rfl, _, SqL.of hS7⟩, ?_⟩
        refine ⟨_, rfl, _, rfl, Sm, _, rfl, .inl (SqL.of hS7), r, _, k + 1 + 10 * i + 2 + j, rfl, by rw [List.length_map]; omega, by rw [List.length_map]; omega, by show _ < 1000000000; omega, R7, fun e H9 e0 e1 R9 o9 => ?_⟩
        rw [List.length_map] at e1
        have hS9 := o9 _ _ hS7 Smr
        have hP9 := o9 _ _ hP7 Ppr
        obtain ⟨ej, rfl⟩ := Int.eq_ofNat_of_zero_le e0
        have hej : ej < rem.length := by omega
        have hix := seqIndex_of (k := (ej : Int)) (n := (rem.map V.int).length) (by omega) (by rw [List.length_map]; omega)
        rw [Int.toNat_natCast] at hix
        have gx : rem[ej]? = some rem[ej] := List.getElem?_eq_getElem hej
        refine ⟨Sm, _, _, ej, .int rem[ej], rfl, rfl, hS9, by omega, by omega, hix, get_map_int gx, ?_⟩
        rw [eraseMap]
        have hP10 : upd H9 Sm (.lst ((rem.eraseIdx ej).map V.int)) Pp = some (.lst (got.map V.int)) := by rw [upd_ne PpS]; exact hP9
        refine ⟨_, hP10, by rw [List.length_map]; exact small1000 (by omega), ((o7.off o9).at_).new nPp, (R9.upd Smr).upd Ppr, rem.eraseIdx ej, got ++ [rem[ej]], by rw [upd_ne PpS.symm, upd_same], by rw [upd_same, List.map_append]; rfl, nd1.eraseIdx ej, nd_snoc nd2 (fun h => (hg1 _ h).2 (List.getElem_mem hej)), by rw [List.length_append, hgl]; rfl, by rw [List.length_eraseIdx, if_pos hej]; omega, fun x hx => hr1 x (List.mem_of_mem_eraseIdx hx), fun x hx => ?_⟩
        rcases List.mem_append.mp hx with h | h
        · exact ⟨(hg1 x h).1, fun z => (hg1 x h).2 (List.mem_of_mem_eraseIdx z)⟩
        · rw [List.mem_singleton.mp h]
          exact ⟨hr1 _ (List.getElem_mem hej), fun z => ((mem_eraseIdx nd1 gx _).mp z).1 rfl⟩
      · obtain ⟨o7, R7, rem, got, hS7, hP7, nd1, nd2, hgl, hrl, hr1, hg1⟩ := p
        refine ⟨Pp, got, rfl, SqL.of hP7, fun ks Sd hpk hok nSd => ?_⟩
        have k8 := same_upd (o := .lst (ks.map V.int)) nSd
        refine ⟨Sd, _, rfl, .inl ⟨SqL.of upd_same, fun Kt nKt => ?_⟩⟩
        have k9 := same_upd (o := .tup (ks.map V.int)) nKt
        have oH9 : Off r H (upd (upd H7 Sd (.lst (ks.map V.int))) Kt (.tup (ks.map V.int))) := fun b o h n => (k8.trans k9) _ _ (o7 _ _ (oH6 _ _ h n) n (ne_of_none h nSmH))
        have R9 := (R7.same k8).same k9
        have hC9 : Cmbs (upd (upd H7 Sd (.lst (ks.map V.int))) Kt (.tup (ks.map V.int))) F cbs := hC6.go (fun b xs h => (k8.trans k9) _ _ (o7 _ _ h (by
          obtain ⟨_, _, _, hr6, _⟩ := id R6
          exact ne_of h hr6 (by intro z; cases z)) (ne_of h hS6 (by intro z; cases z)))) (fun vs h => (k8.trans k9) _ _ (o7 _ _ h Fr FS))
        have hKt := upd_same (H := upd H7 Sd (.lst (ks.map V.int))) (a := Kt) (o := .tup (ks.map V.int))
        have kasc : ks.Pairwise (· < ·) := (hok.and (hpk.nodup_iff.mpr nd2)).imp fun h => by have := h.1; have := h.2; omega
        have klen : ks.length = 2 ∨ ks.length = 3 := by rw [hpk.length_eq, hgl]; exact sz1
        have kkey : ∀ x ∈ ks, 0 ≤ x ∧ x < (m : Int) := fun x hx => (hg1 x (hpk.mem_iff.mp hx)).1
        refine (fun (G : ∀ H9 : Hp, Reel H9 r (k + 1 + 10 * i + 5) → Cmbs H9 F cbs → Rm.Off r H H9 → H9 Kt = some (.tup (ks.map V.int)) → _) => G _ (R9.mono (by omega)) hC9 oH9 hKt) (fun H9 R9 hC9 oH9 hKt => ?_)
        -- time
        refine ⟨_, rfl, _, rfl, (by show 3 ≤ sizeLine; decide), fun W2 nW2 => ?_⟩
        have k10 := same_upd (o := .lst [.int 4, .int 12, .int top]) nW2
        refine ⟨_, rfl, r, 3, k + 1 + 10 * i + 5, rfl, by decide, by decide, by show _ < 1000000000; omega, R9.same k10, fun d4 H11 d40 d41 R11 o11 => ?_⟩
        have W2r : W2 ≠ r := R9.new nW2
        have hW2 : H11 W2 = some (.lst (([4, 12, top] : List Int).map V.int)) := o11 _ _ upd_same W2r
        obtain ⟨tv, atv, mtv⟩ := getI (ns := ([4, 12, top] : List Int)) d40 (by show d4 < 3; exact d41)
        have htv : 1 ≤ tv ∧ tv ≤ 10 ^ 9 := by
          have hmm := List.mem_of_getElem? mtv
          simp only [List.mem_cons, List.mem_nil_iff, or_false] at hmm
          omega
        refine ⟨W2, _, d4, _, rfl, rfl, SqL.of hW2, atv, r, tv, k + 1 + 10 * i + 6, rfl, by omega, by omega, by show _ < 1000000000; omega, R11, fun tt H12 tt0 tt1 R12 o12 => ⟨_, _, rfl, rfl, ?_⟩⟩
        -- code
        refine ⟨(by show 8 ≤ sizeLine; decide), fun W3 nW3 => ?_⟩
        have k13 := same_upd (o := .lst (codes8.map V.str)) nW3
        refine ⟨_, rfl, r, 8, k + 1 + 10 * i + 7, rfl, by decide, by decide, by show _ < 1000000000; omega, R12.same k13, fun d5 H14 d50 d51 R14 o14 => ?_⟩
        have W3r : W3 ≠ r := R12.new nW3
        have hW3 : H14 W3 = some (.lst (codes8.map V.str)) := o14 _ _ upd_same W3r
        obtain ⟨cc, acc, hcc⟩ := getC d50 d51
        refine ⟨W3, _, d5, _, rfl, rfl, SqL.of hW3, acc, ?_⟩
        have o914 : Off r H9 H14 := ((((Off.of k10).trans o11).trans o12).sameTrans k13).trans o14
        have tk914 := R9.tk o914
        have hC14 := hC9.go tk914 (fun vs h => o914 _ _ h Fr)
        have hKt14 := tk914 _ _ hKt
        have oH14 := oH9.trans o914
        obtain ⟨vs, hF14, hCv⟩ := id hC14
        have hvl := hCv.1
        -- not in
        refine ⟨_, rfl, _, rfl, F, rfl, ⟨_, SqL.of hF14⟩, fun Ky nKy => lc_it (walk_list (xs := vs)) (fun j H' => Same H14 H' ∧ Lst ksV H' Ky ((cbs.take j).map Cmb.ks)) ⟨same_upd nKy, [], upd_same, Tups.nil⟩ (fun j H' _ p => SqL.of (p.1 _ _ hF14)) (fun j v H15 H16 hj p y => ?_) (fun H15 p => ?_)⟩
        · obtain ⟨rfl, e2⟩ := y
          obtain ⟨p1, as, hKy, hT⟩ := p
          have hj' : j < cbs.length := by omega
          obtain ⟨ad, kk, hv, ha, hkk⟩ := Cmbs.at_ hCv hj'
          have e2' : v = .ref ad := Option.some.inj (e2.symm.trans hv)
          subst e2'
          have hal := hT.1
          refine ⟨rfl, _, rfl, ad, _, _, _, rfl, rfl, SqT.of (p1 _ _ ha), atI_nat (j := 0) rfl, _, hKy, ?_, Same.off p1 nKy off_upd, as ++ [kk], by rw [upd_same, List.map_append]; rfl, ?_⟩
          · rw [List.length_map, hal, List.length_map, List.length_take]; exact small1000 (by omega)
          · rw [List.take_add_one, List.getElem?_eq_getElem hj', List.map_append]
            refine Tups.snoc (hT.off hKy off_upd) ?_
            have := p1 _ _ hkk
            rw [upd_ne (ne_of this hKy (by intro z; cases z))]
            exact this
        · obtain ⟨p1, as, hKy, hT⟩ := p
          rw [hvl, List.take_length] at hT
          refine ⟨ksD ks, (cbs.map Cmb.ks).map ksD, .tup (SqT.of (p1 _ _ hKt14)) (dpInts _), .lst (SqL.of hKy) (dpAll_of (fun a e h => .tup (SqT.of h) (dpInts e)) as _ hT), shaped_ks _, shaped_kss _, _, rfl, ?_⟩
          rw [any_ks]
          have R15 := R14.same p1
          have hC15 := hC14.same p1
          have oH15 := oH14.sameTrans p1
          obtain ⟨vs5, hF15, hCv5⟩ := id hC15
          have hvl5 := hCv5.1
          refine ite2 (fun z => ?_) (fun z => ?_)
          · have zn : ¬ ks ∈ cbs.map Cmb.ks := fun h => by rw [decide_eq_true h] at z; cases z
            refine ⟨_, rfl, .inl ⟨rfl, _, SqL.of hF15⟩, _, rfl, _, rfl, _, rfl, (by show 3 ≤ sizeLine; decide), fun p np => ?_⟩
            have kp := same_upd (o := .tup [.ref Kt, .int (1 + tt), .str cc]) np
            have hF16 := kp _ _ hF15
            refine ⟨F, _, .ref p, rfl, rfl, hF16, by rw [hvl5]; exact small1000 (by omega), ?_⟩
            have pF : p ≠ F := (ne_of_none hF15 np).symm
            have tkF : Tk (upd H15 p (.tup [.ref Kt, .int (1 + tt), .str cc])) (upd (upd H15 p (.tup [.ref Kt, .int (1 + tt), .str cc])) F (.lst (vs5 ++ [.ref p]))) := tk_upd hF16
            refine ⟨_, _, _, _, _, _, _, _, cbs ++ [⟨ks, 1 + tt, cc⟩], rfl, (oH15.sameTrans kp).new nF, ((R15.same kp).upd Fr).mono (by omega), ⟨vs5 ++ [.ref p], upd_same, by rw [List.length_append, List.length_append, hvl5]; rfl, fun j v cb x y => ?_⟩, ⟨fun cb hc => ?_, by rw [List.length_append, List.length_singleton]; omega, ?_⟩, by rw [List.length_append, List.length_singleton]; omega⟩
            · rcases Nat.lt_or_ge j vs5.length with q | q
              · rw [List.getElem?_append_left q] at x
                rw [List.getElem?_append_left (by omega)] at y
                exact ((hCv5.2 j v cb x y).tk (Tk.of kp)).tk tkF
              · have hj : j = vs5.length := by
                  have := (List.getElem?_eq_some_iff.mp x).1
                  rw [List.length_append, List.length_singleton] at this
                  omega
                subst hj
                rw [List.getElem?_append_right (Nat.le_refl _), Nat.sub_self] at x
                rw [List.getElem?_append_right (by omega), show vs5.length - cbs.length = 0 by omega] at y
                have e1 : V.ref p = v := Option.some.inj x
                have e2 : (⟨ks, 1 + tt, cc⟩ : Cmb) = cb := Option.some.inj y
                subst e1 e2
                exact ⟨p, Kt, rfl, tkF _ _ upd_same, tkF _ _ (kp _ _ (p1 _ _ hKt14))⟩
            · rcases List.mem_append.mp hc with h | h
              · exact ok.all cb h
              · rw [List.mem_singleton.mp h]
                exact ⟨kasc, klen, kkey, ⟨by show 1 ≤ 1 + tt; omega, by show 1 + tt ≤ 10 ^ 9; omega⟩, hcc⟩
            · rw [List.map_append]
              exact List.nodup_append.mpr ⟨ok.apart, by simp, fun a ha b hb => by
                rw [List.mem_singleton.mp hb]
                exact fun e => zn (by rw [show a = ks from e] at ha; exact ha)⟩
          · exact ⟨_, _, _, _, _, _, _, _, cbs, rfl, oH15, R15.mono (by omega), hC15, ok, by omega⟩
    · obtain ⟨y4, y5, y6, y7, y8, y9, y10, y11, cbs, rfl, o2, R2, hC2, ok, hcl⟩ := p
      exact ⟨_, rfl, q H2 F cbs o2 nF (R2.mono (by omega)) hC2 ok⟩
end
end K23

set_option Elab.async false
set_option linter.all false
set_option maxRecDepth 100000
set_option maxHeartbeats 8000000
namespace K23
open PySem PySem.Spec PyProof.Rows L2 Gd Rm La Cb
/-! ### what a fault is -/
theorem first_none {m : Int} : ∀ {ds : List PyData} {known : List (List Int)} {i : Nat},
    firstC m ds known i = none ↔ (∀ d ∈ ds, cmbB m d = true) ∧ (∀ d ∈ ds, ¬ keyOf d ∈ known) ∧ (ds.map keyOf).Nodup
  | [], known, i => ⟨fun _ => ⟨fun d h => by simp at h, fun d h => by simp at h, List.nodup_nil⟩, fun _ => rfl⟩
  | d :: ds, known, i => by
    have e : firstC m (d :: ds) known i = if (!cmbB m d || decide (keyOf d ∈ known)) = true then some i else firstC m ds (known ++ [keyOf d]) (i + 1) := rfl
    rw [e]
    by_cases z : (!cmbB m d || decide (keyOf d ∈ known)) = true
    · rw [if_pos z]
      refine ⟨fun h => (by cases h), fun ⟨a, b, c⟩ => ?_⟩
      rw [a d List.mem_cons_self, decide_eq_false (b d List.mem_cons_self)] at z
      cases z
    · rw [if_neg z, first_none (ds := ds)]
      have z' : cmbB m d = true ∧ ¬ keyOf d ∈ known := by
        have zf : (!cmbB m d || decide (keyOf d ∈ known)) = false := by simpa using z
        rw [Bool.or_eq_false_iff] at zf
        exact ⟨by simpa using zf.1, of_decide_eq_false zf.2⟩
      rw [List.map_cons, List.nodup_cons]
      constructor
      · rintro ⟨a, b, c⟩
        refine ⟨fun x hx => ?_, fun x hx => ?_, fun h => ?_, c⟩
        · rcases List.mem_cons.mp hx with rfl | hx
          · exact z'.1
          · exact a x hx
        · rcases List.mem_cons.mp hx with rfl | hx
          · exact z'.2
          · exact fun h => b x hx (List.mem_append.mpr (.inl h))
        · obtain ⟨x, hx, ex⟩ := List.mem_map.mp h
          exact b x hx (List.mem_append.mpr (.inr (by rw [ex]; exact List.mem_singleton.mpr rfl)))
      · rintro ⟨a, b, c, dd⟩
        refine ⟨fun x hx => a x (List.mem_cons_of_mem _ hx), fun x hx h => ?_, dd⟩
        rcases List.mem_append.mp h with h | h
        · exact b x (List.mem_cons_of_mem _ hx) h
        · exact c (by rw [← List.mem_singleton.mp h]; exact List.mem_map.mpr ⟨x, hx, rfl⟩)
theorem fault_none {m : Int} {ds : List PyData} : faultC m (.list ds) = none ↔ ds.length ≤ 6 ∧ (∀ d ∈ ds, cmbB m d = true) ∧ (ds.map keyOf).Nodup := by
  by_cases h : ds.length ≤ 6
  · have e : faultC m (.list ds) = (firstC m ds [] 0).map some := if_pos h
    rw [e, Option.map_eq_none_iff, first_none]
    exact ⟨fun ⟨a, _, c⟩ => ⟨h, a, c⟩, fun ⟨_, a, c⟩ => ⟨a, fun d _ x => by simp at x, c⟩⟩
  · have e : faultC m (.list ds) = some none := if_neg h
    rw [e]
    exact ⟨fun x => (by cases x), fun x => absurd x.1 h⟩
/-! ### data that may be compared -/
def kOk : PyData → Bool
  | .tuple (.tuple ks :: r) => PyData.canLayAll0 (.tuple ks :: r) && decide (PyData.depthAll ks ≤ 50)
  | _ => true
def kOkL : PyData → Prop
  | .list ds => ∀ d ∈ ds, kOk d = true
  | _ => True
theorem lay_sub : ∀ {ds : List PyData} (p : PyData → Bool), PyData.canLayAll0 ds = true → PyData.canLayAll0 (ds.filter p) = true
  | [], _, h => h
  | d :: ds, p, h => by
    have h' : (PyData.canLay0 d && PyData.canLayAll0 ds) = true := h
    rw [Bool.and_eq_true] at h'
    rw [List.filter_cons]
    split
    · show (PyData.canLay0 d && PyData.canLayAll0 (ds.filter p)) = true
      rw [h'.1, lay_sub p h'.2]; rfl
    · exact lay_sub p h'.2
theorem depth_sub : ∀ {ds : List PyData} (p : PyData → Bool), PyData.depthAll (ds.filter p) ≤ PyData.depthAll ds
  | [], _ => Nat.le_refl _
  | d :: ds, p => by
    have ih := depth_sub (ds := ds) p
    have e : PyData.depthAll (d :: ds) = max d.depth (PyData.depthAll ds) := rfl
    rw [List.filter_cons, e]
    split
    · show max d.depth (PyData.depthAll (ds.filter p)) ≤ _
      omega
    · omega
mutual
theorem lay_nd : ∀ {d : PyData}, PyData.canLay0 d = true → d.hasDict = false
  | .none, _ => rfl
  | .bool _, _ => rfl
  | .int _, _ => rfl
  | .str _, _ => rfl
  | .list ds, h => layAll_nd (ds := ds) h
  | .tuple ds, h => layAll_nd (ds := ds) h
  | .dict _, h => by cases h
theorem layAll_nd : ∀ {ds : List PyData}, PyData.canLayAll0 ds = true → PyData.hasDictAll ds = false
  | [], _ => rfl
  | d :: ds, h => by
    have h' : (PyData.canLay0 d && PyData.canLayAll0 ds) = true := h
    rw [Bool.and_eq_true] at h'
    show (d.hasDict || PyData.hasDictAll ds) = false
    rw [lay_nd h'.1, layAll_nd h'.2]; rfl
end
theorem shaped_sub {ds : List PyData} (p : PyData → Bool) (h : PyData.canLayAll0 ds = true) (hd : PyData.depthAll ds ≤ 50) : SeqAt.shaped (.list (ds.filter p)) = true := by
  have := depth_sub (ds := ds) p
  show (PyData.canLayAll0 (ds.filter p) && decide (PyData.depthAll (ds.filter p) + 1 ≤ 64)) = true
  rw [lay_sub p h, decide_eq_true (by omega)]; rfl
/-! ### the same keys -/
theorem asc_one {as bs : List Int} (h1 : as.Pairwise (· < ·)) (h2 : bs.Pairwise (· < ·)) (h : ∀ x, x ∈ as ↔ x ∈ bs) : as = bs :=
  List.Perm.eq_of_pairwise (fun x y _ _ a b => absurd (Int.lt_trans a b) (Int.lt_irrefl _)) h1 h2 ((List.perm_ext_iff_of_nodup (h1.imp fun a b => by omega) (h2.imp fun a b => by omega)).mpr h)
theorem sub_len {A B : List (List Int)} (na : A.Nodup) (h : ∀ x ∈ A, x ∈ B) : A.length ≤ B.length := by
  induction A generalizing B with
  | nil => exact Nat.zero_le _
  | cons a A ih =>
    rw [List.nodup_cons] at na
    have ha := h a List.mem_cons_self
    have e := List.length_erase_of_mem ha
    have := ih (B := B.erase a) na.2 fun x hx => (List.mem_erase_of_ne fun z => na.1 (by rw [← z]; exact hx)).mpr (h x (List.mem_cons_of_mem _ hx))
    have hp := List.length_pos_of_mem ha
    rw [List.length_cons]; omega
theorem dup_short {B : List (List Int)} (h : ¬ B.Nodup) : ∃ C : List (List Int), C.length < B.length ∧ ∀ x ∈ B, x ∈ C := by
  induction B with
  | nil => exact absurd List.nodup_nil h
  | cons b B ih =>
    by_cases hb : b ∈ B
    · exact ⟨B, by simp, fun x hx => by
        rcases List.mem_cons.mp hx with rfl | hx
        · exact hb
        · exact hx⟩
    · have : ¬ B.Nodup := fun z => h (List.nodup_cons.mpr ⟨hb, z⟩)
      obtain ⟨C, h1, h2⟩ := ih this
      refine ⟨b :: C, by simp; omega, fun x hx => ?_⟩
      rcases List.mem_cons.mp hx with rfl | hx
      · exact List.mem_cons_self
      · exact List.mem_cons_of_mem _ (h2 x hx)
theorem set_len {A B : List (List Int)} (na : A.Nodup) (h1 : ∀ x ∈ A, x ∈ B) (h2 : ∀ x ∈ B, x ∈ A) : A.length = B.length ↔ B.Nodup := by
  constructor
  · intro e
    refine Classical.byContradiction fun z => ?_
    obtain ⟨C, c1, c2⟩ := dup_short z
    have := sub_len na fun x hx => c2 x (h1 x hx)
    omega
  · intro nb
    have := sub_len na h1
    have := sub_len nb h2
    omega
section
variable {P : Program} {w : World} {K : PySem.W.Frag} {mg : Str → Option Value} {base : Heap}
def spKey (K : PySem.W.Frag) : Sp := fun vs H Q _ => ∃ (v : V) (d : PyData) (m : Int), vs = [v, .int m] ∧ Dq K H v d ∧ Q (.bl (btwB 0 (m - 1) d)) H
theorem ok__law_is_key (bt : Bt mg) (a : At K mg "_law_is_key" s__law_is_key ["_law_one", "_law_many"]) : Cl P w K mg base 1 "_law_is_key" (spKey K) := by
  refine clG a sc__law_is_key (fun vs H Q E h => ?_) (fun f cdv A outer s H vs Q hg hr h => ?_)
  · obtain ⟨v, d, m, rfl, _⟩ := h
    rfl
  · obtain ⟨v, d, m, rfl, hd, q⟩ := h
    refine ⟨_, (pss_one (ps_ret (pe_and (pe_callB call_isi (by rfl) bt.m_isinstance (by decide +kernel) (pa_cons (pv 0) (pa_cons (pe_bltn (v := .ty "int") (by rfl) bt.m_int (by decide +kernel) rfl) pa_nil))) (pe_and (pe_not (pe_callB call_isi (by rfl) bt.m_isinstance (by decide +kernel) (pa_cons (pv 0) (pa_cons (pe_bltn (v := .ty "bool") (by rfl) bt.m_bool (by decide +kernel) rfl) pa_nil)))) (pe_one (pe_chain op_le op_lt pe_int (pv 0) (pv 1))))))), ?_⟩
    have ty := hd.ty
    cases d with
    | int i =>
      cases hd
      refine ⟨_, rfl, _, _, _, _, true, rfl, .ty "int", ty, kit_ty (show kitB "int" "int" = some true by decide +kernel), _, rfl, iteT ?_⟩
      refine ⟨_, rfl, _, _, _, _, false, rfl, .ty "bool", ty, kit_ty (show kitB "int" "bool" = some false by decide +kernel), _, rfl, _, rfl, iteT ?_⟩
      have q' : Q (.bl (decide (0 ≤ i) && decide (i ≤ m - 1))) H := q
      refine ⟨_, rfl, _, _, rfl, rfl, ?_⟩
      by_cases h1 : 0 ≤ i
      · refine ⟨true, congrArg V.bl (decide_eq_true h1), iteT ⟨_, rfl, _, _, rfl, rfl, ?_⟩⟩
        rw [decide_eq_true h1, Bool.true_and] at q'
        rw [show decide (i ≤ m - 1) = decide (i < m) from decide_eq_decide.mpr (by omega)] at q'
        exact q'
      · refine ⟨false, congrArg V.bl (decide_eq_false h1), iteF ?_⟩
        rw [decide_eq_false h1, Bool.false_and] at q'
        exact q'
    | bool b =>
      refine ⟨_, rfl, _, _, _, _, true, rfl, .ty "int", ty, kit_ty (show kitB "bool" "int" = some true by decide +kernel), _, rfl, iteT ?_⟩
      exact ⟨_, rfl, _, _, _, _, true, rfl, .ty "bool", ty, kit_ty (show kitB "bool" "bool" = some true by decide +kernel), _, rfl, _, rfl, iteF q⟩
    | none => exact ⟨_, rfl, _, _, _, _, false, rfl, .ty "int", ty, kit_ty (show kitB "NoneType" "int" = some false by decide +kernel), _, rfl, iteF q⟩
    | str => exact ⟨_, rfl, _, _, _, _, false, rfl, .ty "int", ty, kit_ty (show kitB "str" "int" = some false by decide +kernel), _, rfl, iteF q⟩
    | list => exact ⟨_, rfl, _, _, _, _, false, rfl, .ty "int", ty, kit_ty (show kitB "list" "int" = some false by decide +kernel), _, rfl, iteF q⟩
    | tuple => exact ⟨_, rfl, _, _, _, _, false, rfl, .ty "int", ty, kit_ty (show kitB "tuple" "int" = some false by decide +kernel), _, rfl, iteF q⟩
    | dict => exact ⟨_, rfl, _, _, _, _, false, rfl, .ty "int", ty, kit_ty (show kitB "dict" "int" = some false by decide +kernel), _, rfl, iteF q⟩
end
end K23

set_option Elab.async false
set_option linter.all false
set_option maxRecDepth 100000
set_option maxHeartbeats 8000000
namespace K23
open PySem PySem.Spec PyProof.Rows L2 Gd Rm La Cb
def sgV (xs : List Nat) : List V := xs.map fun x => V.str ⟨#[x]⟩
def sgD (xs : List Nat) : List PyData := xs.map fun x => PyData.str ⟨#[x]⟩
theorem sg_dp {K : PySem.W.Frag} {H : Hp} : ∀ xs : List Nat, DpAll K H (sgV xs) (sgD xs)
  | [] => .nil
  | x :: xs => .cons (.str _) (sg_dp xs)
theorem sg_lay : ∀ {xs : List Nat}, (∀ x ∈ xs, x < 0x110000) → PyData.canLayAll0 (sgD xs) = true ∧ PyData.depthAll (sgD xs) = 0
  | [], _ => ⟨rfl, rfl⟩
  | x :: xs, h => by
    obtain ⟨a, b⟩ := sg_lay fun y hy => h y (List.mem_cons_of_mem _ hy)
    have hs : PyData.strOk ⟨#[x]⟩ = true := by
      unfold PyData.strOk
      rw [← Array.all_toList, List.all_eq_true]
      intro y hy
      have : y = x := by simpa using hy
      rw [this]
      exact decide_eq_true (h x List.mem_cons_self)
    refine ⟨?_, ?_⟩
    · show (PyData.canLay0 (.str ⟨#[x]⟩) && PyData.canLayAll0 (sgD xs)) = true
      rw [a, show PyData.canLay0 (.str ⟨#[x]⟩) = PyData.strOk ⟨#[x]⟩ from rfl, hs]; rfl
    · show max 0 (PyData.depthAll (sgD xs)) = 0
      rw [b]; rfl
theorem sg_shaped {xs : List Nat} (h : ∀ x ∈ xs, x < 0x110000) : SeqAt.shaped (.list (sgD xs)) = true := by
  obtain ⟨a, b⟩ := sg_lay h
  show (PyData.canLayAll0 (sgD xs) && decide (PyData.depthAll (sgD xs) + 1 ≤ 64)) = true
  rw [a, b]; rfl
theorem sg_empty (xs : List Nat) : (sgD xs).isEmpty = xs.isEmpty := by cases xs <;> rfl
theorem kOk_code {ks : List PyData} {t : PyData} {c : Str} (h : kOk (.tuple [.tuple ks, t, .str c]) = true) : ∀ x ∈ c.cps.toList, x < 0x110000 := by
  have h' : (PyData.canLayAll0 [.tuple ks, t, .str c] && decide (PyData.depthAll ks ≤ 50)) = true := h
  rw [Bool.and_eq_true] at h'
  have h1 : (PyData.canLayAll0 ks && (PyData.canLay0 t && (PyData.strOk c && true))) = true := h'.1
  rw [Bool.and_eq_true, Bool.and_eq_true, Bool.and_eq_true] at h1
  have h2 := h1.2.2.1
  unfold PyData.strOk at h2
  rw [← Array.all_toList, List.all_eq_true] at h2
  exact fun x hx => of_decide_eq_true (h2 x hx)
theorem notIn23 {n : Nat} : (!inV (V.int (n : Int)) [V.int 2, V.int 3]) = !(decide (n = 2) || decide (n = 3)) := by
  rw [show [V.int 2, V.int 3] = ([2, 3] : List Int).map V.int from rfl, inv_int]
  congr 1
  rw [Bool.eq_iff_iff, decide_eq_true_eq, Bool.or_eq_true, decide_eq_true_eq, decide_eq_true_eq]
  simp only [List.mem_cons, List.mem_nil_iff, or_false]
  omega
theorem kOk_keys {ks : List PyData} {r : List PyData} (h : kOk (.tuple (.tuple ks :: r)) = true) : PyData.canLayAll0 ks = true ∧ PyData.depthAll ks ≤ 50 := by
  have h' : (PyData.canLayAll0 (.tuple ks :: r) && decide (PyData.depthAll ks ≤ 50)) = true := h
  rw [Bool.and_eq_true, decide_eq_true_eq] at h'
  have h1 : (PyData.canLayAll0 ks && PyData.canLayAll0 r) = true := h'.1
  rw [Bool.and_eq_true] at h1
  exact ⟨h1.1, h'.2⟩
theorem cmb_eq {m : Int} {k t c : PyData} : cmbB m (.tuple [k, t, c]) = (keysB m k && (btwB 1 1000000000 t && codeB c)) := rfl
theorem keys_eq {m : Int} {ds : List PyData} : keysB m (.tuple ds) = ((decide (ds.length = 2) || decide (ds.length = 3)) && ascB m ds) := rfl
section
variable {P : Program} {w : World} {K : PySem.W.Frag} {mg : Str → Option Value} {base : Heap}
def spDue (K : PySem.W.Frag) : Sp := fun vs H Q _ => ∃ (v : V) (d : PyData) (m : Int), vs = [v, .int m] ∧ Dq K H v d ∧ szB d = true ∧ kOkL d ∧ ∀ H', Same H H' → Q (.bl (decide (faultC m d = none))) H'
theorem ok__law_due (bt : Bt mg) (a : At K mg "_law_due" s__law_due ["_law_value", "_law_many"]) (c__law_is_key : Cl P w K mg base 1 "_law_is_key" (spKey K)) : Cl P w K mg base 2 "_law_due" (spDue K) := by
  refine clG a sc__law_due (fun vs H Q E h => ?_) (fun f cdv A outer s H vs Q hg hr h => ?_)
  · obtain ⟨v, d, m, rfl, _⟩ := h
    rfl
  · obtain ⟨v, d, m, rfl, hd, sz, hk0, q⟩ := h
    refine ⟨_, (pss_cons (ps_if (PW.pt (pw_or (pt_not (pt_val (pe_callB call_isi (by rfl) bt.m_isinstance (by decide +kernel) (pa_cons (pv 0) (pa_cons (pe_bltn (v := .ty "list") (by rfl) bt.m_list (by decide +kernel) rfl) pa_nil))))) (pw_or1 (pt_cmpR op_gt (pe_callB call_len_seq (by rfl) bt.m_len (by decide +kernel) (pa_cons (pv 0) pa_nil)) pe_int (nomark _))))) (pss_one (ps_ret pe_bl)) pss_nil)
      (pss_cons (ps_for PassesOwn.never rfl (pi_list (pv 0)) (pg_name (i := 2) sc__law_due.nd rfl (Or.inl rfl)) (pss_cons (ps_if (PW.pt (pw_or (pt_not (pt_val (pe_callB call_isi (by rfl) bt.m_isinstance (by decide +kernel) (pa_cons (pv 2) (pa_cons (pe_bltn (v := .ty "tuple") (by rfl) bt.m_tuple (by decide +kernel) rfl) pa_nil))))) (pw_or (pt_cmpR op_ne (pe_callB call_len_seq (by rfl) bt.m_len (by decide +kernel) (pa_cons (pv 2) pa_nil)) pe_int (nomark _)) (pw_or1 (pt_not (pt_val (pe_callB call_isi (by rfl) bt.m_isinstance (by decide +kernel) (pa_cons (pe_ix ix_tup (pv 2) pe_int (fun _ _ => rfl)) (pa_cons (pe_bltn (v := .ty "tuple") (by rfl) bt.m_tuple (by decide +kernel) rfl) pa_nil))))))))) (pss_one (ps_ret pe_bl)) pss_nil)
      (pss_cons (ps_asg (pv 2) (pg_tup rfl (pgs_cons (pg_name (i := 3) sc__law_due.nd rfl (Or.inl rfl)) (pgs_cons (pg_name (i := 4) sc__law_due.nd rfl (Or.inl rfl)) (pgs_cons (pg_name (i := 5) sc__law_due.nd rfl (Or.inl rfl)) pgs_nil)))))
      (pss_cons (ps_if (PW.pt (pw_or (pt_cmpR op_notIn_seq (pe_callB call_len_seq (by rfl) bt.m_len (by decide +kernel) (pa_cons (pv 3) pa_nil)) (pe_lst (pa_cons pe_int (pa_cons pe_int pa_nil))) (by rfl)) (pw_or1 (pt_cmpR (op_neD hr.units) (pe_lc (own := [("_law_one", 7)]) (g := (gName 7)) (by rfl) sc__law_due.nd (pi_tup (pv 3)) (blkOk_by (N := n__law_due) (sc := defScope s__law_due) (by decide +kernel)) (fun _ _ _ _ _ => (pg_name (i := 7) sc__law_due.nd rfl (Or.inl rfl))) (fun _ _ _ _ _ => (pts_one (pt_not (pt_val (pe_cl c__law_is_key hg hr (by decide) (by rfl) (pa_cons (pv 7) (pa_cons (pv 1) pa_nil))))))) (fun _ _ _ _ _ => (pv 7))) (pe_lst pa_nil) (nomark _))))) (pss_one (ps_ret pe_bl)) pss_nil)
      (pss_cons (ps_if (PW.pt (pw_or (pt_cmpR (op_neD hr.units) (pe_callTy call_list_of (by rfl) bt.m_list (by decide +kernel) (pa_cons (pv 3) pa_nil)) (pe_callB (cr_sortedSet rfl) (by rfl) bt.m_sorted (by decide +kernel) (pa_cons (pe_callTy (cr_setU rfl) (by rfl) bt.m_set (by decide +kernel) (pa_cons (pv 3) pa_nil)) pa_nil)) (nomark _)) (pw_or (pt_not (pt_val (pe_callB call_isi (by rfl) bt.m_isinstance (by decide +kernel) (pa_cons (pv 5) (pa_cons (pe_bltn (v := .ty "str") (by rfl) bt.m_str (by decide +kernel) rfl) pa_nil))))) (pw_or1 (pt_not (pt_chain op_le op_le pe_int (pe_callB call_len_str (by rfl) bt.m_len (by decide +kernel) (pa_cons (pv 5) pa_nil)) pe_int)))))) (pss_one (ps_ret pe_bl)) pss_nil)
      (pss_cons (ps_if (PW.pt (pw_or (pt_not (pt_val (pe_cl c__law_is_key hg hr (by decide) (by rfl) (pa_cons (pv 4) (pa_cons (pe_op op_add (pe_op op_powW pe_int pe_int) pe_int) pa_nil))))) (pw_or1 (pt_cmpR op_eq (pv 4) pe_int (nomark _))))) (pss_one (ps_ret pe_bl)) pss_nil)
      (pss_one (ps_if (pt_cmpR (op_neD hr.units) (pe_lc (own := [("_law_sign", 6)]) (g := (gName 6)) (by rfl) sc__law_due.nd (pi_str (pv 5)) (blkOk_by (N := n__law_due) (sc := defScope s__law_due) (by decide +kernel)) (fun _ _ _ _ _ => (pg_name (i := 6) sc__law_due.nd rfl (Or.inl rfl))) (fun _ _ _ _ _ => (pts_one (pt_cmpR op_notIn_sign (pv 6) pe_str rfl))) (fun _ _ _ _ _ => (pv 6))) (pe_lst pa_nil) (nomark _)) (pss_one (ps_ret pe_bl)) pss_nil))))))))
      (pss_one (ps_ret (pe_cmpR op_eq (pe_callB call_lenST (by rfl) bt.m_len (by decide +kernel) (pa_cons (pe_callTy (cr_setOfT rfl hr.units) (by rfl) bt.m_set (by decide +kernel) (pa_cons (pe_lc (own := [("_law_combo", 2)]) (g := (gName 2)) (by rfl) sc__law_due.nd (pi_list (pv 0)) (blkOk_by (N := n__law_due) (sc := defScope s__law_due) (by decide +kernel)) (fun _ _ _ _ _ => (pg_name (i := 2) sc__law_due.nd rfl (Or.inl rfl))) (fun _ _ _ _ _ => pts_nil) (fun _ _ _ _ _ => (pe_ix (r := rIxT K) ix_tup (pv 2) pe_int (fun _ _ => rfl)))) pa_nil)) pa_nil)) (pe_callB call_len_seq (by rfl) bt.m_len (by decide +kernel) (pa_cons (pv 0) pa_nil)) (nomark _)))))), ?_⟩
    by_cases hk : kindS d = "list"
    · obtain ⟨c, xs, ds, rfl, rfl, hs, hD⟩ := hd.lstE hk
      have hl : xs.length = ds.length := hD.length
      have hkk : ∀ d ∈ ds, kOk d = true := hk0
      refine ⟨_, rfl, _, _, _, _, true, rfl, .ty "list", hd.ty, kit_ty (kit_lstT hk), _, rfl, iteF ?_⟩
      refine ⟨_, rfl, c, _, rfl, .inl hs, _, _, rfl, rfl, ?_⟩
      by_cases h6 : ds.length ≤ 6
      · refine ⟨false, congrArg V.bl (decide_eq_false (by omega)), iteF ?_⟩
        refine ⟨_, rfl, c, rfl, ⟨_, hs⟩, for_it (walk_list (xs := xs)) (fun i σ H' => ∃ y2 y3 y4 y5 y6 y7, σ = [some (.ref c), some (.int m), y2, y3, y4, y5, y6, y7] ∧ Same H H' ∧ ∀ d ∈ ds.take i, cmbB m d = true)
          ⟨_, _, _, _, _, _, rfl, Same.refl _, fun d h => by simp at h⟩ (fun i σ H' _ p => by obtain ⟨_, _, _, _, _, _, _, s, _⟩ := p; exact SqL.same_ hs s) (fun i x σ H1 H2 hi p y => ?_) (fun σ H1 p => ?_)⟩
        · obtain ⟨y2, y3, y4, y5, y6, y7, rfl, s1, hgood⟩ := p
          obtain ⟨rfl, e2⟩ := y
          obtain ⟨di, hdi, hdq⟩ := hD.at_ e2
          have hmem := List.mem_of_getElem? hdi
          have szi : szB di = true := szAll_mem sz di hmem
          have hki := hkk di hmem
          have bad : ∀ H', Same H H' → cmbB m di = false → Q (.bl false) H' := fun H' s z => by
            have q' := q H' s
            rw [decide_eq_false fun e => by rw [(fault_none.mp e).2.1 di hmem] at z; cases z] at q'
            exact q'
          have hd1 := hdq.same s1
          by_cases kt : kindS di = "tuple"
          · obtain ⟨b, ys, es, rfl, rfl, hsb, hDb⟩ := hd1.tupE kt
            have hl2 : ys.length = es.length := hDb.length
            refine ⟨_, rfl, _, _, _, _, true, rfl, .ty "tuple", hd1.ty, kit_ty (kit_tupT kt), _, rfl, iteF ?_⟩
            refine ⟨_, rfl, b, _, rfl, .inr hsb, rfl, ?_⟩
            by_cases h3 : es.length = 3
            · refine ⟨false, congrArg V.bl (show (!decide (V.int (ys.length : Nat) = V.int 3)) = false by rw [decide_eq_true (by rw [hl2, h3]; rfl)]; rfl), iteF ?_⟩
              obtain ⟨k, t, cc, vk, vt, vc, rfl, rfl, hdk, hdt, hdc⟩ := dq_three hDb h3
              refine ⟨_, rfl, b, _, _, _, rfl, rfl, hsb, atI_nat (j := 0) rfl, ?_⟩
              by_cases kk : kindS k = "tuple"
              · refine ⟨_, _, _, _, true, rfl, .ty "tuple", hdk.ty, kit_ty (kit_tupT kk), _, rfl, iteF ?_⟩
                refine ⟨_, rfl, b, _, rfl, hsb, rfl, _, _, rfl, _, _, rfl, _, _, rfl, rfl, ?_⟩
                obtain ⟨kb, kxs, kds, rfl, rfl, hsk, hDk⟩ := hdk.tupE kk
                have hlk : kxs.length = kds.length := hDk.length
                obtain ⟨lay, dpt⟩ := kOk_keys hki
                refine ⟨_, rfl, kb, _, rfl, .inr hsk, (by show 2 ≤ sizeLine; decide), fun p np => ?_⟩
                have s2 := same_upd (o := .lst [V.int 2, V.int 3]) np
                have hp2 := upd_same (H := H2) (a := p) (o := .lst [V.int 2, V.int 3])
                generalize upd H2 p (HO.lst [V.int 2, V.int 3]) = H3 at s2 hp2 ⊢
                refine ⟨p, _, rfl, .inl (SqL.of hp2), rfl, rfl, ?_⟩
                by_cases h23 : kds.length = 2 ∨ kds.length = 3
                · refine ⟨false, congrArg V.bl (notIn23.trans (by rw [hlk]; rcases h23 with h | h <;> rw [h] <;> rfl)), iteF ?_⟩
                  have s3 := s1.trans s2
                  have hk3 : kds.length ≤ 3 := by omega
                  refine ⟨_, rfl, kb, rfl, ⟨_, SqT.same_ hsk s2⟩, fun M nM => lc_it (walk_tup (xs := kxs)) (fun i H' => Same H3 H' ∧ ∃ fxs, H' M = some (.lst fxs) ∧ DqAll K H3 fxs ((kds.take i).filter fun d => !btwB 0 (m - 1) d) ∧ fxs.length ≤ i)
                    ⟨same_upd nM, [], upd_same, .nil, Nat.le_refl _⟩ (fun i H' _ p => SqT.same_ (SqT.same_ hsk s2) p.1) (fun j x H4 H5 hj p y => ?_) (fun H4 p => ?_)⟩
                  · obtain ⟨s4, fxs, hM, hDf, hfl⟩ := p
                    obtain ⟨rfl, e3⟩ := y
                    obtain ⟨dj, hdj, hdjq⟩ := (hDk.same s2).at_ e3
                    refine ⟨rfl, _, rfl, _, rfl, x, dj, m, rfl, hdjq.same s4, ?_⟩
                    cases hbj : btwB 0 (m - 1) dj with
                    | true =>
                      refine ⟨_, rfl, iteF ⟨s4, fxs, hM, ?_, by omega⟩⟩
                      rw [List.take_add_one, hdj, List.filter_append, show (some dj).toList.filter (fun d => !btwB 0 (m - 1) d) = [] by simp [hbj], List.append_nil]
                      exact hDf
                    | false =>
                      refine ⟨_, rfl, iteT ⟨_, rfl, _, hM, small1000 (by omega), Same.off s4 nM off_upd, fxs ++ [x], upd_same, ?_, by rw [List.length_append]; simp; omega⟩⟩
                      rw [List.take_add_one, hdj, List.filter_append, show (some dj).toList.filter (fun d => !btwB 0 (m - 1) d) = [dj] by simp [hbj]]
                      exact DqAll.append hDf (.cons hdjq .nil)
                  · obtain ⟨s4, fxs, hM, hDf, hfl⟩ := p
                    rw [List.take_of_length_le (by omega)] at hDf
                    refine ⟨Nat.zero_le _, fun U nU => ?_⟩
                    have s5 := same_upd (o := .lst []) nU
                    have hU := upd_same (H := H4) (a := U) (o := .lst [])
                    generalize upd H4 U (HO.lst []) = H5 at s5 hU ⊢
                    refine ⟨.list (kds.filter fun d => !btwB 0 (m - 1) d), .list [], (.lst (SqL.same_ (SqL.of hM) s5) ((hDf.same (s4.trans s5)).p (layAll_nd (lay_sub _ lay)))), .lst (SqL.of hU) .nil, shaped_sub _ lay dpt, rfl, ?_⟩
                    by_cases hall : kds.all (btwB 0 (m - 1)) = true
                    · have e0 : (kds.filter fun d => !btwB 0 (m - 1) d) = [] := by
                        rw [List.filter_eq_nil_iff]
                        intro d hd
                        rw [List.all_eq_true] at hall
                        rw [hall d hd]; decide
                      refine ⟨false, congrArg V.bl (by rw [e0]; rfl), iteF ?_⟩
                      obtain ⟨ekd, hkr⟩ := all_ints hall
                      generalize hks : intsOf kds = ks at ekd hkr
                      subst ekd
                      have ekx := hDk.intsV
                      subst ekx
                      have s15 := (s3.trans s4).trans s5
                      have s25 := (s2.trans s4).trans s5
                      have hlen : ks.length = 2 ∨ ks.length = 3 := by rw [List.length_map] at h23; exact h23
                      have badk : cmbB m (.tuple [.tuple (ks.map PyData.int), t, cc]) = (decide (ks.Pairwise (· < ·)) && (btwB 1 1000000000 t && codeB cc)) := by
                        rw [cmb_eq, keys_eq]
                        unfold ascB
                        rw [hall, intsOf_map, List.length_map]
                        rcases hlen with h | h <;> rw [h] <;> rfl
                      refine ⟨_, rfl, kb, _, rfl, .inr (SqT.same_ hsk s25), fun L nL => ?_⟩
                      have s6 := same_upd (o := .lst (ks.map V.int)) nL
                      have hL := upd_same (H := H5) (a := L) (o := .lst (ks.map V.int))
                      generalize upd H5 L (HO.lst (ks.map V.int)) = H6 at s6 hL ⊢
                      refine ⟨_, rfl, kb, ks, rfl, SqT.same_ hsk (s25.trans s6), by omega, fun S cS nS hcS => ?_⟩
                      have s7 := same_upd (o := SetO w S (fun j => decide (j ∈ ks)) cS) nS
                      refine ⟨S, _, cS, rfl, upd_same, by omega, fun ns q2 hpw hmem hnl nq2 => ?_⟩
                      have s8 := same_upd (o := .lst (ns.map V.int)) nq2
                      have hq2 := upd_same (H := upd H6 S (SetO w S (fun j => decide (j ∈ ks)) cS)) (a := q2) (o := .lst (ns.map V.int))
                      refine (fun (G : ∀ H8 : Hp, Same H6 H8 → H8 q2 = some (.lst (ns.map V.int)) → _) => G _ (s7.trans s8) hq2) (fun H8 s68 hq2 => ?_)
                      have s18 := (s15.trans s6).trans s68
                      have s28 := (s25.trans s6).trans s68
                      refine ⟨_, _, .lst (SqL.of (s68 _ _ hL)) (dpInts ks), .lst (SqL.of hq2) (dpInts ns), shaped_ints ks, shaped_ints ns, ?_⟩
                      rw [eqv_intL]
                      by_cases hasc : ks.Pairwise (· < ·)
                      · have ens : ks = ns := asc_one hasc hpw fun x => ((hmem x).trans (by rw [decide_eq_true_eq])).symm
                        refine ⟨false, congrArg V.bl (by rw [decide_eq_true ens]; rfl), iteF ?_⟩
                        have hdc8 := hdc.same s28
                        have hdt8 := hdt.same s28
                        rw [decide_eq_true hasc, Bool.true_and] at badk
                        by_cases kc : kindS cc = "str"
                        · obtain ⟨cs, rfl, rfl⟩ := hdc8.strE kc
                          refine ⟨_, rfl, _, _, _, _, true, rfl, .ty "str", hdc8.ty, kit_ty (kit_strT kc), _, rfl, iteF ?_⟩
                          have szc : cs.length ≤ 1000 := of_decide_eq_true (szAll_mem szi (.str cs) (by simp))
                          have ec1 : (cs.length : Int) = (cs.cps.size : Int) := rfl
                          have ec0 : cs.length = cs.cps.size := rfl
                          have badc : ¬ CodeOk cs → cmbB m (.tuple [.tuple (ks.map PyData.int), t, .str cs]) = false := fun z => by
                            rw [badk, show codeB (.str cs) = false from decide_eq_false z, Bool.and_false]
                          refine ⟨_, rfl, cs, rfl, (by rw [sizeLine_eq]; omega), _, _, rfl, rfl, ?_⟩
                          by_cases c1 : 1 ≤ cs.cps.size
                          · refine ⟨true, congrArg V.bl (decide_eq_true (by omega)), iteT ⟨_, _, rfl, rfl, ?_⟩⟩
                            by_cases c8 : cs.cps.size ≤ 8
                            · refine ⟨true, congrArg V.bl (decide_eq_true (by omega)), iteF ?_⟩
                              refine ⟨_, rfl, _, _, rfl, rfl, powW (n := 40) (k := 9) (by decide) (by decide), _, _, rfl, rfl, vt, t, 1000000001, rfl, hdt8, ?_⟩
                              cases ht0 : btwB 0 (1000000001 - 1) t with
                              | true =>
                                refine ⟨_, rfl, iteF ?_⟩
                                cases t with
                                | int i =>
                                  cases hdt8
                                  have ht1 : (decide (0 ≤ i) && decide (i ≤ 1000000001 - 1)) = true := ht0
                                  rw [Bool.and_eq_true, decide_eq_true_eq, decide_eq_true_eq] at ht1
                                  by_cases i0 : i = 0
                                  · refine ⟨_, rfl, rfl, true, congrArg V.bl (by rw [i0]; rfl), iteT (bad _ s18 ?_)⟩
                                    rw [badk, i0]; rfl
                                  · refine ⟨_, rfl, rfl, false, congrArg V.bl (decide_eq_false fun z => i0 (V.int.inj z)), iteF ?_⟩
                                    have tok : btwB 1 1000000000 (.int i) = true := by
                                      show (decide (1 ≤ i) && decide (i ≤ 1000000000)) = true
                                      rw [decide_eq_true (by omega), decide_eq_true (by omega)]; rfl
                                    rw [tok, Bool.true_and] at badk
                                    refine ⟨_, rfl, cs, rfl, fun M2 nM2 => lc_it (walk_str (z := cs)) (fun i H' => H' = upd H8 M2 (.lst (sgV ((cs.cps.toList.take i).filter fun x => !decide (x ∈ signs.cps.toList))))) rfl (fun _ _ _ _ => True.intro) (fun j x H9 HA hj p y => ?_) (fun H9 p => ?_)⟩
                                    · obtain ⟨rfl, dd, hdd, rfl⟩ := y
                                      subst p
                                      have hdd' : cs.cps.toList[j]? = some dd := by rw [Array.getElem?_toList]; exact hdd
                                      refine ⟨rfl, _, rfl, dd, signs, rfl, rfl, ?_⟩
                                      cases hin : (!decide (dd ∈ signs.cps.toList)) with
                                      | true =>
                                        refine ⟨_, rfl, iteT ⟨_, rfl, _, upd_same, ?_, ?_⟩⟩
                                        · unfold sgV
                                          rw [List.length_map]
                                          have := List.length_filter_le (fun x => !decide (x ∈ signs.cps.toList)) (cs.cps.toList.take j)
                                          rw [List.length_take] at this
                                          exact small1000 (by omega)
                                        · show upd (upd H8 M2 _) M2 (.lst (_ ++ [V.str ⟨#[dd]⟩])) = _
                                          rw [upd_upd, List.take_add_one, hdd', List.filter_append, show (some dd).toList.filter (fun x => !decide (x ∈ signs.cps.toList)) = [dd] by simp only [Option.toList]; rw [List.filter_cons, hin]; rfl]
                                          unfold sgV
                                          rw [List.map_append]; rfl
                                      | false =>
                                        refine ⟨_, rfl, iteF ?_⟩
                                        rw [List.take_add_one, hdd', List.filter_append, show (some dd).toList.filter (fun x => !decide (x ∈ signs.cps.toList)) = [] by simp only [Option.toList]; rw [List.filter_cons, hin]; rfl, List.append_nil]
                                    · subst p
                                      rw [List.take_of_length_le (by rw [Array.length_toList]; exact Nat.le_refl _)]
                                      have hM2 := upd_same (H := H8) (a := M2) (o := .lst (sgV (cs.cps.toList.filter fun x => !decide (x ∈ signs.cps.toList))))
                                      have s9 := same_upd (o := .lst (sgV (cs.cps.toList.filter fun x => !decide (x ∈ signs.cps.toList)))) nM2
                                      refine ⟨Nat.zero_le _, fun U2 nU2 => ?_⟩
                                      have s10 := same_upd (o := .lst []) nU2
                                      have s1A := (s18.trans s9).trans s10
                                      refine ⟨.list (sgD (cs.cps.toList.filter fun x => !decide (x ∈ signs.cps.toList))), .list [], .lst (SqL.same_ (SqL.of hM2) s10) (sg_dp _), .lst (SqL.of upd_same) .nil, sg_shaped fun x hx => kOk_code hki x (List.mem_filter.mp hx).1, rfl, ?_⟩
                                      rw [eqv_nil, sg_empty]
                                      by_cases hcs : ∀ x ∈ cs.cps.toList, x ∈ signs.cps.toList
                                      · have e0 : (cs.cps.toList.filter fun x => !decide (x ∈ signs.cps.toList)) = [] := by
                                          rw [List.filter_eq_nil_iff]
                                          intro x hx
                                          rw [decide_eq_true (hcs x hx)]; decide
                                        refine ⟨false, congrArg V.bl (by rw [e0]; rfl), iteF ⟨_, _, _, _, _, _, rfl, s1A, fun d hd => ?_⟩⟩
                                        rw [List.take_add_one, hdi] at hd
                                        rcases List.mem_append.mp hd with hd | hd
                                        · exact hgood d hd
                                        · rw [show d = _ from List.mem_singleton.mp hd, badk]
                                          exact decide_eq_true ⟨c1, c8, hcs⟩
                                      · have ne : (cs.cps.toList.filter fun x => !decide (x ∈ signs.cps.toList)).isEmpty = false := by
                                          rw [List.isEmpty_eq_false_iff, ne_eq, List.filter_eq_nil_iff]
                                          intro z
                                          refine hcs fun x hx => ?_
                                          have := z x hx
                                          simpa using this
                                        exact ⟨true, congrArg V.bl (by rw [ne]; rfl), iteT (bad _ s1A (badc fun z => hcs z.2.2))⟩
                                | _ => cases ht0
                              | false =>
                                refine ⟨_, rfl, iteT (bad _ s18 ?_)⟩
                                rw [badk]
                                cases t with
                                | int i =>
                                  have ht1 : (decide (0 ≤ i) && decide (i ≤ 1000000001 - 1)) = false := ht0
                                  have : btwB 1 1000000000 (.int i) = false := by
                                    show (decide (1 ≤ i) && decide (i ≤ 1000000000)) = false
                                    rw [Bool.and_eq_false_iff, decide_eq_false_iff_not, decide_eq_false_iff_not] at ht1 ⊢
                                    omega
                                  rw [this]; rfl
                                | _ => rfl
                            · exact ⟨false, congrArg V.bl (decide_eq_false (by omega)), iteT (bad _ s18 (badc fun z => c8 z.2.1))⟩
                          · exact ⟨false, congrArg V.bl (decide_eq_false (by omega)), iteF ⟨_, rfl, iteT (bad _ s18 (badc fun z => c1 z.1))⟩⟩
                        · refine ⟨_, rfl, _, _, _, _, false, rfl, .ty "str", hdc8.ty, kit_ty (kit_strF kc), _, rfl, iteT (bad _ s18 ?_)⟩
                          rw [badk]
                          cases cc with
                          | str c => exact absurd rfl kc
                          | _ => exact Bool.and_false _
                      · refine ⟨true, congrArg V.bl (by rw [decide_eq_false fun z => hasc (by rw [z]; exact hpw)]; rfl), iteT (bad _ s18 ?_)⟩
                        rw [badk, decide_eq_false hasc]; rfl
                    · have ne : (kds.filter fun d => !btwB 0 (m - 1) d).isEmpty = false := by
                        rw [List.isEmpty_eq_false_iff, ne_eq, List.filter_eq_nil_iff]
                        intro z
                        refine hall (List.all_eq_true.mpr fun d hd => ?_)
                        have := z d hd
                        simpa using this
                      refine ⟨true, congrArg V.bl (by rw [eqv_nil, ne]; rfl), iteT (bad _ ((s3.trans s4).trans s5) ?_)⟩
                      rw [cmb_eq, keys_eq]
                      unfold ascB
                      rw [show kds.all (btwB 0 (m - 1)) = false by simpa using hall, Bool.false_and, Bool.and_false]; rfl
                · refine ⟨true, congrArg V.bl (notIn23.trans (by rw [hlk, decide_eq_false fun z => h23 (.inl z), decide_eq_false fun z => h23 (.inr z)]; rfl)), iteT (bad _ (s1.trans s2) ?_)⟩
                  rw [cmb_eq, keys_eq, decide_eq_false fun z => h23 (.inl z), decide_eq_false fun z => h23 (.inr z)]; rfl
              · refine ⟨_, _, _, _, false, rfl, .ty "tuple", hdk.ty, kit_ty (kit_tupF kk), _, rfl, iteT (bad _ s1 ?_)⟩
                rw [cmb_eq]
                cases k with
                | tuple ks => exact absurd rfl kk
                | _ => rfl
            · exact ⟨true, congrArg V.bl (show (!decide (V.int (ys.length : Nat) = V.int 3)) = true by rw [decide_eq_false fun z => h3 (by have := V.int.inj z; omega)]; rfl), iteT (bad _ s1 (cmb_len h3))⟩
          · refine ⟨_, rfl, _, _, _, _, false, rfl, .ty "tuple", hd1.ty, kit_ty (kit_tupF kt), _, rfl, iteT (bad _ s1 ?_)⟩
            cases di with
            | tuple ds => exact absurd rfl kt
            | _ => rfl
        · obtain ⟨y2, y3, y4, y5, y6, y7, rfl, s1, hgood⟩ := p
          rw [List.take_of_length_le (by omega)] at hgood
          refine ⟨_, rfl, c, rfl, ⟨_, SqL.same_ hs s1⟩, fun M nM => lc_it (walk_list (xs := xs)) (fun i H' => Same H1 H' ∧ ∃ prs : List (Addr × List Int), H' M = some (.lst (prs.map fun p => V.ref p.1)) ∧ (∀ p ∈ prs, SqT K H1 p.1 (p.2.map V.int)) ∧ prs.map (·.2) = (ds.take i).map keyOf)
            ⟨same_upd nM, [], upd_same, (fun p h => by simp at h), rfl⟩ (fun i H' _ p => SqL.same_ hs (s1.trans p.1)) (fun i x H2 H3 hi p y => ?_) (fun H2 p => ?_)⟩
          · obtain ⟨s2, prs, hM, hpr, hpk⟩ := p
            obtain ⟨rfl, e2⟩ := y
            obtain ⟨di, hdi, hdq⟩ := hD.at_ e2
            obtain ⟨ks, t, cc, rfl, eks⟩ := cmb_key (hgood di (List.mem_of_getElem? hdi))
            obtain ⟨b, ys, es, rfl, ee, hsb, hDb⟩ := (hdq.same s1).tupE rfl
            cases ee
            cases hDb with
            | @cons vk _ _ _ hvk hrest =>
              obtain ⟨kb, kxs, kds, rfl, ek, hsk, hDk⟩ := hvk.tupE rfl
              cases ek
              have ekx := hDk.intsV
              subst ekx
              have hpl : prs.length ≤ i := by
                have e := congrArg List.length hpk
                rw [List.length_map, List.length_map, List.length_take] at e
                omega
              refine ⟨rfl, _, rfl, b, _, _, _, rfl, rfl, SqT.same_ hsb s2, atI_nat (j := 0) rfl, _, hM, ?_, Same.off s2 nM off_upd, prs ++ [(kb, ks)], ?_, fun p hp => ?_, ?_⟩
              · rw [List.length_map]; exact small1000 (by omega)
              · rw [upd_same, List.map_append]; rfl
              · rcases List.mem_append.mp hp with hp | hp
                · exact hpr p hp
                · rw [List.mem_singleton.mp hp]; exact hsk
              · rw [List.take_add_one, hdi, List.map_append, List.map_append, hpk]
                show _ ++ [ks] = _ ++ [keyOf _]
                rw [eks]
          · obtain ⟨s2, prs, hM, hpr, hpk⟩ := p
            rw [List.take_of_length_le (by omega)] at hpk
            have hpl : prs.length = ds.length := by
              have e := congrArg List.length hpk
              rw [List.length_map, List.length_map] at e
              exact e
            refine ⟨M, prs, rfl, SqL.of hM, fun p hp => SqT.same_ (hpr p hp) s2, by omega, fun aS L nS hsub hsup => ?_⟩
            refine ⟨aS, L, rfl, upd_same, fun nd => ?_⟩
            have s3 := (s1.trans s2).trans (same_upd (o := SetTO P w aS L) nS)
            refine ⟨_, rfl, c, _, rfl, .inl (SqL.same_ hs s3), rfl, ?_⟩
            have q' := q _ s3
            have e : decide (faultC m (.list ds) = none) = decide (V.int (L.length : Nat) = V.int (xs.length : Nat)) := by
              rw [Bool.eq_iff_iff, decide_eq_true_eq, decide_eq_true_eq, fault_none]
              have sl := set_len (A := L.map (·.2)) (B := ds.map keyOf) nd (fun x hx => by
                obtain ⟨p, hp, rfl⟩ := List.mem_map.mp hx
                rw [← hpk]
                exact List.mem_map.mpr ⟨p, hsub p hp, rfl⟩) (fun x hx => by
                rw [← hpk] at hx
                obtain ⟨p, hp, rfl⟩ := List.mem_map.mp hx
                exact hsup p hp)
              rw [List.length_map, List.length_map] at sl
              constructor
              · rintro ⟨_, _, h⟩
                rw [sl.mpr h, hl]
              · intro h
                have := V.int.inj h
                exact ⟨h6, hgood, sl.mp (by omega)⟩
            rw [e] at q'
            exact q'
      · refine ⟨true, congrArg V.bl (decide_eq_true (by omega)), iteT ?_⟩
        have q' := q _ (Same.refl _)
        rw [decide_eq_false fun e => h6 (fault_none.mp e).1] at q'
        exact q'
    · refine ⟨_, rfl, _, _, _, _, false, rfl, .ty "list", hd.ty, kit_ty (kit_lstF hk), _, rfl, iteT ?_⟩
      have e : faultC m d = some none := by
        cases d with
        | list ds => exact absurd rfl hk
        | _ => rfl
      have q' := q _ (Same.refl _)
      rw [decide_eq_false (by rw [e]; intro z; cases z)] at q'
      exact q'
end
end K23

set_option Elab.async false
set_option linter.all false
set_option maxRecDepth 100000
set_option maxHeartbeats 8000000
namespace K23
open PySem PySem.Spec PyProof.Rows L2 Gd Rm La Cb
/-! ### what the law makes up -/
/-- plain data of a size -/
def GN (K : PySem.W.Frag) (H : Hp) (L n : Nat) (v : V) : Prop := ∃ d, Dq K H v d ∧ Fit L n d ∧ szB d = true ∧ PyData.canLay0 d = true
/-- what may stand in a list of combos -/
def GI (K : PySem.W.Frag) (H : Hp) (v : V) : Prop := ∃ d, Dq K H v d ∧ Fit 15000 3 d ∧ szB d = true ∧ kOk d = true
/-- what may be judged -/
def GV (K : PySem.W.Frag) (H : Hp) (v : V) : Prop := ∃ d, Dq K H v d ∧ Fit 1000000 5 d ∧ szB d = true ∧ kOkL d
def GNs (K : PySem.W.Frag) (H : Hp) (L n : Nat) (vs : List V) : Prop := ∀ v ∈ vs, GN K H L n v
def GIs (K : PySem.W.Frag) (H : Hp) (vs : List V) : Prop := ∀ v ∈ vs, GI K H v
def GVs (K : PySem.W.Frag) (H : Hp) (vs : List V) : Prop := ∀ v ∈ vs, GV K H v
section
variable {K : PySem.W.Frag} {H H' : Hp} {L n L' n' : Nat} {v : V} {vs ws : List V}
theorem GN.same (g : GN K H L n v) (s : Same H H') : GN K H' L n v := by
  obtain ⟨d, a, b⟩ := g
  exact ⟨d, a.same s, b⟩
theorem GI.same (g : GI K H v) (s : Same H H') : GI K H' v := by
  obtain ⟨d, a, b⟩ := g
  exact ⟨d, a.same s, b⟩
theorem GV.same (g : GV K H v) (s : Same H H') : GV K H' v := by
  obtain ⟨d, a, b⟩ := g
  exact ⟨d, a.same s, b⟩
theorem GNs.same (g : GNs K H L n vs) (s : Same H H') : GNs K H' L n vs := fun v h => (g v h).same s
theorem GIs.same (g : GIs K H vs) (s : Same H H') : GIs K H' vs := fun v h => (g v h).same s
theorem GVs.same (g : GVs K H vs) (s : Same H H') : GVs K H' vs := fun v h => (g v h).same s
theorem GNs.nil : GNs K H L n [] := fun v h => by simp at h
theorem GIs.nil : GIs K H [] := fun v h => by simp at h
theorem GVs.nil : GVs K H [] := fun v h => by simp at h
theorem GNs.cons (a : GN K H L n v) (b : GNs K H L n vs) : GNs K H L n (v :: vs) := fun x h => by
  rcases List.mem_cons.mp h with rfl | h
  · exact a
  · exact b x h
theorem GIs.cons (a : GI K H v) (b : GIs K H vs) : GIs K H (v :: vs) := fun x h => by
  rcases List.mem_cons.mp h with rfl | h
  · exact a
  · exact b x h
theorem GVs.cons (a : GV K H v) (b : GVs K H vs) : GVs K H (v :: vs) := fun x h => by
  rcases List.mem_cons.mp h with rfl | h
  · exact a
  · exact b x h
theorem GIs.app (a : GIs K H vs) (b : GIs K H ws) : GIs K H (vs ++ ws) := fun x h => (List.mem_append.mp h).elim (a x) (b x)
theorem GVs.app (a : GVs K H vs) (b : GVs K H ws) : GVs K H (vs ++ ws) := fun x h => (List.mem_append.mp h).elim (a x) (b x)
theorem GN.mono (g : GN K H L n v) (h : L ≤ L') (h' : n ≤ n') : GN K H L' n' v := by
  obtain ⟨d, a, b, c⟩ := g
  exact ⟨d, a, b.mono h h', c⟩
theorem lay_kOk {d : PyData} (h : PyData.canLay0 d = true) (hd : d.depth ≤ 50) : kOk d = true := by
  cases d with
  | tuple ds =>
    cases ds with
    | nil => rfl
    | cons e r =>
      cases e with
      | tuple ks =>
        show (PyData.canLayAll0 (.tuple ks :: r) && decide (PyData.depthAll ks ≤ 50)) = true
        have h1 : PyData.canLayAll0 (.tuple ks :: r) = true := h
        have h2 : max (PyData.depthAll ks + 1) (PyData.depthAll r) + 1 ≤ 50 := hd
        rw [h1, decide_eq_true (by omega)]; rfl
      | _ => rfl
  | _ => rfl
theorem GN.gi (g : GN K H L n v) (h : L ≤ 15000) (h' : n ≤ 3) : GI K H v := by
  obtain ⟨d, a, b, c, e⟩ := g
  exact ⟨d, a, b.mono h h', c, lay_kOk e (by have := b.dp; omega)⟩
theorem all_of {R : V → PyData → Prop} : ∀ {vs : List V}, (∀ v ∈ vs, ∃ d, Dq K H v d ∧ R v d) → ∃ ds, DqAll K H vs ds ∧ ds.length = vs.length ∧ ∀ d ∈ ds, ∃ v, R v d
  | [], _ => ⟨[], .nil, rfl, fun d h => by simp at h⟩
  | v :: vs, h => by
    obtain ⟨ds, a, b, c⟩ := all_of (vs := vs) fun x hx => h x (List.mem_cons_of_mem _ hx)
    obtain ⟨d, e, f⟩ := h v List.mem_cons_self
    refine ⟨d :: ds, .cons e a, congrArg (· + 1) b, fun x hx => ?_⟩
    rcases List.mem_cons.mp hx with rfl | hx
    · exact ⟨v, f⟩
    · exact c x hx
theorem layAll_of : ∀ {ds : List PyData}, (∀ d ∈ ds, PyData.canLay0 d = true) → PyData.canLayAll0 ds = true
  | [], _ => rfl
  | d :: ds, h => by
    show (PyData.canLay0 d && PyData.canLayAll0 ds) = true
    rw [h d List.mem_cons_self, layAll_of fun x hx => h x (List.mem_cons_of_mem _ hx)]; rfl
theorem gn_seq (g : GNs K H L n vs) (hl : vs.length ≤ 4) : ∃ ds, DqAll K H vs ds ∧ Fit (4 * (L + 2) + 3) (n + 1) (.list ds) ∧ Fit (4 * (L + 2) + 3) (n + 1) (.tuple ds) ∧ szAll ds = true ∧ PyData.canLayAll0 ds = true := by
  obtain ⟨ds, a, b, c⟩ := all_of (R := fun _ d => Fit L n d ∧ szB d = true ∧ PyData.canLay0 d = true) g
  have m : ds.length * (L + 2) + 3 ≤ 4 * (L + 2) + 3 := by
    have := Nat.mul_le_mul_right (L + 2) (show ds.length ≤ 4 by omega)
    omega
  refine ⟨ds, a, (fit_list fun d hd => ?_).mono m (Nat.le_refl _), (fit_tup fun d hd => ?_).mono m (Nat.le_refl _), szAll_of fun d hd => ?_, layAll_of fun d hd => ?_⟩
  · obtain ⟨_, x, _⟩ := c d hd; exact x
  · obtain ⟨_, x, _⟩ := c d hd; exact x
  · obtain ⟨_, _, x, _⟩ := c d hd; exact x
  · obtain ⟨_, _, _, x⟩ := c d hd; exact x
theorem gn_tup {p : Addr} (hp : SqT K H p vs) (g : GNs K H L n vs) (hl : vs.length ≤ 4 := by decide) : GN K H (4 * (L + 2) + 3) (n + 1) (.ref p) := by
  obtain ⟨ds, a, b, c, d, e⟩ := gn_seq g hl
  exact ⟨.tuple ds, .tup hp a, c, d, e⟩
theorem gn_lst {p : Addr} (hp : SqL K H p vs) (g : GNs K H L n vs) (hl : vs.length ≤ 4 := by decide) : GN K H (4 * (L + 2) + 3) (n + 1) (.ref p) := by
  obtain ⟨ds, a, b, c, d, e⟩ := gn_seq g hl
  exact ⟨.list ds, .lst hp a, b, d, e⟩
theorem gn_int {i : Int} (h : i.natAbs < 2 ^ 200) : GN K H 210 0 (.int i) := ⟨.int i, .int i, fit_int h, rfl, rfl⟩
theorem gn_bool (b : Bool) : GN K H 210 0 (.bl b) := ⟨.bool b, .bl b, fit_bool b, rfl, rfl⟩
theorem gn_none : GN K H 210 0 .non := ⟨.none, .non, fit_none, rfl, rfl⟩
theorem strOk_low {c : Str} (h : ∀ x ∈ c.cps.toList, x < 0x110000) : PyData.strOk c = true := by
  unfold PyData.strOk
  rw [← Array.all_toList, List.all_eq_true]
  exact fun x hx => decide_eq_true (h x hx)
theorem gn_str (c : Str) (h1 : c.length ≤ 20) (h2 : ∀ x ∈ c.cps.toList, x < 0x110000) : GN K H 210 0 (.str c) := by
  refine ⟨.str c, .str c, ⟨rfl, Nat.le_refl _, ?_⟩, decide_eq_true (by omega), strOk_low h2⟩
  have q := PySem.StrLaws.reprText_len c fun x hx => Nat.lt_of_lt_of_le (h2 x hx) (by decide)
  show (reprText c).length ≤ 210
  omega
theorem signs_lt : ∀ x ∈ signs.cps.toList, x < 0x110000 := by decide +kernel
theorem gn_code {c : Str} (h : CodeOk c) : GN K H 210 0 (.str c) := gn_str c (by have := h.2.1; have e : c.length = c.cps.size := rfl; omega) fun x hx => signs_lt x (h.2.2 x hx)
theorem gn_num {i : Int} (h0 : 0 ≤ i) (h : i ≤ 1000000000) : GN K H 210 0 (.str (Tx.numS i)) := by
  refine gn_str _ (Nat.le_trans (Tx.numS_len h0 h) (by decide)) fun x hx => ?_
  have hx' : x ∈ TL.tl (Tx.numS i) := hx
  rw [Tx.numS_tl h0] at hx'
  have := Tx.numL_low hx'
  omega
theorem gn_ints {ks : List Int} (h : ∀ k ∈ ks, k.natAbs < 2 ^ 200) : GNs K H 210 0 (ks.map V.int) := fun v hv => by
  obtain ⟨k, hk, rfl⟩ := List.mem_map.mp hv
  exact gn_int (h k hk)
theorem GNs.mono (g : GNs K H L n vs) (h : L ≤ L') (h' : n ≤ n') : GNs K H L' n' vs := fun v hv => (g v hv).mono h h'
/-- a combo's place taken by three things -/
theorem gi3 {p : Addr} {a b c : V} (hp : H p = some (.tup [a, b, c])) (ga : GN K H 3500 2 a) (gb : GN K H 210 0 b) (gc : GN K H 3500 2 c) : GI K H (.ref p) :=
  (gn_tup (SqT.of hp) ((GNs.cons ga (.cons (gb.mono (by decide) (by decide)) (.cons gc .nil))) : GNs K H 3500 2 [a, b, c]) (by show 3 ≤ 4; decide)).gi (by decide) (by decide)
theorem gi_dict {p q : Addr} {b c : V} (hq : H q = some (.dK [(.inl 0, .int 1)])) (hp : H p = some (.tup [.ref q, b, c])) (gb : GN K H 210 0 b) (gc : GN K H 210 0 c) : GI K H (.ref p) := by
  obtain ⟨d1, a1, b1, c1, e1⟩ := gb
  obtain ⟨d2, a2, b2, c2, e2⟩ := gc
  have hd : Dq K H (.ref q) (.dict ([PyData.int 0].zip [PyData.int 1])) := .dct hq (.cons (.int 0) .nil) (.cons (.int 1) .nil)
  refine ⟨.tuple [.dict ([PyData.int 0].zip [PyData.int 1]), d1, d2], .tup (SqT.of hp) (.cons hd (.cons a1 (.cons a2 .nil))), ?_, ?_, rfl⟩
  · refine (fit_tup (L := 210) (n := 1) fun d hd => ?_).mono (by show 3 * 212 + 3 ≤ 15000; decide) (by decide)
    simp only [List.mem_cons, List.mem_nil_iff, or_false] at hd
    rcases hd with rfl | rfl | rfl
    · exact ⟨by decide +kernel, by decide +kernel, by decide +kernel⟩
    · exact b1.mono (by decide) (by decide)
    · exact b2.mono (by decide) (by decide)
  · refine szAll_of fun d hd => ?_
    simp only [List.mem_cons, List.mem_nil_iff, or_false] at hd
    rcases hd with rfl | rfl | rfl
    · rfl
    · exact c1
    · exact c2
theorem gv_seq (g : GIs K H vs) (hl : vs.length ≤ 60) : ∃ ds, DqAll K H vs ds ∧ Fit 1000000 5 (.list ds) ∧ Fit 1000000 5 (.tuple ds) ∧ szAll ds = true ∧ ∀ d ∈ ds, kOk d = true := by
  obtain ⟨ds, a, b, c⟩ := all_of (R := fun _ d => Fit 15000 3 d ∧ szB d = true ∧ kOk d = true) g
  have m : ds.length * (15000 + 2) + 3 ≤ 1000000 := by omega
  refine ⟨ds, a, (fit_list (L := 15000) (n := 3) fun d hd => ?_).mono m (by decide), (fit_tup (L := 15000) (n := 3) fun d hd => ?_).mono m (by decide), szAll_of fun d hd => ?_, fun d hd => ?_⟩
  · obtain ⟨_, x, _⟩ := c d hd; exact x
  · obtain ⟨_, x, _⟩ := c d hd; exact x
  · obtain ⟨_, _, x, _⟩ := c d hd; exact x
  · obtain ⟨_, _, _, x⟩ := c d hd; exact x
theorem gv_lst {p : Addr} (hp : SqL K H p vs) (g : GIs K H vs) (hl : vs.length ≤ 60) : GV K H (.ref p) := by
  obtain ⟨ds, a, b, c, d, e⟩ := gv_seq g hl
  exact ⟨.list ds, .lst hp a, b, d, e⟩
theorem gv_tup {p : Addr} (hp : SqT K H p vs) (g : GIs K H vs) (hl : vs.length ≤ 60) : GV K H (.ref p) := by
  obtain ⟨ds, a, b, c, d, e⟩ := gv_seq g hl
  exact ⟨.tuple ds, .tup hp a, c, d, trivial⟩
theorem gv_flat (g : GN K H 210 0 v) (hk : ∀ a, v ≠ .ref a) : GV K H v := by
  obtain ⟨d, a, b, c, e⟩ := g
  refine ⟨d, a, b.mono (by decide) (by decide), c, ?_⟩
  cases a with
  | lst _ _ => exact absurd rfl (hk _)
  | _ => trivial
theorem gv_dict0 {p : Addr} (hp : H p = some (.dK [])) : GV K H (.ref p) :=
  ⟨.dict (([] : List PyData).zip []), .dct (ks := []) (vs := []) hp .nil .nil, ⟨by decide +kernel, by decide +kernel, by decide +kernel⟩, rfl, trivial⟩
theorem gi_cmb {m : Int} {cb : Cmb} (hm : m ≤ 1000) (h : CmbV H cb v) (ok : CmbOk m cb) : GI K H v := by
  obtain ⟨a, b⟩ := lay_cmb cb ok.code
  have f := fit_cmb hm ok
  refine ⟨cmbD cb, Gd.Dp.q h.dp, f.mono (by decide) (by decide), ?_, lay_kOk a (by omega)⟩
  show (szAll (cb.ks.map PyData.int) && (true && (decide (cb.c.length ≤ 1000) && true))) = true
  have e : cb.c.length = cb.c.cps.size := rfl
  have := ok.code.2.1
  rw [szAll_of fun d hd => by obtain ⟨k, _, rfl⟩ := List.mem_map.mp hd; rfl, decide_eq_true (by omega)]; rfl
theorem gi_cmbs {m : Int} {c : Addr} {cbs : List Cmb} (hm : m ≤ 1000) (h : Cmbs H c cbs) (ok : CbsOk m cbs) : ∃ vs, H c = some (.lst vs) ∧ vs.length = cbs.length ∧ GIs K H vs := by
  obtain ⟨vs, a, b, d⟩ := h
  refine ⟨vs, a, b, fun v hv => ?_⟩
  obtain ⟨i, hi⟩ := List.getElem?_of_mem hv
  have hi' := (List.getElem?_eq_some_iff.mp hi).1
  exact gi_cmb hm (d i v cbs[i] hi (List.getElem?_eq_getElem (by omega))) (ok.all _ (List.getElem_mem (by omega)))
/-! ### a heap without what is being filled -/
def wo (S : List Addr) (H : Hp) : Hp := fun b => if b ∈ S then none else H b
theorem same_wo {S : List Addr} (s : Same H H') (n : ∀ M ∈ S, H M = none) : Same H (wo S H') := fun b o h => by
  unfold wo
  rw [if_neg (fun z => by rw [n b z] at h; cases h)]
  exact s b o h
theorem wo_same {S : List Addr} (s : Same H H') : Same (wo S H) (wo S H') := fun b o h => by
  unfold wo at h ⊢
  split at h
  · cases h
  · rename_i z
    rw [if_neg z]; exact s b o h
theorem wo_upd {S : List Addr} {M : Addr} {o : HO} (m : M ∈ S) : Same (wo S H) (wo S (upd H M o)) := fun b x h => by
  unfold wo at h ⊢
  split at h
  · cases h
  · rename_i z
    rw [if_neg z, upd_ne (fun e => z (by rw [e]; exact m))]; exact h
theorem wo_all {S : List Addr} : Same (wo S H) H := fun b x h => by
  unfold wo at h
  split at h
  · cases h
  · exact h
theorem wo_at {S : List Addr} {p : Addr} {o : HO} (h : H p = some o) (n : ∀ M ∈ S, p ≠ M) : wo S H p = some o := by
  unfold wo
  rw [if_neg (fun z => n p z rfl)]; exact h
theorem wo_less {S : List Addr} {M : Addr} : Same (wo (M :: S) H) (wo S H) := fun b x h => by
  unfold wo at h ⊢
  split at h
  · cases h
  · rename_i z
    rw [if_neg (fun e => z (List.mem_cons_of_mem _ e))]; exact h
theorem wo_new {S : List Addr} {p : Addr} (h : ∀ M ∈ S, ∃ o, H M = some o) (n : H p = none) : ∀ M ∈ S, p ≠ M := fun M hM e => by
  obtain ⟨o, ho⟩ := h M hM
  rw [← e, n] at ho
  cases ho
theorem wo_add {S : List Addr} {M : Addr} (s : Same H H') (n : H M = none) : Same (wo S H) (wo (M :: S) H') := fun b o h => by
  unfold wo at h ⊢
  split at h
  · cases h
  · rename_i z
    rw [if_neg (fun e => (List.mem_cons.mp e).elim (fun e => by rw [e, n] at h; cases h) z)]
    exact s b o h
theorem wo_off {r : Addr} (o : Rm.Off r H H') : Same (wo [r] H) (wo [r] H') := fun b x h => by
  unfold wo at h ⊢
  split at h
  · cases h
  · rename_i z
    rw [if_neg z]
    exact o b x h fun e => z (by rw [e]; exact List.mem_singleton.mpr rfl)
def Has (H : Hp) (S : List Addr) : Prop := ∀ X ∈ S, ∃ o, H X = some o
theorem Has.same {S : List Addr} (h : Has H S) (s : Same H H') : Has H' S := fun X hX => by
  obtain ⟨o, ho⟩ := h X hX
  exact ⟨o, s _ _ ho⟩
theorem Has.cons {S : List Addr} {M : Addr} {o : HO} (a : H M = some o) (h : Has H S) : Has H (M :: S) := fun X hX => by
  rcases List.mem_cons.mp hX with rfl | hX
  · exact ⟨o, a⟩
  · exact h X hX
theorem Has.one {M : Addr} {o : HO} (a : H M = some o) : Has H [M] := Has.cons a (fun X hX => by simp at hX)
theorem Has.reel {r : Addr} {n : Nat} (R : Reel H r n) : Has H [r] := by
  obtain ⟨x, y, z, h, _⟩ := R
  exact Has.one h
theorem nw1 {n : Nat} (h : 2 ≤ n) : ¬ (HT.sIx n 0 none = 0 ∧ HT.sIx n n (some 1) = n) := fun z => by
  have := z.2
  rw [show (1 : Int) = ((1 : Nat) : Int) from rfl, HT.sIx_nat] at this
  omega
theorem nw2 {n : Nat} (h : 2 ≤ n) : ¬ (HT.sIx n 0 (some 1) = 0 ∧ HT.sIx n n none = n) := fun z => by
  have := z.1
  rw [show (1 : Int) = ((1 : Nat) : Int) from rfl, HT.sIx_nat] at this
  omega
theorem sfree {p : Addr} (s : Same H H') (n : H' p = none) : H p = none := by
  cases h : H p with
  | none => rfl
  | some o => rw [s _ _ h] at n; cases n
theorem log_ok {i : Int} (h : i.natAbs < 2 ^ 200) : i.natAbs.log2 < 1920 := by
  by_cases z : i.natAbs = 0
  · rw [z]; decide
  · exact (Nat.log2_lt z).mpr (Nat.lt_of_lt_of_le h (Nat.pow_le_pow_right (by decide) (by decide)))
end
end K23

set_option Elab.async false
set_option linter.all false
set_option maxRecDepth 100000
set_option maxHeartbeats 8000000
namespace K23
open PySem PySem.Spec PyProof.Rows L2 Gd Rm La Cb
theorem cutT {xs : List V} {k : Nat} : cutV xs none (some (k : Int)) = xs.take k := by
  unfold cutV
  rw [HT.sIx_none, HT.sIx_nat, List.drop_zero, Nat.sub_zero]
  rcases Nat.le_total k xs.length with h | h
  · rw [Nat.min_eq_left h]
  · rw [Nat.min_eq_right h, List.take_of_length_le (Nat.le_refl _), List.take_of_length_le h]
theorem cutD {xs : List V} {k : Nat} (h1 : k ≤ xs.length) : cutV xs (some (k : Int)) none = xs.drop k := by
  unfold cutV
  rw [HT.sIx_none, HT.sIx_nat, Nat.min_eq_left h1]
  exact List.take_of_length_le (by rw [List.length_drop]; omega)
section
variable {P : Program} {w : World} {K : PySem.W.Frag} {mg : Str → Option Value} {base : Heap}
def spValues (K : PySem.W.Frag) : Sp := fun vs H Q _ => ∃ (r c : Addr) (m k : Nat) (cbs : List Cmb), vs = [.ref r, .int (m : Int), .ref c] ∧ 1 ≤ m ∧ m ≤ 10 ∧ Reel H r k ∧ k + 10 < most ∧ c ≠ r ∧ Cmbs H c cbs ∧ CbsOk m cbs ∧
  ∀ H' p vs', Rm.Off r H H' → H p = none → Reel H' r (k + 1) → H' p = some (.lst vs') → GVs K H' vs' → vs'.length ≤ 100 → Q (.ref p) H'
theorem ok__law_values (bt : Bt mg) (a : At K mg "_law_values" s__law_values ["_law_spring_here", "_law_many", "_law_combos_here"]) (c__law_take : Cl P w K mg base 1 "_law_take" spDraw) : Cl P w K mg base 2 "_law_values" (spValues K) := by
  refine clG a sc__law_values (fun vs H Q E h => ?_) (fun f cdv A outer s H vs Q hg hr h => ?_)
  · obtain ⟨r, c, m, k, cbs, rfl, _⟩ := h
    rfl
  · obtain ⟨r, c, m, k, cbs, rfl, hm1, hm2, R, hk, cr, hC, ok, q⟩ := h
    refine ⟨_, (pss_cons (ps_set (i := 3) sc__law_values.nd rfl (Or.inl rfl) (pe_lst (pa_cons (pv 2) (pa_cons (pe_op op_cat (pv 2) (pe_slice sl_list (pv 2) po_none (po_some pe_int))) (pa_cons (pe_callTy call_tuple_of (by rfl) bt.m_tuple (by decide +kernel) (pa_cons (pv 2) pa_nil)) (pa_cons pe_non (pa_cons pe_bl (pa_cons pe_str (pa_cons pe_dnewK (pa_cons (pe_lst (pa_cons pe_non pa_nil)) (pa_cons (pe_lst (pa_cons (pe_tup pa_nil) pa_nil)) (pa_cons (pe_op op_cat (pv 2) (pe_lst (pa_cons pe_int pa_nil))) pa_nil))))))))))))
      (pss_cons (ps_set (i := 3) sc__law_values.nd rfl (Or.inl rfl) (pe_op op_cat (pv 3) (pe_lst (pa_cons (pe_op op_rep (pv 2) pe_int) (pa_cons (pe_lc (own := [("_law_spot", 4)]) (g := (gName 4)) (by rfl) sc__law_values.nd (pi_range1 (by rfl) bt.m_range (pa_cons pe_int pa_nil)) (blkOk_by (N := n__law_values) (sc := defScope s__law_values) (by decide +kernel)) (fun _ _ _ _ _ => (pg_name (i := 4) sc__law_values.nd rfl (Or.inl rfl))) (fun _ _ _ _ _ => pts_nil) (fun _ _ _ _ _ => (pe_tup (pa_cons (pe_tup (pa_cons pe_int (pa_cons pe_int pa_nil))) (pa_cons pe_int (pa_cons (pe_callTy call_str_int (by rfl) bt.m_str (by decide +kernel) (pa_cons (pv 4) pa_nil)) pa_nil)))))) pa_nil)))))
      (pss_cons (ps_expr (pe_bm PySem.F.plainAttrs_list PySem.F.slot_list_append PySem.F.type_list_append mt_append (pv 3) (pa_cons (pe_lc (own := [("_law_one", 9)]) (g := (gName 9)) (by rfl) sc__law_values.nd (pi_range1 (by rfl) bt.m_range (pa_cons pe_int pa_nil)) (blkOk_by (N := n__law_values) (sc := defScope s__law_values) (by decide +kernel)) (fun _ _ _ _ _ => (pg_name (i := 9) sc__law_values.nd rfl (Or.inl rfl))) (fun _ _ _ _ _ => pts_nil) (fun _ _ _ _ _ => (pe_tup (pa_cons (pe_tup (pa_cons (pv 9) (pa_cons (pe_op op_add (pv 9) pe_int) pa_nil))) (pa_cons pe_int (pa_cons pe_str pa_nil)))))) pa_nil)))
      (pss_cons (ps_if (pt_cmpR (op_eqD hr.units) (pv 2) (pe_lst pa_nil) (nomark _)) (pss_one (ps_ret (pv 3))) pss_nil)
      (pss_cons (ps_set (i := 4) sc__law_values.nd rfl (Or.inr rfl) (pe_cl c__law_take hg hr (by decide) (by rfl) (pa_cons (pv 0) (pa_cons (pe_callB call_len_seq (by rfl) bt.m_len (by decide +kernel) (pa_cons (pv 2) pa_nil)) pa_nil))))
      (pss_cons (ps_asg (pe_ix ix_list (pv 2) (pv 4) (fun _ _ => rfl)) (pg_tup rfl (pgs_cons (pg_name (i := 5) sc__law_values.nd rfl (Or.inr rfl)) (pgs_cons (pg_name (i := 6) sc__law_values.nd rfl (Or.inr rfl)) (pgs_cons (pg_name (i := 7) sc__law_values.nd rfl (Or.inl rfl)) pgs_nil)))))
      (pss_cons (ps_set (i := 8) sc__law_values.nd rfl (Or.inl rfl) (pe_lst (pa_cons (pe_tup (pa_cons (pe_revT (pv 5)) (pa_cons (pv 6) (pa_cons (pv 7) pa_nil)))) (pa_cons (pe_tup (pa_cons (pe_slice sl_tup (pv 5) po_none (po_some pe_int)) (pa_cons (pv 6) (pa_cons (pv 7) pa_nil)))) (pa_cons (pe_tup (pa_cons (pe_op op_catT (pv 5) (pe_tup (pa_cons (pv 1) pa_nil))) (pa_cons (pv 6) (pa_cons (pv 7) pa_nil)))) (pa_cons (pe_tup (pa_cons (pe_callTy call_list_of (by rfl) bt.m_list (by decide +kernel) (pa_cons (pv 5) pa_nil)) (pa_cons (pv 6) (pa_cons (pv 7) pa_nil)))) pa_nil))))))
      (pss_cons (ps_set (i := 8) sc__law_values.nd rfl (Or.inl rfl) (pe_op op_cat (pv 8) (pe_lst (pa_cons (pe_tup (pa_cons (pe_op op_catT (pe_tup (pa_cons (pe_un un_neg pe_int) pa_nil)) (pe_slice sl_tup (pv 5) (po_some pe_int) po_none)) (pa_cons (pv 6) (pa_cons (pv 7) pa_nil)))) (pa_cons (pe_tup (pa_cons (pe_op op_catT (pe_slice sl_tup (pv 5) po_none (po_some pe_int)) (pe_slice sl_tup (pv 5) po_none (po_some pe_int))) (pa_cons (pv 6) (pa_cons (pv 7) pa_nil)))) (pa_cons (pe_tup (pa_cons (pe_tup (pa_cons pe_int (pa_cons pe_int (pa_cons pe_int (pa_cons pe_int pa_nil))))) (pa_cons (pv 6) (pa_cons (pv 7) pa_nil)))) pa_nil))))))
      (pss_cons (ps_set (i := 8) sc__law_values.nd rfl (Or.inl rfl) (pe_op op_cat (pv 8) (pe_lst (pa_cons (pe_tup (pa_cons (pe_tup (pa_cons pe_bl (pa_cons pe_bl pa_nil))) (pa_cons (pv 6) (pa_cons (pv 7) pa_nil)))) (pa_cons (pe_tup (pa_cons (pv 5) (pa_cons pe_int (pa_cons (pv 7) pa_nil)))) (pa_cons (pe_tup (pa_cons (pv 5) (pa_cons (pe_op op_powW pe_int pe_int) (pa_cons (pv 7) pa_nil)))) (pa_cons (pe_tup (pa_cons (pv 5) (pa_cons (pe_op op_add (pe_op op_powW pe_int pe_int) pe_int) (pa_cons (pv 7) pa_nil)))) pa_nil)))))))
      (pss_cons (ps_set (i := 8) sc__law_values.nd rfl (Or.inl rfl) (pe_op op_cat (pv 8) (pe_lst (pa_cons (pe_tup (pa_cons (pv 5) (pa_cons pe_bl (pa_cons (pv 7) pa_nil)))) (pa_cons (pe_tup (pa_cons (pv 5) (pa_cons (pe_callTy call_str_int (by rfl) bt.m_str (by decide +kernel) (pa_cons (pv 6) pa_nil)) (pa_cons (pv 7) pa_nil)))) (pa_cons (pe_tup (pa_cons (pv 5) (pa_cons (pv 6) (pa_cons pe_str pa_nil)))) (pa_cons (pe_tup (pa_cons (pv 5) (pa_cons (pv 6) (pa_cons pe_str pa_nil)))) pa_nil)))))))
      (pss_cons (ps_set (i := 8) sc__law_values.nd rfl (Or.inl rfl) (pe_op op_cat (pv 8) (pe_lst (pa_cons (pe_tup (pa_cons (pv 5) (pa_cons (pv 6) (pa_cons pe_str pa_nil)))) (pa_cons (pe_tup (pa_cons (pv 5) (pa_cons (pv 6) (pa_cons pe_str pa_nil)))) (pa_cons (pe_tup (pa_cons (pv 5) (pa_cons (pv 6) (pa_cons pe_str pa_nil)))) (pa_cons (pe_tup (pa_cons (pv 5) (pa_cons (pv 6) (pa_cons pe_str pa_nil)))) pa_nil)))))))
      (pss_cons (ps_set (i := 8) sc__law_values.nd rfl (Or.inl rfl) (pe_op op_cat (pv 8) (pe_lc (own := [("_law_odd", 10)]) (g := (gName 10)) (by rfl) sc__law_values.nd (pi_list (pe_lst (pa_cons pe_str (pa_cons pe_str (pa_cons pe_str (pa_cons pe_str (pa_cons pe_str (pa_cons pe_non (pa_cons pe_int (pa_cons (pe_lst (pa_cons pe_str pa_nil)) (pa_cons (pe_tup (pa_cons pe_str pa_nil)) pa_nil))))))))))) (blkOk_by (N := n__law_values) (sc := defScope s__law_values) (by decide +kernel)) (fun _ _ _ _ _ => (pg_name (i := 10) sc__law_values.nd rfl (Or.inl rfl))) (fun _ _ _ _ _ => pts_nil) (fun _ _ _ _ _ => (pe_tup (pa_cons (pv 5) (pa_cons (pv 6) (pa_cons (pv 10) pa_nil))))))))
      (pss_cons (ps_set (i := 8) sc__law_values.nd rfl (Or.inl rfl) (pe_op op_cat (pv 8) (pe_lst (pa_cons (pe_tup (pa_cons (pv 5) (pa_cons (pv 6) pa_nil))) (pa_cons (pe_tup (pa_cons (pv 5) (pa_cons (pv 6) (pa_cons (pv 7) (pa_cons (pv 7) pa_nil))))) (pa_cons (pe_lst (pa_cons (pv 5) (pa_cons (pv 6) (pa_cons (pv 7) pa_nil)))) (pa_cons (pv 5) (pa_cons (pe_tup (pa_cons (pe_tup pa_nil) (pa_cons (pv 6) (pa_cons (pv 7) pa_nil)))) pa_nil))))))))
      (pss_cons (ps_set (i := 8) sc__law_values.nd rfl (Or.inl rfl) (pe_op op_cat (pv 8) (pe_lst (pa_cons (pe_tup (pa_cons (pe_tup (pa_cons (pe_op op_sub (pv 1) pe_int) (pa_cons (pe_op op_sub (pv 1) pe_int) pa_nil))) (pa_cons pe_int (pa_cons pe_str pa_nil)))) (pa_cons (pe_tup (pa_cons (pe_tup (pa_cons (pe_op op_sub (pv 1) pe_int) (pa_cons (pv 1) pa_nil))) (pa_cons pe_int (pa_cons pe_str pa_nil)))) (pa_cons (pe_tup (pa_cons (pe_tup (pa_cons (pe_lst pa_nil) (pa_cons pe_int pa_nil))) (pa_cons (pv 6) (pa_cons (pv 7) pa_nil)))) pa_nil))))))
      (pss_cons (ps_expr (pe_bm PySem.F.plainAttrs_list PySem.F.slot_list_append PySem.F.type_list_append mt_append (pv 8) (pa_cons (pe_tup (pa_cons (pe_disp (pps_cons pe_int pe_int pps_nil) (by rfl) (by rfl) (List.cons_ne_nil _ _) (by decide)) (pa_cons (pv 6) (pa_cons (pv 7) pa_nil)))) pa_nil)))
      (pss_one (ps_ret (pe_op op_cat (pv 3) (pe_lc (own := [("_law_one", 9)]) (g := (gName 9)) (by rfl) sc__law_values.nd (pi_list (pv 8)) (blkOk_by (N := n__law_values) (sc := defScope s__law_values) (by decide +kernel)) (fun _ _ _ _ _ => (pg_name (i := 9) sc__law_values.nd rfl (Or.inl rfl))) (fun _ _ _ _ _ => pts_nil) (fun _ _ _ _ _ => (pe_op op_cat (pe_op op_cat (pe_slice (r := rSlL K) sl_list (pv 2) po_none (po_some (pv 4))) (pe_lst (pa_cons (pv 9) pa_nil))) (pe_slice (r := rSlL K) sl_list (pv 2) (po_some (pe_op op_add (pv 4) pe_int)) po_none)))))))))))))))))))))), ?_⟩
    have hCw : Cmbs (wo [r] H) c cbs := hC.go (fun b xs h => wo_at h fun X hX e => by
      rw [List.mem_singleton.mp hX] at e
      obtain ⟨x, y, z, h2, _⟩ := id R
      rw [e, h2] at h
      cases h) (fun vs h => wo_at h fun X hX => by rw [List.mem_singleton.mp hX]; exact cr)
    obtain ⟨vs, hcw, hvl, gb⟩ := gi_cmbs (K := K) (by omega) hCw ok
    have hc := wo_all _ _ hcw
    have hv6 : vs.length ≤ 6 := by rw [hvl]; exact ok.few
    have sA := Same.refl H
    have gv : GVs K (wo [r] H) [] := GVs.nil
    rw [show L2.start n__law_values [V.ref r, V.int (m : Int), V.ref c] = [some (V.ref r), some (V.int (m : Int)), some (V.ref c), none, none, none, none, none, none, none, none] from rfl]
    have gv := GVs.app gv (.cons (gv_lst (SqL.of hcw) gb (by omega)) .nil)
    refine ⟨_, rfl, _, rfl, _, rfl, 1, rfl, c, _, rfl, SqL.of hc, fun p1 n1 => ?_⟩
    have s1 := same_upd (o := .lst (cutV vs none (some 1))) n1
    have e1 := upd_same (H := H) (a := p1) (o := .lst (cutV vs none (some 1)))
    refine (fun (G : ∀ H_1 : Hp, Same H H_1 → H_1 p1 = some (.lst (cutV vs none (some 1))) → _) => G _ s1 e1) (fun H_1 s1 e1 => ?_)
    have d1 : p1 ≠ r := (R.same sA).new n1
    have w1 := wo_at (S := [r]) e1 (fun X hX => by rw [List.mem_singleton.mp hX]; exact d1)
    have gb := gb.same (wo_same (S := [r]) s1)
    have gv := gv.same (wo_same (S := [r]) s1)
    have hcw := wo_same (S := [r]) s1 _ _ hcw
    have hc := s1 _ _ hc
    have sA := sA.trans s1
    rw [show cutV vs none (some 1) = vs.take 1 from cutT (k := 1)] at e1
    refine ⟨c, p1, _, _, rfl, rfl, hc, e1, (by simp only [List.length_append, List.length_take, List.length_drop, List.length_cons, List.length_nil]; rw [sizeLine_eq]; omega), fun p2 n2 => ?_⟩
    have s2 := same_upd (o := .lst (vs ++ vs.take 1)) n2
    have e2 := upd_same (H := H_1) (a := p2) (o := .lst (vs ++ vs.take 1))
    refine (fun (G : ∀ H_2 : Hp, Same H_1 H_2 → H_2 p2 = some (.lst (vs ++ vs.take 1)) → _) => G _ s2 e2) (fun H_2 s2 e2 => ?_)
    have d2 : p2 ≠ r := (R.same sA).new n2
    have w2 := wo_at (S := [r]) e2 (fun X hX => by rw [List.mem_singleton.mp hX]; exact d2)
    have gb := gb.same (wo_same (S := [r]) s2)
    have gv := gv.same (wo_same (S := [r]) s2)
    have hcw := wo_same (S := [r]) s2 _ _ hcw
    have hc := s2 _ _ hc
    have sA := sA.trans s2
    have gv := GVs.app gv (.cons (gv_lst (SqL.of w2) (GIs.app gb fun x hx => gb x (List.mem_of_mem_take hx)) (by rw [List.length_append, List.length_take]; omega)) .nil)
    refine ⟨_, rfl, c, _, rfl, .inl ⟨SqL.of hc, fun p3 n3 => ?_⟩⟩
    have s3 := same_upd (o := .tup vs) n3
    have e3 := upd_same (H := H_2) (a := p3) (o := .tup vs)
    refine (fun (G : ∀ H_3 : Hp, Same H_2 H_3 → H_3 p3 = some (.tup vs) → _) => G _ s3 e3) (fun H_3 s3 e3 => ?_)
    have d3 : p3 ≠ r := (R.same sA).new n3
    have w3 := wo_at (S := [r]) e3 (fun X hX => by rw [List.mem_singleton.mp hX]; exact d3)
    have gb := gb.same (wo_same (S := [r]) s3)
    have gv := gv.same (wo_same (S := [r]) s3)
    have hcw := wo_same (S := [r]) s3 _ _ hcw
    have hc := s3 _ _ hc
    have sA := sA.trans s3
    have gv := GVs.app gv (.cons (gv_tup (SqT.of w3) gb (by omega)) .nil)
    have gv := GVs.app gv (.cons (gv_flat gn_none (by intro a z; cases z)) .nil)
    have gv := GVs.app gv (.cons (gv_flat (gn_bool true) (by intro a z; cases z)) .nil)
    have gv := GVs.app gv (.cons (gv_flat (gn_str (("" : String) : Str) (by decide +kernel) (by decide +kernel)) (by intro a z; cases z)) .nil)
    refine fun p4 n4 => ?_
    have s4 := same_upd (o := .dK []) n4
    have e4 := upd_same (H := H_3) (a := p4) (o := .dK [])
    refine (fun (G : ∀ H_4 : Hp, Same H_3 H_4 → H_4 p4 = some (.dK []) → _) => G _ s4 e4) (fun H_4 s4 e4 => ?_)
    have d4 : p4 ≠ r := (R.same sA).new n4
    have w4 := wo_at (S := [r]) e4 (fun X hX => by rw [List.mem_singleton.mp hX]; exact d4)
    have gb := gb.same (wo_same (S := [r]) s4)
    have gv := gv.same (wo_same (S := [r]) s4)
    have hcw := wo_same (S := [r]) s4 _ _ hcw
    have hc := s4 _ _ hc
    have sA := sA.trans s4
    have gv := GVs.app gv (.cons (gv_dict0 w4) .nil)
    refine ⟨(by show 1 ≤ sizeLine; decide), fun p5 n5 => ?_⟩
    have s5 := same_upd (o := .lst [.non]) n5
    have e5 := upd_same (H := H_4) (a := p5) (o := .lst [.non])
    refine (fun (G : ∀ H_5 : Hp, Same H_4 H_5 → H_5 p5 = some (.lst [.non]) → _) => G _ s5 e5) (fun H_5 s5 e5 => ?_)
    have d5 : p5 ≠ r := (R.same sA).new n5
    have w5 := wo_at (S := [r]) e5 (fun X hX => by rw [List.mem_singleton.mp hX]; exact d5)
    have gb := gb.same (wo_same (S := [r]) s5)
    have gv := gv.same (wo_same (S := [r]) s5)
    have hcw := wo_same (S := [r]) s5 _ _ hcw
    have hc := s5 _ _ hc
    have sA := sA.trans s5
    have gv := GVs.app gv (.cons (gv_lst (SqL.of w5) (.cons (gn_none.gi (by decide) (by decide)) .nil) (by show 1 ≤ 60; decide)) .nil)
    refine ⟨Nat.zero_le _, fun p6 n6 => ?_⟩
    have s6 := same_upd (o := .tup []) n6
    have e6 := upd_same (H := H_5) (a := p6) (o := .tup [])
    refine (fun (G : ∀ H_6 : Hp, Same H_5 H_6 → H_6 p6 = some (.tup []) → _) => G _ s6 e6) (fun H_6 s6 e6 => ?_)
    have d6 : p6 ≠ r := (R.same sA).new n6
    have w6 := wo_at (S := [r]) e6 (fun X hX => by rw [List.mem_singleton.mp hX]; exact d6)
    have gb := gb.same (wo_same (S := [r]) s6)
    have gv := gv.same (wo_same (S := [r]) s6)
    have hcw := wo_same (S := [r]) s6 _ _ hcw
    have hc := s6 _ _ hc
    have sA := sA.trans s6
    refine ⟨(by show 1 ≤ sizeLine; decide), fun p7 n7 => ?_⟩
    have s7 := same_upd (o := .lst [.ref p6]) n7
    have e7 := upd_same (H := H_6) (a := p7) (o := .lst [.ref p6])
    refine (fun (G : ∀ H_7 : Hp, Same H_6 H_7 → H_7 p7 = some (.lst [.ref p6]) → _) => G _ s7 e7) (fun H_7 s7 e7 => ?_)
    have d7 : p7 ≠ r := (R.same sA).new n7
    have w7 := wo_at (S := [r]) e7 (fun X hX => by rw [List.mem_singleton.mp hX]; exact d7)
    have gb := gb.same (wo_same (S := [r]) s7)
    have gv := gv.same (wo_same (S := [r]) s7)
    have hcw := wo_same (S := [r]) s7 _ _ hcw
    have hc := s7 _ _ hc
    have sA := sA.trans s7
    have gv := GVs.app gv (.cons (gv_lst (SqL.of w7) (.cons ((gn_tup (L := 210) (n := 0) (SqT.of (wo_same (S := [r]) s7 _ _ w6)) GNs.nil (by show 0 ≤ 4; decide)).gi (by decide) (by decide)) .nil) (by show 1 ≤ 60; decide)) .nil)
    refine ⟨_, rfl, (by show 1 ≤ sizeLine; decide), fun p8 n8 => ?_⟩
    have s8 := same_upd (o := .lst [.int 0]) n8
    have e8 := upd_same (H := H_7) (a := p8) (o := .lst [.int 0])
    refine (fun (G : ∀ H_8 : Hp, Same H_7 H_8 → H_8 p8 = some (.lst [.int 0]) → _) => G _ s8 e8) (fun H_8 s8 e8 => ?_)
    have d8 : p8 ≠ r := (R.same sA).new n8
    have w8 := wo_at (S := [r]) e8 (fun X hX => by rw [List.mem_singleton.mp hX]; exact d8)
    have gb := gb.same (wo_same (S := [r]) s8)
    have gv := gv.same (wo_same (S := [r]) s8)
    have hcw := wo_same (S := [r]) s8 _ _ hcw
    have hc := s8 _ _ hc
    have sA := sA.trans s8
    refine ⟨c, p8, _, _, rfl, rfl, hc, e8, (by simp only [List.length_append, List.length_take, List.length_drop, List.length_cons, List.length_nil]; rw [sizeLine_eq]; omega), fun p9 n9 => ?_⟩
    have s9 := same_upd (o := .lst (vs ++ [.int 0])) n9
    have e9 := upd_same (H := H_8) (a := p9) (o := .lst (vs ++ [.int 0]))
    refine (fun (G : ∀ H_9 : Hp, Same H_8 H_9 → H_9 p9 = some (.lst (vs ++ [.int 0])) → _) => G _ s9 e9) (fun H_9 s9 e9 => ?_)
    have d9 : p9 ≠ r := (R.same sA).new n9
    have w9 := wo_at (S := [r]) e9 (fun X hX => by rw [List.mem_singleton.mp hX]; exact d9)
    have gb := gb.same (wo_same (S := [r]) s9)
    have gv := gv.same (wo_same (S := [r]) s9)
    have hcw := wo_same (S := [r]) s9 _ _ hcw
    have hc := s9 _ _ hc
    have sA := sA.trans s9
    have gv := GVs.app gv (.cons (gv_lst (SqL.of w9) (GIs.app gb (.cons ((gn_int (by decide)).gi (by decide) (by decide)) .nil)) (by rw [List.length_append]; show vs.length + 1 ≤ 60; omega)) .nil)
    refine ⟨(by show 10 ≤ sizeLine; decide), fun p10 n10 => ?_⟩
    have s10 := same_upd (o := .lst [.ref c, .ref p2, .ref p3, .non, .bl true, .str ("" : String), .ref p4, .ref p5, .ref p7, .ref p9]) n10
    have e10 := upd_same (H := H_9) (a := p10) (o := .lst [.ref c, .ref p2, .ref p3, .non, .bl true, .str ("" : String), .ref p4, .ref p5, .ref p7, .ref p9])
    refine (fun (G : ∀ H_10 : Hp, Same H_9 H_10 → H_10 p10 = some (.lst [.ref c, .ref p2, .ref p3, .non, .bl true, .str ("" : String), .ref p4, .ref p5, .ref p7, .ref p9]) → _) => G _ s10 e10) (fun H_10 s10 e10 => ?_)
    have d10 : p10 ≠ r := (R.same sA).new n10
    have w10 := wo_at (S := [r]) e10 (fun X hX => by rw [List.mem_singleton.mp hX]; exact d10)
    have gb := gb.same (wo_same (S := [r]) s10)
    have gv := gv.same (wo_same (S := [r]) s10)
    have hcw := wo_same (S := [r]) s10 _ _ hcw
    have hc := s10 _ _ hc
    have sA := sA.trans s10
    dsimp only [gName]
    rw [show List.set ([some (V.ref r), some (V.int (m : Int)), some (V.ref c), none, none, none, none, none, none, none, none] : List (Option V)) 3 (some (V.ref p10)) = [some (V.ref r), some (V.int (m : Int)), some (V.ref c), some (V.ref p10), none, none, none, none, none, none, none] from rfl]
    have hF := e10
    refine ⟨_, rfl, _, rfl, c, 2, _, rfl, rfl, hc, by decide, by decide, (by rw [sizeLine_eq]; show vs.length * 2 ≤ _; omega), fun p11 n11 => ?_⟩
    have s11 := same_upd (o := .lst (List.replicate (Int.toNat 2) vs).flatten) n11
    have e11 := upd_same (H := H_10) (a := p11) (o := .lst (List.replicate (Int.toNat 2) vs).flatten)
    refine (fun (G : ∀ H_11 : Hp, Same H_10 H_11 → H_11 p11 = some (.lst (List.replicate (Int.toNat 2) vs).flatten) → _) => G _ s11 e11) (fun H_11 s11 e11 => ?_)
    have d11 : p11 ≠ r := (R.same sA).new n11
    have w11 := wo_at (S := [r]) e11 (fun X hX => by rw [List.mem_singleton.mp hX]; exact d11)
    have gb := gb.same (wo_same (S := [r]) s11)
    have gv := gv.same (wo_same (S := [r]) s11)
    have hcw := wo_same (S := [r]) s11 _ _ hcw
    have hc := s11 _ _ hc
    have hF := s11 _ _ hF
    have sA := sA.trans s11
    rw [show (List.replicate (Int.toNat 2) vs).flatten = vs ++ (vs ++ []) from rfl] at w11
    have gv := GVs.app gv (.cons (gv_lst (SqL.of w11) (GIs.app gb (GIs.app gb .nil)) (by rw [List.length_append, List.length_append]; show vs.length + (vs.length + 0) ≤ 60; omega)) .nil)
    have hS0 : Has H_11 [r] := .reel (R.same sA)
    refine ⟨7, rfl, by decide, by decide, fun M nM => lc_it walk_range (fun i H' => Same H_11 H' ∧ ∃ xs, H' M = some (.lst xs) ∧ GIs K (wo (M :: [r]) H') xs ∧ xs.length = i) ⟨same_upd nM, [], upd_same, GIs.nil, rfl⟩ (fun _ _ _ _ => True.intro) (fun i x H2 H3 hi p y => ?_) (fun H2 p => ?_)⟩
    · obtain ⟨sc, xs, hM, gx, hxl⟩ := p
      obtain ⟨rfl, rfl⟩ := y
      have gsc := sc
      have sA := Same.refl H3
      have hS : Has H3 (M :: [r]) := .cons hM (hS0.same sc)
      refine ⟨rfl, ?_⟩
      refine ⟨(by show 2 ≤ sizeLine; decide), fun p112 n112 => ?_⟩
      have s112 := same_upd (o := .tup [.int 0, .int 1]) n112
      have e112 := upd_same (H := H3) (a := p112) (o := .tup [.int 0, .int 1])
      refine (fun (G : ∀ H_112 : Hp, Same H3 H_112 → H_112 p112 = some (.tup [.int 0, .int 1]) → _) => G _ s112 e112) (fun H_112 s112 e112 => ?_)
      have sA := sA.trans s112
      refine ⟨_, rfl, _, rfl, log_ok (by omega), (by show 3 ≤ sizeLine; decide), fun p113 n113 => ?_⟩
      have s113 := same_upd (o := .tup [.ref p112, .int 1, .str (Str.ofString (toString (0 + (i : Int))))]) n113
      have e113 := upd_same (H := H_112) (a := p113) (o := .tup [.ref p112, .int 1, .str (Str.ofString (toString (0 + (i : Int))))])
      refine (fun (G : ∀ H_113 : Hp, Same H_112 H_113 → H_113 p113 = some (.tup [.ref p112, .int 1, .str (Str.ofString (toString (0 + (i : Int))))]) → _) => G _ s113 e113) (fun H_113 s113 e113 => ?_)
      have sA := sA.trans s113
      have ga := (gn_tup (SqT.of (wo_at (s113 _ _ e112) (wo_new hS n112))) (GNs.cons (gn_int (by decide)) (.cons (gn_int (by decide)) .nil) : GNs K _ 210 0 [.int 0, .int 1]) (by show 2 ≤ 4; decide))
      have gxn := gx.same (wo_same (S := (M :: [r])) sA)
      have git : GI K (wo (M :: [r]) H_113) (.ref p113) := gi3 (wo_at e113 (wo_new (hS.same s112) n113)) (ga.mono (by decide) (by decide)) (gn_int (by decide)) ((gn_num (i := 0 + (i : Int)) (by omega) (by omega)).mono (by decide) (by decide))
      exact ⟨_, sA _ _ hM, (by rw [sizeLine_eq]; omega), Same.off (gsc.trans sA) nM off_upd, xs ++ [.ref p113], upd_same, GIs.app (gxn.same (wo_upd (by simp))) (.cons (git.same (wo_upd (by simp))) .nil), by rw [List.length_append, hxl]; rfl⟩
    · obtain ⟨sc, xs, hM, gx, hxl⟩ := p
      have gb := gb.same (wo_same (S := [r]) sc)
      have gv := gv.same (wo_same (S := [r]) sc)
      have hc := sc _ _ hc
      have hF := sc _ _ hF
      have hcw := wo_same (S := [r]) sc _ _ hcw
      have sA := sA.trans sc
      have gM := gv_lst (SqL.of (wo_at (S := [r]) hM (wo_new hS0 nM))) (gx.same wo_less) (by omega)
      have gv := GVs.app gv (.cons (gM) .nil)
      refine ⟨(by show 2 ≤ sizeLine; decide), fun p12 n12 => ?_⟩
      have s12 := same_upd (o := .lst [.ref p11, .ref M]) n12
      have e12 := upd_same (H := H2) (a := p12) (o := .lst [.ref p11, .ref M])
      refine (fun (G : ∀ H_12 : Hp, Same H2 H_12 → H_12 p12 = some (.lst [.ref p11, .ref M]) → _) => G _ s12 e12) (fun H_12 s12 e12 => ?_)
      have d12 : p12 ≠ r := (R.same sA).new n12
      have w12 := wo_at (S := [r]) e12 (fun X hX => by rw [List.mem_singleton.mp hX]; exact d12)
      have gb := gb.same (wo_same (S := [r]) s12)
      have gv := gv.same (wo_same (S := [r]) s12)
      have hcw := wo_same (S := [r]) s12 _ _ hcw
      have hc := s12 _ _ hc
      have hF := s12 _ _ hF
      have sA := sA.trans s12
      have gv0 := gv
      have sA0 := sA
      refine ⟨p10, p12, _, _, rfl, rfl, hF, e12, (by show 12 ≤ sizeLine; decide), fun p13 n13 => ?_⟩
      have s13 := same_upd (o := .lst ([.ref c, .ref p2, .ref p3, .non, .bl true, .str ("" : String), .ref p4, .ref p5, .ref p7, .ref p9] ++ [.ref p11, .ref M])) n13
      have e13 := upd_same (H := H_12) (a := p13) (o := .lst ([.ref c, .ref p2, .ref p3, .non, .bl true, .str ("" : String), .ref p4, .ref p5, .ref p7, .ref p9] ++ [.ref p11, .ref M]))
      refine (fun (G : ∀ H_13 : Hp, Same H_12 H_13 → H_13 p13 = some (.lst ([.ref c, .ref p2, .ref p3, .non, .bl true, .str ("" : String), .ref p4, .ref p5, .ref p7, .ref p9] ++ [.ref p11, .ref M])) → _) => G _ s13 e13) (fun H_13 s13 e13 => ?_)
      have d13 : p13 ≠ r := (R.same sA).new n13
      have w13 := wo_at (S := [r]) e13 (fun X hX => by rw [List.mem_singleton.mp hX]; exact d13)
      have gb := gb.same (wo_same (S := [r]) s13)
      have gv := gv.same (wo_same (S := [r]) s13)
      have hcw := wo_same (S := [r]) s13 _ _ hcw
      have hc := s13 _ _ hc
      have hF := s13 _ _ hF
      have sA := sA.trans s13
      have gw : GVs K (wo [p13, r] H_13) ([.ref c, .ref p2, .ref p3, .non, .bl true, .str ("" : String), .ref p4, .ref p5, .ref p7, .ref p9] ++ [.ref p11, .ref M]) := gv0.same (wo_add s13 n13)
      have fF := sfree sA0 n13
      obtain ⟨fs, hF, gw, hfl⟩ : ∃ fs, H_13 p13 = some (.lst fs) ∧ GVs K (wo [p13, r] H_13) fs ∧ fs.length = 12 := ⟨_, e13, gw, rfl⟩
      clear gv0 gv
      dsimp only [gName]
      rw [show List.set ([some (V.ref r), some (V.int (m : Int)), some (V.ref c), some (V.ref p10), none, none, none, none, none, none, none] : List (Option V)) 3 (some (V.ref p13)) = [some (V.ref r), some (V.int (m : Int)), some (V.ref c), some (V.ref p13), none, none, none, none, none, none, none] from rfl]
      have hS0 : Has H_13 [p13, r] := .cons hF (.reel (R.same sA))
      refine ⟨_, rfl, .inl ⟨rfl, _, SqL.of hF⟩, 7, rfl, by decide, by decide, fun M nM => lc_it walk_range (fun i H' => Same H_13 H' ∧ ∃ xs, H' M = some (.lst xs) ∧ GIs K (wo (M :: [p13, r]) H') xs ∧ xs.length = i) ⟨same_upd nM, [], upd_same, GIs.nil, rfl⟩ (fun _ _ _ _ => True.intro) (fun i x H2 H3 hi p y => ?_) (fun H2 p => ?_)⟩
      · obtain ⟨sc, xs, hM, gx, hxl⟩ := p
        obtain ⟨rfl, rfl⟩ := y
        have gsc := sc
        have sA := Same.refl H3
        have hS : Has H3 (M :: [p13, r]) := .cons hM (hS0.same sc)
        refine ⟨rfl, ?_⟩
        refine ⟨_, rfl, _, rfl, _, _, rfl, rfl, (by show 2 ≤ sizeLine; decide), fun p114 n114 => ?_⟩
        have s114 := same_upd (o := .tup [.int (0 + (i : Int)), .int (0 + (i : Int) + 1)]) n114
        have e114 := upd_same (H := H3) (a := p114) (o := .tup [.int (0 + (i : Int)), .int (0 + (i : Int) + 1)])
        refine (fun (G : ∀ H_114 : Hp, Same H3 H_114 → H_114 p114 = some (.tup [.int (0 + (i : Int)), .int (0 + (i : Int) + 1)]) → _) => G _ s114 e114) (fun H_114 s114 e114 => ?_)
        have sA := sA.trans s114
        refine ⟨(by show 3 ≤ sizeLine; decide), fun p115 n115 => ?_⟩
        have s115 := same_upd (o := .tup [.ref p114, .int 1, .str ("a" : String)]) n115
        have e115 := upd_same (H := H_114) (a := p115) (o := .tup [.ref p114, .int 1, .str ("a" : String)])
        refine (fun (G : ∀ H_115 : Hp, Same H_114 H_115 → H_115 p115 = some (.tup [.ref p114, .int 1, .str ("a" : String)]) → _) => G _ s115 e115) (fun H_115 s115 e115 => ?_)
        have sA := sA.trans s115
        have ga := (gn_tup (SqT.of (wo_at (s115 _ _ e114) (wo_new hS n114))) (GNs.cons (gn_int (by omega)) (.cons (gn_int (by omega)) .nil) : GNs K _ 210 0 [.int (0 + (i : Int)), .int (0 + (i : Int) + 1)]) (by show 2 ≤ 4; decide))
        have gxn := gx.same (wo_same (S := (M :: [p13, r])) sA)
        have git : GI K (wo (M :: [p13, r]) H_115) (.ref p115) := gi3 (wo_at e115 (wo_new (hS.same s114) n115)) (ga.mono (by decide) (by decide)) (gn_int (by decide)) ((gn_str (("a" : String) : Str) (by decide +kernel) (by decide +kernel)).mono (by decide) (by decide))
        exact ⟨_, sA _ _ hM, (by rw [sizeLine_eq]; omega), Same.off (gsc.trans sA) nM off_upd, xs ++ [.ref p115], upd_same, GIs.app (gxn.same (wo_upd (by simp))) (.cons (git.same (wo_upd (by simp))) .nil), by rw [List.length_append, hxl]; rfl⟩
      · obtain ⟨sc, xs, hM, gx, hxl⟩ := p
        have gb := gb.same (wo_same (S := [r]) sc)
        have hc := sc _ _ hc
        have hF := sc _ _ hF
        have hcw := wo_same (S := [r]) sc _ _ hcw
        have sA := sA.trans sc
        have gM := gv_lst (SqL.of (wo_at (S := [p13, r]) hM (wo_new hS0 nM))) (gx.same wo_less) (by omega)
        have gw := gw.same (wo_same (S := [p13, r]) sc)
        refine ⟨p13, _, _, rfl, rfl, hF, (by rw [sizeLine_eq]; omega), ?_⟩
        have hF := upd_same (H := H2) (a := p13) (o := .lst (fs ++ [.ref M]))
        have gv := ((GVs.app gw (.cons gM .nil)).same (wo_upd (S := [p13, r]) (M := p13) (o := .lst (fs ++ [.ref M])) (by simp))).same wo_less
        have sA := Same.off sA fF (off_upd (o := .lst (fs ++ [.ref M])))
        refine (fun (G : ∀ H4 : Hp, Same H H4 → H4 p13 = some (.lst (fs ++ [.ref M])) → GVs K (wo [r] H4) (fs ++ [.ref M]) → _) => G _ sA hF gv) (fun H4 sA hF gv => ?_)
        obtain ⟨fs2, hF, gv, hfl⟩ : ∃ fs2, H4 p13 = some (.lst fs2) ∧ GVs K (wo [r] H4) fs2 ∧ fs2.length = 13 := ⟨_, hF, gv, by rw [List.length_append, hfl]; rfl⟩
        refine ⟨_, rfl, Nat.zero_le _, fun p14 n14 => ?_⟩
        have s14 := same_upd (o := .lst []) n14
        have e14 := upd_same (H := H4) (a := p14) (o := .lst [])
        refine (fun (G : ∀ H_14 : Hp, Same H4 H_14 → H_14 p14 = some (.lst []) → _) => G _ s14 e14) (fun H_14 s14 e14 => ?_)
        have d14 : p14 ≠ r := (R.same sA).new n14
        have w14 := wo_at (S := [r]) e14 (fun X hX => by rw [List.mem_singleton.mp hX]; exact d14)
        have gv := gv.same (wo_same (S := [r]) s14)
        have hF := s14 _ _ hF
        have sA := sA.trans s14
        have hC4 := hC.same sA
        refine ⟨_, _, hC4.dp, .lst (SqL.of e14) .nil, shaped_cmbs cbs (fun cb hc => (ok.all cb hc).code), rfl, ?_⟩
        rw [show PyData.eqv (cmbsD cbs) (.list []) = (cbs.map cmbD).isEmpty from eqv_nil _]
        by_cases z : cbs = []
        · refine ⟨true, congrArg V.bl (by rw [z]; rfl), iteT ⟨_, rfl, ?_⟩⟩
          exact q _ p13 fs2 (Off.of sA) fF ((R.same sA).mono (by omega)) hF (gv.same wo_all) (by omega)
        refine ⟨false, congrArg V.bl (by cases cbs with | nil => exact absurd rfl z | cons => rfl), iteF ?_⟩
        obtain ⟨vs4, hc4, hvl4, _⟩ := gi_cmbs (K := K) (by omega) hC4 ok
        have pos : 0 < cbs.length := List.length_pos_iff.mpr z
        have few := ok.few
        refine ⟨_, rfl, _, rfl, c, _, rfl, .inl (SqL.of hc4), r, _, k, rfl, by omega, by omega, by omega, R.same sA, fun d H5 d0 d1 R5 o5 => ?_⟩
        dsimp only [gName]
        rw [show List.set ([some (V.ref r), some (V.int (m : Int)), some (V.ref c), some (V.ref p13), none, none, none, none, none, none, none] : List (Option V)) 4 (some (V.int d)) = [some (V.ref r), some (V.int (m : Int)), some (V.ref c), some (V.ref p13), some (V.int d), none, none, none, none, none, none] from rfl]
        have hF := o5 _ _ hF d13
        have gv := (gv.same (wo_off o5)).same wo_all
        have hC5 := hC4.go ((R.same sA).tk o5) (fun vs h => o5 _ _ h cr)
        have oA := (Off.of sA).trans o5
        have fresh5 := fun p (n : H5 p = none) => R5.free oA n
        obtain ⟨j, rfl⟩ := Int.eq_ofNat_of_zero_le d0
        have hj : j < cbs.length := by omega
        obtain ⟨vs5, hc5, hv5⟩ := id hC5
        have hvl5 := hv5.1
        obtain ⟨kt, kx, hvj, hkt, hkx⟩ := Cmbs.at_ hv5 hj
        have okj := ok.all _ (List.getElem_mem hj)
        have gb5 : GIs K H5 vs5 := by
          obtain ⟨vs6, hc6, _, g6⟩ := gi_cmbs (K := K) (by omega) hC5 ok
          cases Option.some.inj (hc6.symm.trans hc5)
          exact g6
        generalize cbs[j] = cb at hkt hkx okj
        obtain ⟨ks, t, cc⟩ := cb
        have okL : ks.length = 2 ∨ ks.length = 3 := okj.len
        have okt : 1 ≤ t ∧ t ≤ 10 ^ 9 := okj.time
        have gT : ∀ H, GN K H 210 0 (.int t) := fun H => gn_int (by omega)
        have gC : ∀ H, GN K H 3500 2 (.str cc) := fun H => (gn_code okj.code).mono (by decide) (by decide)
        have gks : ∀ H, GNs K H 210 0 (ks.map V.int) := fun H => gn_ints (fun k hk => by have := okj.key k hk; omega)
        have kl : (ks.map V.int).length = ks.length := List.length_map _
        have gK : GN K H5 3500 2 (.ref kx) := (gn_tup (SqT.of hkx) (gks _) (by rw [kl]; omega)).mono (by decide) (by decide)
        refine ⟨_, rfl, _, rfl, c, _, (j : Int), _, rfl, rfl, SqL.of hc5, atI_nat hvj, kt, _, rfl, SqT.of hkt, rfl, _, _, rfl, _, _, rfl, _, _, rfl, rfl, ?_⟩
        dsimp only
        rw [show List.set (List.set (List.set ([some (V.ref r), some (V.int (m : Int)), some (V.ref c), some (V.ref p13), some (V.int (j : Int)), none, none, none, none, none, none] : List (Option V)) 5 (some (V.ref kx))) 6 (some (V.int t))) 7 (some (V.str cc)) = [some (V.ref r), some (V.int (m : Int)), some (V.ref c), some (V.ref p13), some (V.int (j : Int)), some (V.ref kx), some (V.int t), some (V.str cc), none, none, none] from rfl]
        have sA := Same.refl H5
        have hF5 := hF
        have hc5_ := hc5
        have gi : GIs K H5 [] := GIs.nil
        have k2 : 2 ≤ (ks.map V.int).length := by rw [kl]; omega
        have k3 : (ks.map V.int).length ≤ 3 := by rw [kl]; omega
        refine ⟨_, rfl, kx, _, rfl, SqT.of hkx, fun p21 n21 => ?_⟩
        have s21 := same_upd (o := .tup (ks.map V.int).reverse) n21
        have e21 := upd_same (H := H5) (a := p21) (o := .tup (ks.map V.int).reverse)
        refine (fun (G : ∀ H_21 : Hp, Same H5 H_21 → H_21 p21 = some (.tup (ks.map V.int).reverse) → _) => G _ s21 e21) (fun H_21 s21 e21 => ?_)
        have gK := gK.same s21
        have gi := gi.same s21
        have hc5 := s21 _ _ hc5
        have hkx := s21 _ _ hkx
        have hF := s21 _ _ hF
        have sA := sA.trans s21
        have ga := gn_tup (L := 210) (n := 0) (SqT.of e21) (fun v hv => gks _ v (List.mem_reverse.mp hv)) (by rw [List.length_reverse]; omega)
        refine ⟨_, rfl, _, rfl, (by show 3 ≤ sizeLine; decide), fun p22 n22 => ?_⟩
        have s22 := same_upd (o := .tup [.ref p21, .int t, .str cc]) n22
        have e22 := upd_same (H := H_21) (a := p22) (o := .tup [.ref p21, .int t, .str cc])
        refine (fun (G : ∀ H_22 : Hp, Same H_21 H_22 → H_22 p22 = some (.tup [.ref p21, .int t, .str cc]) → _) => G _ s22 e22) (fun H_22 s22 e22 => ?_)
        have gK := gK.same s22
        have gi := gi.same s22
        have hc5 := s22 _ _ hc5
        have hkx := s22 _ _ hkx
        have hF := s22 _ _ hF
        have sA := sA.trans s22
        have gi := GIs.app gi (.cons (gi3 e22 ((ga.same s22).mono (by decide) (by decide)) (gT _) (gC _)) .nil)
        refine ⟨_, rfl, 1, rfl, kx, _, rfl, SqT.of hkx, nw1 k2, fun p23 n23 => ?_⟩
        have s23 := same_upd (o := .tup (cutV (ks.map V.int) none (some 1))) n23
        have e23 := upd_same (H := H_22) (a := p23) (o := .tup (cutV (ks.map V.int) none (some 1)))
        refine (fun (G : ∀ H_23 : Hp, Same H_22 H_23 → H_23 p23 = some (.tup (cutV (ks.map V.int) none (some 1))) → _) => G _ s23 e23) (fun H_23 s23 e23 => ?_)
        have gK := gK.same s23
        have gi := gi.same s23
        have hc5 := s23 _ _ hc5
        have hkx := s23 _ _ hkx
        have hF := s23 _ _ hF
        have sA := sA.trans s23
        rw [show cutV (ks.map V.int) none (some 1) = (ks.map V.int).take 1 from cutT (k := 1)] at e23
        have ga := gn_tup (L := 210) (n := 0) (SqT.of e23) (fun v hv => gks _ v (List.mem_of_mem_take hv)) (by rw [List.length_take]; omega)
        refine ⟨_, rfl, _, rfl, (by show 3 ≤ sizeLine; decide), fun p24 n24 => ?_⟩
        have s24 := same_upd (o := .tup [.ref p23, .int t, .str cc]) n24
        have e24 := upd_same (H := H_23) (a := p24) (o := .tup [.ref p23, .int t, .str cc])
        refine (fun (G : ∀ H_24 : Hp, Same H_23 H_24 → H_24 p24 = some (.tup [.ref p23, .int t, .str cc]) → _) => G _ s24 e24) (fun H_24 s24 e24 => ?_)
        have gK := gK.same s24
        have gi := gi.same s24
        have hc5 := s24 _ _ hc5
        have hkx := s24 _ _ hkx
        have hF := s24 _ _ hF
        have sA := sA.trans s24
        have gi := GIs.app gi (.cons (gi3 e24 ((ga.same s24).mono (by decide) (by decide)) (gT _) (gC _)) .nil)
        refine ⟨_, rfl, _, rfl, (by show 1 ≤ sizeLine; decide), fun p25 n25 => ?_⟩
        have s25 := same_upd (o := .tup [.int (m : Int)]) n25
        have e25 := upd_same (H := H_24) (a := p25) (o := .tup [.int (m : Int)])
        refine (fun (G : ∀ H_25 : Hp, Same H_24 H_25 → H_25 p25 = some (.tup [.int (m : Int)]) → _) => G _ s25 e25) (fun H_25 s25 e25 => ?_)
        have gK := gK.same s25
        have gi := gi.same s25
        have hc5 := s25 _ _ hc5
        have hkx := s25 _ _ hkx
        have hF := s25 _ _ hF
        have sA := sA.trans s25
        refine ⟨kx, p25, _, _, rfl, rfl, SqT.of hkx, SqT.of e25, (fun z => by rw [z] at k2; exact absurd k2 (by decide)), (by rw [sizeLine_eq]; simp only [List.length_append, List.length_take, List.length_drop, List.length_cons, List.length_nil]; omega), (fun z => by cases z), fun _ => fun p26 n26 => ?_⟩
        have s26 := same_upd (o := .tup ((ks.map V.int) ++ [.int (m : Int)])) n26
        have e26 := upd_same (H := H_25) (a := p26) (o := .tup ((ks.map V.int) ++ [.int (m : Int)]))
        refine (fun (G : ∀ H_26 : Hp, Same H_25 H_26 → H_26 p26 = some (.tup ((ks.map V.int) ++ [.int (m : Int)])) → _) => G _ s26 e26) (fun H_26 s26 e26 => ?_)
        have gK := gK.same s26
        have gi := gi.same s26
        have hc5 := s26 _ _ hc5
        have hkx := s26 _ _ hkx
        have hF := s26 _ _ hF
        have sA := sA.trans s26
        have ga := gn_tup (L := 210) (n := 0) (SqT.of e26) (fun v hv => (List.mem_append.mp hv).elim (gks _ v) (fun z => by rw [List.mem_singleton.mp z]; exact gn_int (by omega))) (by rw [List.length_append]; show _ + 1 ≤ 4; omega)
        refine ⟨_, rfl, _, rfl, (by show 3 ≤ sizeLine; decide), fun p27 n27 => ?_⟩
        have s27 := same_upd (o := .tup [.ref p26, .int t, .str cc]) n27
        have e27 := upd_same (H := H_26) (a := p27) (o := .tup [.ref p26, .int t, .str cc])
        refine (fun (G : ∀ H_27 : Hp, Same H_26 H_27 → H_27 p27 = some (.tup [.ref p26, .int t, .str cc]) → _) => G _ s27 e27) (fun H_27 s27 e27 => ?_)
        have gK := gK.same s27
        have gi := gi.same s27
        have hc5 := s27 _ _ hc5
        have hkx := s27 _ _ hkx
        have hF := s27 _ _ hF
        have sA := sA.trans s27
        have gi := GIs.app gi (.cons (gi3 e27 ((ga.same s27).mono (by decide) (by decide)) (gT _) (gC _)) .nil)
        refine ⟨_, rfl, kx, _, rfl, .inr (SqT.of hkx), fun p28 n28 => ?_⟩
        have s28 := same_upd (o := .lst (ks.map V.int)) n28
        have e28 := upd_same (H := H_27) (a := p28) (o := .lst (ks.map V.int))
        refine (fun (G : ∀ H_28 : Hp, Same H_27 H_28 → H_28 p28 = some (.lst (ks.map V.int)) → _) => G _ s28 e28) (fun H_28 s28 e28 => ?_)
        have gK := gK.same s28
        have gi := gi.same s28
        have hc5 := s28 _ _ hc5
        have hkx := s28 _ _ hkx
        have hF := s28 _ _ hF
        have sA := sA.trans s28
        have ga := gn_lst (L := 210) (n := 0) (SqL.of e28) (gks _) (by omega)
        refine ⟨_, rfl, _, rfl, (by show 3 ≤ sizeLine; decide), fun p29 n29 => ?_⟩
        have s29 := same_upd (o := .tup [.ref p28, .int t, .str cc]) n29
        have e29 := upd_same (H := H_28) (a := p29) (o := .tup [.ref p28, .int t, .str cc])
        refine (fun (G : ∀ H_29 : Hp, Same H_28 H_29 → H_29 p29 = some (.tup [.ref p28, .int t, .str cc]) → _) => G _ s29 e29) (fun H_29 s29 e29 => ?_)
        have gK := gK.same s29
        have gi := gi.same s29
        have hc5 := s29 _ _ hc5
        have hkx := s29 _ _ hkx
        have hF := s29 _ _ hF
        have sA := sA.trans s29
        have gi := GIs.app gi (.cons (gi3 e29 ((ga.same s29).mono (by decide) (by decide)) (gT _) (gC _)) .nil)
        refine ⟨(by show 4 ≤ sizeLine; decide), fun p30 n30 => ?_⟩
        have s30 := same_upd (o := .lst [.ref p22, .ref p24, .ref p27, .ref p29]) n30
        have e30 := upd_same (H := H_29) (a := p30) (o := .lst [.ref p22, .ref p24, .ref p27, .ref p29])
        refine (fun (G : ∀ H_30 : Hp, Same H_29 H_30 → H_30 p30 = some (.lst [.ref p22, .ref p24, .ref p27, .ref p29]) → _) => G _ s30 e30) (fun H_30 s30 e30 => ?_)
        have gK := gK.same s30
        have gi := gi.same s30
        have hc5 := s30 _ _ hc5
        have hkx := s30 _ _ hkx
        have hF := s30 _ _ hF
        have sA := sA.trans s30
        obtain ⟨xs, hS, gS, hxl⟩ : ∃ xs, H_30 p30 = some (.lst xs) ∧ GIs K H_30 xs ∧ xs.length = 4 := ⟨_, e30, gi, rfl⟩
        dsimp only [gName]
        rw [show List.set ([some (V.ref r), some (V.int (m : Int)), some (V.ref c), some (V.ref p13), some (V.int (j : Int)), some (V.ref kx), some (V.int t), some (V.str cc), none, none, none] : List (Option V)) 8 (some (V.ref p30)) = [some (V.ref r), some (V.int (m : Int)), some (V.ref c), some (V.ref p13), some (V.int (j : Int)), some (V.ref kx), some (V.int t), some (V.str cc), some (V.ref p30), none, none] from rfl]
        have gi : GIs K H_30 [] := GIs.nil
        refine ⟨_, rfl, 1, rfl, (by show 1 ≤ sizeLine; decide), fun p31 n31 => ?_⟩
        have s31 := same_upd (o := .tup [.int (-1)]) n31
        have e31 := upd_same (H := H_30) (a := p31) (o := .tup [.int (-1)])
        refine (fun (G : ∀ H_31 : Hp, Same H_30 H_31 → H_31 p31 = some (.tup [.int (-1)]) → _) => G _ s31 e31) (fun H_31 s31 e31 => ?_)
        have gK := gK.same s31
        have gi := gi.same s31
        have gS := gS.same s31
        have hc5 := s31 _ _ hc5
        have hkx := s31 _ _ hkx
        have hF := s31 _ _ hF
        have hS := s31 _ _ hS
        have sA := sA.trans s31
        refine ⟨_, rfl, 1, rfl, kx, _, rfl, SqT.of hkx, nw2 k2, fun p32 n32 => ?_⟩
        have s32 := same_upd (o := .tup (cutV (ks.map V.int) (some 1) none)) n32
        have e32 := upd_same (H := H_31) (a := p32) (o := .tup (cutV (ks.map V.int) (some 1) none))
        refine (fun (G : ∀ H_32 : Hp, Same H_31 H_32 → H_32 p32 = some (.tup (cutV (ks.map V.int) (some 1) none)) → _) => G _ s32 e32) (fun H_32 s32 e32 => ?_)
        have gK := gK.same s32
        have gi := gi.same s32
        have gS := gS.same s32
        have hc5 := s32 _ _ hc5
        have hkx := s32 _ _ hkx
        have hF := s32 _ _ hF
        have hS := s32 _ _ hS
        have sA := sA.trans s32
        rw [show cutV (ks.map V.int) (some 1) none = (ks.map V.int).drop 1 from cutD (k := 1) (by omega)] at e32
        refine ⟨p31, p32, _, _, rfl, rfl, SqT.of (s32 _ _ e31), SqT.of e32, (fun z => by cases z), (by rw [sizeLine_eq]; simp only [List.length_append, List.length_take, List.length_drop, List.length_cons, List.length_nil]; omega), (fun z => by have := congrArg List.length z; rw [List.length_drop] at this; exact absurd this (by show ¬ _ = 0; omega)), fun _ => fun p33 n33 => ?_⟩
        have s33 := same_upd (o := .tup ([.int (-1)] ++ (ks.map V.int).drop 1)) n33
        have e33 := upd_same (H := H_32) (a := p33) (o := .tup ([.int (-1)] ++ (ks.map V.int).drop 1))
        refine (fun (G : ∀ H_33 : Hp, Same H_32 H_33 → H_33 p33 = some (.tup ([.int (-1)] ++ (ks.map V.int).drop 1)) → _) => G _ s33 e33) (fun H_33 s33 e33 => ?_)
        have gK := gK.same s33
        have gi := gi.same s33
        have gS := gS.same s33
        have hc5 := s33 _ _ hc5
        have hkx := s33 _ _ hkx
        have hF := s33 _ _ hF
        have hS := s33 _ _ hS
        have sA := sA.trans s33
        have ga := gn_tup (L := 210) (n := 0) (SqT.of e33) (fun v hv => (List.mem_append.mp hv).elim (fun z => by rw [List.mem_singleton.mp z]; exact gn_int (by decide)) (fun z => gks _ v (List.mem_of_mem_drop z))) (by rw [List.length_append, List.length_drop]; show 1 + _ ≤ 4; omega)
        refine ⟨_, rfl, _, rfl, (by show 3 ≤ sizeLine; decide), fun p34 n34 => ?_⟩
        have s34 := same_upd (o := .tup [.ref p33, .int t, .str cc]) n34
        have e34 := upd_same (H := H_33) (a := p34) (o := .tup [.ref p33, .int t, .str cc])
        refine (fun (G : ∀ H_34 : Hp, Same H_33 H_34 → H_34 p34 = some (.tup [.ref p33, .int t, .str cc]) → _) => G _ s34 e34) (fun H_34 s34 e34 => ?_)
        have gK := gK.same s34
        have gi := gi.same s34
        have gS := gS.same s34
        have hc5 := s34 _ _ hc5
        have hkx := s34 _ _ hkx
        have hF := s34 _ _ hF
        have hS := s34 _ _ hS
        have sA := sA.trans s34
        have gi := GIs.app gi (.cons (gi3 e34 ((ga.same s34).mono (by decide) (by decide)) (gT _) (gC _)) .nil)
        refine ⟨_, rfl, 1, rfl, kx, _, rfl, SqT.of hkx, nw1 k2, fun p35 n35 => ?_⟩
        have s35 := same_upd (o := .tup (cutV (ks.map V.int) none (some 1))) n35
        have e35 := upd_same (H := H_34) (a := p35) (o := .tup (cutV (ks.map V.int) none (some 1)))
        refine (fun (G : ∀ H_35 : Hp, Same H_34 H_35 → H_35 p35 = some (.tup (cutV (ks.map V.int) none (some 1))) → _) => G _ s35 e35) (fun H_35 s35 e35 => ?_)
        have gK := gK.same s35
        have gi := gi.same s35
        have gS := gS.same s35
        have hc5 := s35 _ _ hc5
        have hkx := s35 _ _ hkx
        have hF := s35 _ _ hF
        have hS := s35 _ _ hS
        have sA := sA.trans s35
        rw [show cutV (ks.map V.int) none (some 1) = (ks.map V.int).take 1 from cutT (k := 1)] at e35
        refine ⟨_, rfl, 1, rfl, kx, _, rfl, SqT.of hkx, nw1 k2, fun p36 n36 => ?_⟩
        have s36 := same_upd (o := .tup (cutV (ks.map V.int) none (some 1))) n36
        have e36 := upd_same (H := H_35) (a := p36) (o := .tup (cutV (ks.map V.int) none (some 1)))
        refine (fun (G : ∀ H_36 : Hp, Same H_35 H_36 → H_36 p36 = some (.tup (cutV (ks.map V.int) none (some 1))) → _) => G _ s36 e36) (fun H_36 s36 e36 => ?_)
        have gK := gK.same s36
        have gi := gi.same s36
        have gS := gS.same s36
        have hc5 := s36 _ _ hc5
        have hkx := s36 _ _ hkx
        have hF := s36 _ _ hF
        have hS := s36 _ _ hS
        have sA := sA.trans s36
        rw [show cutV (ks.map V.int) none (some 1) = (ks.map V.int).take 1 from cutT (k := 1)] at e36
        refine ⟨p35, p36, _, _, rfl, rfl, SqT.of (s36 _ _ e35), SqT.of e36, (fun z => by have := congrArg List.length z; rw [List.length_take] at this; exact absurd this (by show ¬ _ = 0; omega)), (by rw [sizeLine_eq]; simp only [List.length_append, List.length_take, List.length_drop, List.length_cons, List.length_nil]; omega), (fun z => by have := congrArg List.length z; rw [List.length_take] at this; exact absurd this (by show ¬ _ = 0; omega)), fun _ => fun p37 n37 => ?_⟩
        have s37 := same_upd (o := .tup ((ks.map V.int).take 1 ++ (ks.map V.int).take 1)) n37
        have e37 := upd_same (H := H_36) (a := p37) (o := .tup ((ks.map V.int).take 1 ++ (ks.map V.int).take 1))
        refine (fun (G : ∀ H_37 : Hp, Same H_36 H_37 → H_37 p37 = some (.tup ((ks.map V.int).take 1 ++ (ks.map V.int).take 1)) → _) => G _ s37 e37) (fun H_37 s37 e37 => ?_)
        have gK := gK.same s37
        have gi := gi.same s37
        have gS := gS.same s37
        have hc5 := s37 _ _ hc5
        have hkx := s37 _ _ hkx
        have hF := s37 _ _ hF
        have hS := s37 _ _ hS
        have sA := sA.trans s37
        have ga := gn_tup (L := 210) (n := 0) (SqT.of e37) (fun v hv => gks _ v ((List.mem_append.mp hv).elim List.mem_of_mem_take List.mem_of_mem_take)) (by rw [List.length_append, List.length_take]; omega)
        refine ⟨_, rfl, _, rfl, (by show 3 ≤ sizeLine; decide), fun p38 n38 => ?_⟩
        have s38 := same_upd (o := .tup [.ref p37, .int t, .str cc]) n38
        have e38 := upd_same (H := H_37) (a := p38) (o := .tup [.ref p37, .int t, .str cc])
        refine (fun (G : ∀ H_38 : Hp, Same H_37 H_38 → H_38 p38 = some (.tup [.ref p37, .int t, .str cc]) → _) => G _ s38 e38) (fun H_38 s38 e38 => ?_)
        have gK := gK.same s38
        have gi := gi.same s38
        have gS := gS.same s38
        have hc5 := s38 _ _ hc5
        have hkx := s38 _ _ hkx
        have hF := s38 _ _ hF
        have hS := s38 _ _ hS
        have sA := sA.trans s38
        have gi := GIs.app gi (.cons (gi3 e38 ((ga.same s38).mono (by decide) (by decide)) (gT _) (gC _)) .nil)
        refine ⟨(by show 4 ≤ sizeLine; decide), fun p39 n39 => ?_⟩
        have s39 := same_upd (o := .tup [.int 0, .int 1, .int 2, .int 3]) n39
        have e39 := upd_same (H := H_38) (a := p39) (o := .tup [.int 0, .int 1, .int 2, .int 3])
        refine (fun (G : ∀ H_39 : Hp, Same H_38 H_39 → H_39 p39 = some (.tup [.int 0, .int 1, .int 2, .int 3]) → _) => G _ s39 e39) (fun H_39 s39 e39 => ?_)
        have gK := gK.same s39
        have gi := gi.same s39
        have gS := gS.same s39
        have hc5 := s39 _ _ hc5
        have hkx := s39 _ _ hkx
        have hF := s39 _ _ hF
        have hS := s39 _ _ hS
        have sA := sA.trans s39
        have ga := gn_tup (K := K) (L := 210) (n := 0) (vs := [.int 0, .int 1, .int 2, .int 3]) (SqT.of e39) (GNs.cons (gn_int (by decide)) (GNs.cons (gn_int (by decide)) (GNs.cons (gn_int (by decide)) (GNs.cons (gn_int (by decide)) (GNs.nil))))) (by show 4 ≤ 4; decide)
        refine ⟨_, rfl, _, rfl, (by show 3 ≤ sizeLine; decide), fun p40 n40 => ?_⟩
        have s40 := same_upd (o := .tup [.ref p39, .int t, .str cc]) n40
        have e40 := upd_same (H := H_39) (a := p40) (o := .tup [.ref p39, .int t, .str cc])
        refine (fun (G : ∀ H_40 : Hp, Same H_39 H_40 → H_40 p40 = some (.tup [.ref p39, .int t, .str cc]) → _) => G _ s40 e40) (fun H_40 s40 e40 => ?_)
        have gK := gK.same s40
        have gi := gi.same s40
        have gS := gS.same s40
        have hc5 := s40 _ _ hc5
        have hkx := s40 _ _ hkx
        have hF := s40 _ _ hF
        have hS := s40 _ _ hS
        have sA := sA.trans s40
        have gi := GIs.app gi (.cons (gi3 e40 ((ga.same s40).mono (by decide) (by decide)) (gT _) (gC _)) .nil)
        refine ⟨(by show 3 ≤ sizeLine; decide), fun p41 n41 => ?_⟩
        have s41 := same_upd (o := .lst [.ref p34, .ref p38, .ref p40]) n41
        have e41 := upd_same (H := H_40) (a := p41) (o := .lst [.ref p34, .ref p38, .ref p40])
        refine (fun (G : ∀ H_41 : Hp, Same H_40 H_41 → H_41 p41 = some (.lst [.ref p34, .ref p38, .ref p40]) → _) => G _ s41 e41) (fun H_41 s41 e41 => ?_)
        have gK := gK.same s41
        have gi := gi.same s41
        have gS := gS.same s41
        have hc5 := s41 _ _ hc5
        have hkx := s41 _ _ hkx
        have hF := s41 _ _ hF
        have hS := s41 _ _ hS
        have sA := sA.trans s41
        refine ⟨p30, p41, _, _, rfl, rfl, hS, e41, (by rw [hxl]; show 7 ≤ sizeLine; decide), fun p42 n42 => ?_⟩
        have s42 := same_upd (o := .lst (xs ++ [.ref p34, .ref p38, .ref p40])) n42
        have e42 := upd_same (H := H_41) (a := p42) (o := .lst (xs ++ [.ref p34, .ref p38, .ref p40]))
        refine (fun (G : ∀ H_42 : Hp, Same H_41 H_42 → H_42 p42 = some (.lst (xs ++ [.ref p34, .ref p38, .ref p40])) → _) => G _ s42 e42) (fun H_42 s42 e42 => ?_)
        have gK := gK.same s42
        have gi := gi.same s42
        have gS := gS.same s42
        have hc5 := s42 _ _ hc5
        have hkx := s42 _ _ hkx
        have hF := s42 _ _ hF
        have hS := s42 _ _ hS
        have sA := sA.trans s42
        obtain ⟨xs, hS, gS, hxl⟩ : ∃ xs, H_42 p42 = some (.lst xs) ∧ GIs K H_42 xs ∧ xs.length = 7 := ⟨_, e42, GIs.app gS gi, by rw [List.length_append, hxl]; rfl⟩
        dsimp only [gName]
        rw [show List.set ([some (V.ref r), some (V.int (m : Int)), some (V.ref c), some (V.ref p13), some (V.int (j : Int)), some (V.ref kx), some (V.int t), some (V.str cc), some (V.ref p30), none, none] : List (Option V)) 8 (some (V.ref p42)) = [some (V.ref r), some (V.int (m : Int)), some (V.ref c), some (V.ref p13), some (V.int (j : Int)), some (V.ref kx), some (V.int t), some (V.str cc), some (V.ref p42), none, none] from rfl]
        have gi : GIs K H_42 [] := GIs.nil
        refine ⟨_, rfl, (by show 2 ≤ sizeLine; decide), fun p43 n43 => ?_⟩
        have s43 := same_upd (o := .tup [.bl false, .bl true]) n43
        have e43 := upd_same (H := H_42) (a := p43) (o := .tup [.bl false, .bl true])
        refine (fun (G : ∀ H_43 : Hp, Same H_42 H_43 → H_43 p43 = some (.tup [.bl false, .bl true]) → _) => G _ s43 e43) (fun H_43 s43 e43 => ?_)
        have gK := gK.same s43
        have gi := gi.same s43
        have gS := gS.same s43
        have hc5 := s43 _ _ hc5
        have hkx := s43 _ _ hkx
        have hF := s43 _ _ hF
        have hS := s43 _ _ hS
        have sA := sA.trans s43
        have ga := gn_tup (K := K) (L := 210) (n := 0) (vs := [.bl false, .bl true]) (SqT.of e43) (GNs.cons (gn_bool _) (GNs.cons (gn_bool _) (GNs.nil))) (by show 2 ≤ 4; decide)
        refine ⟨_, rfl, _, rfl, (by show 3 ≤ sizeLine; decide), fun p44 n44 => ?_⟩
        have s44 := same_upd (o := .tup [.ref p43, .int t, .str cc]) n44
        have e44 := upd_same (H := H_43) (a := p44) (o := .tup [.ref p43, .int t, .str cc])
        refine (fun (G : ∀ H_44 : Hp, Same H_43 H_44 → H_44 p44 = some (.tup [.ref p43, .int t, .str cc]) → _) => G _ s44 e44) (fun H_44 s44 e44 => ?_)
        have gK := gK.same s44
        have gi := gi.same s44
        have gS := gS.same s44
        have hc5 := s44 _ _ hc5
        have hkx := s44 _ _ hkx
        have hF := s44 _ _ hF
        have hS := s44 _ _ hS
        have sA := sA.trans s44
        have gi := GIs.app gi (.cons (gi3 e44 ((ga.same s44).mono (by decide) (by decide)) (gT _) (gC _)) .nil)
        refine ⟨_, rfl, _, rfl, (by show 3 ≤ sizeLine; decide), fun p45 n45 => ?_⟩
        have s45 := same_upd (o := .tup [.ref kx, .int 0, .str cc]) n45
        have e45 := upd_same (H := H_44) (a := p45) (o := .tup [.ref kx, .int 0, .str cc])
        refine (fun (G : ∀ H_45 : Hp, Same H_44 H_45 → H_45 p45 = some (.tup [.ref kx, .int 0, .str cc]) → _) => G _ s45 e45) (fun H_45 s45 e45 => ?_)
        have gK := gK.same s45
        have gi := gi.same s45
        have gS := gS.same s45
        have hc5 := s45 _ _ hc5
        have hkx := s45 _ _ hkx
        have hF := s45 _ _ hF
        have hS := s45 _ _ hS
        have sA := sA.trans s45
        have gi := GIs.app gi (.cons (gi3 e45 gK (gn_int (by decide)) (gC _)) .nil)
        refine ⟨_, rfl, _, _, rfl, rfl, powW (n := 40) (k := 9) (by decide) (by decide), _, rfl, (by show 3 ≤ sizeLine; decide), fun p46 n46 => ?_⟩
        have s46 := same_upd (o := .tup [.ref kx, .int (10 ^ Int.toNat 9), .str cc]) n46
        have e46 := upd_same (H := H_45) (a := p46) (o := .tup [.ref kx, .int (10 ^ Int.toNat 9), .str cc])
        refine (fun (G : ∀ H_46 : Hp, Same H_45 H_46 → H_46 p46 = some (.tup [.ref kx, .int (10 ^ Int.toNat 9), .str cc]) → _) => G _ s46 e46) (fun H_46 s46 e46 => ?_)
        have gK := gK.same s46
        have gi := gi.same s46
        have gS := gS.same s46
        have hc5 := s46 _ _ hc5
        have hkx := s46 _ _ hkx
        have hF := s46 _ _ hF
        have hS := s46 _ _ hS
        have sA := sA.trans s46
        have gi := GIs.app gi (.cons (gi3 e46 gK (gn_int (by decide)) (gC _)) .nil)
        refine ⟨_, rfl, _, _, rfl, rfl, powW (n := 40) (k := 9) (by decide) (by decide), _, _, rfl, rfl, _, rfl, (by show 3 ≤ sizeLine; decide), fun p47 n47 => ?_⟩
        have s47 := same_upd (o := .tup [.ref kx, .int (10 ^ Int.toNat 9 + 1), .str cc]) n47
        have e47 := upd_same (H := H_46) (a := p47) (o := .tup [.ref kx, .int (10 ^ Int.toNat 9 + 1), .str cc])
        refine (fun (G : ∀ H_47 : Hp, Same H_46 H_47 → H_47 p47 = some (.tup [.ref kx, .int (10 ^ Int.toNat 9 + 1), .str cc]) → _) => G _ s47 e47) (fun H_47 s47 e47 => ?_)
        have gK := gK.same s47
        have gi := gi.same s47
        have gS := gS.same s47
        have hc5 := s47 _ _ hc5
        have hkx := s47 _ _ hkx
        have hF := s47 _ _ hF
        have hS := s47 _ _ hS
        have sA := sA.trans s47
        have gi := GIs.app gi (.cons (gi3 e47 gK (gn_int (by decide)) (gC _)) .nil)
        refine ⟨(by show 4 ≤ sizeLine; decide), fun p48 n48 => ?_⟩
        have s48 := same_upd (o := .lst [.ref p44, .ref p45, .ref p46, .ref p47]) n48
        have e48 := upd_same (H := H_47) (a := p48) (o := .lst [.ref p44, .ref p45, .ref p46, .ref p47])
        refine (fun (G : ∀ H_48 : Hp, Same H_47 H_48 → H_48 p48 = some (.lst [.ref p44, .ref p45, .ref p46, .ref p47]) → _) => G _ s48 e48) (fun H_48 s48 e48 => ?_)
        have gK := gK.same s48
        have gi := gi.same s48
        have gS := gS.same s48
        have hc5 := s48 _ _ hc5
        have hkx := s48 _ _ hkx
        have hF := s48 _ _ hF
        have hS := s48 _ _ hS
        have sA := sA.trans s48
        refine ⟨p42, p48, _, _, rfl, rfl, hS, e48, (by rw [hxl]; show 11 ≤ sizeLine; decide), fun p49 n49 => ?_⟩
        have s49 := same_upd (o := .lst (xs ++ [.ref p44, .ref p45, .ref p46, .ref p47])) n49
        have e49 := upd_same (H := H_48) (a := p49) (o := .lst (xs ++ [.ref p44, .ref p45, .ref p46, .ref p47]))
        refine (fun (G : ∀ H_49 : Hp, Same H_48 H_49 → H_49 p49 = some (.lst (xs ++ [.ref p44, .ref p45, .ref p46, .ref p47])) → _) => G _ s49 e49) (fun H_49 s49 e49 => ?_)
        have gK := gK.same s49
        have gi := gi.same s49
        have gS := gS.same s49
        have hc5 := s49 _ _ hc5
        have hkx := s49 _ _ hkx
        have hF := s49 _ _ hF
        have hS := s49 _ _ hS
        have sA := sA.trans s49
        obtain ⟨xs, hS, gS, hxl⟩ : ∃ xs, H_49 p49 = some (.lst xs) ∧ GIs K H_49 xs ∧ xs.length = 11 := ⟨_, e49, GIs.app gS gi, by rw [List.length_append, hxl]; rfl⟩
        dsimp only [gName]
        rw [show List.set ([some (V.ref r), some (V.int (m : Int)), some (V.ref c), some (V.ref p13), some (V.int (j : Int)), some (V.ref kx), some (V.int t), some (V.str cc), some (V.ref p42), none, none] : List (Option V)) 8 (some (V.ref p49)) = [some (V.ref r), some (V.int (m : Int)), some (V.ref c), some (V.ref p13), some (V.int (j : Int)), some (V.ref kx), some (V.int t), some (V.str cc), some (V.ref p49), none, none] from rfl]
        have gi : GIs K H_49 [] := GIs.nil
        refine ⟨_, rfl, _, rfl, _, rfl, (by show 3 ≤ sizeLine; decide), fun p50 n50 => ?_⟩
        have s50 := same_upd (o := .tup [.ref kx, .bl true, .str cc]) n50
        have e50 := upd_same (H := H_49) (a := p50) (o := .tup [.ref kx, .bl true, .str cc])
        refine (fun (G : ∀ H_50 : Hp, Same H_49 H_50 → H_50 p50 = some (.tup [.ref kx, .bl true, .str cc]) → _) => G _ s50 e50) (fun H_50 s50 e50 => ?_)
        have gK := gK.same s50
        have gi := gi.same s50
        have gS := gS.same s50
        have hc5 := s50 _ _ hc5
        have hkx := s50 _ _ hkx
        have hF := s50 _ _ hF
        have hS := s50 _ _ hS
        have sA := sA.trans s50
        have gi := GIs.app gi (.cons (gi3 e50 gK (gn_bool true) (gC _)) .nil)
        refine ⟨_, rfl, _, rfl, _, rfl, log_ok (by omega), _, rfl, (by show 3 ≤ sizeLine; decide), fun p51 n51 => ?_⟩
        have s51 := same_upd (o := .tup [.ref kx, .str (Str.ofString (toString t)), .str cc]) n51
        have e51 := upd_same (H := H_50) (a := p51) (o := .tup [.ref kx, .str (Str.ofString (toString t)), .str cc])
        refine (fun (G : ∀ H_51 : Hp, Same H_50 H_51 → H_51 p51 = some (.tup [.ref kx, .str (Str.ofString (toString t)), .str cc]) → _) => G _ s51 e51) (fun H_51 s51 e51 => ?_)
        have gK := gK.same s51
        have gi := gi.same s51
        have gS := gS.same s51
        have hc5 := s51 _ _ hc5
        have hkx := s51 _ _ hkx
        have hF := s51 _ _ hF
        have hS := s51 _ _ hS
        have sA := sA.trans s51
        have gi := GIs.app gi (.cons (gi3 e51 gK (gn_num (by omega) (by omega)) (gC _)) .nil)
        refine ⟨_, rfl, _, rfl, (by show 3 ≤ sizeLine; decide), fun p52 n52 => ?_⟩
        have s52 := same_upd (o := .tup [.ref kx, .int t, .str ("" : String)]) n52
        have e52 := upd_same (H := H_51) (a := p52) (o := .tup [.ref kx, .int t, .str ("" : String)])
        refine (fun (G : ∀ H_52 : Hp, Same H_51 H_52 → H_52 p52 = some (.tup [.ref kx, .int t, .str ("" : String)]) → _) => G _ s52 e52) (fun H_52 s52 e52 => ?_)
        have gK := gK.same s52
        have gi := gi.same s52
        have gS := gS.same s52
        have hc5 := s52 _ _ hc5
        have hkx := s52 _ _ hkx
        have hF := s52 _ _ hF
        have hS := s52 _ _ hS
        have sA := sA.trans s52
        have gi := GIs.app gi (.cons (gi3 e52 gK (gT _) ((gn_str (("" : String) : Str) (by decide +kernel) (by decide +kernel)).mono (by decide) (by decide))) .nil)
        refine ⟨_, rfl, _, rfl, (by show 3 ≤ sizeLine; decide), fun p53 n53 => ?_⟩
        have s53 := same_upd (o := .tup [.ref kx, .int t, .str ("abcdefghi" : String)]) n53
        have e53 := upd_same (H := H_52) (a := p53) (o := .tup [.ref kx, .int t, .str ("abcdefghi" : String)])
        refine (fun (G : ∀ H_53 : Hp, Same H_52 H_53 → H_53 p53 = some (.tup [.ref kx, .int t, .str ("abcdefghi" : String)]) → _) => G _ s53 e53) (fun H_53 s53 e53 => ?_)
        have gK := gK.same s53
        have gi := gi.same s53
        have gS := gS.same s53
        have hc5 := s53 _ _ hc5
        have hkx := s53 _ _ hkx
        have hF := s53 _ _ hF
        have hS := s53 _ _ hS
        have sA := sA.trans s53
        have gi := GIs.app gi (.cons (gi3 e53 gK (gT _) ((gn_str (("abcdefghi" : String) : Str) (by decide +kernel) (by decide +kernel)).mono (by decide) (by decide))) .nil)
        refine ⟨(by show 4 ≤ sizeLine; decide), fun p54 n54 => ?_⟩
        have s54 := same_upd (o := .lst [.ref p50, .ref p51, .ref p52, .ref p53]) n54
        have e54 := upd_same (H := H_53) (a := p54) (o := .lst [.ref p50, .ref p51, .ref p52, .ref p53])
        refine (fun (G : ∀ H_54 : Hp, Same H_53 H_54 → H_54 p54 = some (.lst [.ref p50, .ref p51, .ref p52, .ref p53]) → _) => G _ s54 e54) (fun H_54 s54 e54 => ?_)
        have gK := gK.same s54
        have gi := gi.same s54
        have gS := gS.same s54
        have hc5 := s54 _ _ hc5
        have hkx := s54 _ _ hkx
        have hF := s54 _ _ hF
        have hS := s54 _ _ hS
        have sA := sA.trans s54
        refine ⟨p49, p54, _, _, rfl, rfl, hS, e54, (by rw [hxl]; show 15 ≤ sizeLine; decide), fun p55 n55 => ?_⟩
        have s55 := same_upd (o := .lst (xs ++ [.ref p50, .ref p51, .ref p52, .ref p53])) n55
        have e55 := upd_same (H := H_54) (a := p55) (o := .lst (xs ++ [.ref p50, .ref p51, .ref p52, .ref p53]))
        refine (fun (G : ∀ H_55 : Hp, Same H_54 H_55 → H_55 p55 = some (.lst (xs ++ [.ref p50, .ref p51, .ref p52, .ref p53])) → _) => G _ s55 e55) (fun H_55 s55 e55 => ?_)
        have gK := gK.same s55
        have gi := gi.same s55
        have gS := gS.same s55
        have hc5 := s55 _ _ hc5
        have hkx := s55 _ _ hkx
        have hF := s55 _ _ hF
        have hS := s55 _ _ hS
        have sA := sA.trans s55
        obtain ⟨xs, hS, gS, hxl⟩ : ∃ xs, H_55 p55 = some (.lst xs) ∧ GIs K H_55 xs ∧ xs.length = 15 := ⟨_, e55, GIs.app gS gi, by rw [List.length_append, hxl]; rfl⟩
        dsimp only [gName]
        rw [show List.set ([some (V.ref r), some (V.int (m : Int)), some (V.ref c), some (V.ref p13), some (V.int (j : Int)), some (V.ref kx), some (V.int t), some (V.str cc), some (V.ref p49), none, none] : List (Option V)) 8 (some (V.ref p55)) = [some (V.ref r), some (V.int (m : Int)), some (V.ref c), some (V.ref p13), some (V.int (j : Int)), some (V.ref kx), some (V.int t), some (V.str cc), some (V.ref p55), none, none] from rfl]
        have gi : GIs K H_55 [] := GIs.nil
        refine ⟨_, rfl, _, rfl, _, rfl, (by show 3 ≤ sizeLine; decide), fun p56 n56 => ?_⟩
        have s56 := same_upd (o := .tup [.ref kx, .int t, .str ("abcdefgh" : String)]) n56
        have e56 := upd_same (H := H_55) (a := p56) (o := .tup [.ref kx, .int t, .str ("abcdefgh" : String)])
        refine (fun (G : ∀ H_56 : Hp, Same H_55 H_56 → H_56 p56 = some (.tup [.ref kx, .int t, .str ("abcdefgh" : String)]) → _) => G _ s56 e56) (fun H_56 s56 e56 => ?_)
        have gK := gK.same s56
        have gi := gi.same s56
        have gS := gS.same s56
        have hc5 := s56 _ _ hc5
        have hkx := s56 _ _ hkx
        have hF := s56 _ _ hF
        have hS := s56 _ _ hS
        have sA := sA.trans s56
        have gi := GIs.app gi (.cons (gi3 e56 gK (gT _) ((gn_str (("abcdefgh" : String) : Str) (by decide +kernel) (by decide +kernel)).mono (by decide) (by decide))) .nil)
        refine ⟨_, rfl, _, rfl, (by show 3 ≤ sizeLine; decide), fun p57 n57 => ?_⟩
        have s57 := same_upd (o := .tup [.ref kx, .int t, .str ("z9" : String)]) n57
        have e57 := upd_same (H := H_56) (a := p57) (o := .tup [.ref kx, .int t, .str ("z9" : String)])
        refine (fun (G : ∀ H_57 : Hp, Same H_56 H_57 → H_57 p57 = some (.tup [.ref kx, .int t, .str ("z9" : String)]) → _) => G _ s57 e57) (fun H_57 s57 e57 => ?_)
        have gK := gK.same s57
        have gi := gi.same s57
        have gS := gS.same s57
        have hc5 := s57 _ _ hc5
        have hkx := s57 _ _ hkx
        have hF := s57 _ _ hF
        have hS := s57 _ _ hS
        have sA := sA.trans s57
        have gi := GIs.app gi (.cons (gi3 e57 gK (gT _) ((gn_str (("z9" : String) : Str) (by decide +kernel) (by decide +kernel)).mono (by decide) (by decide))) .nil)
        refine ⟨_, rfl, _, rfl, (by show 3 ≤ sizeLine; decide), fun p58 n58 => ?_⟩
        have s58 := same_upd (o := .tup [.ref kx, .int t, .str ("layer" : String)]) n58
        have e58 := upd_same (H := H_57) (a := p58) (o := .tup [.ref kx, .int t, .str ("layer" : String)])
        refine (fun (G : ∀ H_58 : Hp, Same H_57 H_58 → H_58 p58 = some (.tup [.ref kx, .int t, .str ("layer" : String)]) → _) => G _ s58 e58) (fun H_58 s58 e58 => ?_)
        have gK := gK.same s58
        have gi := gi.same s58
        have gS := gS.same s58
        have hc5 := s58 _ _ hc5
        have hkx := s58 _ _ hkx
        have hF := s58 _ _ hF
        have hS := s58 _ _ hS
        have sA := sA.trans s58
        have gi := GIs.app gi (.cons (gi3 e58 gK (gT _) ((gn_str (("layer" : String) : Str) (by decide +kernel) (by decide +kernel)).mono (by decide) (by decide))) .nil)
        refine ⟨_, rfl, _, rfl, (by show 3 ≤ sizeLine; decide), fun p59 n59 => ?_⟩
        have s59 := same_upd (o := .tup [.ref kx, .int t, .str ("0a0a" : String)]) n59
        have e59 := upd_same (H := H_58) (a := p59) (o := .tup [.ref kx, .int t, .str ("0a0a" : String)])
        refine (fun (G : ∀ H_59 : Hp, Same H_58 H_59 → H_59 p59 = some (.tup [.ref kx, .int t, .str ("0a0a" : String)]) → _) => G _ s59 e59) (fun H_59 s59 e59 => ?_)
        have gK := gK.same s59
        have gi := gi.same s59
        have gS := gS.same s59
        have hc5 := s59 _ _ hc5
        have hkx := s59 _ _ hkx
        have hF := s59 _ _ hF
        have hS := s59 _ _ hS
        have sA := sA.trans s59
        have gi := GIs.app gi (.cons (gi3 e59 gK (gT _) ((gn_str (("0a0a" : String) : Str) (by decide +kernel) (by decide +kernel)).mono (by decide) (by decide))) .nil)
        refine ⟨(by show 4 ≤ sizeLine; decide), fun p60 n60 => ?_⟩
        have s60 := same_upd (o := .lst [.ref p56, .ref p57, .ref p58, .ref p59]) n60
        have e60 := upd_same (H := H_59) (a := p60) (o := .lst [.ref p56, .ref p57, .ref p58, .ref p59])
        refine (fun (G : ∀ H_60 : Hp, Same H_59 H_60 → H_60 p60 = some (.lst [.ref p56, .ref p57, .ref p58, .ref p59]) → _) => G _ s60 e60) (fun H_60 s60 e60 => ?_)
        have gK := gK.same s60
        have gi := gi.same s60
        have gS := gS.same s60
        have hc5 := s60 _ _ hc5
        have hkx := s60 _ _ hkx
        have hF := s60 _ _ hF
        have hS := s60 _ _ hS
        have sA := sA.trans s60
        refine ⟨p55, p60, _, _, rfl, rfl, hS, e60, (by rw [hxl]; show 19 ≤ sizeLine; decide), fun p61 n61 => ?_⟩
        have s61 := same_upd (o := .lst (xs ++ [.ref p56, .ref p57, .ref p58, .ref p59])) n61
        have e61 := upd_same (H := H_60) (a := p61) (o := .lst (xs ++ [.ref p56, .ref p57, .ref p58, .ref p59]))
        refine (fun (G : ∀ H_61 : Hp, Same H_60 H_61 → H_61 p61 = some (.lst (xs ++ [.ref p56, .ref p57, .ref p58, .ref p59])) → _) => G _ s61 e61) (fun H_61 s61 e61 => ?_)
        have gK := gK.same s61
        have gi := gi.same s61
        have gS := gS.same s61
        have hc5 := s61 _ _ hc5
        have hkx := s61 _ _ hkx
        have hF := s61 _ _ hF
        have hS := s61 _ _ hS
        have sA := sA.trans s61
        obtain ⟨xs, hS, gS, hxl⟩ : ∃ xs, H_61 p61 = some (.lst xs) ∧ GIs K H_61 xs ∧ xs.length = 19 := ⟨_, e61, GIs.app gS gi, by rw [List.length_append, hxl]; rfl⟩
        dsimp only [gName]
        rw [show List.set ([some (V.ref r), some (V.int (m : Int)), some (V.ref c), some (V.ref p13), some (V.int (j : Int)), some (V.ref kx), some (V.int t), some (V.str cc), some (V.ref p55), none, none] : List (Option V)) 8 (some (V.ref p61)) = [some (V.ref r), some (V.int (m : Int)), some (V.ref c), some (V.ref p13), some (V.int (j : Int)), some (V.ref kx), some (V.int t), some (V.str cc), some (V.ref p61), none, none] from rfl]
        have gi : GIs K H_61 [] := GIs.nil
        refine ⟨_, rfl, (by show 1 ≤ sizeLine; decide), fun p62 n62 => ?_⟩
        have s62 := same_upd (o := .lst [.str ("a" : String)]) n62
        have e62 := upd_same (H := H_61) (a := p62) (o := .lst [.str ("a" : String)])
        refine (fun (G : ∀ H_62 : Hp, Same H_61 H_62 → H_62 p62 = some (.lst [.str ("a" : String)]) → _) => G _ s62 e62) (fun H_62 s62 e62 => ?_)
        have gK := gK.same s62
        have gS := gS.same s62
        have hc5 := s62 _ _ hc5
        have hkx := s62 _ _ hkx
        have hF := s62 _ _ hF
        have hS := s62 _ _ hS
        have sA := sA.trans s62
        have gl : GN K H_62 3500 2 (.ref p62) := (gn_lst (L := 210) (n := 0) (SqL.of e62) (.cons (gn_str (("a" : String) : Str) (by decide +kernel) (by decide +kernel)) .nil) (by show 1 ≤ 4; decide)).mono (by decide) (by decide)
        refine ⟨(by show 1 ≤ sizeLine; decide), fun p63 n63 => ?_⟩
        have s63 := same_upd (o := .tup [.str ("a" : String)]) n63
        have e63 := upd_same (H := H_62) (a := p63) (o := .tup [.str ("a" : String)])
        refine (fun (G : ∀ H_63 : Hp, Same H_62 H_63 → H_63 p63 = some (.tup [.str ("a" : String)]) → _) => G _ s63 e63) (fun H_63 s63 e63 => ?_)
        have gK := gK.same s63
        have gS := gS.same s63
        have gl := gl.same s63
        have hc5 := s63 _ _ hc5
        have hkx := s63 _ _ hkx
        have hF := s63 _ _ hF
        have hS := s63 _ _ hS
        have sA := sA.trans s63
        have gt : GN K H_63 3500 2 (.ref p63) := (gn_tup (L := 210) (n := 0) (SqT.of e63) (.cons (gn_str (("a" : String) : Str) (by decide +kernel) (by decide +kernel)) .nil) (by show 1 ≤ 4; decide)).mono (by decide) (by decide)
        refine ⟨(by show 9 ≤ sizeLine; decide), fun p64 n64 => ?_⟩
        have s64 := same_upd (o := .lst [.str ("A" : String), .str ("a b" : String), .str ("a_" : String), .str ("a\n" : String), .str ("0+1" : String), .non, .int 7, .ref p62, .ref p63]) n64
        have e64 := upd_same (H := H_63) (a := p64) (o := .lst [.str ("A" : String), .str ("a b" : String), .str ("a_" : String), .str ("a\n" : String), .str ("0+1" : String), .non, .int 7, .ref p62, .ref p63])
        refine (fun (G : ∀ H_64 : Hp, Same H_63 H_64 → H_64 p64 = some (.lst [.str ("A" : String), .str ("a b" : String), .str ("a_" : String), .str ("a\n" : String), .str ("0+1" : String), .non, .int 7, .ref p62, .ref p63]) → _) => G _ s64 e64) (fun H_64 s64 e64 => ?_)
        have gK := gK.same s64
        have gS := gS.same s64
        have gl := gl.same s64
        have gt := gt.same s64
        have hc5 := s64 _ _ hc5
        have hkx := s64 _ _ hkx
        have hF := s64 _ _ hF
        have hS := s64 _ _ hS
        have sA := sA.trans s64
        obtain ⟨ods, ho, gO, hol⟩ : ∃ ods, H_64 p64 = some (.lst ods) ∧ GNs K H_64 3500 2 ods ∧ ods.length = 9 := ⟨_, e64, GNs.cons ((gn_str (("A" : String) : Str) (by decide +kernel) (by decide +kernel)).mono (by decide) (by decide)) (GNs.cons ((gn_str (("a b" : String) : Str) (by decide +kernel) (by decide +kernel)).mono (by decide) (by decide)) (GNs.cons ((gn_str (("a_" : String) : Str) (by decide +kernel) (by decide +kernel)).mono (by decide) (by decide)) (GNs.cons ((gn_str (("a\n" : String) : Str) (by decide +kernel) (by decide +kernel)).mono (by decide) (by decide)) (GNs.cons ((gn_str (("0+1" : String) : Str) (by decide +kernel) (by decide +kernel)).mono (by decide) (by decide)) (GNs.cons (gn_none.mono (by decide) (by decide)) (GNs.cons ((gn_int (by decide)).mono (by decide) (by decide)) (GNs.cons gl (.cons gt .nil)))))))), rfl⟩
        refine ⟨p64, rfl, ⟨_, SqL.of ho⟩, fun M nM => lc_it (walk_list (xs := ods)) (fun i H' => Same H_64 H' ∧ ∃ ys, H' M = some (.lst ys) ∧ GIs K (wo [M] H') ys ∧ ys.length = i) ⟨same_upd nM, [], upd_same, GIs.nil, rfl⟩ (fun i H' _ p => SqL.of (p.1 _ _ ho)) (fun i x H2 H3 hi p y => ?_) (fun H2 p => ?_)⟩
        · obtain ⟨sc, ys, hM, gy, hyl⟩ := p
          obtain ⟨rfl, hx⟩ := y
          have gx := (gO x (List.mem_of_getElem? hx)).same (same_wo (S := [M]) sc (fun X hX => by rw [List.mem_singleton.mp hX]; exact nM))
          have gk := gK.same (same_wo (S := [M]) sc (fun X hX => by rw [List.mem_singleton.mp hX]; exact nM))
          have gsc := sc
          have sA := Same.refl H3
          have hS0 : Has H3 [M] := .one hM
          refine ⟨rfl, ?_⟩
          refine ⟨_, rfl, _, rfl, _, rfl, (by show 3 ≤ sizeLine; decide), fun p165 n165 => ?_⟩
          have s165 := same_upd (o := .tup [.ref kx, .int t, x]) n165
          have e165 := upd_same (H := H3) (a := p165) (o := .tup [.ref kx, .int t, x])
          refine (fun (G : ∀ H_165 : Hp, Same H3 H_165 → H_165 p165 = some (.tup [.ref kx, .int t, x]) → _) => G _ s165 e165) (fun H_165 s165 e165 => ?_)
          have sA := sA.trans s165
          have git : GI K (wo [M] H_165) (.ref p165) := gi3 (wo_at e165 (wo_new hS0 n165)) (gk.same (wo_same s165)) (gT _) (gx.same (wo_same s165))
          exact ⟨_, sA _ _ hM, (by rw [sizeLine_eq]; omega), Same.off (gsc.trans sA) nM off_upd, ys ++ [.ref p165], upd_same, GIs.app ((gy.same (wo_same s165)).same (wo_upd (by simp))) (.cons (git.same (wo_upd (by simp))) .nil), by rw [List.length_append, hyl]; rfl⟩
        · obtain ⟨sc, ys, hM, gy, hyl⟩ := p
          have gK := gK.same sc
          have gS := gS.same sc
          have hc5 := sc _ _ hc5
          have hkx := sc _ _ hkx
          have hF := sc _ _ hF
          have hS := sc _ _ hS
          have sA := sA.trans sc
          have gy := gy.same wo_all
          refine ⟨p61, M, _, _, rfl, rfl, hS, hM, (by rw [hxl, hyl, hol, sizeLine_eq]; omega), fun p201 n201 => ?_⟩
          have s201 := same_upd (o := .lst (xs ++ ys)) n201
          have e201 := upd_same (H := H2) (a := p201) (o := .lst (xs ++ ys))
          refine (fun (G : ∀ H_201 : Hp, Same H2 H_201 → H_201 p201 = some (.lst (xs ++ ys)) → _) => G _ s201 e201) (fun H_201 s201 e201 => ?_)
          have gK := gK.same s201
          have gS := gS.same s201
          have gy := gy.same s201
          have hc5 := s201 _ _ hc5
          have hkx := s201 _ _ hkx
          have hF := s201 _ _ hF
          have hS := s201 _ _ hS
          have sA := sA.trans s201
          obtain ⟨xs, hS, gS, hxl⟩ : ∃ xs, H_201 p201 = some (.lst xs) ∧ GIs K H_201 xs ∧ xs.length = 28 := ⟨_, e201, GIs.app gS gy, by rw [List.length_append, hxl, hyl, hol]⟩
          dsimp only [gName]
          rw [show List.set ([some (V.ref r), some (V.int (m : Int)), some (V.ref c), some (V.ref p13), some (V.int (j : Int)), some (V.ref kx), some (V.int t), some (V.str cc), some (V.ref p61), none, none] : List (Option V)) 8 (some (V.ref p201)) = [some (V.ref r), some (V.int (m : Int)), some (V.ref c), some (V.ref p13), some (V.int (j : Int)), some (V.ref kx), some (V.int t), some (V.str cc), some (V.ref p201), none, none] from rfl]
          have gi : GIs K H_201 [] := GIs.nil
          refine ⟨_, rfl, _, rfl, _, rfl, (by show 2 ≤ sizeLine; decide), fun p202 n202 => ?_⟩
          have s202 := same_upd (o := .tup [.ref kx, .int t]) n202
          have e202 := upd_same (H := H_201) (a := p202) (o := .tup [.ref kx, .int t])
          refine (fun (G : ∀ H_202 : Hp, Same H_201 H_202 → H_202 p202 = some (.tup [.ref kx, .int t]) → _) => G _ s202 e202) (fun H_202 s202 e202 => ?_)
          have gK := gK.same s202
          have gi := gi.same s202
          have gS := gS.same s202
          have hc5 := s202 _ _ hc5
          have hkx := s202 _ _ hkx
          have hF := s202 _ _ hF
          have hS := s202 _ _ hS
          have sA := sA.trans s202
          have gi := GIs.app gi (.cons ((gn_tup (L := 3500) (n := 2) (vs := [.ref kx, .int t]) (SqT.of e202) (.cons gK (.cons ((gT _).mono (by decide) (by decide)) .nil)) (by show 2 ≤ 4; decide)).gi (by decide) (by decide)) .nil)
          refine ⟨_, rfl, _, rfl, _, rfl, _, rfl, (by show 4 ≤ sizeLine; decide), fun p203 n203 => ?_⟩
          have s203 := same_upd (o := .tup [.ref kx, .int t, .str cc, .str cc]) n203
          have e203 := upd_same (H := H_202) (a := p203) (o := .tup [.ref kx, .int t, .str cc, .str cc])
          refine (fun (G : ∀ H_203 : Hp, Same H_202 H_203 → H_203 p203 = some (.tup [.ref kx, .int t, .str cc, .str cc]) → _) => G _ s203 e203) (fun H_203 s203 e203 => ?_)
          have gK := gK.same s203
          have gi := gi.same s203
          have gS := gS.same s203
          have hc5 := s203 _ _ hc5
          have hkx := s203 _ _ hkx
          have hF := s203 _ _ hF
          have hS := s203 _ _ hS
          have sA := sA.trans s203
          have gi := GIs.app gi (.cons ((gn_tup (L := 3500) (n := 2) (vs := [.ref kx, .int t, .str cc, .str cc]) (SqT.of e203) (.cons gK (.cons ((gT _).mono (by decide) (by decide)) (.cons (gC _) (.cons (gC _) .nil)))) (by show 4 ≤ 4; decide)).gi (by decide) (by decide)) .nil)
          refine ⟨_, rfl, _, rfl, _, rfl, (by show 3 ≤ sizeLine; decide), fun p204 n204 => ?_⟩
          have s204 := same_upd (o := .lst [.ref kx, .int t, .str cc]) n204
          have e204 := upd_same (H := H_203) (a := p204) (o := .lst [.ref kx, .int t, .str cc])
          refine (fun (G : ∀ H_204 : Hp, Same H_203 H_204 → H_204 p204 = some (.lst [.ref kx, .int t, .str cc]) → _) => G _ s204 e204) (fun H_204 s204 e204 => ?_)
          have gK := gK.same s204
          have gi := gi.same s204
          have gS := gS.same s204
          have hc5 := s204 _ _ hc5
          have hkx := s204 _ _ hkx
          have hF := s204 _ _ hF
          have hS := s204 _ _ hS
          have sA := sA.trans s204
          have gi := GIs.app gi (.cons ((gn_lst (L := 3500) (n := 2) (vs := [.ref kx, .int t, .str cc]) (SqL.of e204) (.cons gK (.cons ((gT _).mono (by decide) (by decide)) (.cons (gC _) .nil))) (by show 3 ≤ 4; decide)).gi (by decide) (by decide)) .nil)
          have gi := GIs.app gi (.cons (gK.gi (by decide) (by decide)) .nil)
          refine ⟨_, rfl, Nat.zero_le _, fun p205 n205 => ?_⟩
          have s205 := same_upd (o := .tup []) n205
          have e205 := upd_same (H := H_204) (a := p205) (o := .tup [])
          refine (fun (G : ∀ H_205 : Hp, Same H_204 H_205 → H_205 p205 = some (.tup []) → _) => G _ s205 e205) (fun H_205 s205 e205 => ?_)
          have gK := gK.same s205
          have gi := gi.same s205
          have gS := gS.same s205
          have hc5 := s205 _ _ hc5
          have hkx := s205 _ _ hkx
          have hF := s205 _ _ hF
          have hS := s205 _ _ hS
          have sA := sA.trans s205
          have ga := gn_tup (K := K) (L := 210) (n := 0) (vs := []) (SqT.of e205) GNs.nil (by show 0 ≤ 4; decide)
          refine ⟨_, rfl, _, rfl, (by show 3 ≤ sizeLine; decide), fun p206 n206 => ?_⟩
          have s206 := same_upd (o := .tup [.ref p205, .int t, .str cc]) n206
          have e206 := upd_same (H := H_205) (a := p206) (o := .tup [.ref p205, .int t, .str cc])
          refine (fun (G : ∀ H_206 : Hp, Same H_205 H_206 → H_206 p206 = some (.tup [.ref p205, .int t, .str cc]) → _) => G _ s206 e206) (fun H_206 s206 e206 => ?_)
          have gK := gK.same s206
          have gi := gi.same s206
          have gS := gS.same s206
          have hc5 := s206 _ _ hc5
          have hkx := s206 _ _ hkx
          have hF := s206 _ _ hF
          have hS := s206 _ _ hS
          have sA := sA.trans s206
          have gi := GIs.app gi (.cons (gi3 e206 ((ga.same s206).mono (by decide) (by decide)) (gT _) (gC _)) .nil)
          refine ⟨(by show 5 ≤ sizeLine; decide), fun p207 n207 => ?_⟩
          have s207 := same_upd (o := .lst [.ref p202, .ref p203, .ref p204, .ref kx, .ref p206]) n207
          have e207 := upd_same (H := H_206) (a := p207) (o := .lst [.ref p202, .ref p203, .ref p204, .ref kx, .ref p206])
          refine (fun (G : ∀ H_207 : Hp, Same H_206 H_207 → H_207 p207 = some (.lst [.ref p202, .ref p203, .ref p204, .ref kx, .ref p206]) → _) => G _ s207 e207) (fun H_207 s207 e207 => ?_)
          have gK := gK.same s207
          have gi := gi.same s207
          have gS := gS.same s207
          have hc5 := s207 _ _ hc5
          have hkx := s207 _ _ hkx
          have hF := s207 _ _ hF
          have hS := s207 _ _ hS
          have sA := sA.trans s207
          refine ⟨p201, p207, _, _, rfl, rfl, hS, e207, (by rw [hxl]; show 33 ≤ sizeLine; decide), fun p208 n208 => ?_⟩
          have s208 := same_upd (o := .lst (xs ++ [.ref p202, .ref p203, .ref p204, .ref kx, .ref p206])) n208
          have e208 := upd_same (H := H_207) (a := p208) (o := .lst (xs ++ [.ref p202, .ref p203, .ref p204, .ref kx, .ref p206]))
          refine (fun (G : ∀ H_208 : Hp, Same H_207 H_208 → H_208 p208 = some (.lst (xs ++ [.ref p202, .ref p203, .ref p204, .ref kx, .ref p206])) → _) => G _ s208 e208) (fun H_208 s208 e208 => ?_)
          have gK := gK.same s208
          have gi := gi.same s208
          have gS := gS.same s208
          have hc5 := s208 _ _ hc5
          have hkx := s208 _ _ hkx
          have hF := s208 _ _ hF
          have hS := s208 _ _ hS
          have sA := sA.trans s208
          obtain ⟨xs, hS, gS, hxl⟩ : ∃ xs, H_208 p208 = some (.lst xs) ∧ GIs K H_208 xs ∧ xs.length = 33 := ⟨_, e208, GIs.app gS gi, by rw [List.length_append, hxl]; rfl⟩
          dsimp only [gName]
          rw [show List.set ([some (V.ref r), some (V.int (m : Int)), some (V.ref c), some (V.ref p13), some (V.int (j : Int)), some (V.ref kx), some (V.int t), some (V.str cc), some (V.ref p201), none, none] : List (Option V)) 8 (some (V.ref p208)) = [some (V.ref r), some (V.int (m : Int)), some (V.ref c), some (V.ref p13), some (V.int (j : Int)), some (V.ref kx), some (V.int t), some (V.str cc), some (V.ref p208), none, none] from rfl]
          have gi : GIs K H_208 [] := GIs.nil
          refine ⟨_, rfl, _, rfl, _, _, rfl, rfl, _, rfl, _, _, rfl, rfl, (by show 2 ≤ sizeLine; decide), fun p209 n209 => ?_⟩
          have s209 := same_upd (o := .tup [.int ((m : Int) - 2), .int ((m : Int) - 1)]) n209
          have e209 := upd_same (H := H_208) (a := p209) (o := .tup [.int ((m : Int) - 2), .int ((m : Int) - 1)])
          refine (fun (G : ∀ H_209 : Hp, Same H_208 H_209 → H_209 p209 = some (.tup [.int ((m : Int) - 2), .int ((m : Int) - 1)]) → _) => G _ s209 e209) (fun H_209 s209 e209 => ?_)
          have gK := gK.same s209
          have gi := gi.same s209
          have gS := gS.same s209
          have hc5 := s209 _ _ hc5
          have hkx := s209 _ _ hkx
          have hF := s209 _ _ hF
          have hS := s209 _ _ hS
          have sA := sA.trans s209
          have ga := gn_tup (K := K) (L := 210) (n := 0) (vs := [.int ((m : Int) - 2), .int ((m : Int) - 1)]) (SqT.of e209) (GNs.cons (gn_int (by omega)) (GNs.cons (gn_int (by omega)) (GNs.nil))) (by show 2 ≤ 4; decide)
          refine ⟨(by show 3 ≤ sizeLine; decide), fun p210 n210 => ?_⟩
          have s210 := same_upd (o := .tup [.ref p209, .int 1, .str ("a" : String)]) n210
          have e210 := upd_same (H := H_209) (a := p210) (o := .tup [.ref p209, .int 1, .str ("a" : String)])
          refine (fun (G : ∀ H_210 : Hp, Same H_209 H_210 → H_210 p210 = some (.tup [.ref p209, .int 1, .str ("a" : String)]) → _) => G _ s210 e210) (fun H_210 s210 e210 => ?_)
          have gK := gK.same s210
          have gi := gi.same s210
          have gS := gS.same s210
          have hc5 := s210 _ _ hc5
          have hkx := s210 _ _ hkx
          have hF := s210 _ _ hF
          have hS := s210 _ _ hS
          have sA := sA.trans s210
          have gi := GIs.app gi (.cons (gi3 e210 ((ga.same s210).mono (by decide) (by decide)) (gn_int (by decide)) ((gn_str (("a" : String) : Str) (by decide +kernel) (by decide +kernel)).mono (by decide) (by decide))) .nil)
          refine ⟨_, rfl, _, _, rfl, rfl, _, rfl, (by show 2 ≤ sizeLine; decide), fun p211 n211 => ?_⟩
          have s211 := same_upd (o := .tup [.int ((m : Int) - 1), .int (m : Int)]) n211
          have e211 := upd_same (H := H_210) (a := p211) (o := .tup [.int ((m : Int) - 1), .int (m : Int)])
          refine (fun (G : ∀ H_211 : Hp, Same H_210 H_211 → H_211 p211 = some (.tup [.int ((m : Int) - 1), .int (m : Int)]) → _) => G _ s211 e211) (fun H_211 s211 e211 => ?_)
          have gK := gK.same s211
          have gi := gi.same s211
          have gS := gS.same s211
          have hc5 := s211 _ _ hc5
          have hkx := s211 _ _ hkx
          have hF := s211 _ _ hF
          have hS := s211 _ _ hS
          have sA := sA.trans s211
          have ga := gn_tup (K := K) (L := 210) (n := 0) (vs := [.int ((m : Int) - 1), .int (m : Int)]) (SqT.of e211) (GNs.cons (gn_int (by omega)) (GNs.cons (gn_int (by omega)) (GNs.nil))) (by show 2 ≤ 4; decide)
          refine ⟨(by show 3 ≤ sizeLine; decide), fun p212 n212 => ?_⟩
          have s212 := same_upd (o := .tup [.ref p211, .int 1, .str ("a" : String)]) n212
          have e212 := upd_same (H := H_211) (a := p212) (o := .tup [.ref p211, .int 1, .str ("a" : String)])
          refine (fun (G : ∀ H_212 : Hp, Same H_211 H_212 → H_212 p212 = some (.tup [.ref p211, .int 1, .str ("a" : String)]) → _) => G _ s212 e212) (fun H_212 s212 e212 => ?_)
          have gK := gK.same s212
          have gi := gi.same s212
          have gS := gS.same s212
          have hc5 := s212 _ _ hc5
          have hkx := s212 _ _ hkx
          have hF := s212 _ _ hF
          have hS := s212 _ _ hS
          have sA := sA.trans s212
          have gi := GIs.app gi (.cons (gi3 e212 ((ga.same s212).mono (by decide) (by decide)) (gn_int (by decide)) ((gn_str (("a" : String) : Str) (by decide +kernel) (by decide +kernel)).mono (by decide) (by decide))) .nil)
          refine ⟨Nat.zero_le _, fun p213 n213 => ?_⟩
          have s213 := same_upd (o := .lst []) n213
          have e213 := upd_same (H := H_212) (a := p213) (o := .lst [])
          refine (fun (G : ∀ H_213 : Hp, Same H_212 H_213 → H_213 p213 = some (.lst []) → _) => G _ s213 e213) (fun H_213 s213 e213 => ?_)
          have gK := gK.same s213
          have gi := gi.same s213
          have gS := gS.same s213
          have hc5 := s213 _ _ hc5
          have hkx := s213 _ _ hkx
          have hF := s213 _ _ hF
          have hS := s213 _ _ hS
          have sA := sA.trans s213
          have ge : GN K H_213 851 1 (.ref p213) := gn_lst (L := 210) (n := 0) (vs := []) (SqL.of e213) GNs.nil (by show 0 ≤ 4; decide)
          refine ⟨(by show 2 ≤ sizeLine; decide), fun p214 n214 => ?_⟩
          have s214 := same_upd (o := .tup [.ref p213, .int 1]) n214
          have e214 := upd_same (H := H_213) (a := p214) (o := .tup [.ref p213, .int 1])
          refine (fun (G : ∀ H_214 : Hp, Same H_213 H_214 → H_214 p214 = some (.tup [.ref p213, .int 1]) → _) => G _ s214 e214) (fun H_214 s214 e214 => ?_)
          have gK := gK.same s214
          have gi := gi.same s214
          have gS := gS.same s214
          have ge := ge.same s214
          have hc5 := s214 _ _ hc5
          have hkx := s214 _ _ hkx
          have hF := s214 _ _ hF
          have hS := s214 _ _ hS
          have sA := sA.trans s214
          have ga : GN K H_214 (4 * (851 + 2) + 3) 2 (.ref p214) := gn_tup (L := 851) (n := 1) (vs := [.ref p213, .int 1]) (SqT.of e214) (.cons ge (.cons ((gn_int (by decide)).mono (by decide) (by decide)) .nil)) (by show 2 ≤ 4; decide)
          refine ⟨_, rfl, _, rfl, (by show 3 ≤ sizeLine; decide), fun p215 n215 => ?_⟩
          have s215 := same_upd (o := .tup [.ref p214, .int t, .str cc]) n215
          have e215 := upd_same (H := H_214) (a := p215) (o := .tup [.ref p214, .int t, .str cc])
          refine (fun (G : ∀ H_215 : Hp, Same H_214 H_215 → H_215 p215 = some (.tup [.ref p214, .int t, .str cc]) → _) => G _ s215 e215) (fun H_215 s215 e215 => ?_)
          have gK := gK.same s215
          have gi := gi.same s215
          have gS := gS.same s215
          have hc5 := s215 _ _ hc5
          have hkx := s215 _ _ hkx
          have hF := s215 _ _ hF
          have hS := s215 _ _ hS
          have sA := sA.trans s215
          have gi := GIs.app gi (.cons (gi3 e215 ((ga.same s215).mono (by decide) (by decide)) (gT _) (gC _)) .nil)
          refine ⟨(by show 3 ≤ sizeLine; decide), fun p216 n216 => ?_⟩
          have s216 := same_upd (o := .lst [.ref p210, .ref p212, .ref p215]) n216
          have e216 := upd_same (H := H_215) (a := p216) (o := .lst [.ref p210, .ref p212, .ref p215])
          refine (fun (G : ∀ H_216 : Hp, Same H_215 H_216 → H_216 p216 = some (.lst [.ref p210, .ref p212, .ref p215]) → _) => G _ s216 e216) (fun H_216 s216 e216 => ?_)
          have gK := gK.same s216
          have gi := gi.same s216
          have gS := gS.same s216
          have hc5 := s216 _ _ hc5
          have hkx := s216 _ _ hkx
          have hF := s216 _ _ hF
          have hS := s216 _ _ hS
          have sA := sA.trans s216
          have gS0 := gS
          have gi0 := gi
          have sA0 := sA
          refine ⟨p208, p216, _, _, rfl, rfl, hS, e216, (by rw [hxl]; show 36 ≤ sizeLine; decide), fun p217 n217 => ?_⟩
          have s217 := same_upd (o := .lst (xs ++ [.ref p210, .ref p212, .ref p215])) n217
          have e217 := upd_same (H := H_216) (a := p217) (o := .lst (xs ++ [.ref p210, .ref p212, .ref p215]))
          refine (fun (G : ∀ H_217 : Hp, Same H_216 H_217 → H_217 p217 = some (.lst (xs ++ [.ref p210, .ref p212, .ref p215])) → _) => G _ s217 e217) (fun H_217 s217 e217 => ?_)
          have gK := gK.same s217
          have gi := gi.same s217
          have gS := gS.same s217
          have hc5 := s217 _ _ hc5
          have hkx := s217 _ _ hkx
          have hF := s217 _ _ hF
          have hS := s217 _ _ hS
          have sA := sA.trans s217
          have gw := (GIs.app gS0 gi0).same (same_wo (S := [p217]) s217 (fun X hX => by rw [List.mem_singleton.mp hX]; exact n217))
          have fS := sfree sA0 n217
          skip
          obtain ⟨xs, hS, gw, hxl⟩ : ∃ xs, H_217 p217 = some (.lst xs) ∧ GIs K (wo [p217] H_217) xs ∧ xs.length = 36 := ⟨_, e217, gw, by rw [List.length_append, hxl]; rfl⟩
          dsimp only [gName]
          rw [show List.set ([some (V.ref r), some (V.int (m : Int)), some (V.ref c), some (V.ref p13), some (V.int (j : Int)), some (V.ref kx), some (V.int t), some (V.str cc), some (V.ref p208), none, none] : List (Option V)) 8 (some (V.ref p217)) = [some (V.ref r), some (V.int (m : Int)), some (V.ref c), some (V.ref p13), some (V.int (j : Int)), some (V.ref kx), some (V.int t), some (V.str cc), some (V.ref p217), none, none] from rfl]
          have hS_0 := hS
          refine ⟨_, rfl, .inl ⟨rfl, _, SqL.of hS⟩, fun D nD => ⟨upd_same, [(.inl 0, .int 1)], rfl, by decide, ?_⟩⟩
          rw [upd_upd, show mergeK [] [((.inl 0 : Key), V.int 1)] = [(.inl 0, .int 1)] from rfl]
          have sD := same_upd (o := .dK [(.inl 0, .int 1)]) nD
          have hD := upd_same (H := H_217) (a := D) (o := .dK [(.inl 0, .int 1)])
          refine (fun (G : ∀ HD : Hp, Same H_217 HD → HD D = some (.dK [(.inl 0, .int 1)]) → _) => G _ sD hD) (fun HD sD hD => ?_)
          have hc5 := sD _ _ hc5
          have hkx := sD _ _ hkx
          have hF := sD _ _ hF
          have hS := sD _ _ hS
          have sA := sA.trans sD
          refine ⟨_, rfl, _, rfl, (by show 3 ≤ sizeLine; decide), fun p218 n218 => ?_⟩
          have s218 := same_upd (o := .tup [.ref D, .int t, .str cc]) n218
          have e218 := upd_same (H := HD) (a := p218) (o := .tup [.ref D, .int t, .str cc])
          refine (fun (G : ∀ H_218 : Hp, Same HD H_218 → H_218 p218 = some (.tup [.ref D, .int t, .str cc]) → _) => G _ s218 e218) (fun H_218 s218 e218 => ?_)
          have hc5 := s218 _ _ hc5
          have hkx := s218 _ _ hkx
          have hF := s218 _ _ hF
          have hS := s218 _ _ hS
          have sA := sA.trans s218
          have hasS : Has H_217 [p217] := .one (hS_0)
          have git : GI K (wo [p217] H_218) (.ref p218) := gi_dict (wo_at (s218 _ _ hD) (wo_new hasS nD)) (wo_at e218 (wo_new (hasS.same sD) n218)) (gT _) (gn_code okj.code)
          have gw := gw.same ((wo_same sD).trans (wo_same s218))
          refine ⟨p217, _, _, rfl, rfl, hS, (by rw [hxl]; show 37 ≤ sizeLine; decide), ?_⟩
          have hSn := upd_same (H := H_218) (a := p217) (o := .lst (xs ++ [.ref p218]))
          have gS := ((GIs.app gw (.cons git .nil)).same (wo_upd (S := [p217]) (M := p217) (o := .lst (xs ++ [.ref p218])) (by simp))).same wo_all
          have sA := Same.off sA fS (off_upd (o := .lst (xs ++ [.ref p218])))
          refine (fun (G : ∀ H6 : Hp, Same H5 H6 → H6 p217 = some (.lst (xs ++ [.ref p218])) → GIs K H6 (xs ++ [.ref p218]) → _) => G _ sA hSn gS) (fun H6 sA hS gS => ?_)
          obtain ⟨xs, hS, gS, hxl⟩ : ∃ xs, H6 p217 = some (.lst xs) ∧ GIs K H6 xs ∧ xs.length = 37 := ⟨_, hS, gS, by rw [List.length_append, hxl]; rfl⟩
          have hF := sA _ _ hF5
          have hc := sA _ _ hc5_
          have gb := gb5.same sA
          have gv := gv.same sA
          refine ⟨_, rfl, _, rfl, p217, rfl, ⟨_, SqL.of hS⟩, fun M nM => lc_it (walk_list (xs := xs)) (fun i H' => Same H6 H' ∧ ∃ ys, H' M = some (.lst ys) ∧ GVs K (wo [M] H') ys ∧ ys.length = i) ⟨same_upd nM, [], upd_same, GVs.nil, rfl⟩ (fun i H' _ p => SqL.of (p.1 _ _ hS)) (fun i x H2 H3 hi p y => ?_) (fun H2 p => ?_)⟩
          · obtain ⟨sc, ys, hM, gy, hyl⟩ := p
            obtain ⟨rfl, hx⟩ := y
            have so := same_wo (S := [M]) sc (fun X hX => by rw [List.mem_singleton.mp hX]; exact nM)
            have gx := (gS x (List.mem_of_getElem? hx)).same so
            have gb := gb.same so
            have hc := sc _ _ hc
            have gsc := sc
            have sA := Same.refl H3
            have hS0 : Has H3 [M] := .one hM
            refine ⟨rfl, ?_⟩
            refine ⟨_, rfl, _, rfl, (j : Int), rfl, c, _, rfl, SqL.of hc, fun p101 n101 => ?_⟩
            have s101 := same_upd (o := .lst (cutV vs5 none (some (j : Int)))) n101
            have e101 := upd_same (H := H3) (a := p101) (o := .lst (cutV vs5 none (some (j : Int))))
            refine (fun (G : ∀ H_101 : Hp, Same H3 H_101 → H_101 p101 = some (.lst (cutV vs5 none (some (j : Int)))) → _) => G _ s101 e101) (fun H_101 s101 e101 => ?_)
            have hc := s101 _ _ hc
            have sA := sA.trans s101
            rw [cutT] at e101
            refine ⟨_, rfl, (by show 1 ≤ sizeLine; decide), fun p102 n102 => ?_⟩
            have s102 := same_upd (o := .lst [x]) n102
            have e102 := upd_same (H := H_101) (a := p102) (o := .lst [x])
            refine (fun (G : ∀ H_102 : Hp, Same H_101 H_102 → H_102 p102 = some (.lst [x]) → _) => G _ s102 e102) (fun H_102 s102 e102 => ?_)
            have hc := s102 _ _ hc
            have sA := sA.trans s102
            refine ⟨p101, p102, _, _, rfl, rfl, s102 _ _ e101, e102, (by rw [sizeLine_eq]; simp only [List.length_append, List.length_take, List.length_drop, List.length_cons, List.length_nil]; omega), fun p103 n103 => ?_⟩
            have s103 := same_upd (o := .lst (vs5.take j ++ [x])) n103
            have e103 := upd_same (H := H_102) (a := p103) (o := .lst (vs5.take j ++ [x]))
            refine (fun (G : ∀ H_103 : Hp, Same H_102 H_103 → H_103 p103 = some (.lst (vs5.take j ++ [x])) → _) => G _ s103 e103) (fun H_103 s103 e103 => ?_)
            have hc := s103 _ _ hc
            have sA := sA.trans s103
            refine ⟨_, rfl, _, rfl, _, _, rfl, rfl, _, rfl, c, _, rfl, SqL.of hc, fun p104 n104 => ?_⟩
            have s104 := same_upd (o := .lst (cutV vs5 (some ((j : Int) + 1)) none)) n104
            have e104 := upd_same (H := H_103) (a := p104) (o := .lst (cutV vs5 (some ((j : Int) + 1)) none))
            refine (fun (G : ∀ H_104 : Hp, Same H_103 H_104 → H_104 p104 = some (.lst (cutV vs5 (some ((j : Int) + 1)) none)) → _) => G _ s104 e104) (fun H_104 s104 e104 => ?_)
            have hc := s104 _ _ hc
            have sA := sA.trans s104
            rw [show (j : Int) + 1 = ((j + 1 : Nat) : Int) from rfl, cutD (by omega)] at e104
            refine ⟨p103, p104, _, _, rfl, rfl, s104 _ _ e103, e104, (by rw [sizeLine_eq]; simp only [List.length_append, List.length_take, List.length_drop, List.length_cons, List.length_nil]; omega), fun p105 n105 => ?_⟩
            have s105 := same_upd (o := .lst (vs5.take j ++ [x] ++ vs5.drop (j + 1))) n105
            have e105 := upd_same (H := H_104) (a := p105) (o := .lst (vs5.take j ++ [x] ++ vs5.drop (j + 1)))
            refine (fun (G : ∀ H_105 : Hp, Same H_104 H_105 → H_105 p105 = some (.lst (vs5.take j ++ [x] ++ vs5.drop (j + 1))) → _) => G _ s105 e105) (fun H_105 s105 e105 => ?_)
            have hc := s105 _ _ hc
            have sA := sA.trans s105
            have sW := wo_same (S := [M]) sA
            have giv : GV K (wo [M] H_105) (.ref p105) := gv_lst (SqL.of (wo_at e105 (wo_new (hS0.same ((((s101).trans s102).trans s103).trans s104)) n105))) (GIs.app (GIs.app (fun v hv => gb.same sW v (List.mem_of_mem_take hv)) (.cons (gx.same sW) .nil)) (fun v hv => gb.same sW v (List.mem_of_mem_drop hv))) (by simp only [List.length_append, List.length_take, List.length_drop, List.length_cons, List.length_nil]; omega)
            exact ⟨_, sA _ _ hM, (by rw [sizeLine_eq]; omega), Same.off (gsc.trans sA) nM off_upd, ys ++ [.ref p105], upd_same, GVs.app ((gy.same sW).same (wo_upd (by simp))) (.cons (giv.same (wo_upd (by simp))) .nil), by rw [List.length_append, hyl]; rfl⟩
          · obtain ⟨sc, ys, hM, gy, hyl⟩ := p
            have gy := gy.same wo_all
            refine ⟨p13, M, _, _, rfl, rfl, sc _ _ hF, hM, (by rw [hfl, hyl, hxl]; show 50 ≤ sizeLine; decide), fun U nU => ?_⟩
            have sU := same_upd (o := .lst (fs2 ++ ys)) nU
            have sZ := (sA.trans sc).trans sU
            exact q _ U (fs2 ++ ys) (oA.sameTrans sZ) (R5.free oA (sfree (sA.trans sc) nU)) (R5.same sZ) upd_same (GVs.app ((gv.same sc).same sU) (gy.same sU)) (by rw [List.length_append, hfl, hyl, hxl]; decide)
end
end K23

set_option Elab.async false
set_option linter.all false
set_option maxRecDepth 100000
set_option maxHeartbeats 8000000
namespace K23
open PySem PySem.Spec PyProof.Rows L2 Gd Rm La Cb
theorem neV (x : V) : V.bl (!decide (x = x)) = V.bl false := by simp
theorem bad_first {m : Int} {ks : List Int} {t c : PyData} {r : List PyData} (h : m ≤ 10) : faultC m (.list (.tuple [ksD (ks ++ [10]), t, c] :: r)) ≠ none := fun e => by
  have e1 := (fault_none.mp e).2.1 _ List.mem_cons_self
  rw [cmb_eq, show ksD (ks ++ [10]) = .tuple ((ks ++ [10]).map PyData.int) from rfl, keys_eq, Bool.and_eq_true, Bool.and_eq_true] at e1
  have e2 := e1.1.2
  unfold ascB at e2
  rw [Bool.and_eq_true, List.all_eq_true] at e2
  have e3 : btwB 0 (m - 1) (.int 10) = true := e2.1 (.int 10) (List.mem_map.mpr ⟨10, List.mem_append.mpr (.inr (List.mem_singleton.mpr rfl)), rfl⟩)
  have e4 : (decide ((0 : Int) ≤ 10) && decide ((10 : Int) ≤ m - 1)) = true := e3
  rw [Bool.and_eq_true, decide_eq_true_eq, decide_eq_true_eq] at e4
  omega
theorem ixN0 {n : Nat} (h : 0 < n) : ixN n 0 = some 0 := by unfold ixN; rw [if_pos (by omega), if_pos (by omega)]; rfl
theorem cons_of {α : Type} {l : List α} (h : 0 < l.length) : ∃ a b, l = a :: b := by
  cases l with
  | nil => exact absurd h (Nat.lt_irrefl 0)
  | cons a b => exact ⟨a, b, rfl⟩
section
variable {P : Program} {w : World} {K : PySem.W.Frag} {mg : Str → Option Value} {base : Heap}
def spLaw (K : PySem.W.Frag) : Sp := fun vs H Q _ => ∃ (a : Addr) (ns : List Int), vs = [.ref a] ∧ SqL K H a (ns.map V.int) ∧ ns.length ≤ 63 ∧ ∀ H', Q (.bl true) H'
theorem ok_law {f : Addr} {fd : FuncData} (bt : Bt mg) (hsm : SysAt base) (a : Fun K "law" "law" s_law f fd) (c__law_spring : Cl P w K mg base 1 "_law_spring" (spPool K)) (c__law_take : Cl P w K mg base 1 "_law_take" spDraw) (c__law_combos : Cl P w K mg base 2 "_law_combos" spLCombos)
    (c__law_values : Cl P w K mg base 2 "_law_values" (spValues K)) (c__law_due : Cl P w K mg base 2 "_law_due" (spDue K)) (c_is_combos : Cl P w K mg base 7 "is_combos" (spIsC K)) : FnG P w K mg base 10 f fd ["_law_script"] (spLaw K) := by
  refine fnG a sc_law (fun vs H Q E h => ?_) (fun cdv A outer s H vs Q hg hr h => ?_)
  · obtain ⟨a, e, rfl, _⟩ := h
    rfl
  · obtain ⟨sc, ns, rfl, hS, hl, q⟩ := h
    refine ⟨_, (pss_cons (ps_for PassesOwn.never rfl (pi_range1 (by rfl) bt.m_range (pa_cons (pe_callB (call_max2 rfl) (by rfl) bt.m_max (by decide +kernel) (pa_cons pe_int (pa_cons (pe_callB (call_min2 rfl) (by rfl) bt.m_min (by decide +kernel) (pa_cons pe_int (pa_cons (pe_callB call_len_seq (by rfl) bt.m_len (by decide +kernel) (pa_cons (pv 0) pa_nil)) pa_nil))) pa_nil))) pa_nil)) (pg_name (i := 1) sc_law.nd rfl (Or.inl rfl)) (pss_cons (ps_set (i := 2) sc_law.nd rfl (Or.inl rfl) (pe_cl c__law_spring hg hr (by decide) (by rfl) (pa_cons (pv 0) (pa_cons (pv 1) pa_nil))))
      (pss_cons (ps_set (i := 3) sc_law.nd rfl (Or.inl rfl) (pe_op op_add pe_int (pe_cl c__law_take hg hr (by decide) (by rfl) (pa_cons (pv 2) (pa_cons pe_int pa_nil)))))
      (pss_cons (ps_set (i := 4) sc_law.nd rfl (Or.inl rfl) (pe_cl c__law_combos hg hr (by decide) (by rfl) (pa_cons (pv 2) (pa_cons (pv 3) (pa_cons (pe_op op_powW pe_int pe_int) pa_nil)))))
      (pss_cons (ps_for PassesOwn.never rfl (pi_list (pe_cl c__law_values hg hr (by decide) (by rfl) (pa_cons (pv 2) (pa_cons (pv 3) (pa_cons (pv 4) pa_nil))))) (pg_name (i := 5) sc_law.nd rfl (Or.inl rfl)) (pss_cons (ps_par (i := 6) (j := 7) rfl sc_law.nd rfl rfl (by decide) rfl rfl (pa_cons (pe_callB (call_repQ hsm hg hr) (by rfl) bt.m_repr (by decide +kernel) (pa_cons (pv 5) pa_nil)) (pa_cons (pe_cl c__law_due hg hr (by decide) (by rfl) (pa_cons (pv 5) (pa_cons (pv 3) pa_nil))) pa_nil)) (by rfl))
      (pss_one (ps_if (PW.pt (pw_or (pt_cmpR op_ne (pe_callB (call_repQ hsm hg hr) (by rfl) bt.m_repr (by decide +kernel) (pa_cons (pe_cl c_is_combos hg hr (by decide) (by rfl) (pa_cons (pv 5) (pa_cons (pv 3) pa_nil))) pa_nil)) (pe_callB (call_repQ hsm hg hr) (by rfl) bt.m_repr (by decide +kernel) (pa_cons (pv 7) pa_nil)) (nomark _)) (pw_or1 (pt_cmpR op_ne (pe_callB (call_repQ hsm hg hr) (by rfl) bt.m_repr (by decide +kernel) (pa_cons (pv 5) pa_nil)) (pv 6) (nomark _))))) (pss_one (ps_ret pe_bl)) pss_nil))))
      (pss_one (ps_if (pt_cmpR (op_neD hr.units) (pv 4) (pe_lst pa_nil) (nomark _)) (pss_cons (ps_asg (pe_op op_catT (pe_tup (pa_cons (pe_op op_catT (pe_ix ix_tup (pe_ix ix_list (pv 4) pe_int (fun _ _ => rfl)) pe_int (fun _ _ => rfl)) (pe_tup (pa_cons pe_int pa_nil))) pa_nil)) (pe_slice sl_tup (pe_ix ix_list (pv 4) pe_int (fun _ _ => rfl)) (po_some pe_int) po_none)) (pg_sub (pv 4) pe_int set_list))
      (pss_one (ps_if (pt_cmpR op_notBl (pe_cl c_is_combos hg hr (by decide) (by rfl) (pa_cons (pv 4) (pa_cons (pv 3) pa_nil))) pe_bl (nomark _)) (pss_one (ps_ret pe_bl)) pss_nil))) pss_nil)))))))
      (pss_one (ps_ret pe_bl))), ?_⟩
    refine ⟨_, rfl, sc, _, rfl, .inl hS, _, _, rfl, ?_⟩
    refine ⟨1, _, rfl, _, rfl, ?_, ?_, ?_⟩
    · (repeat' split) <;> omega
    · (repeat' split) <;> omega
    refine for_it walk_range (fun i σ H' => Same H H' ∧ ∃ y1 y2 y3 y4 y5 y6 y7, σ = [some (.ref sc), y1, y2, y3, y4, y5, y6, y7]) ⟨Same.refl _, _, _, _, _, _, _, _, rfl⟩ (fun _ _ _ _ _ => True.intro) (fun i x σ Hx H1 hi p y => ?_) (fun σ H1 p => ?_)
    · obtain ⟨s1, y1, y2, y3, y4, y5, y6, y7, rfl⟩ := p
      obtain ⟨rfl, hx⟩ := y
      have hx : x = .int (0 + (i : Int)) := hx
      have e0 : (0 : Int) + (i : Int) = ((i : Nat) : Int) := Int.zero_add _
      rw [e0] at hx
      subst hx
      have hi4 : i < 60 := by
        refine Nat.lt_of_lt_of_le hi ?_
        (repeat' split) <;> omega
      have hS1 : SqL K H1 sc (ns.map V.int) := s1.seq hS
      refine ⟨_, rfl, _, rfl, sc, ns, i, rfl, hS1, hl, hi4, fun r H2 s2 nr R2 => ?_⟩
      refine ⟨_, rfl, r, 10, 0, rfl, by decide, by decide, by decide, R2, fun d1 H3 d10 d11 R3 o3 => ⟨_, _, rfl, rfl, ?_⟩⟩
      obtain ⟨k, rfl⟩ := Int.eq_ofNat_of_zero_le d10
      refine ⟨_, rfl, _, rfl, _, _, rfl, rfl, powW (n := 40) (k := 9) (by decide) (by decide), r, 1, 1 + k, _, rfl, R3, by decide, by omega, by omega, by decide, by decide, fun H4 p cbs o4 np R4 hC4 ok => ?_⟩
      have pr : p ≠ r := R3.new np
      have o24 := o3.trans o4
      have few := ok.few
      have mk : ((1 + k : Nat) : Int) ≤ 10 := by omega
      refine ⟨_, rfl, _, rfl, _, rfl, r, p, 1 + k, 101, cbs, rfl, by omega, by omega, R4, by decide, pr, hC4, ok, fun H5 q5 vs' o5 nq R5 hq gv hvl => ?_⟩
      have hC5 : Cmbs H5 p cbs := hC4.go (R4.tk o5) (fun vs h => o5 _ _ h pr)
      have o25 := o24.trans o5
      rw [show List.set (List.set (List.set (List.set ([some (V.ref sc), y1, y2, y3, y4, y5, y6, y7] : List (Option V)) 1 (some (V.int (i : Int)))) 2 (some (V.ref r))) 3 (some ((fun i j => V.int (i + j)) 1 (k : Int)))) 4 (some (V.ref p)) = [some (V.ref sc), some (V.int (i : Int)), some (V.ref r), some (V.int ((1 + k : Nat) : Int)), some (V.ref p), y5, y6, y7] from rfl]
      refine ⟨q5, rfl, ⟨_, SqL.of hq⟩, for_it (walk_list (xs := vs')) (fun j σ H' => Same H5 H' ∧ ∃ y5 y6 y7, σ = [some (V.ref sc), some (V.int (i : Int)), some (V.ref r), some (V.int ((1 + k : Nat) : Int)), some (V.ref p), y5, y6, y7]) ⟨Same.refl _, _, _, _, rfl⟩ (fun j σ H' _ z => SqL.of (z.1 _ _ hq)) (fun j v σ Hx H6 hj z y => ?_) (fun σ H6 z => ?_)⟩
      · obtain ⟨s6, y5, y6, y7, rfl⟩ := z
        obtain ⟨rfl, hv⟩ := y
        obtain ⟨d, hd, ft, sz, kk⟩ := gv v (List.mem_of_getElem? hv)
        have hd6 := hd.same s6
        have dp := ft.dp
        have ln : d.shown.length ≤ sizeLine := by have := ft.ln; rw [sizeLine_eq]; omega
        have fb := fun b => fit_bool b
        have fbl : ∀ b : Bool, (PyData.bool b).shown.length ≤ sizeLine := fun b => by have := (fit_bool b).ln; rw [sizeLine_eq]; omega
        have fbd : ∀ b : Bool, (PyData.bool b).depth ≤ 50 := fun b => by have := (fit_bool b).dp; omega
        refine ⟨_, rfl, v, d, rfl, hd6, ft.sh, by omega, ln, _, rfl, _, rfl, v, d, _, rfl, hd6, sz, kk, fun H7 s7 => ⟨_, _, rfl, ?_⟩⟩
        have hd7 := hd6.same s7
        refine ⟨_, rfl, _, rfl, v, d, _, rfl, by omega, by omega, hd7, sz, fun H8 s8 => ?_⟩
        have hd8 := hd7.same s8
        refine ⟨_, .bool _, rfl, .bl _, (fit_bool _).sh, fbd _, fbl _, _, rfl, _, .bool _, rfl, .bl _, (fit_bool _).sh, fbd _, fbl _, rfl, false, neV _, iteF ?_⟩
        exact ⟨_, rfl, v, d, rfl, hd8, ft.sh, by omega, ln, _, rfl, rfl, false, neV _, iteF ⟨(s6.trans s7).trans s8, _, _, _, rfl⟩⟩
      · obtain ⟨s6, y5, y6, y7, rfl⟩ := z
        have hC6 := hC5.same s6
        have fin : ∀ H', Rm.Off p H6 H' → Same H H' := fun H' o b x h => o b x (s6 _ _ (by
          have h1 := s1 _ _ h
          have h2 := s2 _ _ h1
          exact o25 _ _ h2 (ne_of_none h1 nr))) (fun e => by
          have h2 := s2 _ _ (s1 _ _ h)
          rw [e] at h2
          by_cases z : p = r
          · exact pr z
          · have h3 := o3 _ _ h2 z
            rw [np] at h3
            cases h3)
        refine ⟨_, rfl, Nat.zero_le _, fun U nU => ?_⟩
        have sU := same_upd (o := .lst []) nU
        have hU := upd_same (H := H6) (a := U) (o := .lst [])
        refine (fun (G : ∀ H7 : Hp, Same H6 H7 → H7 U = some (.lst []) → _) => G _ sU hU) (fun H7 sU hU => ?_)
        have hC7 := hC6.same sU
        refine ⟨_, _, hC7.dp, .lst (SqL.of hU) .nil, shaped_cmbs cbs (fun cb hc => (ok.all cb hc).code), rfl, ?_⟩
        rw [show PyData.eqv (cmbsD cbs) (.list []) = (cbs.map cmbD).isEmpty from eqv_nil _]
        by_cases hz : cbs = []
        · exact ⟨false, congrArg V.bl (by rw [hz]; rfl), iteF ⟨fin _ (Off.of sU), _, _, _, _, _, _, _, rfl⟩⟩
        refine ⟨true, congrArg V.bl (by cases cbs with | nil => exact absurd rfl hz | cons => rfl), iteT ?_⟩
        obtain ⟨vs, hp7, hl7, hv7⟩ := id hC7
        obtain ⟨cb, cbr, rfl⟩ := cons_of (List.length_pos_iff.mpr hz)
        obtain ⟨v0, vr, rfl⟩ := cons_of (l := vs) (by rw [hl7]; exact Nat.succ_pos _)
        obtain ⟨ta, kx, rfl, hta, hkx⟩ := hv7 0 v0 cb rfl rfl
        obtain ⟨ks, t, cc⟩ := cb
        have okj := ok.all _ List.mem_cons_self
        have okL : ks.length = 2 ∨ ks.length = 3 := okj.len
        have kl : (ks.map V.int).length = ks.length := List.length_map _
        refine ⟨_, rfl, p, _, 0, .ref ta, rfl, rfl, SqL.of hp7, atI_nat (j := 0) rfl, ta, _, 0, .ref kx, rfl, rfl, SqT.of hta, atI_nat (j := 0) rfl, (by show 1 ≤ sizeLine; decide), fun t1 nt1 => ?_⟩
        have st1 := same_upd (o := .tup [.int 10]) nt1
        have ht1 := upd_same (H := H7) (a := t1) (o := .tup [.int 10])
        refine (fun (G : ∀ H8 : Hp, Same H7 H8 → H8 t1 = some (.tup [.int 10]) → _) => G _ st1 ht1) (fun H8 st1 ht1 => ?_)
        refine ⟨kx, t1, _, _, rfl, rfl, SqT.of (st1 _ _ hkx), SqT.of ht1, (fun z => by have := congrArg List.length z; rw [kl] at this; exact absurd this (by show ¬ _ = 0; omega)), (by rw [sizeLine_eq, kl]; show _ + 1 ≤ _; omega), (fun z => by cases z), fun _ t2 nt2 => ?_⟩
        have st2 := same_upd (o := .tup (ks.map V.int ++ [.int 10])) nt2
        have ht2 := upd_same (H := H8) (a := t2) (o := .tup (ks.map V.int ++ [.int 10]))
        refine (fun (G : ∀ H9 : Hp, Same H8 H9 → H9 t2 = some (.tup (ks.map V.int ++ [.int 10])) → _) => G _ st2 ht2) (fun H9 st2 ht2 => ?_)
        refine ⟨(by show 1 ≤ sizeLine; decide), fun t3 nt3 => ?_⟩
        have st3 := same_upd (o := .tup [.ref t2]) nt3
        have ht3 := upd_same (H := H9) (a := t3) (o := .tup [.ref t2])
        refine (fun (G : ∀ HA : Hp, Same H9 HA → HA t3 = some (.tup [.ref t2]) → _) => G _ st3 ht3) (fun HA st3 ht3 => ?_)
        have s7A := (st1.trans st2).trans st3
        refine ⟨_, rfl, p, _, 0, .ref ta, rfl, rfl, SqL.of (s7A _ _ hp7), atI_nat (j := 0) rfl, 1, rfl, ta, _, rfl, SqT.of (s7A _ _ hta), (fun z => absurd z.1 (show ¬ HT.sIx 3 0 (some 1) = 0 by decide)), fun t4 nt4 => ?_⟩
        have st4 := same_upd (o := .tup (cutV [.ref kx, .int t, .str cc] (some 1) none)) nt4
        have ht4 := upd_same (H := HA) (a := t4) (o := .tup (cutV [.ref kx, .int t, .str cc] (some 1) none))
        refine (fun (G : ∀ HB : Hp, Same HA HB → HB t4 = some (.tup (cutV [.ref kx, .int t, .str cc] (some 1) none)) → _) => G _ st4 ht4) (fun HB st4 ht4 => ?_)
        rw [show cutV [V.ref kx, .int t, .str cc] (some 1) none = [.int t, .str cc] from cutD (k := 1) (by show 1 ≤ 3; decide)] at ht4
        refine ⟨t3, t4, _, _, rfl, rfl, SqT.of (st4 _ _ ht3), SqT.of ht4, (fun z => by cases z), (by show 3 ≤ sizeLine; decide), (fun z => by cases z), fun _ T nT => ?_⟩
        have sT := same_upd (o := .tup ([.ref t2] ++ [.int t, .str cc])) nT
        have hT := upd_same (H := HB) (a := T) (o := .tup ([.ref t2] ++ [.int t, .str cc]))
        refine (fun (G : ∀ HC : Hp, Same HB HC → HC T = some (.tup ([.ref t2] ++ [.int t, .str cc])) → _) => G _ sT hT) (fun HC sT hT => ?_)
        have s7C := (s7A.trans st4).trans sT
        have hpC := s7C _ _ hp7
        have hC8 := hC7.same s7C
        have ht2C := sT _ _ (st4 _ _ (st3 _ _ ht2))
        refine ⟨_, rfl, p, _, 0, 0, rfl, rfl, hpC, ixN0 (Nat.succ_pos _), ?_⟩
        have tk := tk_upd (H := HC) (r := p) (zs := .ref T :: vr) hpC
        have hpD := upd_same (H := HC) (a := p) (o := .lst (.ref T :: vr))
        have sD : Rm.Off p H6 (upd HC p (.lst (.ref T :: vr))) := fun b x h n => off_upd _ _ (s7C _ _ (sU _ _ h)) n
        refine (fun (G : ∀ HD : Hp, Tk HC HD → HD p = some (.lst (.ref T :: vr)) → Rm.Off p H6 HD → _) => G _ tk hpD sD) (fun HD tk hpD sD => ?_)
        have hdn : Dq K HD (.ref p) (.list (.tuple [ksD (ks ++ [10]), .int t, .str cc] :: cbr.map cmbD)) := by
          refine .lst (SqL.of hpD) (.cons (.tup (SqT.of (tk _ _ hT)) (.cons (.tup (xs := (ks ++ [10]).map V.int) (SqT.of ?_) (DqAll.ints _)) (.cons (.int t) (.cons (.str cc) .nil)))) (Gd.DpAll.q (dpAll_idx (R := CmbV HD) (fun x v h => h.dp) vr cbr (by simpa using hl7) fun i v x a b => ?_)))
          · rw [List.map_append]; exact tk _ _ ht2C
          · exact ((hv7 (i + 1) v x a b).tk (Tk.of s7C)).tk tk
        have szn : szB (.list (.tuple [ksD (ks ++ [10]), .int t, .str cc] :: cbr.map cmbD)) = true := by
          have cz : ∀ c : Str, CodeOk c → szB (.str c) = true := fun c h => decide_eq_true (by have := h.2.1; have e : c.length = c.cps.size := rfl; omega)
          have kz : ∀ ks : List Int, szB (ksD ks) = true := fun ks => szAll_of fun d hd => by obtain ⟨k, _, rfl⟩ := List.mem_map.mp hd; rfl
          refine szAll_of fun d hd => ?_
          rcases List.mem_cons.mp hd with rfl | hd
          · refine szAll_of fun d hd => ?_
            simp only [List.mem_cons, List.mem_nil_iff, or_false] at hd
            rcases hd with rfl | rfl | rfl
            · exact kz _
            · rfl
            · exact cz _ okj.code
          · obtain ⟨cb, hcb, rfl⟩ := List.mem_map.mp hd
            refine szAll_of fun d hd => ?_
            simp only [List.mem_cons, List.mem_nil_iff, or_false] at hd
            rcases hd with rfl | rfl | rfl
            · exact kz _
            · rfl
            · exact cz _ (ok.all cb (List.mem_cons_of_mem _ hcb)).code
        refine ⟨_, rfl, _, rfl, .ref p, _, _, rfl, by omega, by omega, hdn, szn, fun HE sE => ?_⟩
        rw [decide_eq_false (bad_first mk)]
        exact ⟨false, false, rfl, rfl, _, rfl, iteF ⟨fin _ (fun b x h n => sE _ _ (sD _ _ h n)), _, _, _, _, _, _, _, rfl⟩⟩
    · obtain ⟨s1, y1, y2, y3, y4, y5, y6, y7, rfl⟩ := p
      exact q _
end
end K23

set_option Elab.async false
set_option linter.all false
set_option maxRecDepth 100000
set_option maxHeartbeats 8000000
namespace K23
open PySem PySem.Spec PyProof.Rows L2 Gd Rm
theorem at_mk {K : PySem.W.Frag} {h : Heap} {mg : Str → Option Value} {x : Str} {st : Stmt} {ps : List Str} {f : Addr} {od an : Option Addr} {sl : Array (Option Value)} {oc kV dc pm cd ct : Value} (X : K.In h) (G : h.Ns mainGlobals mg)
    (a : PySem.W.nsIn K mainGlobals x = some (some (.ref f))) (l : K.lookup f = some ⟨oc, od, .func (PySem.W.fnOf x x (defArgs st) (defBody st) (defScope st) .none kV dc pm an cd ct), sl⟩) (c : PySem.W.codeIn K cd x = true) (k : PySem.W.keepIn K (.ref f) = true)
    (hb : ∀ (kV doc pm : Value) (an : Option Addr) (cdv ct : Value) (us : List Value), us.length = ps.length → bindArgs (PySem.W.fnOf x x (defArgs st) (defBody st) (defScope st) .none kV doc pm an cdv ct) ⟨us, []⟩ = pure (ps.zip us)) : At K mg x st ps :=
  ⟨_, _, fun_mk l c k, PySem.W.mg_of X G a, (fun_mk l c k).binds hb⟩
theorem all_mk {l : PySem.W.OpenLaw} {w : World} {K : PySem.W.Frag} {h : Heap} {mg : Str → Option Value} {fa : Addr} (X : K.In h) (G : h.Ns mainGlobals mg) (hfa : mg "law" = some (.ref fa))
    {f0 : Addr} {od0 an0 : Option Addr} {sl0 : Array (Option Value)} {oc0 kV0 dc0 pm0 cd0 ct0 : Value}
    {f1 : Addr} {od1 an1 : Option Addr} {sl1 : Array (Option Value)} {oc1 kV1 dc1 pm1 cd1 ct1 : Value}
    {f2 : Addr} {od2 an2 : Option Addr} {sl2 : Array (Option Value)} {oc2 kV2 dc2 pm2 cd2 ct2 : Value}
    {f3 : Addr} {od3 an3 : Option Addr} {sl3 : Array (Option Value)} {oc3 kV3 dc3 pm3 cd3 ct3 : Value}
    {f4 : Addr} {od4 an4 : Option Addr} {sl4 : Array (Option Value)} {oc4 kV4 dc4 pm4 cd4 ct4 : Value}
    {f5 : Addr} {od5 an5 : Option Addr} {sl5 : Array (Option Value)} {oc5 kV5 dc5 pm5 cd5 ct5 : Value}
    {f6 : Addr} {od6 an6 : Option Addr} {sl6 : Array (Option Value)} {oc6 kV6 dc6 pm6 cd6 ct6 : Value}
    {f7 : Addr} {od7 an7 : Option Addr} {sl7 : Array (Option Value)} {oc7 kV7 dc7 pm7 cd7 ct7 : Value}
    {f8 : Addr} {od8 an8 : Option Addr} {sl8 : Array (Option Value)} {oc8 kV8 dc8 pm8 cd8 ct8 : Value}
    {f9 : Addr} {od9 an9 : Option Addr} {sl9 : Array (Option Value)} {oc9 kV9 dc9 pm9 cd9 ct9 : Value}
    {f10 : Addr} {od10 an10 : Option Addr} {sl10 : Array (Option Value)} {oc10 kV10 dc10 pm10 cd10 ct10 : Value}
    {f11 : Addr} {od11 an11 : Option Addr} {sl11 : Array (Option Value)} {oc11 kV11 dc11 pm11 cd11 ct11 : Value}
    {f12 : Addr} {od12 an12 : Option Addr} {sl12 : Array (Option Value)} {oc12 kV12 dc12 pm12 cd12 ct12 : Value}
    {f13 : Addr} {od13 an13 : Option Addr} {sl13 : Array (Option Value)} {oc13 kV13 dc13 pm13 cd13 ct13 : Value}
    {f14 : Addr} {od14 an14 : Option Addr} {sl14 : Array (Option Value)} {oc14 kV14 dc14 pm14 cd14 ct14 : Value}
    {f15 : Addr} {od15 an15 : Option Addr} {sl15 : Array (Option Value)} {oc15 kV15 dc15 pm15 cd15 ct15 : Value}
    {tk0 : Tok}
    {tk1 : Tok}
    {tk2 : Tok}
    {tk3 : Tok}
    {tk4 : Tok}
    {x0C x0f x0N x0cc x0cda : Addr} {x0nm x0q : Str} {x0bs x0bm x0sub : List Value} {x0sn : List Str} {x0ab : Bool} {x0col : Option Bool} {x0dd : Option Addr} {x0m0 x0m1 x0m2 x0m3 x0m5 : Option Value}
    {x0oc x0doc x0pm x0ct x0cl x0ccl : Value} {x0od x0an x0cld x0cdd : Option Addr} {x0osl x0csl x0ccs : Array (Option Value)} {x0vs : Array Value} {x0file : Str} {x0tf : Tok}
    (a0 : PySem.W.nsIn K mainGlobals "is_an_integer" = some (some (.ref f0))) (l0 : K.lookup f0 = some ⟨oc0, od0, .func (PySem.W.fnOf "is_an_integer" "is_an_integer" (defArgs s_is_an_integer) (defBody s_is_an_integer) (defScope s_is_an_integer) .none kV0 dc0 pm0 an0 cd0 ct0), sl0⟩) (c0 : PySem.W.codeIn K cd0 "is_an_integer" = true) (k0 : PySem.W.keepIn K (.ref f0) = true)
    (a1 : PySem.W.nsIn K mainGlobals "is_between" = some (some (.ref f1))) (l1 : K.lookup f1 = some ⟨oc1, od1, .func (PySem.W.fnOf "is_between" "is_between" (defArgs s_is_between) (defBody s_is_between) (defScope s_is_between) .none kV1 dc1 pm1 an1 cd1 ct1), sl1⟩) (c1 : PySem.W.codeIn K cd1 "is_between" = true) (k1 : PySem.W.keepIn K (.ref f1) = true)
    (a2 : PySem.W.nsIn K mainGlobals "is_code" = some (some (.ref f2))) (l2 : K.lookup f2 = some ⟨oc2, od2, .func (PySem.W.fnOf "is_code" "is_code" (defArgs s_is_code) (defBody s_is_code) (defScope s_is_code) .none kV2 dc2 pm2 an2 cd2 ct2), sl2⟩) (c2 : PySem.W.codeIn K cd2 "is_code" = true) (k2 : PySem.W.keepIn K (.ref f2) = true)
    (a3 : PySem.W.nsIn K mainGlobals "are_ascending" = some (some (.ref f3))) (l3 : K.lookup f3 = some ⟨oc3, od3, .func (PySem.W.fnOf "are_ascending" "are_ascending" (defArgs s_are_ascending) (defBody s_are_ascending) (defScope s_are_ascending) .none kV3 dc3 pm3 an3 cd3 ct3), sl3⟩) (c3 : PySem.W.codeIn K cd3 "are_ascending" = true) (k3 : PySem.W.keepIn K (.ref f3) = true)
    (a4 : PySem.W.nsIn K mainGlobals "are_combo_keys" = some (some (.ref f4))) (l4 : K.lookup f4 = some ⟨oc4, od4, .func (PySem.W.fnOf "are_combo_keys" "are_combo_keys" (defArgs s_are_combo_keys) (defBody s_are_combo_keys) (defScope s_are_combo_keys) .none kV4 dc4 pm4 an4 cd4 ct4), sl4⟩) (c4 : PySem.W.codeIn K cd4 "are_combo_keys" = true) (k4 : PySem.W.keepIn K (.ref f4) = true)
    (a5 : PySem.W.nsIn K mainGlobals "is_combo" = some (some (.ref f5))) (l5 : K.lookup f5 = some ⟨oc5, od5, .func (PySem.W.fnOf "is_combo" "is_combo" (defArgs s_is_combo) (defBody s_is_combo) (defScope s_is_combo) .none kV5 dc5 pm5 an5 cd5 ct5), sl5⟩) (c5 : PySem.W.codeIn K cd5 "is_combo" = true) (k5 : PySem.W.keepIn K (.ref f5) = true)
    (a6 : PySem.W.nsIn K mainGlobals "check_combos" = some (some (.ref f6))) (l6 : K.lookup f6 = some ⟨oc6, od6, .func (PySem.W.fnOf "check_combos" "check_combos" (defArgs s_check_combos) (defBody s_check_combos) (defScope s_check_combos) .none kV6 dc6 pm6 an6 cd6 ct6), sl6⟩) (c6 : PySem.W.codeIn K cd6 "check_combos" = true) (k6 : PySem.W.keepIn K (.ref f6) = true)
    (a7 : PySem.W.nsIn K mainGlobals "check_many" = some (some (.ref f7))) (l7 : K.lookup f7 = some ⟨oc7, od7, .func (PySem.W.fnOf "check_many" "check_many" (defArgs s_check_many) (defBody s_check_many) (defScope s_check_many) .none kV7 dc7 pm7 an7 cd7 ct7), sl7⟩) (c7 : PySem.W.codeIn K cd7 "check_many" = true) (k7 : PySem.W.keepIn K (.ref f7) = true)
    (a8 : PySem.W.nsIn K mainGlobals "is_combos" = some (some (.ref f8))) (l8 : K.lookup f8 = some ⟨oc8, od8, .func (PySem.W.fnOf "is_combos" "is_combos" (defArgs s_is_combos) (defBody s_is_combos) (defScope s_is_combos) .none kV8 dc8 pm8 an8 cd8 ct8), sl8⟩) (c8 : PySem.W.codeIn K cd8 "is_combos" = true) (k8 : PySem.W.keepIn K (.ref f8) = true)
    (a9 : PySem.W.nsIn K mainGlobals "_law_spring" = some (some (.ref f9))) (l9 : K.lookup f9 = some ⟨oc9, od9, .func (PySem.W.fnOf "_law_spring" "_law_spring" (defArgs s__law_spring) (defBody s__law_spring) (defScope s__law_spring) .none kV9 dc9 pm9 an9 cd9 ct9), sl9⟩) (c9 : PySem.W.codeIn K cd9 "_law_spring" = true) (k9 : PySem.W.keepIn K (.ref f9) = true)
    (a10 : PySem.W.nsIn K mainGlobals "_law_take" = some (some (.ref f10))) (l10 : K.lookup f10 = some ⟨oc10, od10, .func (PySem.W.fnOf "_law_take" "_law_take" (defArgs s__law_take) (defBody s__law_take) (defScope s__law_take) .none kV10 dc10 pm10 an10 cd10 ct10), sl10⟩) (c10 : PySem.W.codeIn K cd10 "_law_take" = true) (k10 : PySem.W.keepIn K (.ref f10) = true)
    (a11 : PySem.W.nsIn K mainGlobals "_law_combos" = some (some (.ref f11))) (l11 : K.lookup f11 = some ⟨oc11, od11, .func (PySem.W.fnOf "_law_combos" "_law_combos" (defArgs s__law_combos) (defBody s__law_combos) (defScope s__law_combos) .none kV11 dc11 pm11 an11 cd11 ct11), sl11⟩) (c11 : PySem.W.codeIn K cd11 "_law_combos" = true) (k11 : PySem.W.keepIn K (.ref f11) = true)
    (a12 : PySem.W.nsIn K mainGlobals "_law_is_key" = some (some (.ref f12))) (l12 : K.lookup f12 = some ⟨oc12, od12, .func (PySem.W.fnOf "_law_is_key" "_law_is_key" (defArgs s__law_is_key) (defBody s__law_is_key) (defScope s__law_is_key) .none kV12 dc12 pm12 an12 cd12 ct12), sl12⟩) (c12 : PySem.W.codeIn K cd12 "_law_is_key" = true) (k12 : PySem.W.keepIn K (.ref f12) = true)
    (a13 : PySem.W.nsIn K mainGlobals "_law_due" = some (some (.ref f13))) (l13 : K.lookup f13 = some ⟨oc13, od13, .func (PySem.W.fnOf "_law_due" "_law_due" (defArgs s__law_due) (defBody s__law_due) (defScope s__law_due) .none kV13 dc13 pm13 an13 cd13 ct13), sl13⟩) (c13 : PySem.W.codeIn K cd13 "_law_due" = true) (k13 : PySem.W.keepIn K (.ref f13) = true)
    (a14 : PySem.W.nsIn K mainGlobals "_law_values" = some (some (.ref f14))) (l14 : K.lookup f14 = some ⟨oc14, od14, .func (PySem.W.fnOf "_law_values" "_law_values" (defArgs s__law_values) (defBody s__law_values) (defScope s__law_values) .none kV14 dc14 pm14 an14 cd14 ct14), sl14⟩) (c14 : PySem.W.codeIn K cd14 "_law_values" = true) (k14 : PySem.W.keepIn K (.ref f14) = true)
    (a15 : PySem.W.nsIn K mainGlobals "law" = some (some (.ref f15))) (l15 : K.lookup f15 = some ⟨oc15, od15, .func (PySem.W.fnOf "law" "law" (defArgs s_law) (defBody s_law) (defScope s_law) .none kV15 dc15 pm15 an15 cd15 ct15), sl15⟩) (c15 : PySem.W.codeIn K cd15 "law" = true) (k15 : PySem.W.keepIn K (.ref f15) = true)
    (v0 : PySem.W.nsIn K mainGlobals "MOST_SIGNS" = some (some (.int 8 tk0)))
    (v1 : PySem.W.nsIn K mainGlobals "CODE_SIGNS" = some (some (.str "abcdefghijklmnopqrstuvwxyz0123456789" tk1)))
    (v2 : PySem.W.nsIn K mainGlobals "GREATEST_COMBO_TIME" = some (some (.int 1000000000 tk2)))
    (v3 : PySem.W.nsIn K mainGlobals "MOST_COMBOS" = some (some (.int 6 tk3)))
    (v4 : PySem.W.nsIn K mainGlobals "MOST_BOARD_KEYS" = some (some (.int 10 tk4)))
    (z0 : PySem.W.nsIn K mainGlobals "len" = some none)
    (z1 : PySem.W.nsIn K mainGlobals "max" = some none)
    (z2 : PySem.W.nsIn K mainGlobals "min" = some none)
    (z3 : PySem.W.nsIn K mainGlobals "repr" = some none)
    (z4 : PySem.W.nsIn K mainGlobals "isinstance" = some none)
    (z5 : PySem.W.nsIn K mainGlobals "all" = some none)
    (z6 : PySem.W.nsIn K mainGlobals "list" = some none)
    (z7 : PySem.W.nsIn K mainGlobals "tuple" = some none)
    (z8 : PySem.W.nsIn K mainGlobals "int" = some none)
    (z9 : PySem.W.nsIn K mainGlobals "bool" = some none)
    (z10 : PySem.W.nsIn K mainGlobals "str" = some none)
    (z11 : PySem.W.nsIn K mainGlobals "range" = some none)
    (z12 : PySem.W.nsIn K mainGlobals "enumerate" = some none)
    (z13 : PySem.W.nsIn K mainGlobals "sorted" = some none)
    (z14 : PySem.W.nsIn K mainGlobals "zip" = some none)
    (z15 : PySem.W.nsIn K mainGlobals "set" = some none)
    (x0hg : PySem.W.nsIn K mainGlobals "InvalidCombos" = some (some (.ref x0C)))
    (x0hL : K.lookup x0C = some (excClassObj x0nm x0q x0C x0N x0bs x0bm true x0sn x0sub x0ab x0col x0dd x0m0 x0m1 x0m2 x0m3 x0m5 "ValueError.__new__"))
    (x0hve : PySem.HandSPX.refsVE x0bm = true)
    (x0hsa : PySem.W.findIn K (.ref x0C) "__setattr__" = some (some (.builtin "object.__setattr__")))
    (x0hnN : PySem.W.findIn K (.ref x0C) "index" = some none)
    (x0hiC : PySem.W.findIn K (.ref x0C) "__init__" = some (some (.ref x0f)))
    (x0htC : PySem.W.typeIn K (.ref x0f) = some (.type "function"))
    (x0hkC : PySem.W.keepIn K (.ref x0C) = true)
    (x0heC : PySem.W.subIn K (.ref x0C) (.type "BaseException") = some true)
    (x0hvC : PySem.W.subIn K (.ref x0C) (.type "ValueError") = some true)
    (x0hmC : PySem.W.mroIn K x0C (.ref x0C) = some true)
    (x0hyC : PySem.W.typeIn K (.ref x0C) = some (.type "type"))
    (x0hsu : PySem.W.ks_superIn K x0C x0C "__init__" = some (some (.builtin "ValueError.__init__")))
    (x0han_ : PySem.W.nsIn K cStatics "thirdparty.any" = some none)
    (x0hei : PySem.W.excInitIn K x0C [.type "ValueError", .type "Exception", .type "BaseException", .type "object"] "ValueError.__new__" = true)
    (x0hsp : PySem.W.nsIn K mainGlobals "super" = some none)
    (x0htp : (l.prog.main.scope.names.lookup ("super" : Str)).isSome = false)
    (x0hl : K.lookup x0f = some ⟨x0oc, x0od, .func (PySem.W.ksFn "__init__" "InvalidCombos.__init__" (PySem.Oxi.iA ⟨8, 17, 8, 21⟩ ⟨8, 23, 8, 28⟩) (PySem.Oxi.iB "not combos: index " (fun i => ([⟨9, 8, 9, 13⟩, ⟨9, 8, 9, 15⟩, ⟨9, 8, 9, 24⟩, ⟨9, 27, 9, 45⟩, ⟨9, 46, 9, 51⟩, ⟨9, 45, 9, 52⟩, ⟨9, 25, 9, 53⟩, ⟨9, 8, 9, 54⟩, ⟨9, 8, 9, 54⟩, ⟨10, 8, 10, 12⟩, ⟨10, 8, 10, 18⟩, ⟨10, 21, 10, 26⟩, ⟨10, 8, 10, 26⟩] : List Pos).getD i ⟨0, 0, 0, 0⟩)) PySem.Oxi.iS .none .none x0doc x0pm x0an (.ref x0cda) x0ct x0cc), x0osl⟩)
    (x0hco : PySem.W.codeIn K (.ref x0cda) "InvalidCombos.__init__" = true)
    (x0hce : K.lookup x0cc = some ⟨x0cl, x0cld, .cell (some (.ref x0C)), x0csl⟩)
    (x0hcd : K.lookup x0cda = some ⟨x0ccl, x0cdd, .fields x0vs, x0ccs⟩)
    (x0hv2 : x0vs[2]? = some (.str x0file x0tf))
    (x0hfi : ((l.prog.main.file : Str) == x0file) = true)
    (x0hxm : PySem.W.exmOne K (.ref x0C) (.ref x0C) = some true) :
    ∃ fd : FuncData, (∀ (s : Shared) (u : Value), BindsTo s fd ⟨[u], []⟩ [("_law_script", u)]) ∧ ∀ base : Heap, K.In base → base.Ns mainGlobals mg → SysAt base → FnG l.prog w K mg base 10 fa fd ["_law_script"] (spLaw K) := by
  have e := hfa.symm.trans (PySem.W.mg_of X G a15)
  cases e
  have A_is_an_integer : At K mg "is_an_integer" s_is_an_integer ["value"] := at_mk X G a0 l0 c0 k0 fun _ _ _ _ _ _ us hl => match us, hl with | [_], _ => rfl
  have A_is_between : At K mg "is_between" s_is_between ["value", "low", "high"] := at_mk X G a1 l1 c1 k1 fun _ _ _ _ _ _ us hl => match us, hl with | [_, _, _], _ => rfl
  have A_is_code : At K mg "is_code" s_is_code ["value"] := at_mk X G a2 l2 c2 k2 fun _ _ _ _ _ _ us hl => match us, hl with | [_], _ => rfl
  have A_are_ascending : At K mg "are_ascending" s_are_ascending ["values", "many"] := at_mk X G a3 l3 c3 k3 fun _ _ _ _ _ _ us hl => match us, hl with | [_, _], _ => rfl
  have A_are_combo_keys : At K mg "are_combo_keys" s_are_combo_keys ["value", "many"] := at_mk X G a4 l4 c4 k4 fun _ _ _ _ _ _ us hl => match us, hl with | [_, _], _ => rfl
  have A_is_combo : At K mg "is_combo" s_is_combo ["value", "many"] := at_mk X G a5 l5 c5 k5 fun _ _ _ _ _ _ us hl => match us, hl with | [_, _], _ => rfl
  have A_check_combos : At K mg "check_combos" s_check_combos ["value", "many"] := at_mk X G a6 l6 c6 k6 fun _ _ _ _ _ _ us hl => match us, hl with | [_, _], _ => rfl
  have A_check_many : At K mg "check_many" s_check_many ["many"] := at_mk X G a7 l7 c7 k7 fun _ _ _ _ _ _ us hl => match us, hl with | [_], _ => rfl
  have A_is_combos : At K mg "is_combos" s_is_combos ["value", "many"] := at_mk X G a8 l8 c8 k8 fun _ _ _ _ _ _ us hl => match us, hl with | [_, _], _ => rfl
  have A__law_spring : At K mg "_law_spring" s__law_spring ["_law_script", "_law_k"] := at_mk X G a9 l9 c9 k9 fun _ _ _ _ _ _ us hl => match us, hl with | [_, _], _ => rfl
  have A__law_take : At K mg "_law_take" s__law_take ["_law_spring_here", "_law_many"] := at_mk X G a10 l10 c10 k10 fun _ _ _ _ _ _ us hl => match us, hl with | [_, _], _ => rfl
  have A__law_combos : At K mg "_law_combos" s__law_combos ["_law_spring_here", "_law_many", "_law_top"] := at_mk X G a11 l11 c11 k11 fun _ _ _ _ _ _ us hl => match us, hl with | [_, _, _], _ => rfl
  have A__law_is_key : At K mg "_law_is_key" s__law_is_key ["_law_one", "_law_many"] := at_mk X G a12 l12 c12 k12 fun _ _ _ _ _ _ us hl => match us, hl with | [_, _], _ => rfl
  have A__law_due : At K mg "_law_due" s__law_due ["_law_value", "_law_many"] := at_mk X G a13 l13 c13 k13 fun _ _ _ _ _ _ us hl => match us, hl with | [_, _], _ => rfl
  have A__law_values : At K mg "_law_values" s__law_values ["_law_spring_here", "_law_many", "_law_combos_here"] := at_mk X G a14 l14 c14 k14 fun _ _ _ _ _ _ us hl => match us, hl with | [_, _, _], _ => rfl
  have A_law : At K mg "law" s_law ["_law_script"] := at_mk X G a15 l15 c15 k15 fun _ _ _ _ _ _ us hl => match us, hl with | [_], _ => rfl
  have m_MOST_SIGNS := PySem.W.mg_of X G v0
  have m_CODE_SIGNS := PySem.W.mg_of X G v1
  have m_GREATEST_COMBO_TIME := PySem.W.mg_of X G v2
  have m_MOST_COMBOS := PySem.W.mg_of X G v3
  have m_MOST_BOARD_KEYS := PySem.W.mg_of X G v4
  have bt : Bt mg := ⟨PySem.W.mg_none_of X G z0, PySem.W.mg_none_of X G z1, PySem.W.mg_none_of X G z2, PySem.W.mg_none_of X G z3, PySem.W.mg_none_of X G z4, PySem.W.mg_none_of X G z5, PySem.W.mg_none_of X G z6, PySem.W.mg_none_of X G z7, PySem.W.mg_none_of X G z8, PySem.W.mg_none_of X G z9, PySem.W.mg_none_of X G z10, PySem.W.mg_none_of X G z11, PySem.W.mg_none_of X G z12, PySem.W.mg_none_of X G z13, PySem.W.mg_none_of X G z14, PySem.W.mg_none_of X G z15⟩
  have m_InvalidCombos := PySem.W.mg_of X G x0hg
  have ex_InvalidCombos : PySem.Oxi.ExcTxt l.prog K "InvalidCombos" x0C x0f := ⟨⟨_, _, _, _, _, _, _, _, _, _, _, _, _, _, _, x0hL, x0hve⟩, x0hsa, x0hnN, x0hiC, x0htC, x0hkC, x0heC, x0hvC, x0hmC, x0hyC, x0hsu, x0han_, x0hei, x0hsp, x0htp, ⟨_, _, _, _, _, _, _, _, _, _, _, _, _, _, by decide, by decide, x0hl, x0hco, ⟨_, _, _, x0hce⟩, ⟨_, _, _, _, _, _, x0hcd, x0hv2, x0hfi⟩⟩⟩
  have xm_InvalidCombos := x0hxm
  refine ⟨PySem.W.fnOf "law" "law" (defArgs s_law) (defBody s_law) (defScope s_law) .none kV15 dc15 pm15 an15 cd15 ct15, fun s u => .of_eq rfl, fun base _ _ hsm => ?_⟩
  have C1 := ok_is_an_integer (P := l.prog) (w := w) (base := base) bt A_is_an_integer
  have C2 := ok_is_between A_is_between C1
  have C3 := ok_is_code (P := l.prog) (w := w) (base := base) bt m_MOST_SIGNS m_CODE_SIGNS A_is_code
  have C4 := ok_are_ascending bt A_are_ascending C2
  have C5 := ok_are_combo_keys bt A_are_combo_keys C4
  have C6 := ok_is_combo bt m_GREATEST_COMBO_TIME A_is_combo C2 C3 C5
  have C7 := ok_check_combos bt ex_InvalidCombos m_InvalidCombos m_MOST_COMBOS A_check_combos C6
  have C8 := ok_check_many m_MOST_BOARD_KEYS A_check_many C2
  have C9 := ok_is_combos m_InvalidCombos xm_InvalidCombos A_is_combos C8 C7
  have D1 := ok__law_take (P := l.prog) (w := w) (base := base) A__law_take
  have D2 := ok__law_spring (P := l.prog) (w := w) (base := base) bt A__law_spring
  have D3 := ok__law_combos bt A__law_combos D1
  have D4 := ok__law_is_key (P := l.prog) (w := w) (base := base) bt A__law_is_key
  have D5 := ok__law_due bt A__law_due D4
  have D6 := ok__law_values bt A__law_values D1
  exact ok_law bt hsm (fun_mk l15 c15 k15) D2 D1 D3 D6 D5 C9
end K23
open PySem PySem.W PyProof.Rows
set_option maxHeartbeats 0 in
theorem PySem.Challenge.cw_holdtap_k23_combos_judged_holds : PySem.Challenge.rw_holdtap_k23_combos_judged.Holds := by
  w_on; o_law; k_head; (case hw => w_witness2)
  k_fill
  refine Gd.walkGS (l := PySem.Challenge.rw_holdtap_k23_combos_judged) (n := 63) (k := 10) (x := "_law_script") (sp := fun K => K23.spLaw K) (by first | rfl | decide +kernel) rfl (by decide) rfl ⟨rfl, by decide, by decide⟩ (fun w h Y => PySem.W.kIn_of Y) ?F (fun _ _ a ns hl hS => ⟨a, ns, rfl, hS, hl, fun _ => rfl⟩)
  case F =>
    intro w mg fa h KX G hmg
    refine' K23.all_mk KX G hmg ?a0 ?l0 ?c0 ?k0 ?a1 ?l1 ?c1 ?k1 ?a2 ?l2 ?c2 ?k2 ?a3 ?l3 ?c3 ?k3 ?a4 ?l4 ?c4 ?k4 ?a5 ?l5 ?c5 ?k5 ?a6 ?l6 ?c6 ?k6 ?a7 ?l7 ?c7 ?k7 ?a8 ?l8 ?c8 ?k8 ?a9 ?l9 ?c9 ?k9 ?a10 ?l10 ?c10 ?k10 ?a11 ?l11 ?c11 ?k11 ?a12 ?l12 ?c12 ?k12 ?a13 ?l13 ?c13 ?k13 ?a14 ?l14 ?c14 ?k14 ?a15 ?l15 ?c15 ?k15 ?v0 ?v1 ?v2 ?v3 ?v4 ?z0 ?z1 ?z2 ?z3 ?z4 ?z5 ?z6 ?z7 ?z8 ?z9 ?z10 ?z11 ?z12 ?z13 ?z14 ?z15 ?x0hg ?x0hL ?x0hve ?x0hsa ?x0hnN ?x0hiC ?x0htC ?x0hkC ?x0heC ?x0hvC ?x0hmC ?x0hyC ?x0hsu ?x0han_ ?x0hei ?x0hsp ?x0htp ?x0hl ?x0hco ?x0hce ?x0hcd ?x0hv2 ?x0hfi ?x0hxm
    (case a0 => k_is); (case l0 => k_is); (case c0 => k_is); (case k0 => k_is); (case a1 => k_is); (case l1 => k_is); (case c1 => k_is); (case k1 => k_is); (case a2 => k_is); (case l2 => k_is); (case c2 => k_is); (case k2 => k_is); (case a3 => k_is); (case l3 => k_is); (case c3 => k_is); (case k3 => k_is); (case a4 => k_is); (case l4 => k_is); (case c4 => k_is); (case k4 => k_is); (case a5 => k_is); (case l5 => k_is); (case c5 => k_is); (case k5 => k_is); (case a6 => k_is); (case l6 => k_is); (case c6 => k_is); (case k6 => k_is); (case a7 => k_is); (case l7 => k_is); (case c7 => k_is); (case k7 => k_is); (case a8 => k_is); (case l8 => k_is); (case c8 => k_is); (case k8 => k_is); (case a9 => k_is); (case l9 => k_is); (case c9 => k_is); (case k9 => k_is); (case a10 => k_is); (case l10 => k_is); (case c10 => k_is); (case k10 => k_is); (case a11 => k_is); (case l11 => k_is); (case c11 => k_is); (case k11 => k_is); (case a12 => k_is); (case l12 => k_is); (case c12 => k_is); (case k12 => k_is); (case a13 => k_is); (case l13 => k_is); (case c13 => k_is); (case k13 => k_is); (case a14 => k_is); (case l14 => k_is); (case c14 => k_is); (case k14 => k_is); (case a15 => k_is); (case l15 => k_is); (case c15 => k_is); (case k15 => k_is); (case v0 => k_is); (case v1 => k_is); (case v2 => k_is); (case v3 => k_is); (case v4 => k_is); (case z0 => k_is); (case z1 => k_is); (case z2 => k_is); (case z3 => k_is); (case z4 => k_is); (case z5 => k_is); (case z6 => k_is); (case z7 => k_is); (case z8 => k_is); (case z9 => k_is); (case z10 => k_is); (case z11 => k_is); (case z12 => k_is); (case z13 => k_is); (case z14 => k_is); (case z15 => k_is); (case x0hg => first | k_is | rfl | decide +kernel); (case x0hL => first | k_is | rfl | decide +kernel); (case x0hve => first | k_is | rfl | decide +kernel); (case x0hsa => first | k_is | rfl | decide +kernel); (case x0hnN => first | k_is | rfl | decide +kernel); (case x0hiC => first | k_is | rfl | decide +kernel); (case x0htC => first | k_is | rfl | decide +kernel); (case x0hkC => first | k_is | rfl | decide +kernel); (case x0heC => first | k_is | rfl | decide +kernel); (case x0hvC => first | k_is | rfl | decide +kernel); (case x0hmC => first | k_is | rfl | decide +kernel); (case x0hyC => first | k_is | rfl | decide +kernel); (case x0hsu => first | k_is | rfl | decide +kernel); (case x0han_ => first | k_is | rfl | decide +kernel); (case x0hei => first | k_is | rfl | decide +kernel); (case x0hsp => first | k_is | rfl | decide +kernel); (case x0htp => first | k_is | rfl | decide +kernel); (case x0hl => first | k_is | rfl | decide +kernel); (case x0hco => first | k_is | rfl | decide +kernel); (case x0hce => first | k_is | rfl | decide +kernel); (case x0hcd => first | k_is | rfl | decide +kernel); (case x0hv2 => first | k_is | rfl | decide +kernel); (case x0hfi => first | k_is | rfl | decide +kernel); (case x0hxm => first | k_is | rfl | decide +kernel)

