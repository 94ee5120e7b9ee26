import PyProof.Rows.All
import Wide.All
import OpenK.AllK
import Wide.FinOn
import HandS.ForMost
import HandS.Walk
import HandS.Wide
import HandS.Style
import HandS.More
import HandS.SetFor
import HandS.SortInts
import HandS.IsInst
import HandS.Codes
import PyProof.ReprRoads
import HandS.Defaults
import HandS.Deep
import HandS.Strs
import HandS.ListItems
import KE.KDictList
import HandS.Conv
import HandS.TryOnly
import PySem.Challenge.RW_holdtap_k84_whole_what_does_not_matter
set_option Elab.async false
set_option linter.all false
set_option maxRecDepth 100000
set_option maxHeartbeats 4000000
/-! A layer over the hand layer in which a def knows that no display is being shown (A.guards): repr needs it. -/
namespace Gd
open PySem PySem.Spec PyProof.Rows L2

/-- what a def promises where no guard stands -/
structure FnG (P : Program) (w : World) (K : PySem.W.Frag) (mg : Str → Option Value) (base : Heap)
    (k : Nat) (f : Addr) (fd : FuncData) (ps : List Str) (sp : Sp) : Prop where
  len : ∀ vs H Q E, sp vs H Q E → vs.length = ps.length
  go : ∀ (A : Around) (outer : List Env) (s : Shared) (H : Hp) (args : Args) (us : List Value) (vs : List V) (Q : VK),
    A.guards = some [] → Room k A → Env0 P w K mg base A outer s H → BindsTo s fd args (ps.zip us) →
    Vals vs us → sp vs H Q E0 →
    codeAny (model P w) A (.call (.ref f) args) (CR CX0 outer P w H s Q E0) s

theorem deep_guards {A : Around} {e : Env} (h : A.guards = some []) : (A.deeper e).guards = some [] := h

section
variable {P : Program} {w : World} {K : PySem.W.Frag} {mg : Str → Option Value} {base : Heap}
theorem fnG {x qual : Str} {st : Stmt} {f : Addr} {fd : FuncData} {N ps : List Str} {k : Nat} {sp : Sp}
    (F : Fun K x qual st f fd) (S : FnScope N ps (defScope st))
    (len : ∀ vs H Q E, sp vs H Q E → vs.length = ps.length)
    (hb : ∀ (cdv : Value) (A : Around) (outer : List Env) (s : Shared) (H : Hp) (vs : List V) (Q : VK),
      A.guards = some [] → Room k (A.deeper (envOfC qual (defScope st) s.heap.objs.size f cdv)) → sp vs H Q E0 →
      ∃ t, PSs (cxOf CX0 P w K mg base N qual (defScope st) f cdv A outer s H E0).nox (defBody st) t ∧
        t { nx := fun _ H' => Q .non H', rt := Q } (start N vs) H) :
    FnG P w K mg base (k + 1) f fd ps sp := by
  obtain ⟨oc, od, kV, doc, pm, an, cdv, ct, osl, rfl, lk, hcd⟩ := F.ex
  refine ⟨len, fun A outer s H args us vs Q hg hr e0 bt rv hsp => ?_⟩
  have kin : K.In s.heap := e0.mod.kin.keeps (fun b o e => (e0.bs b o e).1)
  have nol : s.heap.NoLimit := e0.mod.nolimit.keeps (fun b o e => (e0.bs b o e).1)
  have pk : ((ps.zip us).all fun y => (defScope st).names.lookup y.1 == some NameKind.local ||
      (defScope st).names.lookup y.1 == some NameKind.cell) = true := by
    rw [List.all_eq_true]
    rintro ⟨n, v⟩ hm
    have hp := S.par n (List.of_mem_zip hm).1
    rcases hp with e | e <;> simp [e]
  refine Att.call_fn kin nol lk hcd hr.depth bt pk (fun s1 ic => ?_) S.co S.gen S.kind
  obtain ⟨t, ht, hq⟩ := hb cdv A outer s H vs Q hg (hr.deeper _) hsp
  have J := inv_start (CX := CX0) (E := E0) (P := P) (w := w) (mg := mg) (base := base) S hr.hd e0 (len _ _ _ _ hsp) rv ic
  have J' := J.wish (fun _ _ => False)
  refine wpAny_mono (ht.run [] s1 (start N vs) H _ J' hq) (fun fl s' sp' => ?_) (fun _ _ z => z.elim)
  match fl, sp' with
  | .next, ⟨σ', H', L, q⟩ => exact ⟨.non, H', L.os, L.bare, L.base, L.hok, rfl, q⟩
  | .ret u, ⟨v, σ', H', L, rr, q⟩ => exact ⟨v, H', L.os, L.bare, L.base, L.hok, rr, q⟩
  | .brk, ⟨_, _, _, q⟩ => exact False.elim q
  | .cont, ⟨_, _, _, q⟩ => exact False.elim q
end

/-- a def that may be called by its name -/
structure Cl (P : Program) (w : World) (K : PySem.W.Frag) (mg : Str → Option Value) (base : Heap) (k : Nat) (x : Str) (sp : Sp) : Prop where
  ex : ∃ (f : Addr) (fd : FuncData) (ps : List Str), FnG P w K mg base k f fd ps sp ∧ mg x = some (.ref f) ∧
    PySem.W.keepIn K (.ref f) = true ∧ Binds K fd ps []
/-- where a def stands: its text, its name in the module -/
structure At (K : PySem.W.Frag) (mg : Str → Option Value) (x : Str) (st : Stmt) (ps : List Str) : Prop where
  ex : ∃ (f : Addr) (fd : FuncData), Fun K x x st f fd ∧ mg x = some (.ref f) ∧ Binds K fd ps []
section
variable {P : Program} {w : World} {K : PySem.W.Frag} {mg : Str → Option Value} {base : Heap}
theorem clG {x : Str} {st : Stmt} {N ps : List Str} {k : Nat} {sp : Sp} (a : At K mg x st ps) (S : FnScope N ps (defScope st))
    (len : ∀ vs H Q E, sp vs H Q E → vs.length = ps.length)
    (hb : ∀ (f : Addr) (cdv : Value) (A : Around) (outer : List Env) (s : Shared) (H : Hp) (vs : List V) (Q : VK),
      A.guards = some [] → Room k (A.deeper (envOfC x (defScope st) s.heap.objs.size f cdv)) → sp vs H Q E0 →
      ∃ t, PSs (cxOf CX0 P w K mg base N x (defScope st) f cdv A outer s H E0).nox (defBody st) t ∧
        t { nx := fun _ H' => Q .non H', rt := Q } (start N vs) H) : Cl P w K mg base (k + 1) x sp := by
  obtain ⟨f, fd, F, hm, b⟩ := a.ex
  exact ⟨f, fd, ps, fnG F S len (hb f), hm, F.kp, b⟩
theorem Cl.imp {x : Str} {k : Nat} {sp sp' : Sp} (c : Cl P w K mg base k x sp) (h : ∀ vs H Q E, sp' vs H Q E → sp vs H Q E) :
    Cl P w K mg base k x sp' := by
  obtain ⟨f, fd, ps, F, hm, kp, b⟩ := c.ex
  exact ⟨f, fd, ps, ⟨fun vs H Q E z => F.len vs H Q E (h _ _ _ _ z), fun A o s H as us vs Q g r e bt rv z => F.go A o s H as us vs Q g r e bt rv (h _ _ _ _ z)⟩, hm, kp, b⟩
end
section
variable {X : Cx} {k j : Nat} {x : Str} {sp : Sp} {p pos : Pos} {e : Expr} {es : List Expr} {t : TA}
theorem run_cl {f : Addr} {fd : FuncData} {ps : List Str} {pins : List (Addr × Obj)} {σ : L2.St} {H : Hp} {s : Shared} {Q : VK} {us : List Value} {vs : List V}
    (F : FnG X.prog X.w X.K X.mg X.base k f fd ps sp) (hg : X.A.guards = some []) (hr : Room k X.A) (b : Binds X.K fd ps [])
    (I : Inv X pins σ H s) (rv : Vals vs us) (h : sp vs H Q E0) : wpAny (model X.prog X.w) X.A (call (.ref f) us) (EP X pins σ Q) X.xe s := by
  have hl : us.length = ps.length := rv.length.symm.trans (F.len _ _ _ _ h)
  have bt := b s us I.kIn (by simpa using hl)
  rw [List.append_nil] at bt
  refine wpAny_call (codeAny_mono (F.go X.A X.stack s H ⟨us, []⟩ us vs Q hg hr I.env0 bt rv h) (fun r s' hq => ?_))
  match r, hq with
  | .ok (.ret u), hq => exact I.after hq
  | .ok .next, hq => exact False.elim hq
  | .ok .brk, hq => exact False.elim hq
  | .ok .cont, hq => exact False.elim hq
  | .error _, hq => exact False.elim hq
/-- f(e, ..) -/
theorem pe_cl (c : Cl X.prog X.w X.K X.mg X.base k x sp) (hg : X.A.guards = some []) (hr : Room j X.A) (hk : k ≤ j) (gl : Gl X x) (ha : PA X (e :: es) t)
    (hd : (x == ("__debug__" : Str)) = false := by decide)
    (he : starEach (e :: es) X.env = (false, eval e X.env) :: starEach es X.env := by rfl)
    (hp : (backTo pos (starEach es X.env)).any (·.1) = false := by rfl) :
    PE X (.Call (.Name x p) (e :: es) [] pos) (tCall sp [] E0 t) := by
  obtain ⟨f, fd, ps, F, hm, kp, b⟩ := c.ex
  refine ⟨fun pins s σ H Q I h => wpAny_Call_Name_kw (ld_glob I gl hm (PySem.W.callWith_K (h₀ := X.base) I.ok.mod.kin kp ?_ he hp) hd)⟩
  refine thn (ha.run pos pins s σ H _ I h) (fun us s1 z => ?_)
  obtain ⟨vs, H1, I1, rv, q⟩ := z
  exact ⟨I1.kIn, run_cl F hg (hr.mono hk) b I1 rv (by simpa using q)⟩
/-- f() -/
theorem pe_cl0 (c : Cl X.prog X.w X.K X.mg X.base k x sp) (hg : X.A.guards = some []) (hr : Room j X.A) (hk : k ≤ j) (gl : Gl X x)
    (hd : (x == ("__debug__" : Str)) = false := by decide) :
    PE X (.Call (.Name x p) [] [] pos) (tCall sp [] E0 tNil) := by
  obtain ⟨f, fd, ps, F, hm, kp, b⟩ := c.ex
  refine ⟨fun pins s σ H Q I h => wpAny_Call_Name_kw (ld_glob I gl hm (PySem.W.callWith_K0 I.kIn kp ?_) hd)⟩
  exact run_cl (us := []) F hg (hr.mono hk) b I .nil h
end

/-! ### rules that lack: a great power, repr of data -/
def CPowW (i j : Int) : Prop := 0 ≤ j ∧ (Builtin.Int.intBits i : Int) * j ≤ 2 ^ 27
theorem op_powW {X : Cx} : OpR X (binaryOp .Pow) (rI CPowW fun i j => .int (i ^ j.toNat)) := opI fun _ _ _ _ _ _ _ hc q => pow_int hc.1 hc.2 q
theorem bits_le {i : Int} {n : Nat} (h : i.natAbs < 2 ^ n) : Builtin.Int.intBits i ≤ n := by
  unfold Builtin.Int.intBits
  split
  · exact Nat.zero_le _
  · rename_i hz
    have h0 : i.natAbs ≠ 0 := by
      intro z
      apply hz
      have : i = 0 := Int.natAbs_eq_zero.mp z
      simp [this]
    have := (Nat.log2_lt h0).mpr h
    omega
theorem powW {i : Int} {n k : Nat} (h : i.natAbs < 2 ^ n) (hs : n * k ≤ 2 ^ 27) : CPowW i (k : Int) := by
  refine ⟨by omega, ?_⟩
  have b := bits_le h
  have m : Builtin.Int.intBits i * k ≤ 2 ^ 27 := Nat.le_trans (Nat.mul_le_mul_right k b) hs
  exact_mod_cast m

/-- repr(x), x a list or a tuple of data -/
def rRep (K : PySem.W.Frag) : List V → Hp → VK → Prop := fun xs H Q => ∃ (a : Addr) (d : PyData), xs = [.ref a] ∧ Dp K H (.ref a) d ∧
  d.showable = true ∧ d.depth ≤ 50 ∧ d.shown.length ≤ sizeLine ∧ Q (.str d.shown) H
mutual
theorem dp_nodict {K : PySem.W.Frag} {H : Hp} : ∀ (d : PyData) (v : V), Dp K H v d → d.hasDict = false
  | .none, _, _ => rfl
  | .bool _, _, _ => rfl
  | .int _, _, _ => rfl
  | .str _, _, _ => rfl
  | .list ds, _, h => by
    cases h with
    | lst _ ha => exact dps_nodict ds _ ha
  | .tuple ds, _, h => by
    cases h with
    | tup _ ha => exact dps_nodict ds _ ha
  | .dict _, _, h => by cases h
theorem dps_nodict {K : PySem.W.Frag} {H : Hp} : ∀ (ds : List PyData) (vs : List V), DpAll K H vs ds → PyData.hasDictAll ds = false
  | [], _, _ => rfl
  | d :: ds, _, h => by
    cases h with
    | cons h1 h2 =>
      show (d.hasDict || PyData.hasDictAll ds) = false
      rw [dp_nodict d _ h1, dps_nodict ds _ h2]
      rfl
end
theorem call_rep {X : Cx} {k : Nat} (hg : X.A.guards = some []) (hr : Room k X.A) : CallR X (.builtin "repr") (rRep X.K) := by
  intro pins s σ H xs us Q I r h
  obtain ⟨a, d, rfl, hd, hs, hdp, hz, q⟩ := h
  obtain ⟨u, rfl, ru⟩ := vals1 r
  obtain ⟨as, rd⟩ := Dp.reads I d (.ref a) u hd ru
  cases ru
  have hu := hr.un
  exact repr_of_reads' rd hs (PyData.noDict_hsm (dp_nodict d _ hd)) hg (by omega) (fun _ _ e => e)
    (fun h' t tk hk => ⟨.str d.shown, H, I.kept (t' := tk) hk, ⟨t, rfl⟩, q⟩) hz

/-! ### the law's own call -/
section
variable {P : Program} {w : World} {K : PySem.W.Frag} {mg mb : Str → Option Value} {k : Nat} {fa a : Addr} {fd : FuncData} {x : Str} {sp : Sp} {s₁ : Shared} {vs : List Value} {ns : List Int}
/-- the heap as the caller has it, H what is tracked of it: at most the script -/
theorem top_run (KX : K.In s₁.heap) (gl : s₁.heap.Ns mainGlobals mg) (bl : s₁.heap.Ns builtinsNs mb) (bb : ∀ y : Str, y ≠ "__name__" → mb y = bootBuiltins y)
    (nol : s₁.heap.NoLimit) (ng : s₁.gens = #[]) (oa : s₁.heap.get? a = some { cls := .type "list", data := .seq vs.toArray }) (hr : Room k callerA)
    (F : ∀ base : Heap, K.In base → base.Ns mainGlobals mg → FnG P w K mg base k fa fd [x] sp)
    (bt : ∀ (s : Shared) (u : Value), BindsTo s fd ⟨[u], []⟩ [(x, u)]) {H : Hp} (only : Only H) (hok : HOk P w H s₁.heap)
    (at_a : ∀ b, H b ≠ none → b = a ∧ K.lookup a = none) (h : sp [.ref a] H (fun v _ => v = .bl true) E0) :
    codeAny (model P w) callerA (.call (.ref fa) ⟨[.ref a], []⟩)
      (fun r s' => r = .ok (.ret (.bool true)) ∧ OldK s₁.heap s'.heap ∧ s'.os = s₁.os ∧ AllBare s'.gens) s₁ := by
  have free : ∀ {b : Addr} {o : Obj}, s₁.heap.get? b = some o → (b = a → ∃ es ep, o.data = .dict es ep) → H b = none := by
    intro b o e d
    rcases Classical.em (H b = none) with z | z
    · exact z
    · obtain ⟨rfl, _⟩ := at_a b z
      obtain ⟨es, ep, hd⟩ := d rfl
      rw [oa] at e
      cases e
      cases hd
  have nsAt : ∀ {b : Addr} {m : Str → Option Value}, s₁.heap.Ns b m → (hidT s₁.heap H).Ns b m := by
    intro b m z
    obtain ⟨o, es, ep, e, d, r⟩ := z
    exact ⟨o, es, ep, hidT_get e (free e fun _ => ⟨es, ep, d⟩), d, r⟩
  have KB : K.In (hidT s₁.heap H) := by
    intro b o e
    refine hidT_get (KX b o e) ?_
    rcases Classical.em (H b = none) with z | z
    · exact z
    · obtain ⟨rfl, q⟩ := at_a b z
      rw [q] at e
      cases e
  obtain ⟨ml, l1, l2⟩ := nol
  have M : Mod K mg (hidT s₁.heap H) := ⟨KB, nsAt gl, ⟨mb, nsAt bl, bb⟩, ⟨ml, nsAt l1, l2⟩⟩
  have E : Env0 P w K mg (hidT s₁.heap H) callerA [] s₁ H := by
    refine ⟨rfl, M, fun b o e => of_hidT e, Nat.le_of_eq (hidT_size _ _), True.intro, fun b hb => ?_, hok, .of_eq ng⟩
    exact nomatch (show b ∈ ([] : List Addr) from hb)
  refine codeAny_mono ((F _ KB (nsAt gl)).go callerA [] s₁ H ⟨[.ref a], []⟩ [.ref a] [.ref a] _ rfl hr E (bt s₁ (.ref a)) (.cons rfl .nil) h) ?_
  intro r s' z
  match r, z with
  | .ok .next, z => exact False.elim z
  | .ok .brk, z => exact False.elim z
  | .ok .cont, z => exact False.elim z
  | .error _, z => exact False.elim z
  | .ok (.ret u), ⟨v, H', os, bare, un, hok', rv, q⟩ =>
    have q : v = .bl true := q
    subst q
    have ru : u = Value.bool true := rv
    subst ru
    refine ⟨rfl, OldK.of_keep fun b o e => ?_, os, bare⟩
    rcases only b with n | ⟨ob, xs, n⟩
    · exact un.keep b o e n (fun m => nomatch (show b ∈ ([] : List Addr) from m)) (fun m => nomatch m)
    · have f1 := hok b _ n
      have f2 := hok' b _ (un.frzs b ob _ n)
      have g1 : s₁.heap.get? b = some ob := f1.1
      have g2 : s'.heap.get? b = some ob := f2.1
      rw [e] at g1
      cases g1
      exact g2
theorem law_callG (KX : K.In s₁.heap) (gl : s₁.heap.Ns mainGlobals mg) (bl : s₁.heap.Ns builtinsNs mb) (bb : ∀ y : Str, y ≠ "__name__" → mb y = bootBuiltins y)
    (nol : s₁.heap.NoLimit) (ng : s₁.gens = #[]) (oa : s₁.heap.get? a = some { cls := .type "list", data := .seq vs.toArray }) (hi : IntsAre vs ns) (hl : ns.length ≤ sizeLine) (hr : Room k callerA)
    (F : ∀ base : Heap, K.In base → base.Ns mainGlobals mg → FnG P w K mg base k fa fd [x] sp)
    (bt : ∀ (s : Shared) (u : Value), BindsTo s fd ⟨[u], []⟩ [(x, u)])
    (hsp : ∀ H : Hp, Only H → SqL K H a (ns.map V.int) → sp [.ref a] H (fun v _ => v = .bl true) E0) :
    codeAny (model P w) callerA (.call (.ref fa) ⟨[.ref a], []⟩)
      (fun r s' => r = .ok (.ret (.bool true)) ∧ OldK s₁.heap s'.heap ∧ s'.os = s₁.os ∧ AllBare s'.gens) s₁ := by
  have rv := vals_ints hi
  have lenV := hi.length
  by_cases hk : K.lookup a = none
  · let H : Hp := fun b => if b = a then some (.frz { cls := .type "list", data := .seq vs.toArray } (.lst (ns.map V.int))) else none
    have Ha : H a = some (.frz { cls := .type "list", data := .seq vs.toArray } (.lst (ns.map V.int))) := if_pos rfl
    have Hn : ∀ {b : Addr}, b ≠ a → H b = none := fun h => if_neg h
    have only : Only H := by
      intro b
      by_cases e : b = a
      · subst e; exact .inr ⟨_, _, Ha⟩
      · exact .inl (Hn e)
    refine top_run KX gl bl bb nol ng oa hr F bt (H := H) only ?_ ?_ (hsp H only (.inl (.inr ⟨_, Ha⟩)))
    · intro b u z
      by_cases e : b = a
      · subst e
        rw [Ha] at z
        cases z
        exact ⟨oa, by rw [List.length_map]; exact hl, vs, _, rv, oa⟩
      · rw [Hn e] at z; cases z
    · intro b z
      by_cases e : b = a
      · exact ⟨e, hk⟩
      · exact absurd (Hn e) z
  · obtain ⟨o, ho⟩ := Option.ne_none_iff_exists'.mp hk
    have e := KX a o ho
    rw [oa] at e
    cases e
    have only : Only (fun _ => none) := fun _ => .inl rfl
    refine top_run KX gl bl bb nol ng oa hr F bt (H := fun _ => none) only (fun b u z => nomatch z) (fun b z => absurd rfl z) (hsp _ only (.inr ?_))
    exact ⟨_, vs.toArray, _, ho, rfl, rfl, rfl, by rw [List.size_toArray, lenV]; exact hl, by simpa using rv⟩
end
/-- what k_head leaves, from the promise of the law's def -/
theorem walkG {l : PySem.W.OpenLaw} {n k : Nat} {q : Program} {loose : List Str} {XP : (Str → Option Value) → Heap → Prop} {YP : World → Heap → Prop} {d : DefRec} {K : Params → PySem.W.Frag} {sp : PySem.W.Frag → Sp} {x : Str}
    (hn : l.most = some n) (hn2 : n ≤ sizeLine) (hdf : d.params.defaults = []) (hr : Room k callerA)
    (hY : ∀ (w : World) (h : Heap), YP w h → (K w.params).In h)
    (F : ∀ (w : World) (mg : Str → Option Value) (fa : Addr) (h : Heap), (K w.params).In h → h.Ns mainGlobals mg → mg d.name = some (.ref fa) →
      ∃ fd : FuncData, (∀ (s : Shared) (u : Value), BindsTo s fd ⟨[u], []⟩ [(x, u)]) ∧
        ∀ base : Heap, (K w.params).In base → base.Ns mainGlobals mg → FnG l.prog w (K w.params) mg base k fa fd [x] (sp (K w.params)))
    (hsp : ∀ (K : PySem.W.Frag) (H : Hp) (a : Addr) (ns : List Int), ns.length ≤ n → SqL K H a (ns.map V.int) →
      sp K [.ref a] H (fun v _ => v = .bl true) E0) :
    PySem.W.WalkO q loose XP YP l.row.toRowW d [] (fun f vs => PySem.call f vs) := by
  refine Att.attach_call hn hdf ?_
  intro w s₀ s₁ mg mb fa o pm cd doc a vs ns G Y ho hd hcd hmg oa hi hlen ng
  have KX := hY w _ Y
  obtain ⟨fd, bt, hF⟩ := F w mg fa _ KX G.T.g hmg
  exact law_callG KX G.T.g G.T.b G.T.builtins G.T.nolimit ng oa hi (Nat.le_trans hlen hn2) hr hF bt (fun H _ hS => hsp _ H a ns hlen hS)
end Gd

set_option Elab.async false
set_option linter.all false
set_option maxRecDepth 100000
set_option maxHeartbeats 4000000
/-! a def with defaults, called with all of its arguments, or with some of them -/
namespace Gd
open PySem PySem.Spec PyProof.Rows L2
theorem room65 {k : Nat} {A : Around} (r : Room k A) : A.units + 65 < cLine := by have := r.un; omega
/-- where a def with defaults stands; ds: the values that fill up -/
structure AtX (K : PySem.W.Frag) (mg : Str → Option Value) (x : Str) (st : Stmt) (ps : List Str) (ds : List Value) : Prop where
  ex : ∃ (f : Addr) (oc : Value) (od : Option Addr) (dV kV doc pm : Value) (an : Option Addr) (cdv ct : Value) (osl : Array (Option Value)),
    K.lookup f = some ⟨oc, od, .func (PySem.W.fnOf x x (defArgs st) (defBody st) (defScope st) dV kV doc pm an cdv ct), osl⟩ ∧ PySem.W.codeIn K cdv x = true ∧ PySem.W.keepIn K (.ref f) = true ∧ mg x = some (.ref f) ∧
    Binds K (PySem.W.fnOf x x (defArgs st) (defBody st) (defScope st) dV kV doc pm an cdv ct) ps ds
section
variable {P : Program} {w : World} {K : PySem.W.Frag} {mg : Str → Option Value} {base : Heap}
theorem clX {x : Str} {st : Stmt} {N ps : List Str} {k : Nat} {sp : Sp} (a : AtX K mg x st ps []) (S : FnScope N ps (defScope st))
    (len : ∀ vs H Q E, sp vs H Q E → vs.length = ps.length)
    (hb : ∀ (f : Addr) (cdv : Value) (A : Around) (outer : List Env) (s : Shared) (H : Hp) (vs : List V) (Q : VK),
      A.guards = some [] → Room k (A.deeper (envOfC x (defScope st) s.heap.objs.size f cdv)) → sp vs H Q E0 →
      ∃ t, PSs (cxOf CX0 P w K mg base N x (defScope st) f cdv A outer s H E0).nox (defBody st) t ∧
        t { nx := fun _ H' => Q .non H', rt := Q } (start N vs) H) : Cl P w K mg base (k + 1) x sp := by
  obtain ⟨f, oc, od, dV, kV, doc, pm, an, cdv, ct, osl, lk, hcd, kp, hm, bd⟩ := a.ex
  refine ⟨f, _, ps, ⟨len, fun A outer s H args us vs Q hg hr e0 bt rv hsp => ?_⟩, hm, kp, bd⟩
  have kin : K.In s.heap := e0.mod.kin.keeps (fun b o e => (e0.bs b o e).1)
  have nol : s.heap.NoLimit := e0.mod.nolimit.keeps (fun b o e => (e0.bs b o e).1)
  have pk : ((ps.zip us).all fun y => (defScope st).names.lookup y.1 == some NameKind.local ||
      (defScope st).names.lookup y.1 == some NameKind.cell) = true := by
    rw [List.all_eq_true]
    rintro ⟨n, v⟩ hm
    have hp := S.par n (List.of_mem_zip hm).1
    rcases hp with e | e <;> simp [e]
  refine Att.call_fn kin nol lk hcd hr.depth bt pk (fun s1 ic => ?_) S.co S.gen S.kind
  obtain ⟨t, ht, hq⟩ := hb f cdv A outer s H vs Q hg (hr.deeper _) hsp
  have J := inv_start (CX := CX0) (E := E0) (P := P) (w := w) (mg := mg) (base := base) S hr.hd e0 (len _ _ _ _ hsp) rv ic
  have J' := J.wish (fun _ _ => False)
  refine wpAny_mono (ht.run [] s1 (start N vs) H _ J' hq) (fun fl s' sp' => ?_) (fun _ _ z => z.elim)
  match fl, sp' with
  | .next, ⟨σ', H', L, q⟩ => exact ⟨.non, H', L.os, L.bare, L.base, L.hok, rfl, q⟩
  | .ret u, ⟨v, σ', H', L, rr, q⟩ => exact ⟨v, H', L.os, L.bare, L.base, L.hok, rr, q⟩
  | .brk, ⟨_, _, _, q⟩ => exact False.elim q
  | .cont, ⟨_, _, _, q⟩ => exact False.elim q
end
/-- one default behind: all arguments are given -/
theorem atX_all {K : PySem.W.Frag} {h : Heap} {mg : Str → Option Value} {x : Str} {st : Stmt} {ps : List Str} {f T : Addr} {od an td : Option Addr} {sl ts : Array (Option Value)} {oc kV dc pm cd ct d : Value} {tn : Nat} (X : K.In h) (G : h.Ns mainGlobals mg)
    (a : PySem.W.nsIn K mainGlobals x = some (some (.ref f))) (l : K.lookup f = some ⟨oc, od, .func (PySem.W.fnOf x x (defArgs st) (defBody st) (defScope st) (.ref T) kV dc pm an cd ct), sl⟩) (c : PySem.W.codeIn K cd x = true) (k : PySem.W.keepIn K (.ref f) = true)
    (u : K.lookup T = some ⟨.type "tuple", td, .seq #[d] tn, ts⟩)
    (hb : ∀ (T : Addr) (kV doc pm : Value) (an : Option Addr) (cdv ct : Value) (us its : List Value), us.length = ps.length → its.length = 1 →
      ∃ k, bindArgs (PySem.W.fnOf x x (defArgs st) (defBody st) (defScope st) (.ref T) kV doc pm an cdv ct) ⟨us, []⟩ = seqItems? (.ref T) >>= k ∧ k (some its.toArray) = pure (ps.zip us)) : AtX K mg x st ps [] := by
  refine ⟨f, oc, od, .ref T, kV, dc, pm, an, cd, ct, sl, l, c, k, PySem.W.mg_of X G a, fun s us KX hl => ?_⟩
  rw [List.append_nil] at hl ⊢
  obtain ⟨g, e1, e2⟩ := hb T kV dc pm an cd ct us [d] hl rfl
  refine BindsTo.of_looks fun M => ?_
  rw [e1]
  exact looks_items (its := #[d]) KX u rfl (PySem.W.Looks.of_pure e2)
/-- a method's call within a comprehension: the constants said -/
theorem pe_bmB {X : Cx} {K0 : PySem.W.Frag} {T : String} {name : Str} {id : String} {r : V → List V → Hp → VK → Prop} {o e : Expr} {es : List Expr} {to : TE} {t : TA} {apos cpos : Pos} (hK : X.K = K0) (pa : PlainAttrs T) (slot : Slot T name id) (hty : typeOf (.builtin id) = pure (.type "method_descriptor")) (hm : MtR X id r) (ho : PE X o to) (ha : PA X (e :: es) t)
    (hbase : attributeBase o name X.env (eval o X.env) = eval o X.env := by rfl)
    (hfew : ((backTo cpos (starEach (e :: es) X.env)).all (fun x => !x.1) && (backToKw cpos (keywordEach [] X.env)).all (fun x => x.1.isSome)
      && decide ((e :: es).length + ([] : List Keyword).length + (if ([] : List Keyword).isEmpty then 0 else 1) < 30)) = true := by rfl)
    (hline : (apos.endLine == cpos.line) = true := by rfl) (hs : starEach (e :: es) X.env = (false, eval e X.env) :: starEach es X.env := by rfl) (hplain : (backTo cpos (starEach es X.env)).any (·.1) = false := by rfl) :
    PE X (.Call (.Attribute o name apos) (e :: es) [] cpos) (tBM K0 T r to t) := by
  subst hK
  exact pe_bm pa slot hty hm ho ha hbase hfew hline hs hplain
end Gd

set_option Elab.async false
set_option linter.all false
set_option maxRecDepth 100000
set_option maxHeartbeats 4000000
namespace Rm
open PySem PySem.Spec PyProof.Rows L2 Gd

/-! ### how long a display is -/
structure Fit (L n : Nat) (d : PyData) : Prop where
  sh : d.showable = true
  dp : d.depth ≤ n
  ln : d.shown.length ≤ L
theorem Fit.mono {L n L' n' : Nat} {d : PyData} (f : Fit L n d) (h : L ≤ L') (h' : n ≤ n') : Fit L' n' d := ⟨f.sh, by have := f.dp; omega, by have := f.ln; omega⟩
theorem allSh {L n : Nat} : ∀ {ds : List PyData}, (∀ d ∈ ds, Fit L n d) → PyData.showableAll ds = true ∧ PyData.depthAll ds ≤ n ∧ piled (PyData.shownAll ds) ≤ ds.length * (L + 2)
  | [], _ => ⟨rfl, Nat.zero_le _, Nat.zero_le _⟩
  | d :: ds, h => by
    obtain ⟨a, b, c⟩ := allSh (ds := ds) fun x hx => h x (List.mem_cons_of_mem _ hx)
    have f := h d List.mem_cons_self
    refine ⟨?_, ?_, ?_⟩
    · show (d.showable && PyData.showableAll ds) = true
      rw [f.sh, a]; rfl
    · show max d.depth (PyData.depthAll ds) ≤ n
      have := f.dp
      omega
    · show piled (d.shown :: PyData.shownAll ds) ≤ _
      rw [piled_cons, List.length_cons]
      have := f.ln
      have e : (ds.length + 1) * (L + 2) = ds.length * (L + 2) + (L + 2) := Nat.succ_mul _ _
      omega
theorem listText_le (ts : List Str) : (listText ts).length ≤ piled ts + 2 := by
  cases ts with
  | nil => decide
  | cons t r =>
    have h := textFrom_length_pos r 1 (("[" : Str) ++ (if (0 : Nat) > 0 then ", " else "" : String) ++ t) (Nat.succ_pos 0)
    have e : ((("[" : Str) ++ (if (0 : Nat) > 0 then ", " else "" : String) ++ t)).length = 1 + t.length := by
      rw [strLen_append, strLen_append]; rfl
    have x : (listText (t :: r)).length = (textFrom 1 (("[" : Str) ++ (if (0 : Nat) > 0 then ", " else "" : String) ++ t) r).length + 1 := by
      show (textFrom 1 (("[" : Str) ++ (if (0 : Nat) > 0 then ", " else "" : String) ++ t) r ++ "]").length = _
      rw [strLen_append]; rfl
    rw [x, h, e, piled_cons]
    omega
theorem tupleText_le (ts : List Str) : (tupleText ts).length ≤ piled ts + 3 := by
  unfold tupleText
  rw [strLen_append, strLen_append]
  have e1 : ((("(" : String) : Str)).length = 1 := rfl
  have e3 : (((if ts.length == 1 then ",)" else ")" : String) : Str)).length ≤ 2 := by split <;> decide
  rw [e1]
  cases ts with
  | nil =>
    have : (Str.join ", " []).length = 0 := by decide
    omega
  | cons t r =>
    have := join_length_add (t :: r) (by simp)
    omega
theorem fit_list {L n : Nat} {ds : List PyData} (h : ∀ d ∈ ds, Fit L n d) : Fit (ds.length * (L + 2) + 3) (n + 1) (.list ds) := by
  obtain ⟨a, b, c⟩ := allSh h
  have := listText_le (PyData.shownAll ds)
  exact ⟨a, by show PyData.depthAll ds + 1 ≤ _; omega, by show (listText (PyData.shownAll ds)).length ≤ _; omega⟩
theorem fit_tup {L n : Nat} {ds : List PyData} (h : ∀ d ∈ ds, Fit L n d) : Fit (ds.length * (L + 2) + 3) (n + 1) (.tuple ds) := by
  obtain ⟨a, b, c⟩ := allSh h
  have := tupleText_le (PyData.shownAll ds)
  exact ⟨a, by show PyData.depthAll ds + 1 ≤ _; omega, by show (tupleText (PyData.shownAll ds)).length ≤ _; omega⟩
theorem fit_int {i : Int} (h : i.natAbs < 2 ^ 200) : Fit 210 0 (.int i) := by
  have hl : i.natAbs.log2 < 200 := PySem.Flt.log2_lt_of (by decide) h
  refine ⟨?_, Nat.le_refl _, ?_⟩
  · show decide (i.natAbs.log2 < 1920) = true
    exact decide_eq_true (by omega)
  · show (Str.ofString (toString i)).length ≤ 210
    rw [PySem.ofString_length]
    have := int_text_length_le (k := 200) (by decide) hl
    omega
theorem fit_none : Fit 210 0 .none := ⟨rfl, Nat.le_refl _, by decide +kernel⟩
theorem fit_bool (b : Bool) : Fit 210 0 (.bool b) := ⟨rfl, Nat.le_refl _, by cases b <;> decide +kernel⟩

/-! ### records -/
structure Ev where
  t : Int
  k : Int
  d : Bool
def wayS (d : Bool) : Str := if d then "down" else "up"
theorem wayS_inj {a b : Bool} : wayS a = wayS b ↔ a = b := by cases a <;> cases b <;> decide +kernel
theorem wayS_down (d : Bool) : decide (V.str (wayS d) = V.str "down") = d := by cases d <;> decide +kernel
def evD (e : Ev) : PyData := .tuple [.int e.t, .int e.k, .str (wayS e.d)]
def stD (e : Ev) : PyData := .tuple [.int e.k, .str (wayS e.d)]
def evV (e : Ev) : List V := [.int e.t, .int e.k, .str (wayS e.d)]
def stV (e : Ev) : List V := [.int e.k, .str (wayS e.d)]
def recD (es : List Ev) : PyData := .list (es.map evD)
def ordD (es : List Ev) : PyData := .list (es.map stD)
def after (h : Int → Bool) (e : Ev) : Int → Bool := fun k => if k = e.k then e.d else h k
def heldB (es : List Ev) : Int → Bool := es.foldl after fun _ => false
theorem heldB_snoc (es : List Ev) (e : Ev) : heldB (es ++ [e]) = after (heldB es) e := by unfold heldB; rw [List.foldl_append]; rfl
theorem heldB_take {es : List Ev} {i : Nat} {e : Ev} (h : es[i]? = some e) : heldB (es.take (i + 1)) = after (heldB (es.take i)) e := by
  rw [List.take_add_one, h]
  exact heldB_snoc _ _
/-- a record as the document has it -/
def Valid (es : List Ev) : Prop := ∀ (i : Nat) (e : Ev), es[i]? = some e → 0 ≤ e.k ∧ heldB (es.take i) e.k = !e.d ∧ ∀ (j : Nat) (e' : Ev), j < i → es[j]? = some e' → e'.t ≤ e.t
/-- an order: the same without ticks -/
def ValidO (es : List Ev) : Prop := ∀ (i : Nat) (e : Ev), es[i]? = some e → 0 ≤ e.k ∧ heldB (es.take i) e.k = !e.d
theorem Valid.o {es : List Ev} (h : Valid es) : ValidO es := fun i e x => ⟨(h i e x).1, (h i e x).2.1⟩
theorem Valid.nil : Valid [] := fun _ _ h => by simp at h
theorem Valid.take {es : List Ev} (h : Valid es) (n : Nat) : Valid (es.take n) := fun i e x => by
  have hi : i < n := by
    rcases Nat.lt_or_ge i n with q | q
    · exact q
    · rw [List.getElem?_eq_none (by rw [List.length_take]; omega)] at x; cases x
  rw [List.getElem?_take_of_lt hi] at x
  obtain ⟨a, b, c⟩ := h i e x
  refine ⟨a, ?_, fun j e' hj y => ?_⟩
  · rw [List.take_take, Nat.min_eq_left (by omega)]; exact b
  · rw [List.getElem?_take_of_lt (by omega)] at y
    exact c j e' hj y
theorem ValidO.take {es : List Ev} (h : ValidO es) (n : Nat) : ValidO (es.take n) := fun i e x => by
  have hi : i < n := by
    rcases Nat.lt_or_ge i n with q | q
    · exact q
    · rw [List.getElem?_eq_none (by rw [List.length_take]; omega)] at x; cases x
  rw [List.getElem?_take_of_lt hi] at x
  obtain ⟨a, b⟩ := h i e x
  exact ⟨a, by rw [List.take_take, Nat.min_eq_left (by omega)]; exact b⟩
theorem Valid.snoc {es : List Ev} {e : Ev} (h : Valid es) (h0 : 0 ≤ e.k) (hb : heldB es e.k = !e.d) (ht : ∀ e' ∈ es, e'.t ≤ e.t) : Valid (es ++ [e]) := fun i x hx => by
  rcases Nat.lt_or_ge i es.length with q | q
  · rw [List.getElem?_append_left q] at hx
    obtain ⟨a, b, c⟩ := h i x hx
    refine ⟨a, ?_, fun j e' hj y => ?_⟩
    · rw [List.take_append_of_le_length (by omega)]; exact b
    · rw [List.getElem?_append_left (by omega)] at y
      exact c j e' hj y
  · have hi : i = es.length := by
      have := (List.getElem?_eq_some_iff.mp hx).1
      rw [List.length_append] at this
      simp at this
      omega
    subst hi
    rw [List.getElem?_append_right (Nat.le_refl _), Nat.sub_self] at hx
    have ex : e = x := Option.some.inj hx
    subst ex
    refine ⟨h0, ?_, fun j e' hj y => ?_⟩
    · rw [List.take_append_of_le_length (Nat.le_refl _), List.take_length]; exact hb
    · rw [List.getElem?_append_left hj] at y
      exact ht e' (List.mem_of_getElem? y)
/-- the ticks and keys are not too great to be shown -/
def Small (es : List Ev) : Prop := ∀ e ∈ es, e.t.natAbs < 2 ^ 200 ∧ e.k.natAbs < 2 ^ 200
theorem fit_ev {e : Ev} (h : e.t.natAbs < 2 ^ 200 ∧ e.k.natAbs < 2 ^ 200) : Fit 1000 1 (evD e) := by
  refine Fit.mono (fit_tup (L := 210) (n := 0) fun d hd => ?_) (by show 3 * 212 + 3 ≤ 1000; decide) (Nat.le_refl _)
  simp only [List.mem_cons, List.mem_nil_iff, or_false] at hd
  rcases hd with rfl | rfl | rfl
  · exact fit_int h.1
  · exact fit_int h.2
  · exact ⟨rfl, Nat.le_refl _, by cases e.d <;> decide +kernel⟩
theorem fit_st {e : Ev} (h : e.k.natAbs < 2 ^ 200) : Fit 1000 1 (stD e) := by
  refine Fit.mono (fit_tup (L := 210) (n := 0) fun d hd => ?_) (by show 2 * 212 + 3 ≤ 1000; decide) (Nat.le_refl _)
  simp only [List.mem_cons, List.mem_nil_iff, or_false] at hd
  rcases hd with rfl | rfl
  · exact fit_int h
  · exact ⟨rfl, Nat.le_refl _, by cases e.d <;> decide +kernel⟩
theorem fit_rec {es : List Ev} (h : Small es) (hl : es.length ≤ 1000) : Fit 1100000 2 (recD es) := by
  refine Fit.mono (fit_list (L := 1000) (n := 1) fun d hd => ?_) (by rw [List.length_map]; omega) (Nat.le_refl _)
  obtain ⟨e, he, rfl⟩ := List.mem_map.mp hd
  exact fit_ev (h e he)
theorem fit_ord {es : List Ev} (h : Small es) (hl : es.length ≤ 1000) : Fit 1100000 2 (ordD es) := by
  refine Fit.mono (fit_list (L := 1000) (n := 1) fun d hd => ?_) (by rw [List.length_map]; omega) (Nat.le_refl _)
  obtain ⟨e, he, rfl⟩ := List.mem_map.mp hd
  exact fit_st (h e he).2

/-! ### the dict of what is held -/
structure HeldK (kvs : List (Key × V)) (h : Int → Bool) : Prop where
  fm : ∀ p ∈ kvs, ∃ (k : Int) (b : Bool), p = (Sum.inl k, V.bl b)
  nd : (kvs.map (·.1)).Nodup
  at_ : ∀ k : Int, (valV kvs (Sum.inl k)).getD (.bl false) = .bl (h k)
theorem HeldK.nil : HeldK [] fun _ => false := ⟨fun _ h => by simp at h, List.nodup_nil, fun _ => rfl⟩
theorem put_len (kvs : List (Key × V)) (k : Key) (v : V) : (putK kvs k v).length ≤ kvs.length + 1 := by
  unfold putK
  split
  · rw [List.length_map]; omega
  · rw [List.length_append]; exact Nat.le_refl _
theorem put_keys (kvs : List (Key × V)) (k : Key) (v : V) (h : (kvs.map (·.1)).Nodup) : ((putK kvs k v).map (·.1)).Nodup := by
  cases e : valV kvs k with
  | none => exact nd_putK v h e
  | some x =>
    have a : (kvs.any fun kv => decide (kv.1 = k)) = true := by rw [valV_any, e]; rfl
    unfold putK
    rw [if_pos a, List.map_map]
    have : ((fun p : Key × V => p.1) ∘ fun kv => if kv.1 = k then (kv.1, v) else kv) = (·.1) := by
      funext p
      show (if p.1 = k then (p.1, v) else p).1 = p.1
      split <;> rfl
    rw [this]
    exact h
theorem HeldK.put {kvs : List (Key × V)} {es : List Ev} {e : Ev} (h : HeldK kvs (heldB es)) : HeldK (putK kvs (Sum.inl e.k) (.bl e.d)) (heldB (es ++ [e])) := by
  refine ⟨fun p hp => ?_, put_keys _ _ _ h.nd, fun k => ?_⟩
  · unfold putK at hp
    split at hp
    · obtain ⟨q, hq, rfl⟩ := List.mem_map.mp hp
      obtain ⟨k, b, rfl⟩ := h.fm q hq
      by_cases z : (Sum.inl k : Key) = Sum.inl e.k
      · exact ⟨k, e.d, by simp [z]⟩
      · exact ⟨k, b, by simp [z]⟩
    · rcases List.mem_append.mp hp with hp | hp
      · exact h.fm p hp
      · exact ⟨e.k, e.d, List.mem_singleton.mp hp⟩
  · rw [valV_put, heldB_snoc]
    unfold after
    by_cases z : k = e.k
    · subst z; simp
    · rw [if_neg (fun q => z (Sum.inl.inj q)), if_neg z]
      exact h.at_ k
def downs (kvs : List (Key × V)) : List Int := kvs.filterMap fun p => match p with
  | (Sum.inl k, .bl true) => some k
  | _ => none
theorem downs_cons (k : Int) (b : Bool) (r : List (Key × V)) : downs ((Sum.inl k, .bl b) :: r) = if b then k :: downs r else downs r := by
  cases b <;> simp [downs, List.filterMap_cons]
theorem downs_sub : ∀ {kvs : List (Key × V)} {k : Int}, k ∈ downs kvs → (Sum.inl k : Key) ∈ kvs.map (·.1)
  | kvs, k, h => by
    obtain ⟨p, hp, e⟩ := List.mem_filterMap.mp h
    refine List.mem_map.mpr ⟨p, hp, ?_⟩
    obtain ⟨a, b⟩ := p
    cases a with
    | inr _ => cases e
    | inl k' =>
      cases b with
      | bl c => cases c <;> simp at e; rw [e]
      | non => cases e
      | int _ => cases e
      | str _ => cases e
      | byt _ => cases e
      | flt _ => cases e
      | ref _ => cases e
      | ty _ => cases e
theorem downs_nd : ∀ {kvs : List (Key × V)}, (∀ p ∈ kvs, ∃ (k : Int) (b : Bool), p = (Sum.inl k, V.bl b)) → (kvs.map (·.1)).Nodup → (downs kvs).Nodup
  | [], _, _ => List.nodup_nil
  | p :: r, fm, nd => by
    obtain ⟨k, b, rfl⟩ := fm p List.mem_cons_self
    have nd' : ((Sum.inl k : Key) :: r.map (·.1)).Nodup := nd
    obtain ⟨n1, n2⟩ := List.nodup_cons.mp nd'
    have ih := downs_nd (fun q hq => fm q (List.mem_cons_of_mem _ hq)) n2
    rw [downs_cons]
    split
    · exact List.nodup_cons.mpr ⟨fun m => n1 (downs_sub m), ih⟩
    · exact ih
theorem downs_mem : ∀ {kvs : List (Key × V)}, (∀ p ∈ kvs, ∃ (k : Int) (b : Bool), p = (Sum.inl k, V.bl b)) → (kvs.map (·.1)).Nodup → ∀ k : Int, k ∈ downs kvs ↔ valV kvs (Sum.inl k) = some (.bl true)
  | [], _, _, k => by simp [downs, valV]
  | p :: r, fm, nd, k => by
    obtain ⟨k', b, rfl⟩ := fm p List.mem_cons_self
    have nd' : ((Sum.inl k' : Key) :: r.map (·.1)).Nodup := nd
    obtain ⟨n1, n2⟩ := List.nodup_cons.mp nd'
    have ih := downs_mem (fun q hq => fm q (List.mem_cons_of_mem _ hq)) n2 k
    rw [downs_cons]
    by_cases z : k' = k
    · subst z
      rw [valV_pos rfl]
      cases b with
      | true => simp
      | false =>
        simp only [Bool.false_eq_true, if_false]
        constructor
        · intro m; exact absurd (downs_sub m) n1
        · intro m; cases m
    · rw [valV_neg (fun q => z (Sum.inl.inj q))]
      rw [← ih]
      split
      · rw [List.mem_cons]
        exact ⟨fun q => q.resolve_left fun e => z e.symm, .inr⟩
      · exact Iff.rfl
theorem HeldK.mem {kvs : List (Key × V)} {h : Int → Bool} (x : HeldK kvs h) (k : Int) : k ∈ downs kvs ↔ h k = true := by
  rw [downs_mem x.fm x.nd k]
  have q := x.at_ k
  cases e : valV kvs (Sum.inl k) with
  | none =>
    rw [e] at q
    have q : V.bl false = .bl (h k) := q
    have : h k = false := (V.bl.inj q).symm
    simp [this]
  | some v =>
    rw [e] at q
    have q : v = .bl (h k) := q
    subst q
    constructor
    · intro z
      exact V.bl.inj (Option.some.inj z)
    · intro z
      rw [z]
/-- two ascending lists of the same keys -/
theorem same_sorted {a b c d : List Int} (h : ∀ k, k ∈ a ↔ k ∈ b) (na : a.Nodup) (nb : b.Nodup) (pa : c.Perm a) (pb : d.Perm b) (sa : c.Pairwise (· ≤ ·)) (sb : d.Pairwise (· ≤ ·)) : c = d := by
  have p : a.Perm b := (List.perm_ext_iff_of_nodup na nb).mpr h
  exact List.Perm.eq_of_pairwise (fun x y _ _ h1 h2 => Int.le_antisymm h1 h2) sa sb ((pa.trans p).trans pb.symm)

/-! ### heaps that change at one address alone -/
def Off (r : Addr) (H H' : Hp) : Prop := ∀ b o, H b = some o → b ≠ r → H' b = some o
theorem Off.refl {r : Addr} (H : Hp) : Off r H H := fun _ _ h _ => h
theorem Off.trans {r : Addr} {H H1 H2 : Hp} (a : Off r H H1) (b : Off r H1 H2) : Off r H H2 := fun c o h n => b c o (a c o h n) n
theorem Off.of {r : Addr} {H H1 : Hp} (a : Same H H1) : Off r H H1 := fun c o h _ => a c o h
theorem off_upd {r : Addr} {H : Hp} {o : HO} : Off r H (upd H r o) := fun b _ h n => by rw [upd_ne n]; exact h
theorem same_upd {H : Hp} {p : Addr} {o : HO} (h : H p = none) : Same H (upd H p o) := fun b x e => by
  rw [upd_ne (ne_of_none e h)]
  exact e
/-- what is new may change -/
theorem Same.off {H H1 H2 : Hp} {p : Addr} (s : Same H H1) (h : H p = none) (o : Off p H1 H2) : Same H H2 := fun b x e => o b x (s b x e) (ne_of_none e h)

/-! ### lists of tuples -/
def Tups {α : Type} (H : Hp) (f : α → List V) (as : List Addr) (es : List α) : Prop := as.length = es.length ∧ ∀ (i : Nat) (a : Addr) (e : α), as[i]? = some a → es[i]? = some e → H a = some (.tup (f e))
def Lst {α : Type} (f : α → List V) (H : Hp) (c : Addr) (es : List α) : Prop := ∃ as : List Addr, H c = some (.lst (as.map V.ref)) ∧ Tups H f as es
section
variable {α : Type} {f : α → List V} {H H' : Hp} {c r : Addr} {as : List Addr} {es : List α}
theorem Tups.nil : Tups H f [] ([] : List α) := ⟨rfl, fun i a e h _ => by simp at h⟩
theorem Tups.same (h : Tups H f as es) (s : Same H H') : Tups H' f as es := ⟨h.1, fun i a e x y => s _ _ (h.2 i a e x y)⟩
theorem Tups.off {ys : List V} (h : Tups H f as es) (hr : H r = some (.lst ys)) (o : Off r H H') : Tups H' f as es :=
  ⟨h.1, fun i a e x y => o _ _ (h.2 i a e x y) (ne_of (h.2 i a e x y) hr (by intro z; cases z))⟩
theorem Tups.snoc {a : Addr} {e : α} (h : Tups H f as es) (ha : H a = some (.tup (f e))) : Tups H f (as ++ [a]) (es ++ [e]) := by
  refine ⟨by rw [List.length_append, List.length_append, h.1]; rfl, fun i b x hb hx => ?_⟩
  rcases Nat.lt_or_ge i as.length with q | q
  · rw [List.getElem?_append_left q] at hb
    rw [List.getElem?_append_left (by rw [← h.1]; exact q)] at hx
    exact h.2 i b x hb hx
  · have hl := h.1
    have hi : i = as.length := by
      have := (List.getElem?_eq_some_iff.mp hb).1
      rw [List.length_append] at this
      simp at this
      omega
    subst hi
    rw [List.getElem?_append_right (Nat.le_refl _), Nat.sub_self] at hb
    rw [List.getElem?_append_right (by omega), show as.length - es.length = 0 by omega] at hx
    have e1 : a = b := Option.some.inj hb
    have e2 : e = x := Option.some.inj hx
    subst e1 e2
    exact ha
theorem Tups.take (h : Tups H f as es) (n : Nat) : Tups H f (as.take n) (es.take n) := by
  refine ⟨by rw [List.length_take, List.length_take, h.1], fun i b x hb hx => ?_⟩
  have hi : i < n := by
    rcases Nat.lt_or_ge i n with q | q
    · exact q
    · rw [List.getElem?_eq_none (by rw [List.length_take]; omega)] at hb; cases hb
  rw [List.getElem?_take_of_lt hi] at hb hx
  exact h.2 i b x hb hx
theorem Tups.append {bs : List Addr} {gs : List α} (h : Tups H f as es) (h' : Tups H f bs gs) : Tups H f (as ++ bs) (es ++ gs) := by
  refine ⟨by rw [List.length_append, List.length_append, h.1, h'.1], fun i b x hb hx => ?_⟩
  have hl := h.1
  rcases Nat.lt_or_ge i as.length with q | q
  · rw [List.getElem?_append_left q] at hb
    rw [List.getElem?_append_left (by omega)] at hx
    exact h.2 i b x hb hx
  · rw [List.getElem?_append_right q] at hb
    rw [List.getElem?_append_right (by omega), ← hl] at hx
    exact h'.2 _ b x hb hx
theorem Tups.at_ (h : Tups H f as es) {i : Nat} (hi : i < es.length) : ∃ a, as[i]? = some a ∧ H a = some (.tup (f es[i])) := by
  have hl := h.1
  exact ⟨as[i], List.getElem?_eq_getElem (by omega), h.2 i _ _ (List.getElem?_eq_getElem (by omega)) (List.getElem?_eq_getElem hi)⟩
theorem Tups.map {β : Type} {g : β → α} {bs : List β} (h : Tups H f as (bs.map g)) : Tups H (fun b => f (g b)) as bs := by
  refine ⟨by rw [h.1, List.length_map], fun i a b x y => h.2 i a (g b) x (by rw [List.getElem?_map, y]; rfl)⟩
theorem Tups.map' {β : Type} {g : β → α} {bs : List β} (h : Tups H (fun b => f (g b)) as bs) : Tups H f as (bs.map g) := by
  refine ⟨by rw [h.1, List.length_map], fun i a e x y => ?_⟩
  rw [List.getElem?_map] at y
  cases z : bs[i]? with
  | none => rw [z] at y; cases y
  | some b =>
    rw [z] at y
    have y : g b = e := Option.some.inj y
    subst y
    exact h.2 i a b x z
theorem Lst.same (h : Lst f H c es) (s : Same H H') : Lst f H' c es := by
  obtain ⟨as, a, b⟩ := h
  exact ⟨as, s _ _ a, b.same s⟩
theorem Lst.off {ys : List V} (h : Lst f H c es) (hr : H r = some (.lst ys)) (n : c ≠ r) (o : Off r H H') : Lst f H' c es := by
  obtain ⟨as, a, b⟩ := h
  exact ⟨as, o _ _ a n, b.off hr o⟩
end
theorem dp_int {K : PySem.W.Frag} {H : Hp} {i : Int} : Dp K H (.int i) (.int i) := .int i
theorem dpAll_of {K : PySem.W.Frag} {H : Hp} {α : Type} {f : α → List V} {g : α → PyData} (hg : ∀ (a : Addr) (e : α), H a = some (.tup (f e)) → Dp K H (.ref a) (g e)) :
    ∀ (as : List Addr) (es : List α), Tups H f as es → DpAll K H (as.map V.ref) (es.map g)
  | [], [], _ => .nil
  | [], _ :: _, h => by have := h.1; simp at this
  | _ :: _, [], h => by have := h.1; simp at this
  | a :: as, e :: es, h => .cons (hg a e (h.2 0 a e rfl rfl)) (dpAll_of hg as es ⟨by have := h.1; simpa using this, fun i b x hb hx => h.2 (i + 1) b x (by simpa using hb) (by simpa using hx)⟩)
theorem Lst.dp {K : PySem.W.Frag} {H : Hp} {c : Addr} {es : List Ev} (h : Lst evV H c es) : Dp K H (.ref c) (recD es) := by
  obtain ⟨as, a, b⟩ := h
  refine .lst (SqL.of a) (dpAll_of (fun a e ha => ?_) as es b)
  exact .tup (SqT.of ha) (.cons (.int _) (.cons (.int _) (.cons (.str _) .nil)))
theorem Lst.dpO {K : PySem.W.Frag} {H : Hp} {c : Addr} {es : List Ev} (h : Lst stV H c es) : Dp K H (.ref c) (ordD es) := by
  obtain ⟨as, a, b⟩ := h
  refine .lst (SqL.of a) (dpAll_of (fun a e ha => ?_) as es b)
  exact .tup (SqT.of ha) (.cons (.int _) (.cons (.str _) .nil))
theorem dpInts {K : PySem.W.Frag} {H : Hp} : ∀ ns : List Int, DpAll K H (ns.map V.int) (ns.map PyData.int)
  | [] => .nil
  | n :: ns => .cons (.int n) (dpInts ns)
theorem Lst.sql {K : PySem.W.Frag} {α : Type} {f : α → List V} {H : Hp} {c : Addr} {es : List α} (h : Lst f H c es) : ∃ xs : List V, SqL K H c xs ∧ xs.length = es.length := by
  obtain ⟨as, a, b⟩ := h
  exact ⟨_, SqL.of a, by rw [List.length_map]; exact b.1⟩

theorem val_at : ∀ {kvs : List (Key × V)} {i : Nat} {k : Key} {v : V}, (kvs.map (·.1)).Nodup → kvs[i]? = some (k, v) → valV kvs k = some v
  | [], _, _, _, _, h => by simp at h
  | p :: r, 0, k, v, _, h => by
    have e : p = (k, v) := Option.some.inj h
    subst e
    exact valV_pos rfl
  | p :: r, i + 1, k, v, nd, h => by
    have nd' : (p.1 :: r.map (·.1)).Nodup := nd
    obtain ⟨n1, n2⟩ := List.nodup_cons.mp nd'
    have h' : r[i]? = some (k, v) := by simpa using h
    have m : k ∈ r.map (·.1) := List.mem_map.mpr ⟨(k, v), List.mem_of_getElem? h', rfl⟩
    rw [valV_neg (fun e => n1 (e ▸ m))]
    exact val_at n2 h'
theorem downs_append (a b : List (Key × V)) : downs (a ++ b) = downs a ++ downs b := by unfold downs; rw [List.filterMap_append]
theorem downs_take {kvs : List (Key × V)} {i : Nat} {k : Int} {b : Bool} (h : kvs[i]? = some (Sum.inl k, .bl b)) : downs (kvs.take (i + 1)) = if b then downs (kvs.take i) ++ [k] else downs (kvs.take i) := by
  rw [List.take_add_one, h, downs_append]
  cases b <;> simp [downs]
theorem downs_len (kvs : List (Key × V)) : (downs kvs).length ≤ kvs.length := by unfold downs; exact List.length_filterMap_le _ _
end Rm

set_option Elab.async false
set_option linter.all false
set_option maxRecDepth 100000
set_option maxHeartbeats 4000000
namespace Rm
open PySem PySem.Spec PyProof.Rows L2 Gd

theorem Off.new {r p : Addr} {H H1 : Hp} {o : HO} (a : Off r H H1) (n : H p = none) : Off r H (upd H1 p o) := fun b x e ne => by
  rw [upd_ne (ne_of_none e n)]
  exact a b x e ne
theorem Off.at_ {r : Addr} {H H1 : Hp} {o : HO} (a : Off r H H1) : Off r H (upd H1 r o) := a.trans off_upd
theorem Off.sameTrans {r : Addr} {H H1 H2 : Hp} (a : Off r H H1) (b : Same H1 H2) : Off r H H2 := a.trans (Off.of b)
/-- what was free stays free of it: a new address of a later heap is new for the earlier one too -/
theorem Off.free {r p : Addr} {H H1 : Hp} {o : HO} (a : Off r H H1) (hr : H1 r = some o) (n : H1 p = none) : H p = none := by
  cases e : H p with
  | none => rfl
  | some x =>
    have h : p ≠ r := fun z => by rw [z, hr] at n; cases n
    rw [a p x e h] at n
    cases n

theorem getI {ns : List Int} {d : Int} (h0 : 0 ≤ d) (h1 : d < (ns.length : Int)) : ∃ (v : Int), atI (ns.map V.int) d = some (.int v) ∧ ns[d.toNat]? = some v := by
  have hd : d.toNat < ns.length := by omega
  refine ⟨ns[d.toNat], ?_, List.getElem?_eq_getElem hd⟩
  refine at_of (j := d.toNat) (by omega) ?_
  rw [List.getElem?_map, List.getElem?_eq_getElem hd]
  rfl
theorem inv_int (k : Int) : ∀ ns : List Int, inV (.int k) (ns.map V.int) = decide (k ∈ ns)
  | [] => rfl
  | n :: ns => by
    show (eqV (.int n) (.int k) || inV (.int k) (ns.map V.int)) = _
    rw [inv_int k ns]
    have e : eqV (.int n) (.int k) = decide (n = k) := by
      by_cases z : n = k <;> simp [eqV, z]
    rw [e]
    by_cases z : n = k
    · subst z; simp
    · have z' : ¬ k = n := fun q => z q.symm
      simp [z, z']
theorem flat_ints : ∀ ns : List Int, (ns.map V.int).all flatV = true
  | [] => rfl
  | n :: ns => by
    show (flatV (.int n) && (ns.map V.int).all flatV) = true
    rw [flat_ints ns]
    rfl
theorem lay_ints : ∀ ns : List Int, PyData.canLayAll0 (ns.map PyData.int) = true ∧ PyData.depthAll (ns.map PyData.int) = 0
  | [] => ⟨rfl, rfl⟩
  | n :: ns => by
    obtain ⟨a, b⟩ := lay_ints ns
    refine ⟨?_, ?_⟩
    · show (PyData.canLay0 (.int n) && PyData.canLayAll0 (ns.map PyData.int)) = true
      rw [a]
      rfl
    · show max (PyData.depth (.int n)) (PyData.depthAll (ns.map PyData.int)) = 0
      rw [b]
      rfl
theorem shaped_ints (ns : List Int) : SeqAt.shaped (.list (ns.map PyData.int)) = true := by
  obtain ⟨a, b⟩ := lay_ints ns
  show (PyData.canLayAll0 (ns.map PyData.int) && decide (PyData.depthAll (ns.map PyData.int) + 1 ≤ 64)) = true
  rw [a, b]
  rfl
theorem eqv_nil (ds : List PyData) : PyData.eqv (.list ds) (.list []) = ds.isEmpty := by
  cases ds <;> rfl
theorem mem_eraseIdx {ns : List Int} {j : Nat} {k : Int} (nd : ns.Nodup) (h : ns[j]? = some k) (x : Int) : x ∈ ns.eraseIdx j ↔ x ≠ k ∧ x ∈ ns := by
  rw [List.mem_eraseIdx_iff_getElem?]
  constructor
  · rintro ⟨i, hi, e⟩
    refine ⟨fun z => ?_, List.mem_of_getElem? e⟩
    subst z
    exact hi (nd_ix nd e h)
  · rintro ⟨hx, hm⟩
    obtain ⟨i, e⟩ := List.getElem?_of_mem hm
    refine ⟨i, fun z => ?_, e⟩
    subst z
    rw [h] at e
    exact hx (Option.some.inj e).symm
theorem first_ix {ns : List Int} {j : Nat} {k : Int} (nd : ns.Nodup) (h : ns[j]? = some k) : ∀ m : Nat, m < j → ns[m]? ≠ some k := fun m hm e => by
  have := nd_ix nd e h
  omega

/-! ### the keys that are down, as a list -/
structure DownOk (ns : List Int) (es : List Ev) : Prop where
  nd : ns.Nodup
  mem : ∀ k, k ∈ ns ↔ heldB es k = true
theorem DownOk.nil : DownOk [] [] := ⟨List.nodup_nil, fun k => by simp [heldB]⟩
theorem DownOk.down {ns : List Int} {es : List Ev} {t k : Int} (h : DownOk ns es) (n : ¬ k ∈ ns) : DownOk (ns ++ [k]) (es ++ [⟨t, k, true⟩]) := by
  refine ⟨nd_snoc h.nd n, fun x => ?_⟩
  rw [heldB_snoc]
  unfold after
  rw [List.mem_append, List.mem_singleton, h.mem]
  by_cases z : x = k
  · subst z; simp
  · simp [z]
theorem DownOk.up {ns : List Int} {es : List Ev} {t k : Int} {j : Nat} (h : DownOk ns es) (e : ns[j]? = some k) : DownOk (ns.eraseIdx j) (es ++ [⟨t, k, false⟩]) := by
  refine ⟨h.nd.eraseIdx j, fun x => ?_⟩
  rw [heldB_snoc, mem_eraseIdx h.nd e, h.mem]
  unfold after
  by_cases z : x = k
  · subst z; simp
  · simp [z]
theorem DownOk.not {ns : List Int} {es : List Ev} {k : Int} (h : DownOk ns es) (n : ¬ k ∈ ns) : heldB es k = false := by
  cases e : heldB es k with
  | false => rfl
  | true => exact absurd ((h.mem k).mpr e) n
/-- other keys for the same -/
theorem heldB_map {f : Int → Int} (hf : ∀ a b, f a = f b → a = b) : ∀ (es : List Ev) (k : Int), heldB (es.map fun e => ⟨e.t, f e.k, e.d⟩) (f k) = heldB es k := by
  intro es k
  suffices h : ∀ (es : List Ev) (g g' : Int → Bool), (∀ k, g' (f k) = g k) → ∀ k, (es.map fun e => (⟨e.t, f e.k, e.d⟩ : Ev)).foldl after g' (f k) = es.foldl after g k from h es _ _ (fun _ => rfl) k
  intro es
  induction es with
  | nil => intro g g' h k; exact h k
  | cons e es ih =>
    intro g g' h k
    refine ih (after g e) (after g' ⟨e.t, f e.k, e.d⟩) (fun x => ?_) k
    unfold after
    by_cases z : x = e.k
    · subst z; simp
    · have z' : ¬ f x = f e.k := fun q => z (hf _ _ q)
      show (if f x = f e.k then e.d else g' (f x)) = if x = e.k then e.d else g x
      rw [if_neg z, if_neg z', h]
theorem Valid.rekey {f : Int → Int} (hf : ∀ a b, f a = f b → a = b) {es : List Ev} (h : Valid es) (h0 : ∀ e ∈ es, 0 ≤ f e.k) : Valid (es.map fun e => ⟨e.t, f e.k, e.d⟩) := fun i e x => by
  rw [List.getElem?_map] at x
  cases y : es[i]? with
  | none => rw [y] at x; cases x
  | some e' =>
    rw [y] at x
    have x : (⟨e'.t, f e'.k, e'.d⟩ : Ev) = e := Option.some.inj x
    subst x
    obtain ⟨a, b, c⟩ := h i e' y
    refine ⟨h0 e' (List.mem_of_getElem? y), ?_, fun j g hj z => ?_⟩
    · rw [← List.map_take]
      show heldB _ (f e'.k) = !e'.d
      rw [heldB_map hf]
      exact b
    · rw [List.getElem?_map] at z
      cases y2 : es[j]? with
      | none => rw [y2] at z; cases z
      | some g' =>
        rw [y2] at z
        have z : (⟨g'.t, f g'.k, g'.d⟩ : Ev) = g := Option.some.inj z
        subst z
        exact c j g' hj y2
/-- ups behind all for keys that are down -/
theorem Valid.ups {t : Int} : ∀ (ns : List Int) {es : List Ev}, Valid es → ns.Nodup → (∀ k ∈ ns, heldB es k = true ∧ 0 ≤ k) → (∀ e ∈ es, e.t ≤ t) → Valid (es ++ ns.map fun k => ⟨t, k, false⟩)
  | [], es, h, _, _, _ => by simpa using h
  | k :: ns, es, h, nd, hb, ht => by
    obtain ⟨n1, n2⟩ := List.nodup_cons.mp nd
    have h1 : Valid (es ++ [⟨t, k, false⟩]) := h.snoc (hb k List.mem_cons_self).2 (by have := (hb k List.mem_cons_self).1; simpa using this) ht
    have := Valid.ups ns h1 n2 (fun x hx => ⟨by
        rw [heldB_snoc]
        unfold after
        have z : x ≠ k := fun q => n1 (q ▸ hx)
        rw [if_neg z]
        exact (hb x (List.mem_cons_of_mem _ hx)).1, (hb x (List.mem_cons_of_mem _ hx)).2⟩) (fun e he => by
        rcases List.mem_append.mp he with he | he
        · exact ht e he
        · rw [List.mem_singleton.mp he]; exact Int.le_refl _)
    simpa using this
theorem heldB_ups {t : Int} : ∀ (ns : List Int) (es : List Ev) (k : Int), heldB (es ++ ns.map fun k => ⟨t, k, false⟩) k = (heldB es k && !decide (k ∈ ns))
  | [], es, k => by simp
  | n :: ns, es, k => by
    have e : es ++ (n :: ns).map (fun k => (⟨t, k, false⟩ : Ev)) = (es ++ [⟨t, n, false⟩]) ++ ns.map fun k => ⟨t, k, false⟩ := by simp
    rw [e, heldB_ups ns, heldB_snoc]
    unfold after
    by_cases z : k = n
    · subst z; simp
    · have : (k ∈ n :: ns) ↔ k ∈ ns := by simp [z]
      simp [z]
/-- who is down is a key of the record -/
theorem held_mem : ∀ {es : List Ev} {k : Int}, heldB es k = true → ∃ e ∈ es, e.k = k := by
  intro es k
  suffices h : ∀ (es : List Ev) (g : Int → Bool), es.foldl after g k = true → g k = true ∨ ∃ e ∈ es, e.k = k by
    intro z
    rcases h es _ z with q | q
    · cases q
    · exact q
  intro es
  induction es with
  | nil => intro g h; exact .inl h
  | cons e es ih =>
    intro g h
    rcases ih (after g e) h with q | ⟨e', he, hk⟩
    · unfold after at q
      by_cases z : k = e.k
      · exact .inr ⟨e, List.mem_cons_self, z.symm⟩
      · rw [if_neg z] at q
        exact .inl q
    · exact .inr ⟨e', List.mem_cons_of_mem _ he, hk⟩
theorem Valid.mono {es : List Ev} (h : Valid es) : ∀ (i j : Nat) (a b : Ev), i < j → es[i]? = some a → es[j]? = some b → a.t ≤ b.t := fun i j a b hij ha hb => (h j b hb).2.2 i a hij ha
theorem lay_st : ∀ es : List Ev, PyData.canLayAll0 (es.map stD) = true ∧ PyData.depthAll (es.map stD) ≤ 1
  | [] => ⟨rfl, Nat.zero_le _⟩
  | e :: es => by
    obtain ⟨a, b⟩ := lay_st es
    refine ⟨?_, ?_⟩
    · have h : PyData.canLay0 (.str (wayS e.d)) = true := by cases e.d <;> decide +kernel
      show ((true && (PyData.canLay0 (.str (wayS e.d)) && true)) && PyData.canLayAll0 (es.map stD)) = true
      rw [a, h]
      rfl
    · show max (PyData.depth (stD e)) (PyData.depthAll (es.map stD)) ≤ 1
      have : PyData.depth (stD e) = 1 := rfl
      omega
theorem shaped_ord (es : List Ev) : SeqAt.shaped (ordD es) = true := by
  obtain ⟨a, b⟩ := lay_st es
  show (PyData.canLayAll0 (es.map stD) && decide (PyData.depthAll (es.map stD) + 1 ≤ 64)) = true
  rw [a, decide_eq_true (by omega)]
  rfl
theorem shaped_nil : SeqAt.shaped (.list []) = true := rfl
end Rm

set_option Elab.async false
set_option linter.all false
set_option maxRecDepth 100000
set_option maxHeartbeats 4000000
namespace La
open PySem PySem.Spec PyProof.Rows L2 Gd Rm

/-! ### codes -/
def signs : Str := "abcdefghijklmnopqrstuvwxyz0123456789"
def CodeOk (c : Str) : Prop := 1 ≤ c.cps.size ∧ c.cps.size ≤ 8 ∧ ∀ x ∈ c.cps.toList, x ∈ signs.cps.toList
instance (c : Str) : Decidable (CodeOk c) := by unfold CodeOk; infer_instance
theorem signs_low : ∀ x ∈ signs.cps.toList, x < 16 ^ 8 := by decide +kernel
theorem fit_code {c : Str} (h : CodeOk c) : Fit 210 0 (.str c) := by
  refine ⟨rfl, Nat.le_refl _, ?_⟩
  have q := PySem.StrLaws.reprText_len c fun x hx => signs_low x (h.2.2 x hx)
  have e : c.length = c.cps.size := rfl
  have := h.2.1
  show (reprText c).length ≤ 210
  omega
theorem joinL_one : ∀ cs : List Nat, TL.joinL [] (cs.map fun c => [c]) = cs
  | [] => rfl
  | [c] => rfl
  | c :: d :: r => by
    have ih := joinL_one (d :: r)
    show [c] ++ ([] ++ TL.joinL [] ((d :: r).map fun c => [c])) = c :: d :: r
    rw [ih]
    rfl
theorem join_one (cs : List Nat) : (Txt.join (("" : String) : Str) (cs.map fun c => (⟨#[c]⟩ : Str))).cps.toList = cs := by
  have h : ∀ a ys, Txt.join a ys = Str.join a ys := fun a ys => TL.join_eq a ys
  rw [h]
  show TL.tl (Str.join _ _) = cs
  rw [TL.tl_join, List.map_map]
  exact joinL_one cs
theorem code_join {cs : List Nat} (h1 : 1 ≤ cs.length) (h8 : cs.length ≤ 8) (h : ∀ c ∈ cs, c ∈ signs.cps.toList) : CodeOk (Txt.join (("" : String) : Str) (cs.map fun c => (⟨#[c]⟩ : Str))) := by
  have e := join_one cs
  refine ⟨?_, ?_, fun x hx => ?_⟩
  · rw [← Array.length_toList, e]; exact h1
  · rw [← Array.length_toList, e]; exact h8
  · rw [e] at hx; exact h x hx

/-! ### actions -/
inductive Actn where
  | none
  | thr
  | code (c : Str)
  | lay (w : Str) (j : Int)
  | dualC (c d : Str) (t : Int) (r : Str)
  | dualL (c : Str) (j t : Int) (r : Str)
def layWords : List Str := ["layer", "lock", "once"]
def rules : List Str := ["time", "other", "within"]
def ActOk (n i : Int) : Actn → Prop
  | .none => True
  | .thr => 0 < i
  | .code c => CodeOk c
  | .lay w j => w ∈ layWords ∧ 1 ≤ j ∧ j ≤ n - 1
  | .dualC c d t r => CodeOk c ∧ CodeOk d ∧ (1 ≤ t ∧ t ≤ 1000000000) ∧ r ∈ rules
  | .dualL c j t r => CodeOk c ∧ (1 ≤ j ∧ j ≤ n - 1) ∧ (1 ≤ t ∧ t ≤ 1000000000) ∧ r ∈ rules
def ActV (H : Hp) : Actn → V → Prop
  | .none, v => v = .str "none"
  | .thr, v => v = .str "through"
  | .code c, v => ∃ a, v = .ref a ∧ H a = some (.tup [.str "code", .str c])
  | .lay w j, v => ∃ a, v = .ref a ∧ H a = some (.tup [.str w, .int j])
  | .dualC c d t r, v => ∃ a b, v = .ref a ∧ H a = some (.tup [.str "dual", .str c, .ref b, .int t, .str r]) ∧ H b = some (.tup [.str "code", .str d])
  | .dualL c j t r, v => ∃ a b, v = .ref a ∧ H a = some (.tup [.str "dual", .str c, .ref b, .int t, .str r]) ∧ H b = some (.tup [.str "layer", .int j])
def actD : Actn → PyData
  | .none => .str "none"
  | .thr => .str "through"
  | .code c => .tuple [.str "code", .str c]
  | .lay w j => .tuple [.str w, .int j]
  | .dualC c d t r => .tuple [.str "dual", .str c, .tuple [.str "code", .str d], .int t, .str r]
  | .dualL c j t r => .tuple [.str "dual", .str c, .tuple [.str "layer", .int j], .int t, .str r]
theorem fit_word {w : Str} (h : w ∈ layWords ∨ w ∈ rules) : Fit 210 0 (.str w) := by
  refine ⟨rfl, Nat.le_refl _, ?_⟩
  unfold layWords rules at h
  simp only [List.mem_cons, List.mem_nil_iff, or_false] at h
  rcases h with (rfl | rfl | rfl) | (rfl | rfl | rfl) <;> decide +kernel
theorem fit_const (w : Str) (h : (reprText w).length ≤ 210 := by decide +kernel) : Fit 210 0 (.str w) := ⟨rfl, Nat.le_refl _, h⟩
theorem fit_two' {a b : PyData} (ha : Fit 210 0 a) (hb : Fit 210 0 b) : Fit 500 1 (.tuple [a, b]) := by
  refine Fit.mono (fit_tup (L := 210) (n := 0) fun d hd => ?_) (by show 2 * 212 + 3 ≤ 500; decide) (Nat.le_refl _)
  simp only [List.mem_cons, List.mem_nil_iff, or_false] at hd
  rcases hd with rfl | rfl
  · exact ha
  · exact hb
theorem fit_five {a b c d e : PyData} (ha : Fit 210 0 a) (hb : Fit 210 0 b) (hc : Fit 500 1 c) (hd : Fit 210 0 d) (he : Fit 210 0 e) : Fit 3000 2 (.tuple [a, b, c, d, e]) := by
  refine Fit.mono (fit_tup (L := 500) (n := 1) fun x hx => ?_) (by show 5 * 502 + 3 ≤ 3000; decide) (Nat.le_refl _)
  simp only [List.mem_cons, List.mem_nil_iff, or_false] at hx
  rcases hx with rfl | rfl | rfl | rfl | rfl
  · exact ha.mono (by decide) (by decide)
  · exact hb.mono (by decide) (by decide)
  · exact hc
  · exact hd.mono (by decide) (by decide)
  · exact he.mono (by decide) (by decide)
theorem fit_low {i : Int} (h : 0 ≤ i) (h2 : i ≤ 1000000000) : Fit 210 0 (.int i) := fit_int (by
  have : (2 : Nat) ^ 200 > 1000000000 := by decide
  omega)
theorem fit_act {n i : Int} {x : Actn} (h : ActOk n i x) (hn : n ≤ 1000) : Fit 3000 2 (actD x) := by
  cases x with
  | none => exact (fit_const "none").mono (by decide) (by decide)
  | thr => exact (fit_const "through").mono (by decide) (by decide)
  | code c => exact (fit_two' (fit_const "code") (fit_code h)).mono (by decide) (by decide)
  | lay w j =>
    obtain ⟨a, b, c⟩ := h
    exact (fit_two' (fit_word (.inl a)) (fit_low (by omega) (by omega))).mono (by decide) (by decide)
  | dualC c d t r =>
    obtain ⟨a, b, ⟨c1, c2⟩, e⟩ := h
    exact fit_five (fit_const "dual") (fit_code a) (fit_two' (fit_const "code") (fit_code b)) (fit_low (by omega) c2) (fit_word (.inr e))
  | dualL c j t r =>
    obtain ⟨a, ⟨b1, b2⟩, ⟨c1, c2⟩, e⟩ := h
    exact fit_five (fit_const "dual") (fit_code a) (fit_two' (fit_const "layer") (fit_low (by omega) (by omega))) (fit_low (by omega) c2) (fit_word (.inr e))

/-! ### heaps in which tuples stay -/
def Tk (H H' : Hp) : Prop := ∀ b xs, H b = some (.tup xs) → H' b = some (.tup xs)
theorem Tk.of {H H' : Hp} (s : Same H H') : Tk H H' := fun b xs h => s _ _ h
theorem Tk.trans {H H1 H2 : Hp} (a : Tk H H1) (b : Tk H1 H2) : Tk H H2 := fun c xs h => b c xs (a c xs h)
theorem Tk.refl (H : Hp) : Tk H H := fun _ _ h => h
theorem tk_upd {H : Hp} {r : Addr} {ys zs : List V} (h : H r = some (.lst ys)) : Tk H (upd H r (.lst zs)) := fun b xs e => by
  rw [upd_ne (ne_of e h (by intro z; cases z))]
  exact e
theorem ActV.keep {H H' : Hp} (t : Tk H H') : ∀ {x : Actn} {v : V}, ActV H x v → ActV H' x v
  | .none, _, h => h
  | .thr, _, h => h
  | .code _, _, ⟨a, e, h⟩ => ⟨a, e, t _ _ h⟩
  | .lay _ _, _, ⟨a, e, h⟩ => ⟨a, e, t _ _ h⟩
  | .dualC _ _ _ _, _, ⟨a, b, e, h, g⟩ => ⟨a, b, e, t _ _ h, t _ _ g⟩
  | .dualL _ _ _ _, _, ⟨a, b, e, h, g⟩ => ⟨a, b, e, t _ _ h, t _ _ g⟩
theorem ActV.dp {K : PySem.W.Frag} {H : Hp} : ∀ {x : Actn} {v : V}, ActV H x v → Dp K H v (actD x)
  | .none, _, h => by cases h; exact .str _
  | .thr, _, h => by cases h; exact .str _
  | .code _, _, ⟨a, e, h⟩ => by cases e; exact .tup (SqT.of h) (.cons (.str _) (.cons (.str _) .nil))
  | .lay _ _, _, ⟨a, e, h⟩ => by cases e; exact .tup (SqT.of h) (.cons (.str _) (.cons (.int _) .nil))
  | .dualC _ _ _ _, _, ⟨a, b, e, h, g⟩ => by
    cases e
    exact .tup (SqT.of h) (.cons (.str _) (.cons (.str _) (.cons (.tup (SqT.of g) (.cons (.str _) (.cons (.str _) .nil))) (.cons (.int _) (.cons (.str _) .nil)))))
  | .dualL _ _ _ _, _, ⟨a, b, e, h, g⟩ => by
    cases e
    exact .tup (SqT.of h) (.cons (.str _) (.cons (.str _) (.cons (.tup (SqT.of g) (.cons (.str _) (.cons (.int _) .nil))) (.cons (.int _) (.cons (.str _) .nil)))))

/-! ### rows and layouts -/
def Acts (H : Hp) (vs : List V) (xs : List Actn) : Prop := vs.length = xs.length ∧ ∀ (i : Nat) (v : V) (x : Actn), vs[i]? = some v → xs[i]? = some x → ActV H x v
def Row (H : Hp) (r : Addr) (xs : List Actn) : Prop := ∃ vs, H r = some (.lst vs) ∧ Acts H vs xs
def Rows (H : Hp) (rs : List Addr) (L : List (List Actn)) : Prop := rs.length = L.length ∧ ∀ (i : Nat) (r : Addr) (row : List Actn), rs[i]? = some r → L[i]? = some row → Row H r row
def Lay (H : Hp) (c : Addr) (L : List (List Actn)) : Prop := ∃ rs : List Addr, H c = some (.lst (rs.map V.ref)) ∧ Rows H rs L
def rowD (xs : List Actn) : PyData := .list (xs.map actD)
def layD (L : List (List Actn)) : PyData := .list (L.map rowD)
structure LayOk (L : List (List Actn)) (m : Nat) : Prop where
  n1 : 1 ≤ L.length
  n6 : L.length ≤ 6
  m1 : 1 ≤ m
  m16 : m ≤ 16
  len : ∀ row ∈ L, row.length = m
  ok : ∀ (i : Nat) (row : List Actn), L[i]? = some row → ∀ x ∈ row, ActOk L.length i x
section
variable {H H' : Hp} {c r : Addr} {vs : List V} {xs : List Actn} {rs : List Addr} {L : List (List Actn)} {m : Nat}
theorem Acts.nil : Acts H [] [] := ⟨rfl, fun i v x h _ => by simp at h⟩
theorem Acts.keep (h : Acts H vs xs) (t : Tk H H') : Acts H' vs xs := ⟨h.1, fun i v x a b => (h.2 i v x a b).keep t⟩
theorem Acts.at_ (h : Acts H vs xs) {i : Nat} (hi : i < xs.length) : ∃ v, vs[i]? = some v ∧ ActV H xs[i] v := by
  have hl := h.1
  exact ⟨vs[i], List.getElem?_eq_getElem (by omega), h.2 i _ _ (List.getElem?_eq_getElem (by omega)) (List.getElem?_eq_getElem hi)⟩
theorem Acts.snoc {v : V} {x : Actn} (h : Acts H vs xs) (hv : ActV H x v) : Acts H (vs ++ [v]) (xs ++ [x]) := by
  refine ⟨by rw [List.length_append, List.length_append, h.1]; rfl, fun i u y a b => ?_⟩
  have hl := h.1
  rcases Nat.lt_or_ge i vs.length with q | q
  · rw [List.getElem?_append_left q] at a
    rw [List.getElem?_append_left (by omega)] at b
    exact h.2 i u y a b
  · have hi : i = vs.length := by
      have := (List.getElem?_eq_some_iff.mp a).1
      rw [List.length_append] at this
      simp at this
      omega
    subst hi
    rw [List.getElem?_append_right (Nat.le_refl _), Nat.sub_self] at a
    rw [List.getElem?_append_right (by omega), show vs.length - xs.length = 0 by omega] at b
    have e1 : v = u := Option.some.inj a
    have e2 : x = y := Option.some.inj b
    subst e1 e2
    exact hv
theorem Acts.set {v : V} {x : Actn} {j : Nat} (h : Acts H vs xs) (hv : ActV H x v) : Acts H (vs.set j v) (xs.set j x) := by
  refine ⟨by rw [List.length_set, List.length_set, h.1], fun i u y a b => ?_⟩
  have hl := h.1
  by_cases z : j = i
  · subst z
    have hj : j < vs.length := by
      have := (List.getElem?_eq_some_iff.mp a).1
      rwa [List.length_set] at this
    rw [List.getElem?_set_self hj] at a
    rw [List.getElem?_set_self (by omega)] at b
    have e1 : v = u := Option.some.inj a
    have e2 : x = y := Option.some.inj b
    subst e1 e2
    exact hv
  · rw [List.getElem?_set_ne z] at a b
    exact h.2 i u y a b
theorem Row.same (h : Row H r xs) (s : Same H H') : Row H' r xs := by
  obtain ⟨vs, a, b⟩ := h
  exact ⟨vs, s _ _ a, b.keep (Tk.of s)⟩
theorem Rows.same (h : Rows H rs L) (s : Same H H') : Rows H' rs L := ⟨h.1, fun i r row a b => (h.2 i r row a b).same s⟩
theorem Lay.same (h : Lay H c L) (s : Same H H') : Lay H' c L := by
  obtain ⟨rs, a, b⟩ := h
  exact ⟨rs, s _ _ a, b.same s⟩
theorem Rows.at_ (h : Rows H rs L) {i : Nat} (hi : i < L.length) : ∃ r, rs[i]? = some r ∧ Row H r L[i] := by
  have hl := h.1
  exact ⟨rs[i], List.getElem?_eq_getElem (by omega), h.2 i _ _ (List.getElem?_eq_getElem (by omega)) (List.getElem?_eq_getElem hi)⟩
theorem Acts.dp {K : PySem.W.Frag} : ∀ {vs : List V} {xs : List Actn}, Acts H vs xs → DpAll K H vs (xs.map actD)
  | [], [], _ => .nil
  | [], _ :: _, h => by have := h.1; simp at this
  | _ :: _, [], h => by have := h.1; simp at this
  | v :: vs, x :: xs, h => .cons ((h.2 0 v x rfl rfl).dp) (Acts.dp ⟨by have := h.1; simpa using this, fun i u y a b => h.2 (i + 1) u y (by simpa using a) (by simpa using b)⟩)
theorem Row.dp {K : PySem.W.Frag} (h : Row H r xs) : Dp K H (.ref r) (rowD xs) := by
  obtain ⟨vs, a, b⟩ := h
  exact .lst (SqL.of a) b.dp
theorem Rows.dp {K : PySem.W.Frag} : ∀ {rs : List Addr} {L : List (List Actn)}, Rows H rs L → DpAll K H (rs.map V.ref) (L.map rowD)
  | [], [], _ => .nil
  | [], _ :: _, h => by have := h.1; simp at this
  | _ :: _, [], h => by have := h.1; simp at this
  | r :: rs, row :: L, h => .cons ((h.2 0 r row rfl rfl).dp) (Rows.dp ⟨by have := h.1; simpa using this, fun i u y a b => h.2 (i + 1) u y (by simpa using a) (by simpa using b)⟩)
theorem Lay.dp {K : PySem.W.Frag} (h : Lay H c L) : Dp K H (.ref c) (layD L) := by
  obtain ⟨rs, a, b⟩ := h
  exact .lst (SqL.of a) b.dp
theorem LayOk.fit (h : LayOk L m) : Fit 300100 4 (layD L) := by
  refine Fit.mono (fit_list (L := 50000) (n := 3) fun d hd => ?_) (by rw [List.length_map]; have := h.n6; omega) (Nat.le_refl _)
  obtain ⟨row, hr, rfl⟩ := List.mem_map.mp hd
  obtain ⟨i, hi⟩ := List.getElem?_of_mem hr
  refine Fit.mono (fit_list (L := 3000) (n := 2) fun d hd => ?_) (by rw [List.length_map, h.len row hr]; have := h.m16; omega) (Nat.le_refl _)
  obtain ⟨x, hx, rfl⟩ := List.mem_map.mp hd
  exact fit_act (h.ok i row hi x hx) (by have := h.n6; omega)
theorem LayOk.set (h : LayOk L m) {i j : Nat} {x : Actn} {row : List Actn} (hi : L[i]? = some row) (hx : ActOk L.length i x) : LayOk (L.set i (row.set j x)) m := by
  have hil := (List.getElem?_eq_some_iff.mp hi).1
  refine ⟨by rw [List.length_set]; exact h.n1, by rw [List.length_set]; exact h.n6, h.m1, h.m16, fun r hr => ?_, fun k r hk y hy => ?_⟩
  · rcases List.mem_or_eq_of_mem_set hr with q | q
    · exact h.len r q
    · rw [q, List.length_set]; exact h.len row (List.mem_of_getElem? hi)
  · rw [List.length_set]
    by_cases z : i = k
    · subst z
      rw [List.getElem?_set_self hil] at hk
      have e : row.set j x = r := Option.some.inj hk
      subst e
      rcases List.mem_or_eq_of_mem_set hy with q | q
      · exact h.ok i row hi y q
      · rw [q]; exact hx
    · rw [List.getElem?_set_ne z] at hk
      exact h.ok k r hk y hy
end
theorem inv_str (k : Str) : ∀ ws : List Str, inV (.str k) (ws.map V.str) = decide (k ∈ ws)
  | [] => rfl
  | n :: ns => by
    show (eqV (.str n) (.str k) || inV (.str k) (ns.map V.str)) = _
    rw [inv_str k ns]
    have e : eqV (.str n) (.str k) = decide (n = k) := by
      by_cases z : n = k <;> simp [eqV, z]
    rw [e]
    by_cases z : n = k
    · subst z; simp
    · have z' : ¬ k = n := fun q => z q.symm
      simp [z, z']
end La

set_option Elab.async false
set_option linter.all false
set_option maxRecDepth 100000
set_option maxHeartbeats 4000000
/-! repr of any data; bounds in the heap -/
namespace Gd
open PySem PySem.Spec PyProof.Rows L2
def rRepA (K : PySem.W.Frag) : List V → Hp → VK → Prop := fun xs H Q => ∃ (v : V) (d : PyData), xs = [v] ∧ Dp K H v d ∧
  d.showable = true ∧ d.depth ≤ 50 ∧ d.shown.length ≤ sizeLine ∧ Q (.str d.shown) H
theorem call_repA {X : Cx} {k : Nat} (hg : X.A.guards = some []) (hr : Room k X.A) : CallR X (.builtin "repr") (rRepA X.K) := by
  intro pins s σ H xs us Q I r h
  obtain ⟨v, d, rfl, hd, hs, hdp, hz, q⟩ := h
  cases d with
  | list ds =>
    cases hd with
    | lst h1 h2 => exact call_rep hg hr pins s σ H _ us Q I r ⟨_, _, rfl, .lst h1 h2, hs, hdp, hz, q⟩
  | tuple ds =>
    cases hd with
    | tup h1 h2 => exact call_rep hg hr pins s σ H _ us Q I r ⟨_, _, rfl, .tup h1 h2, hs, hdp, hz, q⟩
  | dict ds => cases hd
  | none =>
    cases hd
    obtain ⟨u, rfl, ru⟩ := vals1 r
    cases ru
    exact PySem.P.repr_of_none ⟨.str _, H, I.tok _, ⟨_, rfl⟩, q⟩
  | bool b =>
    cases hd
    obtain ⟨u, rfl, ru⟩ := vals1 r
    cases ru
    exact PySem.P.repr_of_bool ⟨.str _, H, I.tok _, ⟨_, rfl⟩, q⟩
  | int i =>
    cases hd
    obtain ⟨u, rfl, ⟨t, rfl⟩⟩ := vals1 r
    exact PySem.P.repr_of_int (of_decide_eq_true hs) ⟨.str _, H, I.tok _, ⟨_, rfl⟩, q⟩
  | str z =>
    cases hd
    obtain ⟨u, rfl, ⟨t, rfl⟩⟩ := vals1 r
    exact PySem.P.repr_of_str ⟨.str _, H, I.tok _, ⟨_, rfl⟩, q⟩ hz
end Gd

set_option Elab.async false
set_option linter.all false
set_option maxRecDepth 100000
set_option maxHeartbeats 4000000
/-! combos, and the pieces of a record -/
namespace Cb
open PySem PySem.Spec PyProof.Rows L2 Gd Rm La
structure Cmb where
  ks : List Int
  t : Int
  c : Str
structure CmbOk (many : Int) (cb : Cmb) : Prop where
  asc : cb.ks.Pairwise (· < ·)
  len : cb.ks.length = 2 ∨ cb.ks.length = 3
  key : ∀ k ∈ cb.ks, 0 ≤ k ∧ k < many
  time : 1 ≤ cb.t ∧ cb.t ≤ 10 ^ 9
  code : CodeOk cb.c
def CmbV (H : Hp) (cb : Cmb) (v : V) : Prop := ∃ a k, v = .ref a ∧ H a = some (.tup [.ref k, .int cb.t, .str cb.c]) ∧ H k = some (.tup (cb.ks.map V.int))
theorem CmbV.tk {H H' : Hp} {cb : Cmb} {v : V} (h : CmbV H cb v) (t : Tk H H') : CmbV H' cb v := by
  obtain ⟨a, k, e, h1, h2⟩ := h
  exact ⟨a, k, e, t _ _ h1, t _ _ h2⟩
/-- a list of combos -/
def Cmbs (H : Hp) (c : Addr) (cbs : List Cmb) : Prop := ∃ vs : List V, H c = some (.lst vs) ∧ vs.length = cbs.length ∧ ∀ (i : Nat) (v : V) (cb : Cmb), vs[i]? = some v → cbs[i]? = some cb → CmbV H cb v
theorem Cmbs.same {H H' : Hp} {c : Addr} {cbs : List Cmb} (h : Cmbs H c cbs) (s : Same H H') : Cmbs H' c cbs := by
  obtain ⟨vs, a, b, d⟩ := h
  exact ⟨vs, s _ _ a, b, fun i v cb x y => (d i v cb x y).tk (Tk.of s)⟩
theorem Cmbs.go {H H' : Hp} {c : Addr} {cbs : List Cmb} (h : Cmbs H c cbs) (t : Tk H H') (e : ∀ vs, H c = some (.lst vs) → H' c = some (.lst vs)) : Cmbs H' c cbs := by
  obtain ⟨vs, a, b, d⟩ := h
  exact ⟨vs, e _ a, b, fun i v cb x y => (d i v cb x y).tk t⟩
theorem Cmbs.at_ {H : Hp} {cbs : List Cmb} {vs : List V} (h : vs.length = cbs.length ∧ ∀ (i : Nat) (v : V) (cb : Cmb), vs[i]? = some v → cbs[i]? = some cb → CmbV H cb v) {i : Nat} (hi : i < cbs.length) :
    ∃ a k, vs[i]? = some (.ref a) ∧ H a = some (.tup [.ref k, .int cbs[i].t, .str cbs[i].c]) ∧ H k = some (.tup (cbs[i].ks.map V.int)) := by
  obtain ⟨hl, hv⟩ := h
  have hi' : i < vs.length := by omega
  obtain ⟨a, k, e, h1, h2⟩ := hv i vs[i] cbs[i] (List.getElem?_eq_getElem hi') (List.getElem?_eq_getElem hi)
  exact ⟨a, k, by rw [List.getElem?_eq_getElem hi', e], h1, h2⟩
/-- combos for so many keys -/
structure CbsOk (many : Int) (cbs : List Cmb) : Prop where
  all : ∀ cb ∈ cbs, CmbOk many cb
  few : cbs.length ≤ 6
  apart : (cbs.map Cmb.ks).Nodup
theorem CbsOk.nil (many : Int) : CbsOk many [] := ⟨fun cb h => by simp at h, by decide, List.nodup_nil⟩
def ksD (ks : List Int) : PyData := .tuple (ks.map PyData.int)
def cmbD (cb : Cmb) : PyData := .tuple [ksD cb.ks, .int cb.t, .str cb.c]
def cmbsD (cbs : List Cmb) : PyData := .list (cbs.map cmbD)
theorem CmbV.dp {K : PySem.W.Frag} {H : Hp} {cb : Cmb} {v : V} (h : CmbV H cb v) : Dp K H v (cmbD cb) := by
  obtain ⟨a, k, rfl, h1, h2⟩ := h
  exact .tup (SqT.of h1) (.cons (.tup (SqT.of h2) (dpInts _)) (.cons (.int _) (.cons (.str _) .nil)))
theorem dpAll_idx {α : Type} {K : PySem.W.Frag} {H : Hp} {g : α → PyData} {R : α → V → Prop} (hg : ∀ x v, R x v → Dp K H v (g x)) : ∀ (vs : List V) (xs : List α), vs.length = xs.length → (∀ (i : Nat) (v : V) (x : α), vs[i]? = some v → xs[i]? = some x → R x v) → DpAll K H vs (xs.map g)
  | [], [], _, _ => .nil
  | [], _ :: _, h, _ => by simp at h
  | _ :: _, [], h, _ => by simp at h
  | v :: vs, x :: xs, h, f => .cons (hg x v (f 0 v x rfl rfl)) (dpAll_idx hg vs xs (by simpa using h) fun i v x a b => f (i + 1) v x (by simpa using a) (by simpa using b))
theorem Cmbs.dp {K : PySem.W.Frag} {H : Hp} {c : Addr} {cbs : List Cmb} (h : Cmbs H c cbs) : Dp K H (.ref c) (cmbsD cbs) := by
  obtain ⟨vs, a, b, d⟩ := h
  exact .lst (SqL.of a) (dpAll_idx (R := CmbV H) (fun x v h => h.dp) vs cbs b d)
theorem fit_cmb {many : Int} {cb : Cmb} (hm : many ≤ 1000) (h : CmbOk many cb) : Fit 4000 2 (cmbD cb) := by
  have hk : Fit 1000 1 (ksD cb.ks) := by
    refine Fit.mono (fit_tup (L := 210) (n := 0) fun d hd => ?_) (by rw [List.length_map]; have := h.len; omega) (Nat.le_refl _)
    obtain ⟨v, hv, rfl⟩ := List.mem_map.mp hd
    have := h.key v hv
    exact fit_int (by omega)
  have ht := h.time
  refine Fit.mono (fit_tup (L := 1000) (n := 1) fun d hd => ?_) (by show 3 * 1002 + 3 ≤ 4000; decide) (Nat.le_refl _)
  simp only [List.mem_cons, List.mem_nil_iff, or_false] at hd
  rcases hd with rfl | rfl | rfl
  · exact hk
  · exact Fit.mono (fit_int (by omega)) (by decide) (by decide)
  · exact Fit.mono (fit_code h.code) (by decide) (by decide)
theorem fit_cmbs {many : Int} {cbs : List Cmb} (hm : many ≤ 1000) (h : CbsOk many cbs) : Fit 40000 3 (cmbsD cbs) := by
  refine Fit.mono (fit_list (L := 4000) (n := 2) fun d hd => ?_) (by rw [List.length_map]; have := h.few; omega) (Nat.le_refl _)
  obtain ⟨cb, hc, rfl⟩ := List.mem_map.mp hd
  exact fit_cmb hm (h.all cb hc)
theorem lay_cmb (cb : Cmb) (hc : CodeOk cb.c) : PyData.canLay0 (cmbD cb) = true ∧ PyData.depth (cmbD cb) = 2 := by
  obtain ⟨a, b⟩ := lay_ints cb.ks
  refine ⟨?_, ?_⟩
  · show (PyData.canLayAll0 (cb.ks.map PyData.int) && (PyData.canLay0 (.int cb.t) && (PyData.canLay0 (.str cb.c) && true))) = true
    have hs : PyData.strOk cb.c = true := by
      unfold PyData.strOk
      rw [← Array.all_toList, List.all_eq_true]
      have all : ∀ y ∈ signs.cps.toList, decide (y < 0x110000) = true := by decide +kernel
      exact fun y hy => all y (hc.2.2 y hy)
    rw [a]; simp [PyData.canLay0, hs]
  · show max (PyData.depthAll (cb.ks.map PyData.int) + 1) (max 0 (max 0 0)) + 1 = 2
    rw [b]; rfl
theorem lay_cmbs : ∀ cbs : List Cmb, (∀ cb ∈ cbs, CodeOk cb.c) → PyData.canLayAll0 (cbs.map cmbD) = true ∧ PyData.depthAll (cbs.map cmbD) ≤ 2
  | [], _ => ⟨rfl, by decide⟩
  | cb :: cbs, h => by
    obtain ⟨a, b⟩ := lay_cmbs cbs fun c hc => h c (List.mem_cons_of_mem _ hc)
    obtain ⟨x, y⟩ := lay_cmb cb (h cb List.mem_cons_self)
    refine ⟨?_, ?_⟩
    · show (PyData.canLay0 (cmbD cb) && PyData.canLayAll0 (cbs.map cmbD)) = true
      rw [x, a]; rfl
    · show max (PyData.depth (cmbD cb)) (PyData.depthAll (cbs.map cmbD)) ≤ 2
      omega
theorem shaped_cmbs (cbs : List Cmb) (h : ∀ cb ∈ cbs, CodeOk cb.c) : SeqAt.shaped (cmbsD cbs) = true := by
  obtain ⟨a, b⟩ := lay_cmbs cbs h
  show (PyData.canLayAll0 (cbs.map cmbD) && decide (PyData.depthAll (cbs.map cmbD) + 1 ≤ 64)) = true
  rw [a, decide_eq_true (by omega)]; rfl
theorem shaped_ks (ks : List Int) : SeqAt.shaped (ksD ks) = true := by
  obtain ⟨a, b⟩ := lay_ints ks
  show (PyData.canLayAll0 (ks.map PyData.int) && decide (PyData.depthAll (ks.map PyData.int) + 1 ≤ 64)) = true
  rw [a, b]; rfl
theorem lay_kss : ∀ kss : List (List Int), PyData.canLayAll0 (kss.map ksD) = true ∧ PyData.depthAll (kss.map ksD) ≤ 1
  | [] => ⟨rfl, by decide⟩
  | ks :: kss => by
    obtain ⟨a, b⟩ := lay_kss kss
    obtain ⟨x, y⟩ := lay_ints ks
    refine ⟨?_, ?_⟩
    · show (PyData.canLayAll0 (ks.map PyData.int) && PyData.canLayAll0 (kss.map ksD)) = true
      rw [x, a]; rfl
    · show max (PyData.depthAll (ks.map PyData.int) + 1) (PyData.depthAll (kss.map ksD)) ≤ 1
      omega
theorem shaped_kss (kss : List (List Int)) : SeqAt.shaped (.list (kss.map ksD)) = true := by
  obtain ⟨a, b⟩ := lay_kss kss
  show (PyData.canLayAll0 (kss.map ksD) && decide (PyData.depthAll (kss.map ksD) + 1 ≤ 64)) = true
  rw [a, decide_eq_true (by omega)]; rfl
theorem eqv_intsA : ∀ xs ys : List Int, PyData.eqvAll (xs.map PyData.int) (ys.map PyData.int) = decide (xs = ys)
  | [], [] => rfl
  | [], _ :: _ => rfl
  | _ :: _, [] => rfl
  | o :: xs, p :: ys => by
    show (PyData.eqv (.int o) (.int p) && PyData.eqvAll (xs.map PyData.int) (ys.map PyData.int)) = _
    have e : PyData.eqv (.int o) (.int p) = decide (o = p) := by
      by_cases z : o = p
      · subst z; simp [PyData.eqv]
      · simp [PyData.eqv, z]
    rw [e, eqv_intsA xs ys]
    by_cases a : o = p <;> by_cases b : xs = ys <;> simp [a, b]
theorem eqv_intL (xs ys : List Int) : PyData.eqv (.list (xs.map PyData.int)) (.list (ys.map PyData.int)) = decide (xs = ys) := by rw [← eqv_intsA]; rfl
theorem eqv_ks (xs ys : List Int) : PyData.eqv (ksD xs) (ksD ys) = decide (xs = ys) := by rw [← eqv_intsA]; rfl
theorem any_ks (ks : List Int) (kss : List (List Int)) : ((kss.map ksD).any fun z => PyData.eqv z (ksD ks)) = decide (ks ∈ kss) := by
  induction kss with
  | nil => rfl
  | cons x kss ih =>
    rw [List.map_cons, List.any_cons, ih, eqv_ks]
    by_cases a : x = ks
    · subst a; simp
    · have a' : ¬ ks = x := fun e => a e.symm
      by_cases b : ks ∈ kss <;> simp [a, a', b]
/-! ### pieces -/
def Match (cb : Cmb) (s : Nat) (ds : List Ev) : Prop := cb.ks.length = s ∧ cb.ks.Perm ((ds.take s).map Ev.k) ∧ ∃ a b, ds[0]? = some a ∧ ds[s - 1]? = some b ∧ b.t < a.t + cb.t
open Classical in
noncomputable def fp (cbs : List Cmb) (ds : List Ev) : Nat := if ∃ cb ∈ cbs, Match cb 3 ds then 3 else if ∃ cb ∈ cbs, Match cb 2 ds then 2 else 1
theorem match_le {cb : Cmb} {s : Nat} {ds : List Ev} (h : Match cb s ds) : s ≤ ds.length := by
  have a := h.2.1.length_eq
  rw [h.1, List.length_map, List.length_take] at a
  omega
theorem fp_pos (cbs : List Cmb) (ds : List Ev) : 1 ≤ fp cbs ds := by
  unfold fp
  split
  · decide
  · split <;> decide
theorem fp_le (cbs : List Cmb) {ds : List Ev} (h : ds ≠ []) : fp cbs ds ≤ ds.length := by
  unfold fp
  split
  · rename_i q
    obtain ⟨cb, _, m⟩ := q
    exact match_le m
  · split
    · rename_i q
      obtain ⟨cb, _, m⟩ := q
      exact match_le m
    · cases ds with
      | nil => exact absurd rfl h
      | cons _ _ => rw [List.length_cons]; omega
theorem fp_three {cbs : List Cmb} {ds : List Ev} {cb : Cmb} (h : cb ∈ cbs) (m : Match cb 3 ds) : fp cbs ds = 3 := by unfold fp; rw [if_pos ⟨cb, h, m⟩]
theorem fp_two {cbs : List Cmb} {ds : List Ev} {cb : Cmb} (n : ∀ cb ∈ cbs, ¬ Match cb 3 ds) (h : cb ∈ cbs) (m : Match cb 2 ds) : fp cbs ds = 2 := by
  unfold fp
  rw [if_neg (fun ⟨c, hc, q⟩ => n c hc q), if_pos ⟨cb, h, m⟩]
theorem fp_one {cbs : List Cmb} {ds : List Ev} (n : ∀ cb ∈ cbs, ¬ Match cb 3 ds) (n2 : ∀ cb ∈ cbs, ¬ Match cb 2 ds) : fp cbs ds = 1 := by
  unfold fp
  rw [if_neg (fun ⟨c, hc, q⟩ => n c hc q), if_neg (fun ⟨c, hc, q⟩ => n2 c hc q)]
/-- the numbers from a on, below b -/
def seg (a b : Nat) : List Int := (List.range' a (b - a)).map fun k : Nat => (k : Int)
/-- the events from s on, below e -/
def prt (es : List Ev) (s e : Nat) : List Ev := (es.drop s).take (e - s)
inductive Cut (es : List Ev) (cbs : List Cmb) (e : Nat) : Nat → List (List Int) → Prop
  | nil : Cut es cbs e e []
  | cons {s : Nat} {r : List (List Int)} : s < e → Cut es cbs e (s + fp cbs (prt es s e)) r → Cut es cbs e s (seg s (s + fp cbs (prt es s e)) :: r)
/-- from s on, below e, all are downs -/
def Downs (es : List Ev) (s e : Nat) : Prop := ∀ i, s ≤ i → i < e → ∃ ev, es[i]? = some ev ∧ ev.d = true
def Stops (es : List Ev) (e : Nat) : Prop := e = es.length ∨ ∃ ev, es[e]? = some ev ∧ ev.d = false
inductive Due (es : List Ev) (cbs : List Cmb) : Nat → List (List Int) → Prop
  | fin {s : Nat} : es.length ≤ s → Due es cbs s []
  | up {s : Nat} {ev : Ev} {r : List (List Int)} : es[s]? = some ev → ev.d = false → Due es cbs (s + 1) r → Due es cbs s r
  | down {s e : Nat} {r : List (List Int)} : s < e → Downs es s e → Stops es e → Due es cbs (s + fp cbs (prt es s e)) r → Due es cbs s (seg s (s + fp cbs (prt es s e)) :: r)
theorem Downs.le {es : List Ev} {s e : Nat} (h : Downs es s e) (hs : s < e) : e ≤ es.length := by
  obtain ⟨ev, q, _⟩ := h (e - 1) (by omega) (by omega)
  have := (List.getElem?_eq_some_iff.mp q).1
  omega
theorem prt_len {es : List Ev} {s e : Nat} (h : e ≤ es.length) : (prt es s e).length = e - s := by
  unfold prt
  rw [List.length_take, List.length_drop]
  omega
theorem stop_uniq {es : List Ev} {s e e' : Nat} (hs : s < e) (hs' : s < e') (d : Downs es s e) (d' : Downs es s e') (t : Stops es e) (t' : Stops es e') : e = e' := by
  have l := d.le hs
  have l' := d'.le hs'
  rcases Nat.lt_trichotomy e e' with q | q | q
  · rcases t with t | ⟨ev, g, f⟩
    · omega
    · obtain ⟨ev', g', f'⟩ := d' e (by omega) q
      rw [g] at g'
      cases g'
      rw [f] at f'; cases f'
  · exact q
  · rcases t' with t | ⟨ev, g, f⟩
    · omega
    · obtain ⟨ev', g', f'⟩ := d e' (by omega) q
      rw [g] at g'
      cases g'
      rw [f] at f'; cases f'
theorem Due.uniq {es : List Ev} {cbs : List Cmb} {s : Nat} {r : List (List Int)} (h : Due es cbs s r) : ∀ {r' : List (List Int)}, Due es cbs s r' → r = r' := by
  induction h with
  | fin hl =>
    intro r' h'
    cases h' with
    | fin _ => rfl
    | up g _ _ => have := (List.getElem?_eq_some_iff.mp g).1; omega
    | down hs d _ _ => have := d.le hs; omega
  | up g f _ ih =>
    intro r' h'
    cases h' with
    | fin hl => have := (List.getElem?_eq_some_iff.mp g).1; omega
    | up g' f' h' => exact ih h'
    | down hs d _ _ =>
      obtain ⟨ev', g', f'⟩ := d _ (Nat.le_refl _) hs
      rw [g] at g'
      cases g'
      rw [f] at f'; cases f'
  | down hs d t _ ih =>
    intro r' h'
    cases h' with
    | fin hl => have := d.le hs; omega
    | up g f h' =>
      obtain ⟨ev', g', f'⟩ := d _ (Nat.le_refl _) hs
      rw [g] at g'
      cases g'
      rw [f] at f'; cases f'
    | down hs' d' t' h' =>
      have e := stop_uniq hs hs' d d' t t'
      subst e
      rw [ih h']
theorem cut_due {es : List Ev} {cbs : List Cmb} {e : Nat} (t : Stops es e) {r : List (List Int)} (hr : Due es cbs e r) {s : Nat} {r1 : List (List Int)} (h : Cut es cbs e s r1) : Downs es s e → s ≤ e → Due es cbs s (r1 ++ r) := by
  induction h with
  | nil => intro _ _; exact hr
  | @cons s r1 hs _ ih =>
    intro d _
    have hl := prt_len (s := s) (d.le hs)
    have ne : prt es s e ≠ [] := fun z => by rw [z] at hl; simp at hl; omega
    have f := fp_le cbs ne
    rw [hl] at f
    exact Due.down hs d t (ih (fun i a b => d i (by omega) b) (by omega))
end Cb

set_option Elab.async false
set_option linter.all false
set_option maxRecDepth 100000
set_option maxHeartbeats 4000000
/-! a list's slice with a step -/
namespace Gd
open PySem PySem.Spec PyProof.Rows L2
def stepIx (n : Nat) (lo hi : Option Int) (k : Int) : List Nat :=
  let b := sliceBounds lo hi (some k) n
  sliceRange b.1 b.2.1 b.2.2
def stepV {α : Type} (xs : List α) (lo hi : Option Int) (k : Int) : List α := (stepIx xs.length lo hi k).filterMap fun i => xs[i]?
def tSlK (K : PySem.W.Frag) (te : TE) (tl th ts : TO) : TE := fun σ H Q => te σ H fun x H1 => tl σ H1 fun l H2 => th σ H2 fun u H3 => ts σ H3 fun y H4 =>
  ∃ (a : Addr) (xs : List V) (k : Int), x = .ref a ∧ y = some k ∧ k ≠ 0 ∧ SqL K H4 a xs ∧ (stepV xs l u k).length ≤ xs.length ∧ ∀ p, H4 p = none → Q (.ref p) (upd H4 p (.lst (stepV xs l u k)))
theorem vals_pick {xs : List V} {us : List Value} (r : Vals xs us) : ∀ is : List Nat, Vals (is.filterMap fun i => xs[i]?) (is.filterMap fun i => us[i]?)
  | [] => .nil
  | i :: is => by
    have ih := vals_pick r is
    rw [List.filterMap_cons, List.filterMap_cons]
    cases h : xs[i]? with
    | none =>
      have : us[i]? = none := by
        rw [List.getElem?_eq_none_iff] at h ⊢
        rw [← r.length]; exact h
      rw [this]
      exact ih
    | some x =>
      obtain ⟨u, hu, ru⟩ := r.get h
      rw [hu]
      exact .cons ru ih
section
variable {X : Cx} {e : Expr} {lo hi : Option Expr} {st : Expr} {p2 pos : Pos} {te : TE} {tl th ts : TO}
theorem pe_slk (he : PE X e te) (hl : PO X lo tl) (hu : PO X hi th) (hs : PO X (some st) ts) : PE X (.Subscript e (.Slice lo hi (some st) p2) pos) (tSlK X.K te tl th ts) := by
  refine ⟨fun pins s σ H Q I h => Subscript_ (thn (he.run pins s σ H _ I h) fun v s1 z1 => ?_)⟩
  obtain ⟨x, H1, I1, r1, q1⟩ := z1
  refine wpAny_Slice (thn (hl.run pins s1 σ H1 _ I1 q1) fun vl s2 z2 => ?_)
  obtain ⟨l, H2, I2, pl, q2⟩ := z2
  refine thn (hu.run pins s2 σ H2 _ I2 q2) fun vu s3 z3 => ?_
  obtain ⟨u, H3, I3, pu, q3⟩ := z3
  refine thn (hs.run pins s3 σ H3 _ I3 q3) fun vs s4 z4 => ?_
  obtain ⟨y, H4, I4, ps, a, xs, k, rfl, rfl, k0, hx, hlen, q⟩ := z4
  have I5 : Inv X pins σ H4 { s4 with heap := s4.heap.push { cls := .type "slice", data := .fields #[vl, vu, vs] } } := I4.kept (t' := s4.toks) fun b o m => Heap.get?_push_of_some _ m
  cases r1
  obtain ⟨its, r, ht, hz⟩ := I5.list hx
  have hn := r.length
  refine tail_any (ops := [.ref a, .ref s4.heap.objs.size]) ht.isList.typeIs slot_list_getitem.lookup ?_ (by with_unfolding_all rfl)
  refine wpAny_getItem_list_slice ht.isList (Heap.IsSliceOf.new ..) pl pu ps (fun m => k0 (Option.some.inj m)) ?_ (by rw [List.size_toArray, ← hn]; exact hz)
  have er : (slicePick its.toArray l u (some k)).toList = (stepIx xs.length l u k).filterMap fun i => its[i]? := by
    unfold slicePick stepIx
    rw [List.size_toArray, hn]
    simp
  have rv := vals_pick r (stepIx xs.length l u k)
  have I6 := I5.laid (t' := s4.toks) (a := (s4.heap.push { cls := .type "slice", data := .fields #[vl, vu, vs] }).objs.size) (o := .lst (stepV xs l u k)) (h' := (s4.heap.push { cls := .type "slice", data := .fields #[vl, vu, vs] }).push { cls := .type "list", data := .seq (slicePick its.toArray l u (some k)) }) (fun b o m => Heap.get?_push_of_some _ m) (Nat.le_refl _)
    ⟨Nat.le_trans hlen (by rw [hn]; omega), _, 0, rv, by rw [← er, Array.toArray_toList]; exact Heap.get?_push_size _ rfl⟩
  exact ⟨.ref _, _, I6, rfl, q _ (I5.hok.fresh (Nat.le_refl _))⟩
end
end Gd

set_option Elab.async false
set_option linter.all false
set_option maxRecDepth 100000
set_option maxHeartbeats 8000000
/-! set(xs) of a list of ints -/
namespace Gd
open PySem PySem.Spec PyProof.Rows L2
/-- a set as it begins -/
abbrev set0 (w : World) : Obj :=
  { cls := .type "set", dict := none,
    data := .set #[] 0 (.fresh 0 0 (!w.params.followText "set-order")) }
section
variable {P : Program} {w : World} {A : Around} {E : Value → Shared → Prop} {s : Shared}
/-- the loop of set.update over a list of ints, from an empty set at S -/
theorem fill_set {h1 : Heap} {l S : Addr} {its : Array Value} {ns : List Int} {g : Array GenState} {d : Drawn} {tk : Nat} {os : OsState}
    (free : A.handled = none) (hS : h1.get? S = some (set0 w)) (hl : h1.IsList l its) (ne : S ≠ l) (hit : IntsAre its.toList ns) (small : ns.length + 1 < scanBound) :
    codeAny (model P w) A (.builtin "set.update.loop" ⟨[.ref S, .ref h1.objs.size], []⟩)
      (fun r s' => ∃ (h' : Heap) (t c : Nat), r = .ok (.ret .none) ∧ s' = ⟨h', g, d, t, os⟩ ∧ SetR w h' S (fun j => decide (j ∈ ns)) c ∧ c ≤ ns.length ∧ ∀ b o, b ≠ S → h1.get? b = some o → h'.get? b = some o)
      ⟨h1.push { cls := .type "list_iterator", data := .fields #[.ref l, .int 0 0] }, g, d, tk, os⟩ := by
  have len : its.size = ns.length := by
    have e := IntsAre.length hit
    rwa [Array.length_toList] at e
  have lS : S < h1.objs.size := Heap.lt_size hS
  obtain ⟨ol, hol, _⟩ := id hl
  have ll : l < h1.objs.size := Heap.lt_size hol
  have out : S ∉ [h1.objs.size, l] := by
    intro m
    rcases List.mem_cons.mp m with e | m
    · exact Nat.ne_of_lt lS e
    · exact ne (List.mem_singleton.mp m)
  have at_ : ∀ (i : Nat) (v : Value), its[i]? = some v → ∃ k t, ns[i]? = some k ∧ v = .int k t := by
    intro i v e
    have hi : i < ns.length := len ▸ (Array.getElem?_eq_some_iff.mp e).1
    obtain ⟨t, z⟩ := IntsAre.int_at hit i v (by rw [Array.getElem?_toList]; exact e)
    exact ⟨ns[i], t, List.getElem?_eq_getElem hi, by rw [z, List.getD_eq_getElem?_getD, List.getElem?_eq_getElem hi]; rfl⟩
  have W := (Walks.list (prog := P) (w := w) (A := A.in1) (by simp [free]) h1.objs.size l (Nat.ne_of_lt ll) its).toS
  refine set_update_ints W S out ns len small at_ its.size 0 _ (by omega) (Nat.zero_le _) ⟨⟨_, Heap.get?_push_size _ rfl, rfl, rfl⟩, hl.push _⟩ ⟨0, Nat.le_refl _, setR_new_at (Heap.get?_push_of_some _ hS)⟩ (fun s' c m hc hR => ?_)
  obtain ⟨h', g', d', t', os'⟩ := s'
  obtain rfl : g' = g := m.gens
  obtain rfl : d' = d := m.drawn
  obtain rfl : os' = os := m.os
  refine ⟨h', t', c, rfl, rfl, hR, by omega, fun b o nb e => ?_⟩
  refine m.heap b o (fun z => ?_) (Heap.get?_push_of_some _ e)
  rcases List.mem_cons.mp z with z | z
  · exact nb z
  · have := Heap.lt_size e
    rw [List.mem_singleton.mp z] at this
    exact Nat.lt_irrefl _ this
theorem set_of_list {l : Addr} {its : Array Value} {ns : List Int} {Q : Value → Shared → Prop} (free : A.handled = none) (hl : s.heap.IsList l its) (hit : IntsAre its.toList ns) (small : ns.length + 1 < scanBound)
    (q : ∀ (h' : Heap) (t c : Nat), SetR w h' s.heap.objs.size (fun j => decide (j ∈ ns)) c → c ≤ ns.length → (∀ b o, s.heap.get? b = some o → h'.get? b = some o) →
      Q (.ref s.heap.objs.size) { s with heap := h', toks := t }) : wpAny (model P w) A (call (.type "set") [.ref l]) Q E s := by
  have K := F.called_set
  obtain ⟨_, _, mro⟩ := K.mro
  have made := K.made
  have sub := K.sub
  have nt := K.notType
  have can := K.canCreate
  have tc := F.typeCall_set_1 (.ref l)
  have look := K.init.lookup
  have bnd := K.init.bind (.ref s.heap.objs.size)
  refine wpAny_call (codeAny_of_tree (show wpAny _ _ (callAny (.type "set") _) _ _ _ from wpAny_pure ⟨Code.quiet_builtin _ (by decide +kernel), codeAny_builtin F.entry_type_call ?_⟩))
  rw [Around.under_plain (weight_type_call_type "set" [.ref l] []) rfl]
  repeat (any_goals (first | assumption | wp_step))
  refine codeAny_mono (code_set_led1 (.ref l) (E := E) (Q₁ := fun o s1 => o = .ref s.heap.objs.size ∧ s1 = { s with heap := s.heap.push (set0 w) }) ⟨rfl, rfl⟩) fun r s1 hr => ?_
  match r, hr with
  | .error _, hr => exact hr
  | .ok .next, hr => exact hr.elim
  | .ok .brk, hr => exact hr.elim
  | .ok .cont, hr => exact hr.elim
  | .ok (.ret o), hr =>
    obtain ⟨e1, e2⟩ := hr
    subst e1 e2
    have hS : (s.heap.push (set0 w)).get? s.heap.objs.size = some (set0 w) := Heap.get?_push_size _ rfl
    have tS : Shared.TypeIs { s with heap := s.heap.push (set0 w) } (.ref s.heap.objs.size) "set" := ⟨_, hS, rfl⟩
    have keep0 : ∀ b o, s.heap.get? b = some o → (s.heap.push (set0 w)).get? b = some o := fun b o e => Heap.get?_push_of_some _ e
    have hl1 := hl.push (set0 w)
    repeat (any_goals (first | assumption | wp_step))
    refine codeAny_mono (codeAny_call_builtin (R := fun r s2 => ∃ (h' : Heap) (t c : Nat), r = .ok (.ret .none) ∧ s2 = ⟨h', s.gens, s.drawn, t, s.os⟩ ∧ SetR w h' s.heap.objs.size (fun j => decide (j ∈ ns)) c ∧ c ≤ ns.length ∧ ∀ b o, s.heap.get? b = some o → h'.get? b = some o)
      K.init.plain F.entry_set_init (check_set_init_1 tS ?_)) (fun r2 s2 hr2 => ?_)
    · obtain ⟨⟨ocls, odict, odata, oslots⟩, hol, hcl, nl, hdl⟩ := id hl1
      have nd : (Value.type "list" == Value.type "dict") = false := by decide
      have s1 := F.sub_list_set
      have s2 := F.sub_list_frozenset
      simp only at hcl hdl
      subst hcl
      subst hdl
      unfold Builtin.«set.__init__» noKeywords Builtin.Frozenset.updateFrom
      generalize hI : pyIter = iter
      wp_walk
      subst hI
      have nSl : s.heap.objs.size ≠ l := by
        obtain ⟨ol, z, _⟩ := hl
        exact Nat.ne_of_gt (Heap.lt_size z)
      refine wpAny_pyIter_list hl1 (wpAny_bind (wpAny_runValue (codeAny_mono (fill_set (A := A.in1.in1) (by simp [free]) hS hl1 nSl hit small) (fun r s' z => ?_))))
      obtain ⟨h', t, c, rfl, rfl, hR, hc, hk⟩ := z
      have old : ∀ b o, s.heap.get? b = some o → h'.get? b = some o := fun b o e => hk b o (Nat.ne_of_lt (Heap.lt_size e)) (keep0 b o e)
      exact wpAny_pure (wpAny_pure ⟨h', t, c, rfl, rfl, hR, hc, old⟩)
    · obtain ⟨h', t, c, rfl, rfl, hR, hc, hk⟩ := hr2
      repeat (any_goals (first | assumption | wp_step))
      exact q h' t c hR hc hk
end
/-- set(xs) of a list of ints: as many members as different numbers -/
def rSetL (K : PySem.W.Frag) (w : World) : List V → Hp → VK → Prop := fun xs H Q => ∃ (l : Addr) (ns : List Int), xs = [.ref l] ∧ SqL K H l (ns.map V.int) ∧ ns.length ≤ 1000 ∧
  ∀ (a : Addr) (c : Nat), H a = none → (∀ ds : List Int, (∀ k ∈ ns, k ∈ ds) → c ≤ ds.length) → Q (.ref a) (upd H a (SetO w a (fun j => decide (j ∈ ns)) c))
theorem setR_few {w : World} {h : Heap} {a : Addr} {ns : List Int} {c : Nat} (R : SetR w h a (fun j => decide (j ∈ ns)) c) (ds : List Int) (hd : ∀ k ∈ ns, k ∈ ds) : c ≤ ds.length := by
  obtain ⟨o, es, ep, t, _, _, _, _, nd, mem, _, _, n, _⟩ := R
  rw [← n, ← Array.length_toList, ← List.length_map (f := keyOf)]
  refine List.Nodup.length_le_of_subset nd fun k hk => ?_
  exact hd k (of_decide_eq_true ((mem k).mpr hk))
theorem cr_setL {X : Cx} (hc : X.calm = true) : CallR X (.type "set") (rSetL X.K X.w) := by
  intro pins s σ H xs us Q I r h
  obtain ⟨l, ns, rfl, hx, hn, q⟩ := h
  rw [Vals.ref1 r]
  obtain ⟨its, rv, pl, _⟩ := I.list hx
  refine set_of_list (I.ok.hd hc) pl.isList (by simpa using rv.ints) (by unfold scanBound; omega) fun h' t c R _ k => ?_
  exact ⟨.ref s.heap.objs.size, _, I.laid (t' := t) k (Nat.le_refl _) (setO_new R), rfl, q _ c (I.hok.fresh (Nat.le_refl _)) (setR_few R)⟩
end Gd

set_option Elab.async false
set_option linter.all false
set_option maxRecDepth 100000
set_option maxHeartbeats 4000000
/-! Own classes in the layer HG: methods, and objects that are made. -/
namespace Gd
open PySem PySem.Spec PyProof.Rows L2
/-- a method that may be called by its name on an object of the class at C -/
structure ClM (P : Program) (w : World) (K : PySem.W.Frag) (mg : Str → Option Value) (base : Heap) (k : Nat) (C : Addr) (m : Str) (sp : Sp) : Prop where
  ex : ∃ (f : Addr) (fd : FuncData) (ps : List Str), FnG P w K mg base k f fd ps sp ∧ Meth K C m f ∧ Binds K fd ps []
structure AtM (K : PySem.W.Frag) (C : Addr) (m q : Str) (st : Stmt) (ps : List Str) : Prop where
  ex : ∃ (f : Addr) (fd : FuncData), Fun K m q st f fd ∧ Meth K C m f ∧ Binds K fd ps []
/-- a class of which an object may be made -/
structure ClI (P : Program) (w : World) (K : PySem.W.Frag) (mg : Str → Option Value) (base : Heap) (k : Nat) (C : Addr) (x : Str) (sp : Sp) : Prop where
  ex : ∃ (f : Addr) (fd : FuncData) (ps : List Str), FnG P w K mg base k f fd ps sp ∧ Mk K C f ∧ mg x = some (.ref C) ∧ Binds K fd ps []
structure AtI (K : PySem.W.Frag) (mg : Str → Option Value) (C : Addr) (x q : Str) (st : Stmt) (ps : List Str) : Prop where
  ex : ∃ (f : Addr) (fd : FuncData), Fun K "__init__" q st f fd ∧ Mk K C f ∧ mg x = some (.ref C) ∧ Binds K fd ps []
section
variable {P : Program} {w : World} {K : PySem.W.Frag} {mg : Str → Option Value} {base : Heap}
theorem clMG {C : Addr} {m q : Str} {st : Stmt} {N ps : List Str} {k : Nat} {sp : Sp} (a : AtM K C m q st ps) (S : FnScope N ps (defScope st))
    (len : ∀ vs H Q E, sp vs H Q E → vs.length = ps.length)
    (hb : ∀ (f : Addr) (cdv : Value) (A : Around) (outer : List Env) (s : Shared) (H : Hp) (vs : List V) (Q : VK),
      A.guards = some [] → Room k (A.deeper (envOfC q (defScope st) s.heap.objs.size f cdv)) → sp vs H Q E0 →
      ∃ t, PSs (cxOf CX0 P w K mg base N q (defScope st) f cdv A outer s H E0).nox (defBody st) t ∧
        t { nx := fun _ H' => Q .non H', rt := Q } (start N vs) H) : ClM P w K mg base (k + 1) C m sp := by
  obtain ⟨f, fd, F, hm, b⟩ := a.ex
  exact ⟨f, fd, ps, fnG F S len (hb f), hm, b⟩
theorem clIG {C : Addr} {x q : Str} {st : Stmt} {N ps : List Str} {k : Nat} {sp : Sp} (a : AtI K mg C x q st ps) (S : FnScope N ps (defScope st))
    (len : ∀ vs H Q E, sp vs H Q E → vs.length = ps.length)
    (hb : ∀ (f : Addr) (cdv : Value) (A : Around) (outer : List Env) (s : Shared) (H : Hp) (vs : List V) (Q : VK),
      A.guards = some [] → Room k (A.deeper (envOfC q (defScope st) s.heap.objs.size f cdv)) → sp vs H Q E0 →
      ∃ t, PSs (cxOf CX0 P w K mg base N q (defScope st) f cdv A outer s H E0).nox (defBody st) t ∧
        t { nx := fun _ H' => Q .non H', rt := Q } (start N vs) H) : ClI P w K mg base (k + 1) C x sp := by
  obtain ⟨f, fd, F, hm, hx, b⟩ := a.ex
  exact ⟨f, fd, ps, fnG F S len (hb f), hm, hx, b⟩
end
section
variable {X : Cx} {k j : Nat} {x m : Str} {C : Addr} {sp : Sp} {p pos apos : Pos} {o e : Expr} {es : List Expr} {t : TA} {ta : TE}
/-- o.m(e, ..) -/
theorem pe_clM {pl : Sem Bool} (c : ClM X.prog X.w X.K X.mg X.base k C m sp) (cc : Cls X.K C) (hg : X.A.guards = some []) (hr : Room j X.A) (hk : k ≤ j) (ho : PE X o ta) (ha : PA X (e :: es) t)
    (hst : starEach (e :: es) X.env = (false, eval e X.env) :: starEach es X.env := by rfl) (hpl : (backTo pos (starEach es X.env)).any (·.1) = false := by rfl)
    (ht : eval (.Call (.Attribute o m apos) (e :: es) [] pos) X.env = (do
      let ov ← eval o X.env
      standAt apos.atName
      let (f, first) ← holding [ov] (getMethod ov m pl)
      callWith pos f first (backTo pos (starEach (e :: es) X.env)) (backToKw pos (keywordEach [] X.env))) := by rfl) :
    PE X (.Call (.Attribute o m apos) (e :: es) [] pos) (tMeth C m sp [] E0 ta t) := by
  obtain ⟨f, fd, ps, F, hm, b⟩ := c.ex
  refine ⟨fun pins s σ H Q I h => ?_⟩
  refine PySem.W.methodCall_KW (pl := pl) (thn (ho.run pins s σ H _ I h) fun u s1 ⟨x, H1, I1, rx, a, dx, fs, ex, ea, l, q⟩ => ?_) ht
  subst ex
  obtain rfl : u = Value.ref a := rx
  refine getmeth_ok I1 ea cc hm l ?_
  refine PySem.W.callWith_K (first := [.ref a]) (h₀ := X.base) I.ok.mod.kin hm.kp (thn (ha.run pos pins s1 σ H1 _ I1 q) fun us s2 ⟨vs, H2, I2, r, q2⟩ => ⟨I2.kIn, ?_⟩) hst hpl
  exact run_cl (us := .ref a :: us) (vs := .ref a :: vs) F hg (hr.mono hk) b I2 (.cons rfl r) (by simpa using q2)
/-- o.m() -/
theorem pe_clM0 {pl : Sem Bool} (c : ClM X.prog X.w X.K X.mg X.base k C m sp) (cc : Cls X.K C) (hg : X.A.guards = some []) (hr : Room j X.A) (hk : k ≤ j) (ho : PE X o ta)
    (ht : eval (.Call (.Attribute o m apos) [] [] pos) X.env = (do
      let ov ← eval o X.env
      standAt apos.atName
      let (f, first) ← holding [ov] (getMethod ov m pl)
      callWith pos f first (backTo pos (starEach [] X.env)) (backToKw pos (keywordEach [] X.env))) := by rfl) :
    PE X (.Call (.Attribute o m apos) [] [] pos) (tMeth C m sp [] E0 ta tNil) := by
  obtain ⟨f, fd, ps, F, hm, b⟩ := c.ex
  refine ⟨fun pins s σ H Q I h => ?_⟩
  refine PySem.W.methodCall_KW (pl := pl) (thn (ho.run pins s σ H _ I h) fun u s1 ⟨x, H1, I1, rx, a, dx, fs, ex, ea, l, q⟩ => ?_) ht
  subst ex
  obtain rfl : u = Value.ref a := rx
  refine getmeth_ok I1 ea cc hm l ?_
  exact PySem.W.callWith_K0 (first := [.ref a]) I1.kIn hm.kp (run_cl (us := [.ref a]) (vs := [.ref a]) F hg (hr.mono hk) b I1 (.cons rfl .nil) q)
theorem run_clI {f : Addr} {fd : FuncData} {ps : List Str} {pins : List (Addr × Obj)} {σ : L2.St} {H : Hp} {s : Shared} {Q : VK} {us : List Value} {vs : List V} (M : Mk X.K C f) (F : FnG X.prog X.w X.K X.mg X.base k f fd ps sp) (hg : X.A.guards = some []) (hr : Room (k + 1) X.A) (hb : Binds X.K fd ps [])
    (I : Inv X pins σ H s) (r : Vals vs us)
    (h : ∀ x dx, H x = none → H dx = none → dx ≠ x → sp (.ref x :: vs) (upd (upd H dx (.own x)) x (.ins C dx [])) (fun v H2 => v = .non ∧ Q (.ref x) H2) E0) :
    wpAny (model X.prog X.w) X.A (call (.ref C) us) (EP X pins σ Q) X.xe s := by
  have hq := h (s.heap.objs.size + 1) s.heap.objs.size (I.hok.fresh (Nat.le_succ _)) (I.hok.fresh (Nat.le_refl _)) (Nat.ne_of_lt (Nat.lt_succ_self _))
  have I2 := Inv.made (C := C) I
  have r2 : Vals (V.ref (s.heap.objs.size + 1) :: vs) (Value.ref (s.heap.objs.size + 1) :: us) := .cons rfl r
  have hl : (Value.ref (s.heap.objs.size + 1) :: us).length = ps.length := by
    have e := r2.length
    rw [F.len _ _ _ _ hq] at e
    exact e.symm
  have bt := hb _ (Value.ref (s.heap.objs.size + 1) :: us) I2.kIn (by simpa using hl)
  rw [List.append_nil] at bt
  refine wpAny_call (make_map (f := f) I.kIn M.makes M.init (beq_iff_eq.mp M.fn) (codeAny_mono (F.go _ X.stack _ _ ⟨Value.ref (s.heap.objs.size + 1) :: us, []⟩ (Value.ref (s.heap.objs.size + 1) :: us) _ _ hg (hr.make C us [])
    (I2.env0.make C us []) bt r2 hq) fun r s' hq' => ?_))
  match r, hq' with
  | .ok (.ret u), hq' =>
    obtain ⟨v, H', I3, rv, ev, q3⟩ := I2.after hq'
    subst ev
    exact ⟨rv, ⟨V.ref (s.heap.objs.size + 1), H', I3, rfl, q3⟩⟩
  | .ok .next, hq' => exact False.elim hq'
  | .ok .brk, hq' => exact False.elim hq'
  | .ok .cont, hq' => exact False.elim hq'
  | .error _, hq' => exact False.elim hq'
/-- C(e, ..) -/
theorem pe_clI (c : ClI X.prog X.w X.K X.mg X.base k C x sp) (hg : X.A.guards = some []) (hr : Room j X.A) (hk : k + 1 ≤ j) (gl : Gl X x) (ha : PA X (e :: es) t)
    (hdb : (x == ("__debug__" : Str)) = false := by decide) (he : starEach (e :: es) X.env = (false, eval e X.env) :: starEach es X.env := by rfl) (hpl : (backTo pos (starEach es X.env)).any (·.1) = false := by rfl) :
    PE X (.Call (.Name x p) (e :: es) [] pos) (tMake C sp [] E0 t) := by
  obtain ⟨f, fd, ps, F, M, hm, b⟩ := c.ex
  refine ⟨fun pins s σ H Q I h => ?_⟩
  refine wpAny_Call_Name_kw (ld_glob I gl hm ?_ hdb)
  refine PySem.W.callWith_K (h₀ := X.base) I.ok.mod.kin M.kp (thn (ha.run pos pins s σ H _ I h) fun us s1 ⟨vs, H1, I1, r, q⟩ => ⟨I1.kIn, ?_⟩) he hpl
  exact run_clI M F hg (hr.mono hk) b I1 r (by simpa using q)
end
/-! ### list(d.values()) -/
def tListVals (te : TE) : TE := fun σ H Q => te σ H fun x H1 => ∃ (d : Addr) (kvs : List (Key × V)), x = .ref d ∧ H1 d = some (.dK kvs) ∧ ∀ p, H1 p = none → Q (.ref p) (upd H1 p (.lst (kvs.map (·.2))))
theorem kv_vals {kvs : List (Key × V)} {vs : List (Key × Value)} (h : KV kvs vs) : Vals (kvs.map (·.2)) (vs.map (·.2)) := by
  induction h with
  | nil => exact .nil
  | cons h t ih => exact .cons h.2 ih
section
variable {X : Cx} {e : Expr} {te : TE} {p apos cpos pos : Pos}
theorem pe_listVals (hc : X.calm = true) (he : PE X e te) (hg : Gl X "list") (hm : X.mg "list" = none) (hv : bootBuiltins "list" = some (.type "list")) (hbase : attributeBase e "values" X.env (eval e X.env) = eval e X.env := by rfl) (hline : (apos.endLine == cpos.line) = true := by rfl)
    (hs : starEach [.Call (.Attribute e "values" apos) [] [] cpos] X.env = (false, eval (.Call (.Attribute e "values" apos) [] [] cpos) X.env) :: starEach [] X.env := by rfl) :
    PE X (.Call (.Name "list" p) [.Call (.Attribute e "values" apos) [] [] cpos] [] pos) (tListVals te) := by
  refine ⟨fun pins s σ H Q I hq => ?_⟩
  refine wpAny_Call_Name_kw (ld_blt I hg hm hv ?_)
  refine PyProof.Rows.callWith_type1 ?_ hs rfl
  rw [hs]
  show wpAny _ _ (spliced ((false, eval (.Call (.Attribute e "values" apos) [] [] cpos) X.env) :: backTo pos (starEach [] X.env))) _ _ s
  refine Calls.spliced_cons ?_
  refine wpAny_Call_method (T := "dict") (id := "dict.values") hbase rfl hline F.plainAttrs_dict F.slot_dict_values F.type_dict_values (thn (he.run pins s σ H _ I hq) fun u s1 ⟨x, H1, I1, rx, d, kvs, ex, hd, q⟩ => ?_)
  subst ex
  obtain rfl : u = Value.ref d := rx
  obtain ⟨hz, hs0, vs, kv, hdo⟩ := I1.hok d _ hd
  obtain ⟨ep, hat⟩ := hdo.dictAt
  have lk : kvs.length = vs.length := Paired.length kv
  have I2 : Inv X pins σ H1 { s1 with heap := s1.heap.push { cls := .type "dict_values", data := .fields #[.ref d] } } := I1.kept (t' := s1.toks) fun b ob q => Heap.get?_push_of_some _ q
  refine ⟨hdo.typeIs, hdo.mapOf.noDict, ?_⟩
  show wpAny _ _ (callWith cpos (.builtin "dict.values") [.ref d] [] []) _ X.xe s1
  refine method_meetsIn F.slot_dict_values F.entry_dict_values rfl (PySem.evalArgs_none ⟨rfl, hdo.typeIs, F.args_dict_values_1 _, _, PySem.meets_dict_values (mixKind X.prog X.w) d hs0, ⟨vs, hdo⟩, ?_⟩)
  refine Calls.spliced_nil ?_
  refine PySem.W.kdl_call (PySem.W.kdl_values (knd := mixKind X.prog X.w) (kvs := vs) (ep := ep)) (I1.ok.hd hc) ⟨⟨_, Heap.get?_push_size _ rfl, rfl, rfl⟩, hat.push _⟩ (by omega) fun h' tk acc c hk hS hacc => ?_
  have hl : acc.toList = vs.map (·.2) := PySem.W.kdl_vals_eq acc.toList (by rw [Array.length_toList]; exact hacc.1) fun j v e => hacc.2 j v (by rw [← Array.getElem?_toList]; exact e)
  refine ⟨.ref _, _, I2.laid (t' := tk) hk (Nat.le_refl _) (show ObjOk X.prog X.w _ h' _ (.lst (kvs.map (·.2))) from ⟨by rw [List.length_map]; exact hz, acc.toList, c, by rw [hl]; exact kv_vals kv, by rw [Array.toArray_toList]; exact hS⟩), rfl, q _ I2.fresh⟩
end
end Gd

set_option Elab.async false
set_option linter.all false
set_option maxRecDepth 100000
set_option maxHeartbeats 4000000
/-! Playing: the state of the keys, and what each event is. -/
namespace Pl
open PySem PySem.Spec PyProof.Rows L2 Gd Rm La

/-! ### what the keys are bound to -/
abbrev Bd0 := List (Int × Actn)
def putB (bd : Bd0) (k : Int) (x : Actn) : Bd0 := if (bd.any fun p => decide (p.1 = k)) = true then bd.map (fun p => if p.1 = k then (p.1, x) else p) else bd ++ [(k, x)]
def dropB (bd : Bd0) (k : Int) : Bd0 := bd.filter fun p => decide (p.1 ≠ k)
def getB (bd : Bd0) (k : Int) : Option Actn := (bd.find? fun p => decide (p.1 = k)).map (·.2)
abbrev BdR (H : Hp) : (Key × V) → (Int × Actn) → Prop := fun p q => p.1 = Sum.inl q.1 ∧ ActV H q.2 p.2
def Bd (H : Hp) (kvs : List (Key × V)) (bd : Bd0) : Prop := Paired (BdR H) kvs bd
theorem Bd.keep {H H' : Hp} {kvs : List (Key × V)} {bd : Bd0} (h : Bd H kvs bd) (t : Tk H H') : Bd H' kvs bd := by
  unfold Bd at h ⊢
  induction h with
  | nil => exact .nil
  | cons a _ ih => exact .cons ⟨a.1, a.2.keep t⟩ ih
theorem Bd.length {H : Hp} {kvs : List (Key × V)} {bd : Bd0} (h : Bd H kvs bd) : kvs.length = bd.length := by
  unfold Bd at h
  induction h with
  | nil => rfl
  | cons _ _ ih => rw [List.length_cons, List.length_cons, ih]
theorem inl_iff {a b : Int} : ((Sum.inl a : Key) = Sum.inl b) ↔ a = b := ⟨fun h => Sum.inl.inj h, fun h => by rw [h]⟩
theorem Bd.any {H : Hp} {kvs : List (Key × V)} {bd : Bd0} (h : Bd H kvs bd) (k : Int) : (kvs.any fun p => decide (p.1 = (Sum.inl k : Key))) = bd.any fun p => decide (p.1 = k) := by
  unfold Bd at h
  induction h with
  | nil => rfl
  | @cons p q _ _ a _ ih =>
    rw [List.any_cons, List.any_cons, ih, a.1]
    congr 1
    exact decide_eq_decide.mpr inl_iff
theorem Bd.mapP {H : Hp} {kvs : List (Key × V)} {bd : Bd0} (h : Bd H kvs bd) {k : Int} {x : Actn} {v : V} (hx : ActV H x v) :
    Bd H (kvs.map fun p => if p.1 = (Sum.inl k : Key) then (p.1, v) else p) (bd.map fun p => if p.1 = k then (p.1, x) else p) := by
  unfold Bd at h ⊢
  induction h with
  | nil => exact .nil
  | @cons p q _ _ a _ ih =>
    refine .cons ?_ ih
    show BdR H (if p.1 = (Sum.inl k : Key) then (p.1, v) else p) (if q.1 = k then (q.1, x) else q)
    by_cases e : q.1 = k
    · rw [if_pos e, if_pos (by rw [a.1, e])]
      exact ⟨a.1, hx⟩
    · rw [if_neg e, if_neg (fun z => e (inl_iff.mp (a.1.symm.trans z)))]
      exact a
theorem Bd.snoc {H : Hp} {kvs : List (Key × V)} {bd : Bd0} (h : Bd H kvs bd) {p : Key × V} {q : Int × Actn} (a : BdR H p q) : Bd H (kvs ++ [p]) (bd ++ [q]) := by
  unfold Bd at h ⊢
  induction h with
  | nil => exact .cons a .nil
  | cons b _ ih => exact .cons b ih
theorem Bd.put {H : Hp} {kvs : List (Key × V)} {bd : Bd0} (h : Bd H kvs bd) {k : Int} {x : Actn} {v : V} (hx : ActV H x v) : Bd H (putK kvs (Sum.inl k) v) (putB bd k x) := by
  unfold putK putB
  rw [h.any k]
  split
  · exact h.mapP hx
  · exact h.snoc ⟨rfl, hx⟩
theorem Bd.drop {H : Hp} {kvs : List (Key × V)} {bd : Bd0} (h : Bd H kvs bd) (k : Int) : Bd H (dropK kvs (Sum.inl k)) (dropB bd k) := by
  unfold Bd dropK dropB at *
  induction h with
  | nil => exact .nil
  | @cons p q _ _ a _ ih =>
    by_cases e : q.1 = k
    · rw [List.filter_cons_of_neg (by simp [a.1, e]), List.filter_cons_of_neg (by simp [e])]
      exact ih
    · have e' : ¬ p.1 = (Sum.inl k : Key) := fun z => e (inl_iff.mp (a.1.symm.trans z))
      rw [List.filter_cons_of_pos (by simp [e']), List.filter_cons_of_pos (by simp [e])]
      exact .cons a ih
theorem Bd.get {H : Hp} {kvs : List (Key × V)} {bd : Bd0} (h : Bd H kvs bd) (k : Int) : (valV kvs (Sum.inl k) = none ∧ getB bd k = none) ∨ ∃ v x, valV kvs (Sum.inl k) = some v ∧ getB bd k = some x ∧ ActV H x v := by
  unfold Bd at h
  induction h with
  | nil => exact .inl ⟨rfl, rfl⟩
  | @cons p q _ _ a _ ih =>
    by_cases e : q.1 = k
    · refine .inr ⟨p.2, q.2, valV_pos (by rw [a.1, e]), ?_, a.2⟩
      unfold getB
      rw [List.find?_cons_of_pos (by simp [e])]
      rfl
    · have e' : ¬ p.1 = (Sum.inl k : Key) := fun z => e (inl_iff.mp (a.1.symm.trans z))
      rw [valV_neg e']
      have g : ∀ r : Bd0, getB (q :: r) k = getB r k := fun r => by
        unfold getB
        rw [List.find?_cons_of_neg (by simp [e])]
      rw [g]
      exact ih
theorem Bd.dp {K : PySem.W.Frag} {H : Hp} {kvs : List (Key × V)} {bd : Bd0} (h : Bd H kvs bd) : DpAll K H (kvs.map (·.2)) (bd.map fun q => actD q.2) := by
  unfold Bd at h
  induction h with
  | nil => exact .nil
  | cons a _ ih => exact .cons a.2.dp ih
theorem putB_len (bd : Bd0) (k : Int) (x : Actn) : (putB bd k x).length ≤ bd.length + 1 := by
  unfold putB
  split
  · rw [List.length_map]; omega
  · rw [List.length_append]; exact Nat.le_refl _
theorem dropB_len (bd : Bd0) (k : Int) : (dropB bd k).length ≤ bd.length := List.length_filter_le ..
theorem putB_mem {bd : Bd0} {k : Int} {x : Actn} {p : Int × Actn} (h : p ∈ putB bd k x) : p ∈ bd ∨ p = (k, x) := by
  unfold putB at h
  split at h
  · obtain ⟨q, hq, e⟩ := List.mem_map.mp h
    by_cases z : q.1 = k
    · rw [if_pos z] at e; rw [← e, z]; exact .inr rfl
    · rw [if_neg z] at e; rw [← e]; exact .inl hq
  · rcases List.mem_append.mp h with q | q
    · exact .inl q
    · exact .inr (List.mem_singleton.mp q)
theorem dropB_mem {bd : Bd0} {k : Int} {p : Int × Actn} (h : p ∈ dropB bd k) : p ∈ bd := (List.mem_filter.mp h).1
theorem getB_mem {bd : Bd0} {k : Int} {x : Actn} (h : getB bd k = some x) : ∃ p ∈ bd, p.1 = k ∧ p.2 = x := by
  unfold getB at h
  cases e : bd.find? fun p => decide (p.1 = k) with
  | none => rw [e] at h; cases h
  | some p =>
    rw [e] at h
    exact ⟨p, List.mem_of_find?_eq_some e, of_decide_eq_true (List.find?_some (p := fun p : Int × Actn => decide (p.1 = k)) e), Option.some.inj h⟩
/-- what a key may be bound to -/
def BdOk (n : Int) : Actn → Prop
  | .code c => CodeOk c
  | .lay w j => w = ("layer" : String) ∧ 1 ≤ j ∧ j ≤ n - 1
  | _ => False
theorem BdOk.act {n : Int} {x : Actn} (h : BdOk n x) (i : Int) : ActOk n i x := by
  cases x with
  | code c => exact h
  | lay w j => exact ⟨by rw [h.1]; decide +kernel, h.2.1, h.2.2⟩
  | none => exact h.elim
  | thr => exact h.elim
  | dualC _ _ _ _ => exact h.elim
  | dualL _ _ _ _ => exact h.elim
def BdsOk (n : Int) (bd : Bd0) : Prop := ∀ p ∈ bd, BdOk n p.2

/-! ### the state -/
structure Sm where
  lk : List Bool
  on : Int
  bd : Bd0
def isLay (i : Int) : Actn → Bool
  | .lay w j => decide (w = (("layer" : String) : Str)) && decide (j = i)
  | _ => false
def onL (s : Sm) (i : Nat) : Bool := decide (i = 0) || s.lk.getD i false || decide (s.on = i) || s.bd.any fun p => isLay i p.2
def isThr : Actn → Bool
  | .thr => true
  | _ => false
def actAt (L : List (List Actn)) (i k : Nat) : Actn := ((L.getD i []).getD k .none)
def filt (L : List (List Actn)) (s : Sm) (k : Nat) : List Nat := (List.range L.length).filter fun i => !isThr (actAt L i k) && onL s i
def takenL (L : List (List Actn)) (s : Sm) (k : Nat) : Nat := (filt L s k).getLast?.getD 0
def isDl : Actn → Bool
  | .dualC .. => true
  | .dualL .. => true
  | _ => false
def timeOf : Actn → Int
  | .dualC _ _ t _ => t
  | .dualL _ _ t _ => t
  | _ => 0
def ruleOf : Actn → Str
  | .dualC _ _ _ r => r
  | .dualL _ _ _ r => r
  | _ => Str.empty
def tapOf : Actn → Actn
  | .dualC c _ _ _ => .code c
  | .dualL c _ _ _ => .code c
  | x => x
def holdOf : Actn → Actn
  | .dualC _ d _ _ => .code d
  | .dualL _ j _ _ => .lay "layer" j
  | x => x
def press (s : Sm) (k : Int) (x : Actn) : Sm :=
  match x with
  | .code c => { s with on := 0, bd := putB s.bd k (.code c) }
  | .lay w j => if w = ("layer" : String) then { s with on := 0, bd := putB s.bd k (.lay w j) } else if w = ("lock" : String) then { s with on := 0, lk := s.lk.set j.toNat (!s.lk.getD j.toNat false) } else { s with on := j }
  | _ => { s with on := 0 }
def release (s : Sm) (k : Int) : Sm := { s with bd := dropB s.bd k }
def init (n : Nat) : Sm := ⟨List.replicate n false, 0, []⟩

/-! ### deciding events -/
def decEv (own : Int) (rule : Str) : List Int → List Ev → Option Nat
  | _, [] => none
  | inner, e :: r =>
    if e.k = own ∨ (rule = ("other" : String) ∧ e.d = true) then some 0
    else if e.d = true then (decEv own rule (inner ++ [e.k]) r).map (· + 1)
    else if rule = ("within" : String) ∧ e.k ∈ inner then some 0
    else (decEv own rule inner r).map (· + 1)
def decM (es : List Ev) (at_ : Nat) (rule : Str) : Option Nat := (decEv ((es.getD at_ ⟨0, 0, false⟩).k) rule [] (es.drop (at_ + 1))).map (· + (at_ + 1))
def evAt (es : List Ev) (i : Nat) : Ev := es.getD i ⟨0, 0, false⟩
def sureM (es : List Ev) (at_ : Nat) (x : Actn) : Option Nat :=
  match decM es at_ (ruleOf x) with
  | none => none
  | some n => if (evAt es at_).t + timeOf x ≤ (evAt es n).t then none else some n
def tapM (es : List Ev) (at_ : Nat) (sure : Option Nat) : Bool :=
  match sure with
  | none => false
  | some n => decide ((evAt es n).k = (evAt es at_).k)
def kindM (es : List Ev) (at_ : Nat) (x : Actn) : Str := if isDl x then (if tapM es at_ (sureM es at_ x) then "tap" else "hold") else "plain"
def whatM (x : Actn) (kind : Str) : Actn := if kind = ("plain" : String) then x else if kind = ("tap" : String) then tapOf x else holdOf x
/-- what is told of an event: of an up, or of a down -/
inductive Td where
  | up
  | dn (lay : Nat) (kind : Str) (what : Actn) (sure : Option Nat)
def stepS (L : List (List Actn)) (es : List Ev) (i : Nat) (s : Sm) : Sm :=
  if (evAt es i).d then
    let x := actAt L (takenL L s (evAt es i).k.toNat) (evAt es i).k.toNat
    press s (evAt es i).k (whatM x (kindM es i x))
  else release s (evAt es i).k
def stepT (L : List (List Actn)) (es : List Ev) (i : Nat) (s : Sm) : Td :=
  if (evAt es i).d then
    let l := takenL L s (evAt es i).k.toNat
    let x := actAt L l (evAt es i).k.toNat
    .dn l (kindM es i x) (whatM x (kindM es i x)) (if isDl x then sureM es i x else none)
  else .up
def runS (L : List (List Actn)) (es : List Ev) : Nat → Sm
  | 0 => init L.length
  | n + 1 => stepS L es n (runS L es n)
def runT (L : List (List Actn)) (es : List Ev) (i : Nat) : Td := stepT L es i (runS L es i)
end Pl

set_option Elab.async false
set_option linter.all false
set_option maxRecDepth 100000
set_option maxHeartbeats 4000000
namespace K84
open PySem PySem.Spec PyProof.Rows L2 Gd Rm La Cb
def topS (i : Nat) : Stmt := PySem.Challenge.pw_holdtap_k84_whole_what_does_not_matter.main.body.getD i (.Pass ⟨0, 0, 0, 0⟩)
abbrev s__wall : Stmt := topS 0
abbrev n__wall : List Str := ["k"]
theorem sc__wall : FnScope n__wall ["k"] (defScope s__wall) := ⟨rfl, rfl, rfl, by decide +kernel, rfl, by decide +kernel, by decide +kernel⟩
-- 0 k
abbrev s_is_an_integer : Stmt := topS 6
abbrev n_is_an_integer : List Str := ["value"]
theorem sc_is_an_integer : FnScope n_is_an_integer ["value"] (defScope s_is_an_integer) := ⟨rfl, rfl, rfl, by decide +kernel, rfl, by decide +kernel, by decide +kernel⟩
-- 0 value
abbrev s_is_between : Stmt := topS 7
abbrev n_is_between : List Str := ["value", "low", "high"]
theorem sc_is_between : FnScope n_is_between ["value", "low", "high"] (defScope s_is_between) := ⟨rfl, rfl, rfl, by decide +kernel, rfl, by decide +kernel, by decide +kernel⟩
-- 0 value, 1 low, 2 high
abbrev s_check_layout : Stmt := topS 16
abbrev n_check_layout : List Str := ["value", "layer", "actions", "key", "action"]
theorem sc_check_layout : FnScope n_check_layout ["value"] (defScope s_check_layout) := ⟨rfl, rfl, rfl, by decide +kernel, rfl, by decide +kernel, by decide +kernel⟩
-- 0 value, 1 layer, 2 actions, 3 key, 4 action
abbrev s_has_layout_form : Stmt := topS 17
abbrev n_has_layout_form : List Str := ["value", "many", "actions"]
theorem sc_has_layout_form : FnScope n_has_layout_form ["value"] (defScope s_has_layout_form) := ⟨rfl, rfl, rfl, by decide +kernel, rfl, by decide +kernel, by decide +kernel⟩
-- 0 value, 1 many*, 2 actions*
abbrev s_can_stand : Stmt := topS 18
abbrev n_can_stand : List Str := ["action", "layer", "layer_count"]
theorem sc_can_stand : FnScope n_can_stand ["action", "layer", "layer_count"] (defScope s_can_stand) := ⟨rfl, rfl, rfl, by decide +kernel, rfl, by decide +kernel, by decide +kernel⟩
-- 0 action, 1 layer, 2 layer_count
abbrev s_is_code_action : Stmt := topS 19
abbrev n_is_code_action : List Str := ["action", "word", "code"]
theorem sc_is_code_action : FnScope n_is_code_action ["action"] (defScope s_is_code_action) := ⟨rfl, rfl, rfl, by decide +kernel, rfl, by decide +kernel, by decide +kernel⟩
-- 0 action, 1 word, 2 code
abbrev s_is_layer_action : Stmt := topS 20
abbrev n_is_layer_action : List Str := ["action", "words", "layer_count", "word", "layer"]
theorem sc_is_layer_action : FnScope n_is_layer_action ["action", "words", "layer_count"] (defScope s_is_layer_action) := ⟨rfl, rfl, rfl, by decide +kernel, rfl, by decide +kernel, by decide +kernel⟩
-- 0 action, 1 words, 2 layer_count, 3 word, 4 layer
abbrev s_is_dual_action : Stmt := topS 21
abbrev n_is_dual_action : List Str := ["action", "layer_count", "word", "tap", "hold", "time", "rule"]
theorem sc_is_dual_action : FnScope n_is_dual_action ["action", "layer_count"] (defScope s_is_dual_action) := ⟨rfl, rfl, rfl, by decide +kernel, rfl, by decide +kernel, by decide +kernel⟩
-- 0 action, 1 layer_count, 2 word, 3 tap, 4 hold, 5 time, 6 rule
abbrev s_is_hold : Stmt := topS 22
abbrev n_is_hold : List Str := ["value", "layer_count"]
theorem sc_is_hold : FnScope n_is_hold ["value", "layer_count"] (defScope s_is_hold) := ⟨rfl, rfl, rfl, by decide +kernel, rfl, by decide +kernel, by decide +kernel⟩
-- 0 value, 1 layer_count
abbrev s_is_code : Stmt := topS 23
abbrev n_is_code : List Str := ["value", "sign"]
theorem sc_is_code : FnScope n_is_code ["value"] (defScope s_is_code) := ⟨rfl, rfl, rfl, by decide +kernel, rfl, by decide +kernel, by decide +kernel⟩
-- 0 value, 1 sign*
abbrev s_is_dual : Stmt := topS 24
abbrev n_is_dual : List Str := ["action"]
theorem sc_is_dual : FnScope n_is_dual ["action"] (defScope s_is_dual) := ⟨rfl, rfl, rfl, by decide +kernel, rfl, by decide +kernel, by decide +kernel⟩
-- 0 action
abbrev s_deciding_event : Stmt := topS 28
abbrev n_deciding_event : List Str := ["record", "at", "rule", "own", "inner", "number", "tick", "key", "way"]
theorem sc_deciding_event : FnScope n_deciding_event ["record", "at", "rule"] (defScope s_deciding_event) := ⟨rfl, rfl, rfl, by decide +kernel, rfl, by decide +kernel, by decide +kernel⟩
-- 0 record, 1 at, 2 rule, 3 own, 4 inner, 5 number, 6 tick, 7 key, 8 way
abbrev s_sure_event : Stmt := topS 29
abbrev n_sure_event : List Str := ["record", "at", "dual", "number"]
theorem sc_sure_event : FnScope n_sure_event ["record", "at", "dual"] (defScope s_sure_event) := ⟨rfl, rfl, rfl, by decide +kernel, rfl, by decide +kernel, by decide +kernel⟩
-- 0 record, 1 at, 2 dual, 3 number
abbrev s_dual_kind : Stmt := topS 30
abbrev n_dual_kind : List Str := ["record", "at", "sure"]
theorem sc_dual_kind : FnScope n_dual_kind ["record", "at", "sure"] (defScope s_dual_kind) := ⟨rfl, rfl, rfl, by decide +kernel, rfl, by decide +kernel, by decide +kernel⟩
-- 0 record, 1 at, 2 sure
abbrev s_what_is_done : Stmt := topS 31
abbrev n_what_is_done : List Str := ["action", "kind"]
theorem sc_what_is_done : FnScope n_what_is_done ["action", "kind"] (defScope s_what_is_done) := ⟨rfl, rfl, rfl, by decide +kernel, rfl, by decide +kernel, by decide +kernel⟩
-- 0 action, 1 kind
abbrev s_play : Stmt := topS 32
abbrev n_play : List Str := ["layout", "record", "player", "told", "at", "tick", "key", "way", "layer", "action", "sure", "kind", "what"]
theorem sc_play : FnScope n_play ["layout", "record"] (defScope s_play) := ⟨rfl, rfl, rfl, by decide +kernel, rfl, by decide +kernel, by decide +kernel⟩
-- 0 layout, 1 record, 2 player, 3 told, 4 at, 5 tick, 6 key, 7 way, 8 layer, 9 action, 10 sure, 11 kind, 12 what
abbrev s_check_record : Stmt := topS 35
abbrev n_check_record : List Str := ["value", "many", "held", "index", "event"]
theorem sc_check_record : FnScope n_check_record ["value", "many"] (defScope s_check_record) := ⟨rfl, rfl, rfl, by decide +kernel, rfl, by decide +kernel, by decide +kernel⟩
-- 0 value, 1 many, 2 held, 3 index, 4 event
abbrev s_is_short_list : Stmt := topS 36
abbrev n_is_short_list : List Str := ["value"]
theorem sc_is_short_list : FnScope n_is_short_list ["value"] (defScope s_is_short_list) := ⟨rfl, rfl, rfl, by decide +kernel, rfl, by decide +kernel, by decide +kernel⟩
-- 0 value
abbrev s_is_event : Stmt := topS 37
abbrev n_is_event : List Str := ["value", "tick", "key", "way"]
theorem sc_is_event : FnScope n_is_event ["value"] (defScope s_is_event) := ⟨rfl, rfl, rfl, by decide +kernel, rfl, by decide +kernel, by decide +kernel⟩
-- 0 value, 1 tick, 2 key, 3 way
abbrev s_is_step : Stmt := topS 38
abbrev n_is_step : List Str := ["value", "key", "way"]
theorem sc_is_step : FnScope n_is_step ["value"] (defScope s_is_step) := ⟨rfl, rfl, rfl, by decide +kernel, rfl, by decide +kernel, by decide +kernel⟩
-- 0 value, 1 key, 2 way
abbrev s_is_below : Stmt := topS 39
abbrev n_is_below : List Str := ["key", "many"]
theorem sc_is_below : FnScope n_is_below ["key", "many"] (defScope s_is_below) := ⟨rfl, rfl, rfl, by decide +kernel, rfl, by decide +kernel, by decide +kernel⟩
-- 0 key, 1 many
abbrev s_can_follow : Stmt := topS 40
abbrev n_can_follow : List Str := ["event", "last", "held"]
theorem sc_can_follow : FnScope n_can_follow ["event", "last", "held"] (defScope s_can_follow) := ⟨rfl, rfl, rfl, by decide +kernel, rfl, by decide +kernel, by decide +kernel⟩
-- 0 event, 1 last, 2 held
abbrev s_takes_turn : Stmt := topS 41
abbrev n_takes_turn : List Str := ["held", "key", "way", "goes_down"]
theorem sc_takes_turn : FnScope n_takes_turn ["held", "key", "way"] (defScope s_takes_turn) := ⟨rfl, rfl, rfl, by decide +kernel, rfl, by decide +kernel, by decide +kernel⟩
-- 0 held, 1 key, 2 way, 3 goes_down
abbrev s_played : Stmt := topS 43
abbrev n_played : List Str := ["layout", "record", "_", "told", "meaning", "sure", "output"]
theorem sc_played : FnScope n_played ["layout", "record"] (defScope s_played) := ⟨rfl, rfl, rfl, by decide +kernel, rfl, by decide +kernel, by decide +kernel⟩
-- 0 layout, 1 record, 2 _, 3 told, 4 meaning*, 5 sure*, 6 output*
abbrev s_meanings : Stmt := topS 44
abbrev n_meanings : List Str := ["layout", "record", "_", "told", "meaning", "sure", "output"]
theorem sc_meanings : FnScope n_meanings ["layout", "record"] (defScope s_meanings) := ⟨rfl, rfl, rfl, by decide +kernel, rfl, by decide +kernel, by decide +kernel⟩
-- 0 layout, 1 record, 2 _, 3 told, 4 meaning*, 5 sure*, 6 output*
abbrev s_layers_on : Stmt := topS 45
abbrev n_layers_on : List Str := ["layout", "record", "player", "_"]
theorem sc_layers_on : FnScope n_layers_on ["layout", "record"] (defScope s_layers_on) := ⟨rfl, rfl, rfl, by decide +kernel, rfl, by decide +kernel, by decide +kernel⟩
-- 0 layout, 1 record, 2 player, 3 _
abbrev s_check_playable : Stmt := topS 46
abbrev n_check_playable : List Str := ["layout", "record"]
theorem sc_check_playable : FnScope n_check_playable ["layout", "record"] (defScope s_check_playable) := ⟨rfl, rfl, rfl, by decide +kernel, rfl, by decide +kernel, by decide +kernel⟩
-- 0 layout, 1 record
abbrev s_come_all : Stmt := topS 48
abbrev n_come_all : List Str := ["machine", "events", "out", "event"]
theorem sc_come_all : FnScope n_come_all ["machine", "events"] (defScope s_come_all) := ⟨rfl, rfl, rfl, by decide +kernel, rfl, by decide +kernel, by decide +kernel⟩
-- 0 machine, 1 events, 2 out, 3 event
abbrev s_run_out : Stmt := topS 49
abbrev n_run_out : List Str := ["machine", "out", "due"]
theorem sc_run_out : FnScope n_run_out ["machine"] (defScope s_run_out) := ⟨rfl, rfl, rfl, by decide +kernel, rfl, by decide +kernel, by decide +kernel⟩
-- 0 machine, 1 out, 2 due
abbrev s_outputs : Stmt := topS 53
abbrev n_outputs : List Str := ["layout", "record", "row"]
theorem sc_outputs : FnScope n_outputs ["layout", "record"] (defScope s_outputs) := ⟨rfl, rfl, rfl, by decide +kernel, rfl, by decide +kernel, by decide +kernel⟩
-- 0 layout, 1 record, 2 row
abbrev s_done_ticks : Stmt := topS 55
abbrev n_done_ticks : List Str := ["layout", "record"]
theorem sc_done_ticks : FnScope n_done_ticks ["layout", "record"] (defScope s_done_ticks) := ⟨rfl, rfl, rfl, by decide +kernel, rfl, by decide +kernel, by decide +kernel⟩
-- 0 layout, 1 record
abbrev s_decisions : Stmt := topS 56
abbrev n_decisions : List Str := ["layout", "record", "_", "told", "found", "at", "meaning", "sure", "output", "layer", "tick", "key", "way"]
theorem sc_decisions : FnScope n_decisions ["layout", "record"] (defScope s_decisions) := ⟨rfl, rfl, rfl, by decide +kernel, rfl, by decide +kernel, by decide +kernel⟩
-- 0 layout, 1 record, 2 _, 3 told, 4 found, 5 at, 6 meaning, 7 sure, 8 output, 9 layer, 10 tick, 11 key, 12 way
abbrev s_done_by : Stmt := topS 57
abbrev n_done_by : List Str := ["record", "decided", "done", "tick", "key", "way", "decision", "latest"]
theorem sc_done_by : FnScope n_done_by ["record", "decided"] (defScope s_done_by) := ⟨rfl, rfl, rfl, by decide +kernel, rfl, by decide +kernel, by decide +kernel⟩
-- 0 record, 1 decided, 2 done, 3 tick, 4 key, 5 way, 6 decision, 7 latest
abbrev s__law_reel : Stmt := topS 59
abbrev n__law_reel : List Str := ["_law_script", "_law_index", "_law_mixed", "_law_cell"]
theorem sc__law_reel : FnScope n__law_reel ["_law_script", "_law_index"] (defScope s__law_reel) := ⟨rfl, rfl, rfl, by decide +kernel, rfl, by decide +kernel, by decide +kernel⟩
-- 0 _law_script, 1 _law_index, 2 _law_mixed, 3 _law_cell
abbrev s__law_spin : Stmt := topS 60
abbrev n__law_spin : List Str := ["_law_reel_here", "_law_size", "_law_digit", "_law_wide"]
theorem sc__law_spin : FnScope n__law_spin ["_law_reel_here", "_law_size"] (defScope s__law_spin) := ⟨rfl, rfl, rfl, by decide +kernel, rfl, by decide +kernel, by decide +kernel⟩
-- 0 _law_reel_here, 1 _law_size, 2 _law_digit, 3 _law_wide
abbrev s__law_code : Stmt := topS 61
abbrev n__law_code : List Str := ["_law_reel_here", "_law_some", "_law_way", "_law_many", "_law_letters", "_law_turn"]
theorem sc__law_code : FnScope n__law_code ["_law_reel_here"] (defScope s__law_code) := ⟨rfl, rfl, rfl, by decide +kernel, rfl, by decide +kernel, by decide +kernel⟩
-- 0 _law_reel_here*, 1 _law_some, 2 _law_way, 3 _law_many, 4 _law_letters*, 5 _law_turn*
abbrev s__law_action : Stmt := topS 62
abbrev n__law_action : List Str := ["_law_reel_here", "_law_layer", "_law_layers", "_law_longest", "_law_way", "_law_hold_here", "_law_time_here"]
theorem sc__law_action : FnScope n__law_action ["_law_reel_here", "_law_layer", "_law_layers", "_law_longest"] (defScope s__law_action) := ⟨rfl, rfl, rfl, by decide +kernel, rfl, by decide +kernel, by decide +kernel⟩
-- 0 _law_reel_here, 1 _law_layer, 2 _law_layers, 3 _law_longest, 4 _law_way, 5 _law_hold_here, 6 _law_time_here
abbrev s__law_layout : Stmt := topS 63
abbrev n__law_layout : List Str := ["_law_reel_here", "_law_layers", "_law_keys", "_law_longest", "_law_found", "_law_layer", "_law_key"]
theorem sc__law_layout : FnScope n__law_layout ["_law_reel_here", "_law_layers", "_law_keys", "_law_longest"] (defScope s__law_layout) := ⟨rfl, rfl, rfl, by decide +kernel, rfl, by decide +kernel, by decide +kernel⟩
-- 0 _law_reel_here*, 1 _law_layers*, 2 _law_keys, 3 _law_longest*, 4 _law_found, 5 _law_layer*, 6 _law_key*
abbrev s__law_record : Stmt := topS 64
abbrev n__law_record : List Str := ["_law_reel_here", "_law_keys", "_law_size", "_law_gaps", "_law_found", "_law_down", "_law_tick", "_law_turn", "_law_key"]
theorem sc__law_record : FnScope n__law_record ["_law_reel_here", "_law_keys", "_law_size", "_law_gaps"] (defScope s__law_record) := ⟨rfl, rfl, rfl, by decide +kernel, rfl, by decide +kernel, by decide +kernel⟩
-- 0 _law_reel_here, 1 _law_keys, 2 _law_size, 3 _law_gaps, 4 _law_found, 5 _law_down, 6 _law_tick, 7 _law_turn, 8 _law_key
abbrev s__law_led : Stmt := topS 65
abbrev n__law_led : List Str := ["_law_action_here", "_law_codes", "_law_spots", "_law_factor", "_law_word", "_law_code_here_here", "_law_hold_here", "_law_time_here", "_law_rule", "_law_held"]
theorem sc__law_led : FnScope n__law_led ["_law_action_here", "_law_codes", "_law_spots", "_law_factor"] (defScope s__law_led) := ⟨rfl, rfl, rfl, by decide +kernel, rfl, by decide +kernel, by decide +kernel⟩
-- 0 _law_action_here, 1 _law_codes, 2 _law_spots, 3 _law_factor, 4 _law_word, 5 _law_code_here_here, 6 _law_hold_here, 7 _law_time_here, 8 _law_rule, 9 _law_held
abbrev s__law_all : Stmt := topS 66
abbrev n__law_all : List Str := ["_law_layout_here", "_law_record_here", "_law_told"]
theorem sc__law_all : FnScope n__law_all ["_law_layout_here", "_law_record_here"] (defScope s__law_all) := ⟨rfl, rfl, rfl, by decide +kernel, rfl, by decide +kernel, by decide +kernel⟩
-- 0 _law_layout_here, 1 _law_record_here, 2 _law_told
abbrev s__law_due : Stmt := topS 67
abbrev n__law_due : List Str := ["_law_told", "_law_codes", "_law_spots", "_law_factor", "_law_more", "_law_result", "_law_rows", "_law_on", "_law_came", "_law_done", "_law_found", "_law_row", "_law_one", "_law_layer", "_law_tick", "_law_word", "_law_code_here"]
theorem sc__law_due : FnScope n__law_due ["_law_told", "_law_codes", "_law_spots", "_law_factor", "_law_more"] (defScope s__law_due) := ⟨rfl, rfl, rfl, by decide +kernel, rfl, by decide +kernel, by decide +kernel⟩
-- 0 _law_told, 1 _law_codes*, 2 _law_spots*, 3 _law_factor*, 4 _law_more*, 5 _law_result, 6 _law_rows, 7 _law_on, 8 _law_came, 9 _law_done, 10 _law_found, 11 _law_row, 12 _law_one*, 13 _law_layer*, 14 _law_tick*, 15 _law_word*, 16 _law_code_here*
abbrev s__law_same : Stmt := topS 68
abbrev n__law_same : List Str := ["_law_layout_here", "_law_record_here", "_law_codes", "_law_spots", "_law_factor", "_law_more", "_law_told", "_law_rows", "_law_layer", "_law_row", "_law_tick", "_law_key", "_law_way", "_law_action_here"]
theorem sc__law_same : FnScope n__law_same ["_law_layout_here", "_law_record_here", "_law_codes", "_law_spots", "_law_factor", "_law_more", "_law_told"] (defScope s__law_same) := ⟨rfl, rfl, rfl, by decide +kernel, rfl, by decide +kernel, by decide +kernel⟩
-- 0 _law_layout_here, 1 _law_record_here, 2 _law_codes*, 3 _law_spots*, 4 _law_factor*, 5 _law_more*, 6 _law_told, 7 _law_rows, 8 _law_layer, 9 _law_row, 10 _law_tick*, 11 _law_key*, 12 _law_way*, 13 _law_action_here*
abbrev s__law_keys_right : Stmt := topS 69
abbrev n__law_keys_right : List Str := ["_law_reel_here", "_law_layout_here", "_law_record_here", "_law_told", "_law_keys", "_law_left", "_law_order", "_law_rows", "_law_other", "_law_top", "_law_row", "_law_tick", "_law_key", "_law_way", "_law_layer"]
theorem sc__law_keys_right : FnScope n__law_keys_right ["_law_reel_here", "_law_layout_here", "_law_record_here", "_law_told"] (defScope s__law_keys_right) := ⟨rfl, rfl, rfl, by decide +kernel, rfl, by decide +kernel, by decide +kernel⟩
-- 0 _law_reel_here*, 1 _law_layout_here*, 2 _law_record_here, 3 _law_told, 4 _law_keys, 5 _law_left, 6 _law_order*, 7 _law_rows, 8 _law_other, 9 _law_top, 10 _law_row*, 11 _law_tick*, 12 _law_key*, 13 _law_way*, 14 _law_layer*
abbrev s_law : Stmt := topS 70
abbrev n_law : List Str := ["_law_script", "_law_index", "_law_reel_here", "_law_turn", "_law_layers", "_law_keys", "_law_layout_here", "_law_record_here", "_law_told", "_law_plain", "_law_factor", "_law_more", "_law_codes", "_law_spot", "_law_spots", "_law_tick", "_law_key", "_law_way", "_law_layer"]
theorem sc_law : FnScope n_law ["_law_script"] (defScope s_law) := ⟨rfl, rfl, rfl, by decide +kernel, rfl, by decide +kernel, by decide +kernel⟩
-- 0 _law_script, 1 _law_index, 2 _law_reel_here, 3 _law_turn, 4 _law_layers, 5 _law_keys, 6 _law_layout_here, 7 _law_record_here*, 8 _law_told, 9 _law_plain, 10 _law_factor, 11 _law_more, 12 _law_codes, 13 _law_spot*, 14 _law_spots, 15 _law_tick*, 16 _law_key*, 17 _law_way*, 18 _law_layer*
abbrev s_Player_init : Stmt := inClass (topS 27) 0
abbrev n_Player_init : List Str := ["self", "layout"]
theorem sc_Player_init : FnScope n_Player_init ["self", "layout"] (defScope s_Player_init) := ⟨rfl, rfl, rfl, by decide +kernel, rfl, by decide +kernel, by decide +kernel⟩
-- 0 self, 1 layout
abbrev s_twin : Stmt := inClass (topS 51) 1
abbrev n_twin : List Str := ["self"]
theorem sc_twin : FnScope n_twin ["self"] (defScope s_twin) := ⟨rfl, rfl, rfl, by decide +kernel, rfl, by decide +kernel, by decide +kernel⟩
-- 0 self
abbrev s_is_on : Stmt := inClass (topS 27) 2
abbrev n_is_on : List Str := ["self", "layer"]
theorem sc_is_on : FnScope n_is_on ["self", "layer"] (defScope s_is_on) := ⟨rfl, rfl, rfl, by decide +kernel, rfl, by decide +kernel, by decide +kernel⟩
-- 0 self, 1 layer
abbrev s_on_layers : Stmt := inClass (topS 27) 3
abbrev n_on_layers : List Str := ["self", "layer"]
theorem sc_on_layers : FnScope n_on_layers ["self"] (defScope s_on_layers) := ⟨rfl, rfl, rfl, by decide +kernel, rfl, by decide +kernel, by decide +kernel⟩
-- 0 self*, 1 layer*
abbrev s_down_codes : Stmt := inClass (topS 27) 4
abbrev n_down_codes : List Str := ["self"]
theorem sc_down_codes : FnScope n_down_codes ["self"] (defScope s_down_codes) := ⟨rfl, rfl, rfl, by decide +kernel, rfl, by decide +kernel, by decide +kernel⟩
-- 0 self
abbrev s_taken : Stmt := inClass (topS 27) 5
abbrev n_taken : List Str := ["self", "key", "layer", "at", "actions"]
theorem sc_taken : FnScope n_taken ["self", "key"] (defScope s_taken) := ⟨rfl, rfl, rfl, by decide +kernel, rfl, by decide +kernel, by decide +kernel⟩
-- 0 self*, 1 key*, 2 layer, 3 at*, 4 actions*
abbrev s_press : Stmt := inClass (topS 27) 6
abbrev n_press : List Str := ["self", "key", "what", "word", "about"]
theorem sc_press : FnScope n_press ["self", "key", "what"] (defScope s_press) := ⟨rfl, rfl, rfl, by decide +kernel, rfl, by decide +kernel, by decide +kernel⟩
-- 0 self, 1 key, 2 what, 3 word, 4 about
abbrev s_release : Stmt := inClass (topS 27) 7
abbrev n_release : List Str := ["self", "key", "word", "about"]
theorem sc_release : FnScope n_release ["self", "key"] (defScope s_release) := ⟨rfl, rfl, rfl, by decide +kernel, rfl, by decide +kernel, by decide +kernel⟩
-- 0 self, 1 key, 2 word, 3 about
abbrev s_Row_init : Stmt := inClass (topS 51) 0
abbrev n_Row_init : List Str := ["self", "layout"]
theorem sc_Row_init : FnScope n_Row_init ["self", "layout"] (defScope s_Row_init) := ⟨rfl, rfl, rfl, by decide +kernel, rfl, by decide +kernel, by decide +kernel⟩
-- 0 self, 1 layout
abbrev s_due : Stmt := inClass (topS 51) 2
abbrev n_due : List Str := ["self", "tick", "key", "way", "layer", "dual"]
theorem sc_due : FnScope n_due ["self"] (defScope s_due) := ⟨rfl, rfl, rfl, by decide +kernel, rfl, by decide +kernel, by decide +kernel⟩
-- 0 self, 1 tick, 2 key, 3 way, 4 layer, 5 dual
abbrev s_clock : Stmt := inClass (topS 51) 3
abbrev n_clock : List Str := ["self", "tick", "out", "due"]
theorem sc_clock : FnScope n_clock ["self", "tick"] (defScope s_clock) := ⟨rfl, rfl, rfl, by decide +kernel, rfl, by decide +kernel, by decide +kernel⟩
-- 0 self, 1 tick, 2 out, 3 due
abbrev s_come : Stmt := inClass (topS 51) 4
abbrev n_come : List Str := ["self", "event"]
theorem sc_come : FnScope n_come ["self", "event"] (defScope s_come) := ⟨rfl, rfl, rfl, by decide +kernel, rfl, by decide +kernel, by decide +kernel⟩
-- 0 self, 1 event
abbrev s_let_out : Stmt := inClass (topS 51) 5
abbrev n_let_out : List Str := ["self", "now", "out", "tick", "key", "way", "output", "what"]
theorem sc_let_out : FnScope n_let_out ["self", "now"] (defScope s_let_out) := ⟨rfl, rfl, rfl, by decide +kernel, rfl, by decide +kernel, by decide +kernel⟩
-- 0 self, 1 now, 2 out, 3 tick, 4 key, 5 way, 6 output, 7 what
abbrev s_front_means : Stmt := inClass (topS 51) 6
abbrev n_front_means : List Str := ["self", "now", "tick", "key", "way", "layer", "action", "sure"]
theorem sc_front_means : FnScope n_front_means ["self", "now"] (defScope s_front_means) := ⟨rfl, rfl, rfl, by decide +kernel, rfl, by decide +kernel, by decide +kernel⟩
-- 0 self, 1 now, 2 tick, 3 key, 4 way, 5 layer, 6 action, 7 sure

/-! ### the reel -/
def Reel (H : Hp) (r : Addr) (n : Nat) : Prop := ∃ x y z : Int, H r = some (.lst [.int x, .int y, .int z]) ∧ 0 ≤ x ∧ 0 ≤ y ∧ y < 10 ^ 42 ∧ 0 ≤ z ∧ z ≤ (n : Int)
theorem Reel.mono {H : Hp} {r : Addr} {n m : Nat} (h : Reel H r n) (l : n ≤ m) : Reel H r m := by
  obtain ⟨x, y, z, a, b, c, d, e, f⟩ := h
  exact ⟨x, y, z, a, b, c, d, e, by omega⟩
theorem Reel.same {H H' : Hp} {r : Addr} {n : Nat} (h : Reel H r n) (l : Same H H') : Reel H' r n := by
  obtain ⟨x, y, z, a, b⟩ := h
  exact ⟨x, y, z, l _ _ a, b⟩
theorem Reel.upd {H : Hp} {r b : Addr} {n : Nat} {o : HO} (h : Reel H r n) (ne : b ≠ r) : Reel (upd H b o) r n := by
  obtain ⟨x, y, z, g, g'⟩ := h
  exact ⟨x, y, z, by rw [upd_ne ne.symm]; exact g, g'⟩
theorem Reel.new {H : Hp} {r b : Addr} {n : Nat} (h : Reel H r n) (nb : H b = none) : b ≠ r := by
  obtain ⟨_, _, _, hr, _⟩ := h
  exact (ne_of_none hr nb).symm
theorem Reel.free {H H1 : Hp} {r b : Addr} {n : Nat} (o : Off r H H1) (h : Reel H1 r n) (nb : H1 b = none) : H b = none := by
  obtain ⟨_, _, _, hr, _⟩ := h
  exact o.free hr nb
theorem Reel.lst {α : Type} {f : α → List V} {H H' : Hp} {r c : Addr} {n : Nat} {es : List α} (h : Reel H r n) (hl : Lst f H c es) (ne : c ≠ r) (o : Off r H H') : Lst f H' c es := by
  obtain ⟨_, _, _, hr, _⟩ := h
  exact hl.off hr ne o
theorem Reel.tk {H H' : Hp} {r : Addr} {n : Nat} (h : Reel H r n) (o : Off r H H') : Tk H H' := fun b xs e => o _ _ e (by
  obtain ⟨x, y, z, hr, _⟩ := h
  exact ne_of e hr (by intro q; cases q))
/-- the draws so far are fewer than this -/
abbrev most : Nat := 1000000000
def spSpin : Sp := fun vs H Q _ => ∃ (r : Addr) (m : Int) (n : Nat), vs = [.ref r, .int m] ∧ 0 < m ∧ m < 10 ^ 40 ∧ n < most ∧ Reel H r n ∧
  ∀ d H', 0 ≤ d → d < m → Reel H' r (n + 1) → Off r H H' → Q (.int d) H'
structure Bt (mg : Str → Option Value) : Prop where
  m_len : mg "len" = none
  m_abs : mg "abs" = none
  m_max : mg "max" = none
  m_min : mg "min" = none
  m_sum : mg "sum" = none
  m_repr : mg "repr" = none
  m_isinstance : mg "isinstance" = none
  m_all : mg "all" = none
  m_list : mg "list" = none
  m_tuple : mg "tuple" = none
  m_int : mg "int" = none
  m_bool : mg "bool" = none
  m_str : mg "str" = none
  m_range : mg "range" = none
  m_enumerate : mg "enumerate" = none
  m_sorted : mg "sorted" = none
  m_zip : mg "zip" = none
  m_set : mg "set" = none
  m_dict : mg "dict" = none
section
variable {P : Program} {w : World} {K : PySem.W.Frag} {mg : Str → Option Value} {base : Heap}
theorem p43 : (10 : Int) ^ (43 : Int).toNat + 57 = 10 ^ 43 + 57 := rfl
theorem ok__law_spin (a : At K mg "_law_spin" s__law_spin ["_law_reel_here", "_law_size"]) : Cl P w K mg base 1 "_law_spin" spSpin := by
  refine clG a sc__law_spin (fun vs H Q E h => ?_) (fun f cdv A outer s H vs Q hg hr h => ?_)
  · obtain ⟨r, m, n, rfl, _⟩ := h
    rfl
  · obtain ⟨r, m, n, rfl, hm, hm2, hn0, ⟨x, y, z, hR, hx, hy, hy2, hz, hz2⟩, q⟩ := h
    have hn : n < 1000000000 := hn0
    refine ⟨_, (pss_cons (ps_if (pt_cmpR op_gt (pe_ix ix_list (pv 0) pe_int (fun _ _ => rfl)) pe_int (nomark _)) (pss_cons (ps_set (i := 2) sc__law_spin.nd rfl (Or.inl rfl) (pe_op op_mod (pe_ix ix_list (pv 0) pe_int (fun _ _ => rfl)) (pv 1)))
      (pss_cons (ps_asg (pe_op op_fdivW (pe_ix ix_list (pv 0) pe_int (fun _ _ => rfl)) (pv 1)) (pg_sub (pv 0) pe_int set_list))
      (pss_one (ps_ret (pv 2))))) pss_nil)
      (pss_cons (ps_asg (pe_op op_add (pe_ix ix_list (pv 0) pe_int (fun _ _ => rfl)) pe_int) (pg_sub (pv 0) pe_int set_list))
      (pss_cons (ps_set (i := 3) sc__law_spin.nd rfl (Or.inl rfl) (pe_op op_mod (pe_op op_powW (pe_op op_add (pe_ix ix_list (pv 0) pe_int (fun _ _ => rfl)) (pe_op op_mulW pe_int (pe_ix ix_list (pv 0) pe_int (fun _ _ => rfl)))) pe_int) (pe_op op_add (pe_op op_powW pe_int pe_int) pe_int)))
      (pss_cons (ps_set (i := 3) sc__law_spin.nd rfl (Or.inl rfl) (pe_op op_mod (pe_op op_powW (pe_op op_add (pv 3) (pe_op op_mulW pe_int (pe_ix ix_list (pv 0) pe_int (fun _ _ => rfl)))) pe_int) (pe_op op_add (pe_op op_powW pe_int pe_int) pe_int)))
      (pss_one (ps_ret (pe_op op_mod (pe_op op_fdivW (pv 3) pe_int) (pv 1)))))))), ?_⟩
    refine ⟨_, rfl, r, _, 0, _, rfl, rfl, SqL.of hR, atI_nat (j := 0) rfl, ?_⟩
    refine ⟨_, _, rfl, rfl, _, rfl, ite2 (fun e => ?_) (fun e => ?_)⟩
    · -- a digit of the great number
      have e0 : 0 < x := of_decide_eq_true e
      refine ⟨_, rfl, r, _, 0, _, rfl, rfl, SqL.of hR, atI_nat (j := 0) rfl, _, rfl, _, _, rfl, rfl, hm, ?_⟩
      refine ⟨_, rfl, r, _, 0, _, rfl, rfl, SqL.of hR, atI_nat (j := 0) rfl, _, rfl, _, _, rfl, rfl, wide_div (b := 140) hm (by omega) (by decide) (by decide), ?_⟩
      refine ⟨_, rfl, r, _, 0, 0, rfl, rfl, hR, rfl, ?_⟩
      refine ⟨_, rfl, q _ _ (Int.emod_nonneg _ (by omega)) (Int.emod_lt_of_pos _ hm) ⟨x / m, y, z, upd_same, Int.ediv_nonneg hx (by omega), hy, hy2, hz, by omega⟩ off_upd⟩
    · refine ⟨_, rfl, r, _, 2, _, rfl, rfl, SqL.of hR, atI_nat (j := 2) rfl, _, _, rfl, rfl, ?_⟩
      refine ⟨_, rfl, r, _, 2, 2, rfl, rfl, hR, rfl, ?_⟩
      have hR1 : upd H r (.lst [.int x, .int y, .int (z + 1)]) r = some (.lst [.int x, .int y, .int (z + 1)]) := upd_same
      refine ⟨_, rfl, r, _, 1, _, rfl, rfl, SqL.of hR1, atI_nat (j := 1) rfl, ?_⟩
      refine ⟨_, rfl, r, _, 2, _, rfl, rfl, SqL.of hR1, atI_nat (j := 2) rfl, ?_⟩
      have b1 : (z + 1).natAbs < 2 ^ 40 := by omega
      have b2 : (49979687 * (z + 1)).natAbs < 2 ^ 80 := by omega
      refine ⟨_, _, rfl, rfl, wide_mul (a := 40) (b := 40) (by decide) b1 (by decide) (by decide) (by decide), ?_⟩
      refine ⟨_, _, rfl, rfl, ?_⟩
      have b3 : (y + 49979687 * (z + 1)).natAbs < 2 ^ 150 := by omega
      refine ⟨_, _, rfl, rfl, powW (n := 150) (k := 3) b3 (by decide), ?_⟩
      refine ⟨_, _, rfl, rfl, powW (n := 40) (k := 43) (by decide) (by decide), ?_⟩
      refine ⟨_, _, rfl, rfl, _, _, rfl, rfl, (show (0 : Int) < 10 ^ 43 + 57 by decide), ?_⟩
      have c1 : 0 ≤ (y + 49979687 * (z + 1)) ^ 3 % (10 ^ 43 + 57) := Int.emod_nonneg _ (by decide)
      have c2 : (y + 49979687 * (z + 1)) ^ 3 % (10 ^ 43 + 57) < 10 ^ 43 + 57 := Int.emod_lt_of_pos _ (by decide)
      generalize hu : (y + 49979687 * (z + 1)) ^ 3 % (10 ^ 43 + 57) = u at c1 c2
      refine ⟨.int u, congrArg (fun v => some (some (V.int v))) hu, ?_⟩
      refine ⟨_, rfl, r, _, 2, _, rfl, rfl, SqL.of hR1, atI_nat (j := 2) rfl, ?_⟩
      have b4 : (22801763 * (z + 1)).natAbs < 2 ^ 80 := by omega
      refine ⟨_, _, rfl, rfl, wide_mul (a := 40) (b := 40) (by decide) b1 (by decide) (by decide) (by decide), ?_⟩
      have b5 : (u + 22801763 * (z + 1)).natAbs < 2 ^ 150 := by omega
      refine ⟨_, _, rfl, rfl, _, _, rfl, rfl, powW (n := 150) (k := 5) b5 (by decide), ?_⟩
      refine ⟨_, _, rfl, rfl, powW (n := 40) (k := 40) (by decide) (by decide), ?_⟩
      refine ⟨_, _, rfl, rfl, _, _, rfl, rfl, (show (0 : Int) < 10 ^ 40 + 121 by decide), ?_⟩
      refine ⟨_, rfl, _, _, rfl, rfl, wide_div (b := 40) (by decide) (by decide) (by decide) (by decide), ?_⟩
      refine ⟨_, rfl, _, _, rfl, rfl, hm, ?_⟩
      exact q _ _ (Int.emod_nonneg _ (by omega)) (Int.emod_lt_of_pos _ hm) ⟨x, y, z + 1, upd_same, hx, hy, hy2, by omega, by omega⟩ off_upd
def spReel (K : PySem.W.Frag) : Sp := fun vs H Q _ => ∃ (s : Addr) (ns : List Int) (i : Nat), vs = [.ref s, .int (i : Int)] ∧ SqL K H s (ns.map V.int) ∧ ns.length ≤ 63 ∧ i < 100 ∧
  ∀ r H', Same H H' → H r = none → Reel H' r 0 → Q (.ref r) H'
theorem ok__law_reel (bt : Bt mg) (a : At K mg "_law_reel" s__law_reel ["_law_script", "_law_index"]) : Cl P w K mg base 1 "_law_reel" (spReel K) := by
  refine clG a sc__law_reel (fun vs H Q E h => ?_) (fun f cdv A outer s H vs Q hg hr h => ?_)
  · obtain ⟨r, m, n, rfl, _⟩ := h
    rfl
  · obtain ⟨sc, ns, i, rfl, hS, hl, hi, q⟩ := h
    refine ⟨_, (pss_cons (ps_set (i := 2) sc__law_reel.nd rfl (Or.inl rfl) (pe_op op_add pe_int (pe_op op_mulW pe_int (pv 1))))
      (pss_cons (ps_for PassesOwn.never rfl (pi_list (pv 0)) (pg_name (i := 3) sc__law_reel.nd rfl (Or.inl rfl)) (pss_one (ps_set (i := 2) sc__law_reel.nd rfl (Or.inl rfl) (pe_op op_mod (pe_op op_add (pe_op op_mulW (pv 2) pe_int) (pe_op op_mod (pv 3) (pe_op op_add (pe_op op_powW pe_int pe_int) pe_int))) (pe_op op_add (pe_op op_powW pe_int pe_int) pe_int)))))
      (pss_cons (ps_set (i := 3) sc__law_reel.nd rfl (Or.inl rfl) (pe_ifExp (pt_cmpR op_lt (pv 1) (pe_callB call_len_seq (by rfl) bt.m_len (by decide +kernel) (pa_cons (pv 0) pa_nil)) (nomark _)) (pe_callB call_abs (by rfl) bt.m_abs (by decide +kernel) (pa_cons (pe_ix ix_list (pv 0) (pv 1) (fun _ _ => rfl)) pa_nil)) pe_int))
      (pss_one (ps_ret (pe_lst (pa_cons (pe_callB (call_max2 rfl) (by rfl) bt.m_max (by decide +kernel) (pa_cons pe_int (pa_cons (pe_op op_sub (pv 3) (pe_op op_powW pe_int pe_int)) pa_nil))) (pa_cons (pv 2) (pa_cons pe_int pa_nil))))))))), ?_⟩
    -- mixed = 60013 + 53 * index
    refine ⟨_, rfl, _, _, rfl, rfl, wide_mul (a := 40) (b := 40) (by decide) (by omega) (by decide) (by decide) (by decide), _, _, rfl, rfl, ?_⟩
    refine ⟨_, rfl, sc, rfl, ⟨_, hS⟩, for_it (walk_list (xs := ns.map V.int)) (fun _ σ H' => H' = H ∧ ∃ m y3, σ = [some (.ref sc), some (.int (i : Int)), some (.int m), y3] ∧ 0 ≤ m ∧ m < 10 ^ 42)
      ⟨rfl, _, _, rfl, by omega, by omega⟩ (fun _ _ H' _ p => by obtain ⟨rfl, _⟩ := p; exact hS) (fun j x σ H1 H2 hj p y => ?_) (fun σ H1 p => ?_)⟩
    · obtain ⟨rfl, m, y3, rfl, m0, m1⟩ := p
      obtain ⟨rfl, hx⟩ := y
      obtain ⟨c, hc, rfl⟩ : ∃ c, ns[j]? = some c ∧ V.int c = x := by
        rw [List.getElem?_map] at hx
        cases e : ns[j]? with
        | none => rw [e] at hx; cases hx
        | some c => rw [e] at hx; exact ⟨c, rfl, Option.some.inj hx⟩
      have b1 : m.natAbs < 2 ^ 140 := by omega
      refine ⟨_, rfl, _, _, rfl, rfl, wide_mul (a := 140) (b := 40) b1 (by decide) (by decide) (by decide) (by decide), ?_⟩
      refine ⟨_, rfl, _, _, rfl, rfl, powW (n := 40) (k := 43) (by decide) (by decide), _, _, rfl, rfl, ?_⟩
      refine ⟨_, _, rfl, rfl, (show (0 : Int) < 10 ^ 43 + 57 by decide), _, _, rfl, rfl, _, _, rfl, rfl, powW (n := 40) (k := 41) (by decide) (by decide), ?_⟩
      refine ⟨_, _, rfl, rfl, _, _, rfl, rfl, (show (0 : Int) < 10 ^ 41 + 37 by decide), ?_⟩
      have c1 := Int.emod_nonneg (m * 8675311 + c % (10 ^ 43 + 57)) (b := 10 ^ 41 + 37) (by decide)
      have c2 := Int.emod_lt_of_pos (m * 8675311 + c % (10 ^ 43 + 57)) (b := 10 ^ 41 + 37) (by decide)
      refine ⟨rfl, _, _, rfl, c1, ?_⟩
      exact Int.lt_trans c2 (by decide)
    · obtain ⟨rfl, m, y3, rfl, m0, m1⟩ := p
      refine ⟨_, rfl, .ref sc, rfl, sc, _, rfl, .inl hS, _, _, rfl, rfl, _, rfl, ite2 (fun e => ?_) (fun e => ?_)⟩
      · have e0 : (i : Int) < ((ns.map V.int).length : Nat) := of_decide_eq_true e
        rw [List.length_map] at e0
        have hlt : i < ns.length := by omega
        have g : (ns.map V.int)[i]? = some (.int ns[i]) := by
          rw [List.getElem?_map, List.getElem?_eq_getElem hlt]; rfl
        refine ⟨_, rfl, _, rfl, sc, _, (i : Int), _, rfl, rfl, hS, atI_nat g, _, rfl, ?_⟩
        refine ⟨_, rfl, _, _, rfl, rfl, powW (n := 40) (k := 18) (by decide) (by decide), _, _, rfl, rfl, _, _, rfl, .int m, rfl, (by show 3 ≤ sizeLine; decide), fun p np => ?_⟩
        exact q p _ (same_upd np) np ⟨_, m, 0, upd_same, by split <;> omega, m0, m1, by decide, by decide⟩
      · refine ⟨_, rfl, _, _, rfl, rfl, powW (n := 40) (k := 18) (by decide) (by decide), _, _, rfl, rfl, _, _, rfl, .int m, rfl, (by show 3 ≤ sizeLine; decide), fun p np => ?_⟩
        exact q p _ (same_upd np) np ⟨_, m, 0, upd_same, by split <;> omega, m0, m1, by decide, by decide⟩
end
end K84

set_option Elab.async false
set_option linter.all false
set_option maxRecDepth 100000
set_option maxHeartbeats 4000000
namespace K84
open PySem PySem.Spec PyProof.Rows L2 Gd Rm La Cb
def rLenB (K : PySem.W.Frag) : List V → Hp → VK → Prop := fun xs H Q => ∃ p ys, xs = [.ref p] ∧ (SqL K H p ys ∨ SqT K H p ys) ∧ Q (.int ys.length) H
def rListOf (K : PySem.W.Frag) : List V → Hp → VK → Prop := fun xs H Q => ∃ p ys, xs = [.ref p] ∧ (SqL K H p ys ∨ SqT K H p ys) ∧ ∀ l, H l = none → Q (.ref l) (upd H l (.lst ys))
theorem ixN_nat {n j : Nat} (hj : j < n) : ixN n (j : Int) = some j := by unfold ixN; rw [if_pos (by omega), if_pos (by omega), Int.toNat_natCast]
theorem get_map_ref {as : List Addr} {i : Nat} {b : Addr} (h : as[i]? = some b) : (as.map V.ref)[i]? = some (.ref b) := by rw [List.getElem?_map, h]; rfl
theorem get_map_int {ns : List Int} {i : Nat} {b : Int} (h : ns[i]? = some b) : (ns.map V.int)[i]? = some (.int b) := by rw [List.getElem?_map, h]; rfl
theorem cutTake {xs : List V} {k : Nat} : cutV xs none (some (k : Int)) = xs.take k := by
  unfold cutV
  rw [HT.sIx_none, HT.sIx_nat, List.drop_zero, Nat.sub_zero]
  rcases Nat.le_total k xs.length with h | h
  · rw [Nat.min_eq_left h]
  · rw [Nat.min_eq_right h, List.take_of_length_le (Nat.le_refl _), List.take_of_length_le h]
theorem cutDrop {xs : List V} {k : Nat} (h1 : k ≤ xs.length) : cutV xs (some (k : Int)) none = xs.drop k := by
  unfold cutV
  rw [HT.sIx_none, HT.sIx_nat, Nat.min_eq_left h1]
  exact List.take_of_length_le (by rw [List.length_drop]; omega)
theorem allTrue (n : Nat) : (List.replicate n true).all id = true := by simp
theorem small400 {n : Nat} (h : n ≤ 1000) : n ≤ sizeLine := Nat.le_of_lt (small1000 h)
section
variable {P : Program} {w : World} {K : PySem.W.Frag} {mg : Str → Option Value} {base : Heap}
def spInt : Sp := fun vs H Q _ => ∃ i : Int, vs = [.int i] ∧ Q (.bl true) H
theorem ok_is_an_integer (bt : Bt mg) (a : At K mg "is_an_integer" s_is_an_integer ["value"]) : Cl P w K mg base 1 "is_an_integer" spInt := by
  refine clG a sc_is_an_integer (fun vs H Q E h => ?_) (fun f cdv A outer s H vs Q hg hr h => ?_)
  · obtain ⟨i, rfl, _⟩ := h
    rfl
  · obtain ⟨i, rfl, q⟩ := h
    refine ⟨_, (pss_one (ps_ret (pe_and (pe_callB call_isi (by rfl) bt.m_isinstance (by decide +kernel) (pa_cons (pv 0) (pa_cons (pe_bltn (v := .ty "int") (by rfl) bt.m_int (by decide +kernel) rfl) pa_nil))) (pe_one (pe_not (pe_callB call_isi (by rfl) bt.m_isinstance (by decide +kernel) (pa_cons (pv 0) (pa_cons (pe_bltn (v := .ty "bool") (by rfl) bt.m_bool (by decide +kernel) rfl) pa_nil)))))))), ?_⟩
    refine ⟨_, rfl, _, _, _, _, true, rfl, .ty "int", .base (.int i), kit_ty (by decide +kernel), _, rfl, iteT ?_⟩
    exact ⟨_, rfl, _, _, _, _, false, rfl, .ty "bool", .base (.int i), kit_ty (by decide +kernel), _, rfl, q⟩
def spBet : Sp := fun vs H Q _ => ∃ i l u : Int, vs = [.int i, .int l, .int u] ∧ l ≤ i ∧ i ≤ u ∧ Q (.bl true) H
theorem ok_is_between (bt : Bt mg) (a : At K mg "is_between" s_is_between ["value", "low", "high"]) (c_is_an_integer : Cl P w K mg base 1 "is_an_integer" spInt) : Cl P w K mg base 2 "is_between" spBet := by
  refine clG a sc_is_between (fun vs H Q E h => ?_) (fun f cdv A outer s H vs Q hg hr h => ?_)
  · obtain ⟨i, l, u, rfl, _⟩ := h
    rfl
  · obtain ⟨i, l, u, rfl, h1, h2, q⟩ := h
    refine ⟨_, (pss_one (ps_ret (pe_and (pe_cl c_is_an_integer hg hr (by decide) (by rfl) (pa_cons (pv 0) pa_nil)) (pe_one (pe_chain op_le op_le (pv 1) (pv 0) (pv 2)))))), ?_⟩
    refine ⟨_, rfl, _, rfl, _, rfl, iteT ?_⟩
    refine ⟨_, rfl, _, rfl, _, _, rfl, rfl, true, congrArg V.bl (decide_eq_true h1), iteT ⟨_, rfl, _, _, rfl, rfl, ?_⟩⟩
    show Q (.bl (decide (i ≤ u))) H
    rw [decide_eq_true h2]
    exact q
def spCode : Sp := fun vs H Q _ => ∃ c : Str, vs = [.str c] ∧ CodeOk c ∧ ∀ H', Same H H' → Q (.bl true) H'
theorem ok_is_code (bt : Bt mg) {tk1 tk2 : Tok} (m_MOST_SIGNS : mg "MOST_SIGNS" = some (.int 8 tk1)) (m_CODE_SIGNS : mg "CODE_SIGNS" = some (.str "abcdefghijklmnopqrstuvwxyz0123456789" tk2)) (a : At K mg "is_code" s_is_code ["value"]) : Cl P w K mg base 1 "is_code" spCode := by
  refine clG a sc_is_code (fun vs H Q E h => ?_) (fun f cdv A outer s H vs Q hg hr h => ?_)
  · obtain ⟨i, rfl, _⟩ := h
    rfl
  · obtain ⟨c, rfl, hc, q⟩ := h
    refine ⟨_, (pss_cons (ps_if (PW.pt (pw_or (pt_not (pt_val (pe_callB call_isi (by rfl) bt.m_isinstance (by decide +kernel) (pa_cons (pv 0) (pa_cons (pe_bltn (v := .ty "str") (by rfl) bt.m_str (by decide +kernel) rfl) pa_nil))))) (pw_or1 (pt_not (pt_chain op_le op_le pe_int (pe_callB call_len_str (by rfl) bt.m_len (by decide +kernel) (pa_cons (pv 0) pa_nil)) (pe_glob (v := .int 8) (by rfl) m_MOST_SIGNS ⟨_, rfl⟩)))))) (pss_one (ps_ret pe_bl)) pss_nil)
      (pss_one (ps_ret (pe_callB (cr_all rfl) (by rfl) bt.m_all (by decide +kernel) (pa_cons (pe_lc (own := [("sign", 1)]) (g := (gName 1)) (by rfl) sc_is_code.nd (pi_str (pv 0)) (blkOk_by (N := n_is_code) (sc := defScope s_is_code) (by decide +kernel)) (fun _ _ _ _ _ => (pg_name (i := 1) sc_is_code.nd rfl (Or.inl rfl))) (fun _ _ _ _ _ => pts_nil) (fun _ _ _ _ _ => (pe_cmpR op_in_sign (pv 1) (pe_glob (v := .str "abcdefghijklmnopqrstuvwxyz0123456789") (by rfl) m_CODE_SIGNS ⟨_, rfl⟩) rfl))) pa_nil))))), ?_⟩
    have e1 : (c.length : Int) = (c.cps.size : Int) := rfl
    have h1 := hc.1
    have h8 := hc.2.1
    refine ⟨_, rfl, _, _, _, _, true, rfl, .ty "str", .base (.str _), kit_ty (by decide +kernel), _, rfl, iteF ?_⟩
    refine ⟨_, rfl, c, rfl, (by rw [sizeLine_eq]; have : c.length = c.cps.size := rfl; omega), _, _, rfl, rfl, true, congrArg V.bl (decide_eq_true (by omega)), iteT ⟨_, _, rfl, rfl, true, congrArg V.bl (decide_eq_true (by omega)), ?_⟩⟩
    refine iteF ⟨_, rfl, c, rfl, fun L nL => lc_it (walk_str (z := c)) (fun i H' => H' = upd H L (.lst ((List.replicate i true).map V.bl))) rfl (fun _ _ _ _ => True.intro) (fun i x H2 H3 hi p y => ?_) (fun H2 p => ?_)⟩
    · obtain ⟨rfl, d, hd, rfl⟩ := y
      subst p
      have hm : d ∈ signs.cps.toList := hc.2.2 d (by rw [Array.mem_toList_iff]; exact Array.mem_of_getElem? hd)
      refine ⟨rfl, ⟨_, rfl, d, signs, rfl, rfl, _, upd_same, ?_, ?_⟩⟩
      · rw [List.length_map, List.length_replicate]; exact small1000 (by omega)
      · show upd (upd H L _) L (.lst (_ ++ [V.bl (decide (d ∈ signs.cps.toList))])) = _
        rw [decide_eq_true hm, upd_upd, List.replicate_succ', List.map_append]; rfl
    · subst p
      refine ⟨L, _, rfl, SqL.of upd_same, ?_⟩
      rw [allTrue]
      exact q _ (same_upd nL)
def spCA : Sp := fun vs H Q _ => ∃ (a : Addr) (w : Str) (y : V), vs = [.ref a] ∧ H a = some (.tup [.str w, y]) ∧ ((w = ("code" : String) ∧ ∃ c, y = .str c ∧ CodeOk c ∧ ∀ H', Same H H' → Q (.bl true) H') ∨ (w ≠ (("code" : String) : Str) ∧ Q (.bl false) H))
theorem ok_is_code_action (bt : Bt mg) (a : At K mg "is_code_action" s_is_code_action ["action"]) (c_is_code : Cl P w K mg base 1 "is_code" spCode) : Cl P w K mg base 2 "is_code_action" spCA := by
  refine clG a sc_is_code_action (fun vs H Q E h => ?_) (fun f cdv A outer s H vs Q hg hr h => ?_)
  · obtain ⟨a, w, y, rfl, _⟩ := h
    rfl
  · obtain ⟨a, w, y, rfl, ha, h⟩ := h
    refine ⟨_, (pss_cons (ps_asg (pv 0) (pg_tup rfl (pgs_cons (pg_name (i := 1) sc_is_code_action.nd rfl (Or.inl rfl)) (pgs_cons (pg_name (i := 2) sc_is_code_action.nd rfl (Or.inl rfl)) pgs_nil))))
      (pss_one (ps_ret (pe_and (pe_callB call_isi (by rfl) bt.m_isinstance (by decide +kernel) (pa_cons (pv 1) (pa_cons (pe_bltn (v := .ty "str") (by rfl) bt.m_str (by decide +kernel) rfl) pa_nil))) (pe_and (pe_cmpR op_eq (pv 1) pe_str (nomark _)) (pe_one (pe_cl c_is_code hg hr (by decide) (by rfl) (pa_cons (pv 2) pa_nil)))))))), ?_⟩
    refine ⟨_, rfl, a, _, rfl, SqT.of ha, rfl, _, _, rfl, _, _, rfl, rfl, ?_⟩
    refine ⟨_, rfl, _, _, _, _, true, rfl, .ty "str", .base (.str _), kit_ty (by decide +kernel), _, rfl, iteT ?_⟩
    rcases h with ⟨rfl, c, rfl, hc, q⟩ | ⟨hn, q⟩
    · exact ⟨_, rfl, rfl, true, rfl, iteT ⟨_, rfl, c, rfl, hc, q⟩⟩
    · refine ⟨_, rfl, rfl, false, ?_, iteF q⟩
      exact congrArg V.bl (decide_eq_false fun z => hn (V.str.inj z))
def spLA (K : PySem.W.Frag) : Sp := fun vs H Q _ => ∃ (a g : Addr) (w : Str) (ws : List Str) (j n : Int), vs = [.ref a, .ref g, .int n] ∧ H a = some (.tup [.str w, .int j]) ∧ SqT K H g (ws.map V.str) ∧ w ∈ ws ∧ 1 ≤ j ∧ j ≤ n - 1 ∧ Q (.bl true) H
theorem flat_strs : ∀ ns : List Str, (ns.map V.str).all flatV = true
  | [] => rfl
  | n :: ns => by
    show (flatV (.str n) && (ns.map V.str).all flatV) = true
    rw [flat_strs ns]
    rfl
theorem ok_is_layer_action (bt : Bt mg) (a : At K mg "is_layer_action" s_is_layer_action ["action", "words", "layer_count"]) (c_is_between : Cl P w K mg base 2 "is_between" spBet) : Cl P w K mg base 3 "is_layer_action" (spLA K) := by
  refine clG a sc_is_layer_action (fun vs H Q E h => ?_) (fun f cdv A outer s H vs Q hg hr h => ?_)
  · obtain ⟨a, g, w, ws, j, n, rfl, _⟩ := h
    rfl
  · obtain ⟨a, g, w, ws, j, n, rfl, ha, hw, hm, h1, h2, q⟩ := h
    refine ⟨_, (pss_cons (ps_asg (pv 0) (pg_tup rfl (pgs_cons (pg_name (i := 3) sc_is_layer_action.nd rfl (Or.inl rfl)) (pgs_cons (pg_name (i := 4) sc_is_layer_action.nd rfl (Or.inl rfl)) pgs_nil))))
      (pss_one (ps_ret (pe_and (pe_callB call_isi (by rfl) bt.m_isinstance (by decide +kernel) (pa_cons (pv 3) (pa_cons (pe_bltn (v := .ty "str") (by rfl) bt.m_str (by decide +kernel) rfl) pa_nil))) (pe_and (pe_cmpR op_in_seq (pv 3) (pv 1) (by rfl)) (pe_one (pe_cl c_is_between hg hr (by decide) (by rfl) (pa_cons (pv 4) (pa_cons pe_int (pa_cons (pe_op op_sub (pv 2) pe_int) pa_nil)))))))))), ?_⟩
    refine ⟨_, rfl, a, _, rfl, SqT.of ha, rfl, _, _, rfl, _, _, rfl, rfl, ?_⟩
    refine ⟨_, rfl, _, _, _, _, true, rfl, .ty "str", .base (.str _), kit_ty (by decide +kernel), _, rfl, iteT ?_⟩
    refine ⟨_, rfl, _, rfl, g, _, rfl, .inr hw, rfl, flat_strs ws, true, ?_, iteT ?_⟩
    · show V.bl (inV (.str w) (ws.map V.str)) = _
      rw [inv_str, decide_eq_true hm]
    · exact ⟨_, rfl, _, rfl, _, _, rfl, rfl, j, 1, n - 1, rfl, h1, h2, q⟩
def spHold : Sp := fun vs H Q _ => ∃ (a : Addr) (n : Int), vs = [.ref a, .int n] ∧ ((∃ c, H a = some (.tup [.str "code", .str c]) ∧ CodeOk c) ∨ (∃ j, H a = some (.tup [.str "layer", .int j]) ∧ 1 ≤ j ∧ j ≤ n - 1)) ∧ ∀ H', Same H H' → Q (.bl true) H'
theorem ok_is_hold (bt : Bt mg) (a : At K mg "is_hold" s_is_hold ["value", "layer_count"]) (c_is_code_action : Cl P w K mg base 2 "is_code_action" spCA) (c_is_layer_action : Cl P w K mg base 3 "is_layer_action" (spLA K)) : Cl P w K mg base 4 "is_hold" spHold := by
  refine clG a sc_is_hold (fun vs H Q E h => ?_) (fun f cdv A outer s H vs Q hg hr h => ?_)
  · obtain ⟨a, n, rfl, _⟩ := h
    rfl
  · obtain ⟨a, n, rfl, h, q⟩ := h
    refine ⟨_, (pss_cons (ps_if (PW.pt (pw_or (pt_not (pt_val (pe_callB call_isi (by rfl) bt.m_isinstance (by decide +kernel) (pa_cons (pv 0) (pa_cons (pe_bltn (v := .ty "tuple") (by rfl) bt.m_tuple (by decide +kernel) rfl) pa_nil))))) (pw_or1 (pt_cmpR op_ne (pe_callB call_len_seq (by rfl) bt.m_len (by decide +kernel) (pa_cons (pv 0) pa_nil)) pe_int (nomark _))))) (pss_one (ps_ret pe_bl)) pss_nil)
      (pss_one (ps_ret (pe_or (pe_cl c_is_code_action hg hr (by decide) (by rfl) (pa_cons (pv 0) pa_nil)) (pe_one (pe_cl c_is_layer_action hg hr (by decide) (by rfl) (pa_cons (pv 0) (pa_cons (pe_tup (pa_cons pe_str pa_nil)) (pa_cons (pv 1) pa_nil))))))))), ?_⟩
    rcases h with ⟨c, ha, hc⟩ | ⟨j, ha, h1, h2⟩
    · refine ⟨_, rfl, _, _, _, _, true, rfl, .ty "tuple", .base (.tup ha), kit_ty (by decide +kernel), _, rfl, iteF ?_⟩
      refine ⟨_, rfl, a, _, rfl, .inr (SqT.of ha), rfl, _, rfl, iteF ?_⟩
      exact ⟨_, rfl, a, _, _, rfl, ha, .inl ⟨rfl, c, rfl, hc, fun H' s' => ⟨true, rfl, iteT (q H' s')⟩⟩⟩
    · refine ⟨_, rfl, _, _, _, _, true, rfl, .ty "tuple", .base (.tup ha), kit_ty (by decide +kernel), _, rfl, iteF ?_⟩
      refine ⟨_, rfl, a, _, rfl, .inr (SqT.of ha), rfl, _, rfl, iteF ?_⟩
      refine ⟨_, rfl, a, _, _, rfl, ha, .inr ⟨by decide +kernel, false, rfl, iteF ?_⟩⟩
      refine ⟨_, rfl, (by show 1 ≤ sizeLine; decide), fun p np => ?_⟩
      exact ⟨_, rfl, a, p, _, ["layer"], j, n, rfl, (same_upd np) _ _ ha, SqT.of upd_same, List.mem_singleton.mpr rfl, h1, h2, q _ (same_upd np)⟩
end
end K84

set_option Elab.async false
set_option linter.all false
set_option maxRecDepth 100000
set_option maxHeartbeats 4000000
namespace K84
open PySem PySem.Spec PyProof.Rows L2 Gd Rm La Cb
section
variable {P : Program} {w : World} {K : PySem.W.Frag} {mg : Str → Option Value} {base : Heap}
def spDA : Sp := fun vs H Q _ => ∃ (a b : Addr) (c r : Str) (t n : Int), vs = [.ref a, .int n] ∧ H a = some (.tup [.str "dual", .str c, .ref b, .int t, .str r]) ∧ CodeOk c ∧ ((∃ d, H b = some (.tup [.str "code", .str d]) ∧ CodeOk d) ∨ (∃ j, H b = some (.tup [.str "layer", .int j]) ∧ 1 ≤ j ∧ j ≤ n - 1)) ∧
  1 ≤ t ∧ t ≤ 1000000000 ∧ r ∈ rules ∧ ∀ H', Same H H' → Q (.bl true) H'
theorem ok_is_dual_action (bt : Bt mg) {tk : Tok} {g_RULES : Addr} (m_GREATEST_TIME : mg "GREATEST_TIME" = some (.int 1000000000 tk)) (m_RULES : mg "RULES" = some (.ref g_RULES)) (t_RULES : ∀ H, SqT K H g_RULES (rules.map V.str)) (a : At K mg "is_dual_action" s_is_dual_action ["action", "layer_count"])
    (c_is_code : Cl P w K mg base 1 "is_code" spCode) (c_is_hold : Cl P w K mg base 4 "is_hold" spHold) (c_is_between : Cl P w K mg base 2 "is_between" spBet) : Cl P w K mg base 5 "is_dual_action" spDA := by
  refine clG a sc_is_dual_action (fun vs H Q E h => ?_) (fun f cdv A outer s H vs Q hg hr h => ?_)
  · obtain ⟨a, b, c, r, t, n, rfl, _⟩ := h
    rfl
  · obtain ⟨a, b, c, r, t, n, rfl, ha, hc, hb, h1, h2, hr', q⟩ := h
    refine ⟨_, (pss_cons (ps_asg (pv 0) (pg_tup rfl (pgs_cons (pg_name (i := 2) sc_is_dual_action.nd rfl (Or.inl rfl)) (pgs_cons (pg_name (i := 3) sc_is_dual_action.nd rfl (Or.inl rfl)) (pgs_cons (pg_name (i := 4) sc_is_dual_action.nd rfl (Or.inl rfl)) (pgs_cons (pg_name (i := 5) sc_is_dual_action.nd rfl (Or.inl rfl)) (pgs_cons (pg_name (i := 6) sc_is_dual_action.nd rfl (Or.inl rfl)) pgs_nil)))))))
      (pss_cons (ps_if (PW.pt (pw_or (pt_not (pt_val (pe_callB call_isi (by rfl) bt.m_isinstance (by decide +kernel) (pa_cons (pv 2) (pa_cons (pe_bltn (v := .ty "str") (by rfl) bt.m_str (by decide +kernel) rfl) pa_nil))))) (pw_or1 (pt_cmpR op_ne (pv 2) pe_str (nomark _))))) (pss_one (ps_ret pe_bl)) pss_nil)
      (pss_cons (ps_if (PW.pt (pw_or (pt_not (pt_val (pe_cl c_is_code hg hr (by decide) (by rfl) (pa_cons (pv 3) pa_nil)))) (pw_or1 (pt_not (pt_val (pe_cl c_is_hold hg hr (by decide) (by rfl) (pa_cons (pv 4) (pa_cons (pv 1) pa_nil)))))))) (pss_one (ps_ret pe_bl)) pss_nil)
      (pss_one (ps_ret (pe_and (pe_cl c_is_between hg hr (by decide) (by rfl) (pa_cons (pv 5) (pa_cons pe_int (pa_cons (pe_glob (v := .int 1000000000) (by rfl) m_GREATEST_TIME ⟨_, rfl⟩) pa_nil)))) (pe_and (pe_callB call_isi (by rfl) bt.m_isinstance (by decide +kernel) (pa_cons (pv 6) (pa_cons (pe_bltn (v := .ty "str") (by rfl) bt.m_str (by decide +kernel) rfl) pa_nil))) (pe_one (pe_cmpR op_in_seq (pv 6) (pe_glob (v := .ref g_RULES) (by rfl) m_RULES rfl) (by rfl)))))))))), ?_⟩
    refine ⟨_, rfl, a, _, rfl, SqT.of ha, rfl, _, _, rfl, _, _, rfl, _, _, rfl, _, _, rfl, _, _, rfl, rfl, ?_⟩
    refine ⟨_, rfl, _, _, _, _, true, rfl, .ty "str", .base (.str _), kit_ty (by decide +kernel), _, rfl, iteF ?_⟩
    refine ⟨_, rfl, rfl, _, rfl, iteF ?_⟩
    refine ⟨_, rfl, c, rfl, hc, fun H1 s1 => ⟨_, rfl, iteF ?_⟩⟩
    refine ⟨_, rfl, _, rfl, b, n, rfl, ?_, fun H2 s2 => ⟨_, rfl, iteF ?_⟩⟩
    · rcases hb with ⟨d, e, k⟩ | ⟨j, e, k⟩
      · exact .inl ⟨d, s1 _ _ e, k⟩
      · exact .inr ⟨j, s1 _ _ e, k⟩
    · refine ⟨_, rfl, t, 1, 1000000000, rfl, h1, h2, true, rfl, iteT ?_⟩
      refine ⟨_, rfl, _, _, _, _, true, rfl, .ty "str", .base (.str _), kit_ty (by decide +kernel), _, rfl, iteT ?_⟩
      refine ⟨_, rfl, g_RULES, _, rfl, .inr (t_RULES _), rfl, flat_strs _, ?_⟩
      show Q (.bl (inV (.str r) (rules.map V.str))) H2
      rw [inv_str, decide_eq_true hr']
      exact q _ (s1.trans s2)
def spStand : Sp := fun vs H Q _ => ∃ (v : V) (i n : Int) (x : Actn), vs = [v, .int i, .int n] ∧ ActV H x v ∧ ActOk n i x ∧ ∀ H', Same H H' → Q (.bl true) H'
theorem ok_can_stand (bt : Bt mg) {g_LAYER_WORDS : Addr} (m_LAYER_WORDS : mg "LAYER_WORDS" = some (.ref g_LAYER_WORDS)) (t_LAYER_WORDS : ∀ H, SqT K H g_LAYER_WORDS (layWords.map V.str)) (a : At K mg "can_stand" s_can_stand ["action", "layer", "layer_count"])
    (c_is_code_action : Cl P w K mg base 2 "is_code_action" spCA) (c_is_layer_action : Cl P w K mg base 3 "is_layer_action" (spLA K)) (c_is_dual_action : Cl P w K mg base 5 "is_dual_action" spDA) : Cl P w K mg base 6 "can_stand" spStand := by
  refine clG a sc_can_stand (fun vs H Q E h => ?_) (fun f cdv A outer s H vs Q hg hr h => ?_)
  · obtain ⟨v, i, n, x, rfl, _⟩ := h
    rfl
  · obtain ⟨v, i, n, x, rfl, hv, hx, q⟩ := h
    refine ⟨_, (pss_cons (ps_if (pt_val (pe_callB call_isi (by rfl) bt.m_isinstance (by decide +kernel) (pa_cons (pv 0) (pa_cons (pe_bltn (v := .ty "str") (by rfl) bt.m_str (by decide +kernel) rfl) pa_nil)))) (pss_one (ps_ret (pe_or (pe_cmpR (op_eqD hr.units) (pv 0) pe_str (nomark _)) (pe_one (pe_and (pe_cmpR (op_eqD hr.units) (pv 0) pe_str (nomark _)) (pe_one (pe_cmpR op_gt (pv 1) pe_int (nomark _)))))))) pss_nil)
      (pss_cons (ps_if (pt_not (pt_val (pe_callB call_isi (by rfl) bt.m_isinstance (by decide +kernel) (pa_cons (pv 0) (pa_cons (pe_bltn (v := .ty "tuple") (by rfl) bt.m_tuple (by decide +kernel) rfl) pa_nil))))) (pss_one (ps_ret pe_bl)) pss_nil)
      (pss_cons (ps_if (pt_cmpR op_eq (pe_callB call_len_seq (by rfl) bt.m_len (by decide +kernel) (pa_cons (pv 0) pa_nil)) pe_int (nomark _)) (pss_one (ps_ret (pe_or (pe_cl c_is_code_action hg hr (by decide) (by rfl) (pa_cons (pv 0) pa_nil)) (pe_one (pe_cl c_is_layer_action hg hr (by decide) (by rfl) (pa_cons (pv 0) (pa_cons (pe_glob (v := .ref g_LAYER_WORDS) (by rfl) m_LAYER_WORDS rfl) (pa_cons (pv 2) pa_nil)))))))) pss_nil)
      (pss_one (ps_ret (pe_and (pe_cmpR op_eq (pe_callB call_len_seq (by rfl) bt.m_len (by decide +kernel) (pa_cons (pv 0) pa_nil)) pe_int (nomark _)) (pe_one (pe_cl c_is_dual_action hg hr (by decide) (by rfl) (pa_cons (pv 0) (pa_cons (pv 2) pa_nil)))))))))), ?_⟩
    cases x with
    | none =>
      cases hv
      refine ⟨_, rfl, _, _, _, _, true, rfl, .ty "str", .base (.str _), kit_ty (by decide +kernel), _, rfl, iteT ?_⟩
      exact ⟨_, rfl, _, _, .str _, .str _, by decide +kernel, by decide +kernel, true, congrArg V.bl (by decide +kernel), iteT (q _ (Same.refl _))⟩
    | thr =>
      cases hv
      have h0 : 0 < i := hx
      refine ⟨_, rfl, _, _, _, _, true, rfl, .ty "str", .base (.str _), kit_ty (by decide +kernel), _, rfl, iteT ?_⟩
      refine ⟨_, rfl, _, _, .str _, .str _, by decide +kernel, by decide +kernel, false, congrArg V.bl (by decide +kernel), iteF ?_⟩
      refine ⟨_, rfl, _, _, .str _, .str _, by decide +kernel, by decide +kernel, true, congrArg V.bl (by decide +kernel), iteT ⟨_, rfl, _, _, rfl, rfl, ?_⟩⟩
      show Q (.bl (decide (0 < i))) H
      rw [decide_eq_true h0]
      exact q _ (Same.refl _)
    | code c =>
      obtain ⟨a, rfl, ha⟩ := hv
      refine ⟨_, rfl, _, _, _, _, false, rfl, .ty "str", .base (.tup ha), kit_ty (by decide +kernel), _, rfl, iteF ?_⟩
      refine ⟨_, rfl, _, _, _, _, true, rfl, .ty "tuple", .base (.tup ha), kit_ty (by decide +kernel), _, rfl, iteF ?_⟩
      refine ⟨_, rfl, a, _, rfl, .inr (SqT.of ha), rfl, _, rfl, iteT ?_⟩
      exact ⟨_, rfl, a, _, _, rfl, ha, .inl ⟨rfl, c, rfl, hx, fun H' s' => ⟨true, rfl, iteT (q H' s')⟩⟩⟩
    | lay w j =>
      obtain ⟨a, rfl, ha⟩ := hv
      obtain ⟨x1, x2, x3⟩ := hx
      refine ⟨_, rfl, _, _, _, _, false, rfl, .ty "str", .base (.tup ha), kit_ty (by decide +kernel), _, rfl, iteF ?_⟩
      refine ⟨_, rfl, _, _, _, _, true, rfl, .ty "tuple", .base (.tup ha), kit_ty (by decide +kernel), _, rfl, iteF ?_⟩
      refine ⟨_, rfl, a, _, rfl, .inr (SqT.of ha), rfl, _, rfl, iteT ?_⟩
      have hn : w ≠ (("code" : String) : Str) := by
        rintro rfl
        revert x1
        decide +kernel
      exact ⟨_, rfl, a, _, _, rfl, ha, .inr ⟨hn, false, rfl, iteF ⟨_, rfl, _, rfl, a, g_LAYER_WORDS, w, layWords, j, n, rfl, ha, t_LAYER_WORDS _, x1, x2, x3, q _ (Same.refl _)⟩⟩⟩
    | dualC c d t r =>
      obtain ⟨a, b, rfl, ha, hb⟩ := hv
      obtain ⟨x1, x2, ⟨x3, x4⟩, x5⟩ := hx
      refine ⟨_, rfl, _, _, _, _, false, rfl, .ty "str", .base (.tup ha), kit_ty (by decide +kernel), _, rfl, iteF ?_⟩
      refine ⟨_, rfl, _, _, _, _, true, rfl, .ty "tuple", .base (.tup ha), kit_ty (by decide +kernel), _, rfl, iteF ?_⟩
      refine ⟨_, rfl, a, _, rfl, .inr (SqT.of ha), rfl, _, rfl, iteF ?_⟩
      refine ⟨_, rfl, a, _, rfl, .inr (SqT.of ha), rfl, true, rfl, iteT ?_⟩
      exact ⟨_, rfl, _, rfl, a, b, c, r, t, n, rfl, ha, x1, .inl ⟨d, hb, x2⟩, x3, x4, x5, q⟩
    | dualL c j t r =>
      obtain ⟨a, b, rfl, ha, hb⟩ := hv
      obtain ⟨x1, ⟨x2, x2'⟩, ⟨x3, x4⟩, x5⟩ := hx
      refine ⟨_, rfl, _, _, _, _, false, rfl, .ty "str", .base (.tup ha), kit_ty (by decide +kernel), _, rfl, iteF ?_⟩
      refine ⟨_, rfl, _, _, _, _, true, rfl, .ty "tuple", .base (.tup ha), kit_ty (by decide +kernel), _, rfl, iteF ?_⟩
      refine ⟨_, rfl, a, _, rfl, .inr (SqT.of ha), rfl, _, rfl, iteF ?_⟩
      refine ⟨_, rfl, a, _, rfl, .inr (SqT.of ha), rfl, true, rfl, iteT ?_⟩
      exact ⟨_, rfl, _, rfl, a, b, c, r, t, n, rfl, ha, x1, .inr ⟨j, hb, x2, x2'⟩, x3, x4, x5, q⟩
def spForm : Sp := fun vs H Q _ => ∃ (c : Addr) (L : List (List Actn)) (m : Nat), vs = [.ref c] ∧ Lay H c L ∧ LayOk L m ∧ ∀ H', Same H H' → Q (.bl true) H'
theorem ok_has_layout_form (bt : Bt mg) {tk1 tk2 : Tok} (m_MOST_LAYERS : mg "MOST_LAYERS" = some (.int 6 tk1)) (m_MOST_KEYS : mg "MOST_KEYS" = some (.int 16 tk2)) (a : At K mg "has_layout_form" s_has_layout_form ["value"]) : Cl P w K mg base 1 "has_layout_form" spForm := by
  refine clG a sc_has_layout_form (fun vs H Q E h => ?_) (fun f cdv A outer s H vs Q hg hr h => ?_)
  · obtain ⟨c, L, m, rfl, _⟩ := h
    rfl
  · obtain ⟨c, L, m, rfl, hL, hO, q⟩ := h
    refine ⟨_, (pss_cons (ps_if (PW.pt (pw_or (pt_not (pt_val (pe_callB call_isi (by rfl) bt.m_isinstance (by decide +kernel) (pa_cons (pv 0) (pa_cons (pe_bltn (v := .ty "list") (by rfl) bt.m_list (by decide +kernel) rfl) pa_nil))))) (pw_or1 (pt_not (pt_chain op_le op_le pe_int (pe_callB call_len_seq (by rfl) bt.m_len (by decide +kernel) (pa_cons (pv 0) pa_nil)) (pe_glob (v := .int 6) (by rfl) m_MOST_LAYERS ⟨_, rfl⟩)))))) (pss_one (ps_ret pe_bl)) pss_nil)
      (pss_cons (ps_if (pt_not (pt_val (pe_callB (cr_all rfl) (by rfl) bt.m_all (by decide +kernel) (pa_cons (pe_lc (own := [("actions", 2)]) (g := (gName 2)) (by rfl) sc_has_layout_form.nd (pi_list (pv 0)) (blkOk_by (N := n_has_layout_form) (sc := defScope s_has_layout_form) (by decide +kernel)) (fun _ _ _ _ _ => (pg_name (i := 2) sc_has_layout_form.nd rfl (Or.inl rfl))) (fun _ _ _ _ _ => pts_nil) (fun _ _ _ _ _ => (pe_callB (r := rIsi K) call_isi (by rfl) bt.m_isinstance (by decide +kernel) (pa_cons (pv 2) (pa_cons (pe_bltn (v := .ty "list") (by rfl) bt.m_list (by decide +kernel) rfl) pa_nil))))) pa_nil)))) (pss_one (ps_ret pe_bl)) pss_nil)
      (pss_cons (ps_set (i := 1) sc_has_layout_form.nd rfl (Or.inr rfl) (pe_callB call_len_seq (by rfl) bt.m_len (by decide +kernel) (pa_cons (pe_ix ix_list (pv 0) pe_int (fun _ _ => rfl)) pa_nil)))
      (pss_one (ps_ret (pe_and (pe_chain op_le op_le pe_int (pv 1) (pe_glob (v := .int 16) (by rfl) m_MOST_KEYS ⟨_, rfl⟩)) (pe_one (pe_callB (cr_all rfl) (by rfl) bt.m_all (by decide +kernel) (pa_cons (pe_lc (own := [("actions", 2)]) (g := (gName 2)) (by rfl) sc_has_layout_form.nd (pi_list (pv 0)) (blkOk_by (N := n_has_layout_form) (sc := defScope s_has_layout_form) (by decide +kernel)) (fun _ _ _ _ _ => (pg_name (i := 2) sc_has_layout_form.nd rfl (Or.inl rfl))) (fun _ _ _ _ _ => pts_nil) (fun _ _ _ _ _ => (pe_cmpR op_eq (pe_callB (r := rLenB K) call_len_seq (by rfl) bt.m_len (by decide +kernel) (pa_cons (pv 2) pa_nil)) (pv 1) (nomark _)))) pa_nil))))))))), ?_⟩
    obtain ⟨rs, hc, hR⟩ := hL
    have hlen : (rs.map V.ref).length = L.length := by rw [List.length_map]; exact hR.1
    have n1 := hO.n1
    have n6 := hO.n6
    refine ⟨_, rfl, _, _, _, _, true, rfl, .ty "list", .base (.lst hc), kit_ty (by decide +kernel), _, rfl, iteF ?_⟩
    refine ⟨_, rfl, c, _, rfl, .inl (SqL.of hc), _, _, rfl, rfl, true, congrArg V.bl (decide_eq_true (by omega)), iteT ⟨_, _, rfl, rfl, true, congrArg V.bl (decide_eq_true (by omega)), iteF ?_⟩⟩
    refine ⟨_, rfl, c, rfl, ⟨_, SqL.of hc⟩, fun M nM => lc_it (walk_list (xs := rs.map V.ref)) (fun i H' => H' = upd H M (.lst ((List.replicate i true).map V.bl))) rfl
      (fun i H' _ p => by subst p; exact SqL.of ((same_upd nM) _ _ hc)) (fun i x H2 H3 hi p y => ?_) (fun H2 p => ?_)⟩
    · obtain ⟨rfl, hx⟩ := y
      subst p
      have hi' : i < L.length := by omega
      obtain ⟨r, hr1, hr2⟩ := hR.at_ hi'
      have ex : V.ref r = x := Option.some.inj ((get_map_ref hr1).symm.trans hx)
      subst ex
      obtain ⟨vs, hv, _⟩ := hr2
      refine ⟨rfl, ⟨_, rfl, _, _, _, _, true, rfl, .ty "list", .base (.lst ((same_upd nM) _ _ hv)), kit_ty (by decide +kernel), _, upd_same, ?_, ?_⟩⟩
      · rw [List.length_map, List.length_replicate]; exact small1000 (by omega)
      · rw [upd_upd, List.replicate_succ', List.map_append]; rfl
    · subst p
      refine ⟨M, _, rfl, SqL.of upd_same, _, rfl, ?_⟩
      rw [allTrue]
      have s1 : Same H (upd H M (.lst ((List.replicate (rs.map V.ref).length true).map V.bl))) := same_upd nM
      generalize upd H M (.lst ((List.replicate (rs.map V.ref).length true).map V.bl)) = H1 at s1
      have hc1 := s1 _ _ hc
      have hR1 := hR.same s1
      obtain ⟨r0, e0, vs0, hv0, ha0⟩ := hR1.at_ (i := 0) (by omega)
      have hm0 : vs0.length = m := by rw [ha0.1]; exact hO.len _ (List.getElem_mem _)
      have m1 := hO.m1
      have m16 := hO.m16
      refine iteF ⟨_, rfl, c, _, 0, .ref r0, rfl, rfl, SqL.of hc1, atI_nat (j := 0) (get_map_ref e0), ?_⟩
      refine ⟨r0, _, rfl, .inl (SqL.of hv0), ?_⟩
      rw [hm0]
      refine ⟨_, rfl, _, _, rfl, rfl, true, congrArg V.bl (decide_eq_true (by omega)), iteT ⟨_, _, rfl, rfl, true, congrArg V.bl (decide_eq_true (by omega)), iteT ?_⟩⟩
      refine ⟨_, rfl, c, rfl, ⟨_, SqL.of hc1⟩, fun N nN => lc_it (walk_list (xs := rs.map V.ref)) (fun i H' => H' = upd H1 N (.lst ((List.replicate i true).map V.bl))) rfl
        (fun i H' _ p => by subst p; exact SqL.of ((same_upd nN) _ _ hc1)) (fun i x H2 H3 hi p y => ?_) (fun H2 p => ?_)⟩
      · obtain ⟨rfl, hx⟩ := y
        subst p
        have hi' : i < L.length := by omega
        obtain ⟨r, hr1, vs, hv, ha⟩ := hR1.at_ hi'
        have ex : V.ref r = x := Option.some.inj ((get_map_ref hr1).symm.trans hx)
        subst ex
        have hm : vs.length = m := by rw [ha.1]; exact hO.len _ (List.getElem_mem _)
        refine ⟨rfl, ⟨_, rfl, r, _, rfl, .inl (SqL.of ((same_upd nN) _ _ hv)), _, rfl, rfl, _, upd_same, ?_, ?_⟩⟩
        · rw [List.length_map, List.length_replicate]; exact small1000 (by omega)
        · rw [hm, decide_eq_true rfl, upd_upd, List.replicate_succ', List.map_append]; rfl
      · subst p
        refine ⟨N, _, rfl, SqL.of upd_same, ?_⟩
        rw [allTrue]
        exact q _ (s1.trans (same_upd nN))
def spCheckL : Sp := fun vs H Q _ => ∃ (c : Addr) (L : List (List Actn)) (m : Nat), vs = [.ref c] ∧ Lay H c L ∧ LayOk L m ∧ ∀ H', Same H H' → Q .non H'
theorem ok_check_layout (bt : Bt mg) (a : At K mg "check_layout" s_check_layout ["value"]) (c_has_layout_form : Cl P w K mg base 1 "has_layout_form" spForm) (c_can_stand : Cl P w K mg base 6 "can_stand" spStand) : Cl P w K mg base 7 "check_layout" spCheckL := by
  refine clG a sc_check_layout (fun vs H Q E h => ?_) (fun f cdv A outer s H vs Q hg hr h => ?_)
  · obtain ⟨c, L, m, rfl, _⟩ := h
    rfl
  · obtain ⟨c, L, m, rfl, hL, hO, q⟩ := h
    refine ⟨_, (pss_cons (ps_if (pt_not (pt_val (pe_cl c_has_layout_form hg hr (by decide) (by rfl) (pa_cons (pv 0) pa_nil)))) pss_never pss_nil)
      (pss_one (ps_for PassesOwn.never rfl (pi_enum (by rfl) bt.m_enumerate (pa_cons (pv 0) pa_nil)) (pg_tup rfl (pgs_cons (pg_name (i := 1) sc_check_layout.nd rfl (Or.inl rfl)) (pgs_cons (pg_name (i := 2) sc_check_layout.nd rfl (Or.inl rfl)) pgs_nil))) (pss_one (ps_for PassesOwn.never rfl (pi_enum (by rfl) bt.m_enumerate (pa_cons (pv 2) pa_nil)) (pg_tup rfl (pgs_cons (pg_name (i := 3) sc_check_layout.nd rfl (Or.inl rfl)) (pgs_cons (pg_name (i := 4) sc_check_layout.nd rfl (Or.inl rfl)) pgs_nil))) (pss_one (ps_if (pt_not (pt_val (pe_cl c_can_stand hg hr (by decide) (by rfl) (pa_cons (pv 4) (pa_cons (pv 1) (pa_cons (pe_callB call_len_seq (by rfl) bt.m_len (by decide +kernel) (pa_cons (pv 0) pa_nil)) pa_nil)))))) pss_never pss_nil))))))), ?_⟩
    refine ⟨_, rfl, c, L, m, rfl, hL, hO, fun H1 s1 => ⟨_, rfl, iteF ?_⟩⟩
    obtain ⟨rs, hc, hR⟩ := hL.same s1
    have hlen : (rs.map V.ref).length = L.length := by rw [List.length_map]; exact hR.1
    refine ⟨_, rfl, c, _, rfl, SqL.of hc, for_it (walk_enum (xs := rs.map V.ref)) (fun i σ H' => Same H1 H' ∧ ∃ y1 y2 y3 y4, σ = [some (.ref c), y1, y2, y3, y4]) ⟨Same.refl _, _, _, _, _, rfl⟩ (fun _ _ H' _ p => SqL.of (p.1 _ _ hc)) (fun i x σ H2 H3 hi p y => ?_) (fun σ H2 p => ?_)⟩
    · obtain ⟨s2, y1, y2, y3, y4, rfl⟩ := p
      obtain ⟨T, u, v, rfl, nT, rfl, e1, e2⟩ := y
      have hi' : i < L.length := by omega
      obtain ⟨r, hr1, vs, hv, ha⟩ := hR.at_ hi'
      have e2' : v = .ref r := Option.some.inj ((show (rs.map V.ref)[i]? = some v from e2).symm.trans (get_map_ref hr1))
      subst e2'
      have e1' : u = .int (i : Nat) := (Option.some.inj e1).symm
      subst e1'
      have s3 : Same H1 (upd H2 T (.tup [.int (i : Nat), .ref r])) := s2.trans (same_upd nT)
      refine ⟨T, _, rfl, SqT.of upd_same, rfl, _, _, rfl, _, _, rfl, rfl, ?_⟩
      have hv3 := s3 _ _ hv
      have hvl := ha.1
      generalize upd H2 T (.tup [.int (i : Nat), .ref r]) = H4 at s3 hv3
      refine ⟨_, rfl, r, _, rfl, SqL.of hv3, for_it (walk_enum (xs := vs)) (fun j σ H' => Same H4 H' ∧ ∃ y3 y4, σ = [some (.ref c), some (.int (i : Nat)), some (.ref r), y3, y4]) ⟨Same.refl _, _, _, rfl⟩ (fun _ _ H' _ p => SqL.of (p.1 _ _ hv3)) (fun j x σ H5 H6 hj p y => ?_) (fun σ H5 p => ?_)⟩
      · obtain ⟨s5, y3, y4, rfl⟩ := p
        obtain ⟨T2, u2, v2, rfl, nT2, rfl, e3, e4⟩ := y
        have hj' : j < L[i].length := by omega
        obtain ⟨v', hv', hav⟩ := ha.at_ hj'
        have e4' : v2 = v' := Option.some.inj ((show vs[j]? = some v2 from e4).symm.trans hv')
        subst e4'
        have e3' : u2 = .int (j : Nat) := (Option.some.inj e3).symm
        subst e3'
        have s6 : Same H1 (upd H5 T2 (.tup [.int (j : Nat), v2])) := (s3.trans s5).trans (same_upd nT2)
        refine ⟨T2, _, rfl, SqT.of upd_same, rfl, _, _, rfl, _, _, rfl, rfl, ?_⟩
        refine ⟨_, rfl, _, rfl, _, rfl, c, _, rfl, .inl (SqL.of (s6 _ _ hc)), v2, i, L.length, L[i][j], ?_, hav.keep (Tk.of s6), hO.ok i _ (List.getElem?_eq_getElem hi') _ (List.getElem_mem _), fun H7 s7 => ⟨_, rfl, iteF ⟨(s5.trans (same_upd nT2)).trans s7, _, _, rfl⟩⟩⟩
        rw [hlen]
        rfl
      · obtain ⟨s5, y3, y4, rfl⟩ := p
        exact ⟨s3.trans s5, _, _, _, _, rfl⟩
    · exact q _ (s1.trans p.1)
end
end K84

set_option Elab.async false
set_option linter.all false
set_option maxRecDepth 100000
set_option maxHeartbeats 4000000
namespace K84
open PySem PySem.Spec PyProof.Rows L2 Gd Rm La Cb
section
variable {P : Program} {w : World} {K : PySem.W.Frag} {mg : Str → Option Value} {base : Heap}
theorem down_or_up (d : Bool) : inV (.str (wayS d)) [.str "down", .str "up"] = true := by cases d <;> decide +kernel
def spStep : Sp := fun vs H Q _ => ∃ (a : Addr) (e : Ev), vs = [.ref a] ∧ H a = some (.tup (stV e)) ∧ 0 ≤ e.k ∧ ∀ H', Same H H' → Q (.bl true) H'
theorem ok_is_step (bt : Bt mg) (a : At K mg "is_step" s_is_step ["value"]) (c_is_an_integer : Cl P w K mg base 1 "is_an_integer" spInt) : Cl P w K mg base 2 "is_step" spStep := by
  refine clG a sc_is_step (fun vs H Q E h => ?_) (fun f cdv A outer s H vs Q hg hr h => ?_)
  · obtain ⟨a, e, rfl, _⟩ := h
    rfl
  · obtain ⟨a, e, rfl, ha, h0, q⟩ := h
    refine ⟨_, (pss_cons (ps_if (PW.pt (pw_or (pt_not (pt_val (pe_callB call_isi (by rfl) bt.m_isinstance (by decide +kernel) (pa_cons (pv 0) (pa_cons (pe_bltn (v := .ty "tuple") (by rfl) bt.m_tuple (by decide +kernel) rfl) pa_nil))))) (pw_or1 (pt_cmpR op_ne (pe_callB call_len_seq (by rfl) bt.m_len (by decide +kernel) (pa_cons (pv 0) pa_nil)) pe_int (nomark _))))) (pss_one (ps_ret pe_bl)) pss_nil)
      (pss_cons (ps_asg (pv 0) (pg_tup rfl (pgs_cons (pg_name (i := 1) sc_is_step.nd rfl (Or.inl rfl)) (pgs_cons (pg_name (i := 2) sc_is_step.nd rfl (Or.inl rfl)) pgs_nil))))
      (pss_one (ps_ret (pe_and (pe_cl c_is_an_integer hg hr (by decide) (by rfl) (pa_cons (pv 1) pa_nil)) (pe_and (pe_cmpR op_ge (pv 1) pe_int (nomark _)) (pe_and (pe_callB call_isi (by rfl) bt.m_isinstance (by decide +kernel) (pa_cons (pv 2) (pa_cons (pe_bltn (v := .ty "str") (by rfl) bt.m_str (by decide +kernel) rfl) pa_nil))) (pe_one (pe_cmpR op_in_seq (pv 2) (pe_tup (pa_cons pe_str (pa_cons pe_str pa_nil))) (by rfl)))))))))), ?_⟩
    refine ⟨_, rfl, _, _, _, _, true, rfl, .ty "tuple", .base (.tup ha), kit_ty (by decide +kernel), _, rfl, iteF ?_⟩
    refine ⟨_, rfl, a, _, rfl, .inr (SqT.of ha), rfl, _, rfl, iteF ?_⟩
    refine ⟨_, rfl, a, _, rfl, SqT.of ha, rfl, _, _, rfl, _, _, rfl, rfl, ?_⟩
    refine ⟨_, rfl, _, rfl, _, rfl, iteT ?_⟩
    refine ⟨_, rfl, _, _, rfl, rfl, true, congrArg V.bl (decide_eq_true h0), iteT ?_⟩
    refine ⟨_, rfl, _, _, _, _, true, rfl, .ty "str", .base (.str _), kit_ty (by decide +kernel), _, rfl, iteT ?_⟩
    refine ⟨_, rfl, (by show 2 ≤ sizeLine; decide), fun p np => ?_⟩
    refine ⟨p, _, rfl, .inr (SqT.of upd_same), rfl, rfl, ?_⟩
    have hd := down_or_up e.d
    show Q (.bl (inV (.str (wayS e.d)) [.str "down", .str "up"])) _
    rw [hd]
    exact q _ (same_upd np)
def spEvent : Sp := fun vs H Q _ => ∃ (a : Addr) (e : Ev), vs = [.ref a] ∧ H a = some (.tup (evV e)) ∧ 0 ≤ e.k ∧ ∀ H', Same H H' → Q (.bl true) H'
theorem ok_is_event (bt : Bt mg) (a : At K mg "is_event" s_is_event ["value"]) (c_is_an_integer : Cl P w K mg base 1 "is_an_integer" spInt) (c_is_step : Cl P w K mg base 2 "is_step" spStep) : Cl P w K mg base 3 "is_event" spEvent := by
  refine clG a sc_is_event (fun vs H Q E h => ?_) (fun f cdv A outer s H vs Q hg hr h => ?_)
  · obtain ⟨a, e, rfl, _⟩ := h
    rfl
  · obtain ⟨a, e, rfl, ha, h0, q⟩ := h
    refine ⟨_, (pss_cons (ps_if (PW.pt (pw_or (pt_not (pt_val (pe_callB call_isi (by rfl) bt.m_isinstance (by decide +kernel) (pa_cons (pv 0) (pa_cons (pe_bltn (v := .ty "tuple") (by rfl) bt.m_tuple (by decide +kernel) rfl) pa_nil))))) (pw_or1 (pt_cmpR op_ne (pe_callB call_len_seq (by rfl) bt.m_len (by decide +kernel) (pa_cons (pv 0) pa_nil)) pe_int (nomark _))))) (pss_one (ps_ret pe_bl)) pss_nil)
      (pss_cons (ps_asg (pv 0) (pg_tup rfl (pgs_cons (pg_name (i := 1) sc_is_event.nd rfl (Or.inl rfl)) (pgs_cons (pg_name (i := 2) sc_is_event.nd rfl (Or.inl rfl)) (pgs_cons (pg_name (i := 3) sc_is_event.nd rfl (Or.inl rfl)) pgs_nil)))))
      (pss_one (ps_ret (pe_and (pe_cl c_is_an_integer hg hr (by decide) (by rfl) (pa_cons (pv 1) pa_nil)) (pe_one (pe_cl c_is_step hg hr (by decide) (by rfl) (pa_cons (pe_tup (pa_cons (pv 2) (pa_cons (pv 3) pa_nil))) pa_nil)))))))), ?_⟩
    refine ⟨_, rfl, _, _, _, _, true, rfl, .ty "tuple", .base (.tup ha), kit_ty (by decide +kernel), _, rfl, iteF ?_⟩
    refine ⟨_, rfl, a, _, rfl, .inr (SqT.of ha), rfl, _, rfl, iteF ?_⟩
    refine ⟨_, rfl, a, _, rfl, SqT.of ha, rfl, _, _, rfl, _, _, rfl, _, _, rfl, rfl, ?_⟩
    refine ⟨_, rfl, _, rfl, _, rfl, iteT ?_⟩
    refine ⟨_, rfl, _, rfl, (by show 2 ≤ sizeLine; decide), fun p np => ?_⟩
    exact ⟨p, e, rfl, upd_same, h0, fun H' s' => q H' ((same_upd np).trans s')⟩
def spShort : Sp := fun vs H Q _ => ∃ (a : Addr) (xs : List V), vs = [.ref a] ∧ H a = some (.lst xs) ∧ xs.length ≤ 400 ∧ Q (.bl true) H
theorem ok_is_short_list (bt : Bt mg) (tk : Tok) (m_MOST_EVENTS : mg "MOST_EVENTS" = some (.int 400 tk)) (a : At K mg "is_short_list" s_is_short_list ["value"]) : Cl P w K mg base 1 "is_short_list" spShort := by
  refine clG a sc_is_short_list (fun vs H Q E h => ?_) (fun f cdv A outer s H vs Q hg hr h => ?_)
  · obtain ⟨a, xs, rfl, _⟩ := h
    rfl
  · obtain ⟨a, xs, rfl, ha, hl, q⟩ := h
    refine ⟨_, (pss_one (ps_ret (pe_and (pe_callB call_isi (by rfl) bt.m_isinstance (by decide +kernel) (pa_cons (pv 0) (pa_cons (pe_bltn (v := .ty "list") (by rfl) bt.m_list (by decide +kernel) rfl) pa_nil))) (pe_one (pe_cmpR op_le (pe_callB call_len_seq (by rfl) bt.m_len (by decide +kernel) (pa_cons (pv 0) pa_nil)) (pe_glob (v := .int 400) (by rfl) m_MOST_EVENTS ⟨_, rfl⟩) (nomark _)))))), ?_⟩
    refine ⟨_, rfl, _, _, _, _, true, rfl, .ty "list", .base (.lst ha), kit_ty (by decide +kernel), _, rfl, iteT ?_⟩
    refine ⟨_, rfl, a, _, rfl, .inl (SqL.of ha), _, _, rfl, rfl, ?_⟩
    show Q (.bl (decide ((xs.length : Int) ≤ 400))) H
    rw [decide_eq_true (show (xs.length : Int) ≤ 400 by omega)]
    exact q
def spTurn : Sp := fun vs H Q _ => ∃ (d : Addr) (kvs : List (Key × V)) (k : Int) (b : Bool), vs = [.ref d, .int k, .str (wayS b)] ∧ H d = some (.dK kvs) ∧ kvs.length < sizeLine ∧
  (valV kvs (Sum.inl k)).getD (.bl false) = .bl (!b) ∧ Q (.bl true) (upd H d (.dK (putK kvs (Sum.inl k) (.bl b))))
theorem ok_takes_turn (a : At K mg "takes_turn" s_takes_turn ["held", "key", "way"]) : Cl P w K mg base 1 "takes_turn" spTurn := by
  refine clG a sc_takes_turn (fun vs H Q E h => ?_) (fun f cdv A outer s H vs Q hg hr h => ?_)
  · obtain ⟨d, kvs, k, b, rfl, _⟩ := h
    rfl
  · obtain ⟨d, kvs, k, b, rfl, hd, hl, hv, q⟩ := h
    refine ⟨_, (pss_cons (ps_set (i := 3) sc_takes_turn.nd rfl (Or.inl rfl) (pe_cmpR op_eq (pv 2) pe_str (nomark _)))
      (pss_cons (ps_if (pt_cmpR op_eq (pe_dget2 (hu_of hr) (pv 0) (pv 1) pe_bl ⟨rfl, rfl, rfl, rfl⟩) (pv 3) (nomark _)) (pss_one (ps_ret pe_bl)) pss_nil)
      (pss_cons (ps_dput (hu_of hr) (pv 0) (pv 1) (pv 3) rfl)
      (pss_one (ps_ret pe_bl))))), ?_⟩
    refine ⟨_, rfl, rfl, ?_⟩
    refine ⟨_, rfl, d, rfl, .inl ⟨kvs, .inl hd⟩, _, rfl, _, DGet.k (k := Sum.inl k) hd, ?_⟩
    rw [wayS_down, hv]
    refine ⟨_, rfl, rfl, _, rfl, ?_⟩
    rw [decide_eq_false (fun z => by have := V.bl.inj z; cases b <;> cases this)]
    refine iteF ?_
    exact ⟨_, rfl, _, rfl, _, rfl, d, _, rfl, DPut.k (k := Sum.inl k) hd hl, q⟩
def spBelow : Sp := fun vs H Q _ => ∃ k m : Int, vs = [.int k, .int m] ∧ k < m ∧ Q (.bl true) H
theorem ok_is_below (a : At K mg "is_below" s_is_below ["key", "many"]) : Cl P w K mg base 1 "is_below" spBelow := by
  refine clG a sc_is_below (fun vs H Q E h => ?_) (fun f cdv A outer s H vs Q hg hr h => ?_)
  · obtain ⟨k, m, rfl, _⟩ := h
    rfl
  · obtain ⟨k, m, rfl, hk, q⟩ := h
    refine ⟨_, (pss_one (ps_ret (pe_or (pe_cmpR op_isN (pv 1) pe_non (nomark _)) (pe_one (pe_cmpR op_lt (pv 0) (pv 1) (nomark _)))))), ?_⟩
    refine ⟨_, rfl, rfl, _, rfl, iteF ⟨_, rfl, _, rfl, _, _, rfl, rfl, ?_⟩⟩
    show Q (.bl (decide (k < m))) H
    rw [decide_eq_true hk]
    exact q
def spFollow : Sp := fun vs H Q _ => ∃ (b d : Addr) (e : Ev) (l : V) (kvs : List (Key × V)), vs = [.ref b, l, .ref d] ∧ H b = some (.tup (evV e)) ∧
  (l = .non ∨ ∃ (b' : Addr) (e' : Ev), l = .ref b' ∧ H b' = some (.tup (evV e')) ∧ e'.t ≤ e.t) ∧ H d = some (.dK kvs) ∧ kvs.length < sizeLine ∧
  (valV kvs (Sum.inl e.k)).getD (.bl false) = .bl (!e.d) ∧ Q (.bl true) (upd H d (.dK (putK kvs (Sum.inl e.k) (.bl e.d))))
theorem ok_can_follow (a : At K mg "can_follow" s_can_follow ["event", "last", "held"]) (c_takes_turn : Cl P w K mg base 1 "takes_turn" spTurn) : Cl P w K mg base 2 "can_follow" spFollow := by
  refine clG a sc_can_follow (fun vs H Q E h => ?_) (fun f cdv A outer s H vs Q hg hr h => ?_)
  · obtain ⟨b, d, e, l, kvs, rfl, _⟩ := h
    rfl
  · obtain ⟨b, d, e, l, kvs, rfl, hb, hl, hd, hz, hv, q⟩ := h
    refine ⟨_, (pss_cons (ps_if (PW.pt (pw_and (pt_cmpR op_notN (pv 1) pe_non (nomark _)) (pw_and1 (pt_cmpR op_lt (pe_ix ix_tup (pv 0) pe_int (fun _ _ => rfl)) (pe_ix ix_tup (pv 1) pe_int (fun _ _ => rfl)) (nomark _))))) (pss_one (ps_ret pe_bl)) pss_nil)
      (pss_one (ps_ret (pe_cl c_takes_turn hg hr (by decide) (by rfl) (pa_cons (pv 2) (pa_cons (pe_ix ix_tup (pv 0) pe_int (fun _ _ => rfl)) (pa_cons (pe_ix ix_tup (pv 0) pe_int (fun _ _ => rfl)) pa_nil))))))), ?_⟩
    rcases hl with rfl | ⟨b', e', rfl, hb', hle⟩
    · refine ⟨_, rfl, rfl, _, rfl, iteF ?_⟩
      refine ⟨_, rfl, _, rfl, b, _, _, _, rfl, rfl, SqT.of hb, atI_nat (j := 1) rfl, _, rfl, b, _, _, _, rfl, rfl, SqT.of hb, atI_nat (j := 2) rfl, ?_⟩
      exact ⟨d, kvs, e.k, e.d, rfl, hd, hz, hv, q⟩
    · refine ⟨_, rfl, rfl, _, rfl, iteT ?_⟩
      refine ⟨_, rfl, b, _, _, _, rfl, rfl, SqT.of hb, atI_nat (j := 0) rfl, _, rfl, b', _, _, _, rfl, rfl, SqT.of hb', atI_nat (j := 0) rfl, _, _, rfl, rfl, _, rfl, ite2 (fun z => ?_) (fun z => ?_)⟩
      · have z0 : e.t < e'.t := of_decide_eq_true z
        omega
      · refine ⟨_, rfl, _, rfl, b, _, _, _, rfl, rfl, SqT.of hb, atI_nat (j := 1) rfl, _, rfl, b, _, _, _, rfl, rfl, SqT.of hb, atI_nat (j := 2) rfl, ?_⟩
        exact ⟨d, kvs, e.k, e.d, rfl, hd, hz, hv, q⟩
def spCheck : Sp := fun vs H Q _ => ∃ (c : Addr) (m : Int) (es : List Ev), vs = [.ref c, .int m] ∧ Lst evV H c es ∧ Valid es ∧ es.length ≤ 400 ∧ (∀ e ∈ es, e.k < m) ∧ ∀ H', Same H H' → Q .non H'
theorem ok_check_record (bt : Bt mg) (a : AtX K mg "check_record" s_check_record ["value", "many"] []) (c_is_short_list : Cl P w K mg base 1 "is_short_list" spShort) (c_is_event : Cl P w K mg base 3 "is_event" spEvent) (c_can_follow : Cl P w K mg base 2 "can_follow" spFollow) (c_is_below : Cl P w K mg base 1 "is_below" spBelow) :
    Cl P w K mg base 4 "check_record" spCheck := by
  refine clX a sc_check_record (fun vs H Q E h => ?_) (fun f cdv A outer s H vs Q hg hr h => ?_)
  · obtain ⟨a, m, e, rfl, _⟩ := h
    rfl
  · obtain ⟨c, m, es, rfl, hL, hV, hl, hkm, q⟩ := h
    refine ⟨_, (pss_cons (ps_if (pt_not (pt_val (pe_cl c_is_short_list hg hr (by decide) (by rfl) (pa_cons (pv 0) pa_nil)))) pss_never pss_nil)
      (pss_cons (ps_set (i := 2) sc_check_record.nd rfl (Or.inl rfl) pe_dnewK)
      (pss_one (ps_for PassesOwn.never rfl (pi_enum (by rfl) bt.m_enumerate (pa_cons (pv 0) pa_nil)) (pg_tup rfl (pgs_cons (pg_name (i := 3) sc_check_record.nd rfl (Or.inl rfl)) (pgs_cons (pg_name (i := 4) sc_check_record.nd rfl (Or.inl rfl)) pgs_nil))) (pss_cons (ps_if (PW.pt (pw_or (pt_not (pt_val (pe_cl c_is_event hg hr (by decide) (by rfl) (pa_cons (pv 4) pa_nil)))) (pw_or1 (pt_not (pt_val (pe_cl c_is_below hg hr (by decide) (by rfl) (pa_cons (pe_ix ix_tup (pv 4) pe_int (fun _ _ => rfl)) (pa_cons (pv 1) pa_nil)))))))) pss_never pss_nil)
      (pss_one (ps_if (pt_not (pt_val (pe_cl c_can_follow hg hr (by decide) (by rfl) (pa_cons (pv 4) (pa_cons (pe_ifExp (pt_cmpR op_gt (pv 3) pe_int (nomark _)) (pe_ix ix_list (pv 0) (pe_op op_sub (pv 3) pe_int) (fun _ _ => rfl)) pe_non) (pa_cons (pv 2) pa_nil)))))) pss_never pss_nil))))))), ?_⟩
    obtain ⟨as, hc, hT⟩ := hL
    have hlen : (as.map V.ref).length = es.length := by rw [List.length_map]; exact hT.1
    refine ⟨_, rfl, c, _, rfl, hc, by omega, _, rfl, iteF ?_⟩
    intro d nd
    refine ⟨_, rfl, c, _, rfl, SqL.of ((same_upd nd) _ _ hc), for_it (walk_enum (xs := as.map V.ref))
      (fun i σ H' => Same H H' ∧ ∃ kvs y2 y3, σ = [some (.ref c), some (.int m), some (.ref d), y2, y3] ∧ H' d = some (.dK kvs) ∧ kvs.length ≤ i ∧ HeldK kvs (heldB (es.take i)))
      ⟨same_upd nd, _, _, _, rfl, upd_same, Nat.le_refl _, HeldK.nil⟩ (fun _ _ H' _ p => SqL.of (p.1 _ _ hc)) (fun i x σ H1 H2 hi p y => ?_) (fun σ H1 p => ?_)⟩
    · obtain ⟨s1, kvs, y2, y3, rfl, hd, hkl, hk⟩ := p
      obtain ⟨T, u, v, rfl, nT, rfl, e1, e2⟩ := y
      have hi' : i < es.length := by omega
      obtain ⟨b, hb, hbt⟩ := hT.at_ hi'
      have he : es[i]? = some es[i] := List.getElem?_eq_getElem hi'
      obtain ⟨v1, v2, v3⟩ := hV i _ he
      have e2' : v = .ref b := by
        have e2 : (as.map V.ref)[i]? = some v := e2
        rw [List.getElem?_map, hb] at e2
        exact (Option.some.inj e2).symm
      subst e2'
      have e1' : u = .int (i : Nat) := (Option.some.inj e1).symm
      subst e1'
      have s2 : Same H (upd H1 T (.tup [.int (i : Nat), .ref b])) := s1.trans (same_upd nT)
      have hb2 := s2 _ _ hbt
      refine ⟨T, _, rfl, SqT.of upd_same, rfl, _, _, rfl, _, _, rfl, rfl, ?_⟩
      refine ⟨_, rfl, b, _, rfl, hb2, v1, fun H3 s3 => ?_⟩
      have s4 := s2.trans s3
      have hb4 := s4 _ _ hbt
      refine ⟨_, rfl, iteF ?_⟩
      have hkk := hkm _ (List.getElem_mem hi')
      refine ⟨_, rfl, b, _, _, _, rfl, rfl, SqT.of hb4, atI_nat (j := 1) rfl, _, rfl, es[i].k, m, rfl, hkk, _, rfl, iteF ?_⟩
      have hd4 : H3 d = some (.dK kvs) := s3 _ _ ((same_upd nT) _ _ hd)
      have fin : Same H (upd H3 d (.dK (putK kvs (Sum.inl es[i].k) (.bl es[i].d)))) ∧ ∃ kvs' y2 y3, [some (V.ref c), some (V.int m), some (V.ref d), some (V.int (i : Nat)), some (V.ref b)] = [some (V.ref c), some (V.int m), some (V.ref d), y2, y3] ∧
          upd H3 d (.dK (putK kvs (Sum.inl es[i].k) (.bl es[i].d))) d = some (.dK kvs') ∧ kvs'.length ≤ i + 1 ∧ HeldK kvs' (heldB (es.take (i + 1))) := by
        refine ⟨Same.off s4 nd off_upd, _, _, _, rfl, upd_same, ?_, ?_⟩
        · have := put_len kvs (Sum.inl es[i].k) (.bl es[i].d); omega
        · rw [List.take_add_one, he]
          exact hk.put
      have hv : (valV kvs (Sum.inl es[i].k)).getD (.bl false) = .bl (!es[i].d) := by rw [hk.at_, v2]
      have hz : kvs.length < sizeLine := small1000 (by omega)
      refine ⟨_, rfl, _, rfl, _, _, rfl, rfl, _, rfl, ite2 (fun e => ?_) (fun e => ?_)⟩
      · have e0 : (0 : Int) < (i : Nat) := of_decide_eq_true e
        obtain ⟨b', hb', hbt'⟩ := hT.at_ (i := i - 1) (by omega)
        have hle := v3 (i - 1) _ (by omega) (List.getElem?_eq_getElem (by omega))
        have g : (as.map V.ref)[i - 1]? = some (.ref b') := by rw [List.getElem?_map, hb']; rfl
        refine ⟨_, rfl, _, rfl, _, _, rfl, rfl, c, _, _, .ref b', rfl, rfl, SqL.of (s4 _ _ hc), at_of (j := i - 1) (by omega) g, _, rfl, ?_⟩
        exact ⟨b, d, es[i], .ref b', kvs, rfl, hb4, .inr ⟨b', _, rfl, s4 _ _ hbt', hle⟩, hd4, hz, hv, _, rfl, iteF fin⟩
      · exact ⟨_, rfl, b, d, es[i], .non, kvs, rfl, hb4, .inl rfl, hd4, hz, hv, _, rfl, iteF fin⟩
    · exact q _ p.1
end
end K84

set_option Elab.async false
set_option linter.all false
set_option maxRecDepth 100000
set_option maxHeartbeats 8000000
namespace K84
open PySem PySem.Spec PyProof.Rows L2 Gd Rm La Cb
open Pl (timeOf)
theorem signs_len : signs.cps.toList.length = 36 := by decide +kernel
theorem getS {d : Int} (h0 : 0 ≤ d) (h1 : d < 36) : ∃ c, atI signs.cps.toList d = some c ∧ c ∈ signs.cps.toList := by
  have hl := signs_len
  obtain ⟨k, rfl⟩ : ∃ k : Nat, d = (k : Int) := ⟨d.toNat, by omega⟩
  have hd : k < signs.cps.toList.length := by omega
  exact ⟨signs.cps.toList[k], atI_nat (List.getElem?_eq_getElem hd), List.getElem_mem hd⟩
def codes14 : List Str := ["a", "b", "x", "1", "esc", "none", "through", "press", "tap", "hold", "code", "layer", "q9", "zzzzzzzz"]
def codes8 : List Str := ["00000000", "0", "lock", "once", "dual", "release", "down", "up"]
theorem codes_ok : ∀ c ∈ codes14 ++ codes8, CodeOk c := by decide +kernel
theorem codes_len : (codes14 ++ codes8).length = 22 := rfl
theorem getC {d : Int} (h0 : 0 ≤ d) (h1 : d < 22) : ∃ c, atI (codes14.map V.str ++ codes8.map V.str) d = some (.str c) ∧ CodeOk c := by
  have hl := codes_len
  have hd : d.toNat < (codes14 ++ codes8).length := by omega
  refine ⟨(codes14 ++ codes8)[d.toNat], ?_, codes_ok _ (List.getElem_mem hd)⟩
  rw [← List.map_append]
  refine at_of (j := d.toNat) (by omega) ?_
  rw [List.getElem?_map, List.getElem?_eq_getElem hd]
  rfl
theorem getW {ws : List Str} {d : Int} (h0 : 0 ≤ d) (h1 : d < (ws.length : Int)) : ∃ c, atI (ws.map V.str) d = some (.str c) ∧ c ∈ ws := by
  have hd : d.toNat < ws.length := by omega
  refine ⟨ws[d.toNat], ?_, List.getElem_mem hd⟩
  refine at_of (j := d.toNat) (by omega) ?_
  rw [List.getElem?_map, List.getElem?_eq_getElem hd]
  rfl
theorem sum_one : ∀ cs : List Nat, ((cs.map fun c => (⟨#[c]⟩ : Str)).map fun x => x.length).sum = cs.length
  | [] => rfl
  | c :: r => by
    have ih := sum_one r
    rw [List.map_cons, List.map_cons, List.sum_cons, ih, List.length_cons]
    show 1 + r.length = _
    omega
section
variable {P : Program} {w : World} {K : PySem.W.Frag} {mg : Str → Option Value} {base : Heap}
def spLCode : Sp := fun vs H Q _ => ∃ (r : Addr) (n : Nat), vs = [.ref r] ∧ Reel H r n ∧ n + 100 < most ∧
  ∀ (H' : Hp) (c : Str), Off r H H' → Reel H' r (n + 20) → CodeOk c → Q (.str c) H'
theorem ok__law_code (bt : Bt mg) (a : At K mg "_law_code" s__law_code ["_law_reel_here"]) (c__law_spin : Cl P w K mg base 1 "_law_spin" spSpin) : Cl P w K mg base 2 "_law_code" spLCode := by
  refine clG a sc__law_code (fun vs H Q E h => ?_) (fun f cdv A outer s H vs Q hg hr h => ?_)
  · obtain ⟨r, n, rfl, _⟩ := h
    rfl
  · obtain ⟨r, n, rfl, hR, hn, q⟩ := h
    have hn : n + 100 < 1000000000 := hn
    refine ⟨_, (pss_cons (ps_set (i := 1) sc__law_code.nd rfl (Or.inl rfl) (pe_lst (pa_cons pe_str (pa_cons pe_str (pa_cons pe_str (pa_cons pe_str (pa_cons pe_str (pa_cons pe_str (pa_cons pe_str (pa_cons pe_str (pa_cons pe_str (pa_cons pe_str (pa_cons pe_str (pa_cons pe_str (pa_cons pe_str (pa_cons pe_str pa_nil))))))))))))))))
      (pss_cons (ps_set (i := 1) sc__law_code.nd rfl (Or.inl rfl) (pe_op op_cat (pv 1) (pe_lst (pa_cons pe_str (pa_cons pe_str (pa_cons pe_str (pa_cons pe_str (pa_cons pe_str (pa_cons pe_str (pa_cons pe_str (pa_cons pe_str pa_nil)))))))))))
      (pss_cons (ps_set (i := 2) sc__law_code.nd rfl (Or.inl rfl) (pe_cl c__law_spin hg hr (by decide) (by rfl) (pa_cons (pv 0) (pa_cons pe_int pa_nil))))
      (pss_cons (ps_if (pt_cmpR op_lt (pv 2) pe_int (nomark _)) (pss_one (ps_ret (pe_ix ix_list (pv 1) (pv 2) (fun _ _ => rfl)))) pss_nil)
      (pss_cons (ps_asg (pe_tup (pa_cons (pe_op op_add pe_int (pe_cl c__law_spin hg hr (by decide) (by rfl) (pa_cons (pv 0) (pa_cons pe_int pa_nil)))) (pa_cons pe_str pa_nil))) (pg_tup rfl (pgs_cons (pg_name (i := 3) sc__law_code.nd rfl (Or.inl rfl)) (pgs_cons (pg_name (i := 4) sc__law_code.nd rfl (Or.inr rfl)) pgs_nil))))
      (pss_one (ps_ret (pe_bm PySem.F.plainAttrs_str PySem.F.slot_str_join PySem.F.type_str_join mt_join pe_str (pa_cons (pe_lc (own := [("_law_turn", 5)]) (g := (gName 5)) (by rfl) sc__law_code.nd (pi_range1 (by rfl) bt.m_range (pa_cons (pv 3) pa_nil)) (blkOk_by (N := n__law_code) (sc := defScope s__law_code) (by decide +kernel)) (fun _ _ _ _ _ => (pg_name (i := 5) sc__law_code.nd rfl (Or.inl rfl))) (fun _ _ _ _ _ => pts_nil) (fun _ _ _ _ _ => (pe_ix ix_str (pv 4) (pe_cl c__law_spin hg hr (by decide) (by rfl) (pa_cons (pv 0) (pa_cons pe_int pa_nil))) (fun _ _ => rfl)))) pa_nil))))))))), ?_⟩
    refine ⟨(by show 14 ≤ sizeLine; decide), fun S nS => ⟨_, rfl, (by show 8 ≤ sizeLine; decide), fun T nT => ⟨S, T, _, _, rfl, rfl, (same_upd nT) _ _ upd_same, upd_same, (by show 14 + 8 ≤ sizeLine; decide), fun U nU => ?_⟩⟩⟩
    have s1 : Same H (upd (upd (upd H S (.lst (codes14.map V.str))) T (.lst (codes8.map V.str))) U (.lst (codes14.map V.str ++ codes8.map V.str))) := ((same_upd nS).trans (same_upd nT)).trans (same_upd nU)
    have hU : upd (upd (upd H S (.lst (codes14.map V.str))) T (.lst (codes8.map V.str))) U (.lst (codes14.map V.str ++ codes8.map V.str)) U = some (.lst (codes14.map V.str ++ codes8.map V.str)) := upd_same
    have hN : H U = none := ((same_upd nS).trans (same_upd nT)).free nU
    refine (fun (G : ∀ H1, Same H H1 → H1 U = some (.lst (codes14.map V.str ++ codes8.map V.str)) → _) => G _ s1 hU) (fun H1 s1 hU => ?_)
    have R1 := hR.same s1
    have Ur : U ≠ r := by
      obtain ⟨_, _, _, hr2, _⟩ := id hR
      exact (ne_of_none hr2 hN).symm
    refine ⟨_, rfl, r, 27, n, rfl, by decide, by decide, by show _ < 1000000000; omega, R1, fun d H2 d0 d1 R2 o2 => ?_⟩
    have hU2 := o2 _ _ hU Ur
    have oH2 : Off r H H2 := (Off.of s1).trans o2
    refine ⟨_, rfl, _, _, rfl, rfl, _, rfl, ite2 (fun e => ?_) (fun e => ?_)⟩
    · have e0 : d < 22 := of_decide_eq_true e
      obtain ⟨c, hc, ok⟩ := getC d0 e0
      exact ⟨_, rfl, _, rfl, U, _, d, .str c, rfl, rfl, SqL.of hU2, hc, q _ c oH2 (R2.mono (by omega)) ok⟩
    · refine ⟨_, rfl, r, 8, n + 1, rfl, by decide, by decide, by show _ < 1000000000; omega, R2, fun m H3 m0 m1 R3 o3 => ⟨_, _, rfl, rfl, (by show 2 ≤ sizeLine; decide), fun p np => ⟨p, _, rfl, SqT.of upd_same, rfl, _, _, rfl, _, _, rfl, rfl, ?_⟩⟩⟩
      have R4 : Reel (upd H3 p (.tup [.int (1 + m), .str signs])) r (n + 2) := R3.same (same_upd np)
      have o4 : Off r H (upd H3 p (.tup [.int (1 + m), .str signs])) := (oH2.trans o3).sameTrans (same_upd np)
      refine (fun (G : ∀ H4, Reel H4 r (n + 2) → Off r H H4 → _) => G _ R4 o4) (fun H4 R4 o4 => ?_)
      refine ⟨rfl, _, rfl, 1 + m, rfl, by omega, by omega, fun M nM => lc_it walk_range (fun i H' => Off r H4 H' ∧ Reel H' r (n + 2 + i) ∧ ∃ cs : List Nat, H' M = some (.lst ((cs.map fun c => (⟨#[c]⟩ : Str)).map V.str)) ∧ cs.length = i ∧ ∀ c ∈ cs, c ∈ signs.cps.toList) ?_ (fun _ _ _ _ => True.intro) (fun i x H5 H6 hi p y => ?_) (fun H5 p => ?_)⟩
      · exact ⟨Off.of (same_upd nM), R4.same (same_upd nM), [], upd_same, rfl, fun c h => by simp at h⟩
      · obtain ⟨rfl, rfl⟩ := y
        obtain ⟨o5, R5, cs, hM, hl, hcs⟩ := p
        have Mr : M ≠ r := by
          obtain ⟨_, _, _, hr2, _⟩ := id R4
          exact (ne_of_none hr2 nM).symm
        have hi8 : i < 8 := by omega
        refine ⟨rfl, ⟨_, rfl, _, rfl, r, 36, n + 2 + i, rfl, by decide, by decide, by show _ < 1000000000; omega, R5, fun d' H7 d0' d1' R7 o7 => ?_⟩⟩
        obtain ⟨c, hc, hm⟩ := getS d0' d1'
        refine ⟨signs, d', c, rfl, rfl, (by decide +kernel), hc, _, o7 _ _ hM Mr, ?_, ?_⟩
        · rw [List.length_map, List.length_map]; exact small1000 (by omega)
        · refine ⟨(o5.trans o7).new nM, ?_, cs ++ [c], ?_, by rw [List.length_append, hl]; rfl, fun x hx => ?_⟩
          · obtain ⟨x, y, z, g, g'⟩ := R7
            exact ⟨x, y, z, by rw [upd_ne Mr.symm]; exact g, g'⟩
          · rw [upd_same, List.map_append, List.map_append]; rfl
          · rcases List.mem_append.mp hx with z | z
            · exact hcs x z
            · rw [List.mem_singleton.mp z]; exact hm
      · obtain ⟨o5, R5, cs, hM, hl, hcs⟩ := p
        refine ⟨"", M, cs.map fun c => ⟨#[c]⟩, rfl, rfl, .inl (SqL.of hM), ?_, ?_⟩
        · rw [sum_one, List.length_map]
          show _ + _ * 0 ≤ 16777216
          omega
        · refine q _ _ (o4.trans o5) (R5.mono (by omega)) (code_join (by omega) (by omega) hcs)
end
def holdOk (H : Hp) (n : Int) (b : Addr) : Prop := (∃ d, H b = some (.tup [.str "code", .str d]) ∧ CodeOk d) ∨ (∃ j, H b = some (.tup [.str "layer", .int j]) ∧ 1 ≤ j ∧ j ≤ n - 1)
theorem holdOk.keep {H H' : Hp} {n : Int} {b : Addr} (h : holdOk H n b) (t : Tk H H') : holdOk H' n b := by
  rcases h with ⟨d, a, c⟩ | ⟨j, a, c⟩
  · exact .inl ⟨d, t _ _ a, c⟩
  · exact .inr ⟨j, t _ _ a, c⟩
theorem small40 {n : Int} (h : n ≤ 1000000000) : n < 10 ^ 40 := Int.lt_of_le_of_lt h (by decide)
section
variable {P : Program} {w : World} {K : PySem.W.Frag} {mg : Str → Option Value} {base : Heap}
def spLAct : Sp := fun vs H Q _ => ∃ (r : Addr) (k : Nat) (i n g : Int), vs = [.ref r, .int i, .int n, .int g] ∧ Reel H r k ∧ k + 1000 < most ∧ 0 ≤ i ∧ 1 ≤ n ∧ n ≤ 1000 ∧ 1 ≤ g ∧ g ≤ 1000000000 ∧
  ∀ (H' : Hp) (v : V) (x : Actn), Off r H H' → Reel H' r (k + 100) → ActV H' x v → ActOk n i x → timeOf x ≤ g → Q v H'
theorem ok__law_action (bt : Bt mg) (a : At K mg "_law_action" s__law_action ["_law_reel_here", "_law_layer", "_law_layers", "_law_longest"]) (c__law_spin : Cl P w K mg base 1 "_law_spin" spSpin) (c__law_code : Cl P w K mg base 2 "_law_code" spLCode) : Cl P w K mg base 3 "_law_action" spLAct := by
  refine clG a sc__law_action (fun vs H Q E h => ?_) (fun f cdv A outer s H vs Q hg hr h => ?_)
  · obtain ⟨r, k, i, n, g, rfl, _⟩ := h
    rfl
  · obtain ⟨r, k, i, n, g, rfl, hR, hk, hi, hn, hn2, hg1, hg2, q⟩ := h
    have hk : k + 1000 < 1000000000 := hk
    refine ⟨_, (pss_cons (ps_set (i := 4) sc__law_action.nd rfl (Or.inl rfl) (pe_cl c__law_spin hg hr (by decide) (by rfl) (pa_cons (pv 0) (pa_cons pe_int pa_nil))))
      (pss_cons (ps_if (pt_cmpR op_lt (pv 4) pe_int (nomark _)) (pss_one (ps_ret (pe_tup (pa_cons pe_str (pa_cons (pe_cl c__law_code hg hr (by decide) (by rfl) (pa_cons (pv 0) pa_nil)) pa_nil))))) pss_nil)
      (pss_cons (ps_if (pt_cmpR op_eq (pv 4) pe_int (nomark _)) (pss_one (ps_ret pe_str)) pss_nil)
      (C8.pss_cut (ps_if (PW.pt (pw_and (pt_cmpR op_lt (pv 4) pe_int (nomark _)) (pw_and1 (pt_cmpR op_gt (pv 1) pe_int (nomark _))))) (pss_one (ps_ret pe_str)) pss_nil)
      (C8.pss_cut (ps_if (PW.pt (pw_and (pt_cmpR op_lt (pv 4) pe_int (nomark _)) (pw_and1 (pt_cmpR op_gt (pv 2) pe_int (nomark _))))) (pss_one (ps_ret (pe_tup (pa_cons (pe_ix ix_list (pe_lst (pa_cons pe_str (pa_cons pe_str (pa_cons pe_str pa_nil)))) (pe_cl c__law_spin hg hr (by decide) (by rfl) (pa_cons (pv 0) (pa_cons pe_int pa_nil))) (fun _ _ => rfl)) (pa_cons (pe_op op_add pe_int (pe_cl c__law_spin hg hr (by decide) (by rfl) (pa_cons (pv 0) (pa_cons (pe_op op_sub (pv 2) pe_int) pa_nil)))) pa_nil))))) pss_nil)
      (pss_cons (ps_set (i := 5) sc__law_action.nd rfl (Or.inl rfl) (pe_tup (pa_cons pe_str (pa_cons (pe_cl c__law_code hg hr (by decide) (by rfl) (pa_cons (pv 0) pa_nil)) pa_nil))))
      (C8.pss_cut (ps_if (PW.pt (pw_and (pt_cmpR op_gt (pv 2) pe_int (nomark _)) (pw_and1 (pt_cmpR op_gt (pe_cl c__law_spin hg hr (by decide) (by rfl) (pa_cons (pv 0) (pa_cons pe_int pa_nil))) pe_int (nomark _))))) (pss_one (ps_set (i := 5) sc__law_action.nd rfl (Or.inl rfl) (pe_tup (pa_cons pe_str (pa_cons (pe_op op_add pe_int (pe_cl c__law_spin hg hr (by decide) (by rfl) (pa_cons (pv 0) (pa_cons (pe_op op_sub (pv 2) pe_int) pa_nil)))) pa_nil))))) pss_nil)
      (pss_cons (ps_set (i := 6) sc__law_action.nd rfl (Or.inl rfl) (pe_ix ix_list (pe_lst (pa_cons (pe_op op_add pe_int (pe_cl c__law_spin hg hr (by decide) (by rfl) (pa_cons (pv 0) (pa_cons (pe_callB (call_min2 rfl) (by rfl) bt.m_min (by decide +kernel) (pa_cons pe_int (pa_cons (pv 3) pa_nil))) pa_nil)))) (pa_cons (pe_op op_add pe_int (pe_cl c__law_spin hg hr (by decide) (by rfl) (pa_cons (pv 0) (pa_cons (pv 3) pa_nil)))) (pa_cons (pv 3) pa_nil)))) (pe_cl c__law_spin hg hr (by decide) (by rfl) (pa_cons (pv 0) (pa_cons pe_int pa_nil))) (fun _ _ => rfl)))
      (pss_one (ps_ret (pe_tup (pa_cons pe_str (pa_cons (pe_cl c__law_code hg hr (by decide) (by rfl) (pa_cons (pv 0) pa_nil)) (pa_cons (pv 5) (pa_cons (pv 6) (pa_cons (pe_ix ix_list (pe_lst (pa_cons pe_str (pa_cons pe_str (pa_cons pe_str pa_nil)))) (pe_cl c__law_spin hg hr (by decide) (by rfl) (pa_cons (pv 0) (pa_cons pe_int pa_nil))) (fun _ _ => rfl)) pa_nil)))))))))))))))), ?_⟩
    refine ⟨_, rfl, r, 12, k, rfl, by decide, by decide, by show _ < 1000000000; omega, hR, fun way H1 w0 w1 R1 o1 => ?_⟩
    refine ⟨_, rfl, _, _, rfl, rfl, _, rfl, ite2 (fun e => ?_) (fun e => ?_)⟩
    · refine ⟨_, rfl, r, k + 1, rfl, R1, by show _ < 1000000000; omega, fun H2 c o2 R2 ok => ⟨(by show 2 ≤ sizeLine; decide), fun p np => ?_⟩⟩
      exact q _ _ (.code c) ((o1.trans o2).sameTrans (same_upd np)) ((R2.same (same_upd np)).mono (by omega)) ⟨p, rfl, upd_same⟩ ok (by show (0 : Int) ≤ g; omega)
    clear e
    refine ⟨_, rfl, rfl, _, rfl, ite2 (fun e => q _ _ .none o1 (R1.mono (by omega)) rfl True.intro (by show (0 : Int) ≤ g; omega)) (fun e => ?_)⟩
    clear e
    refine ⟨fun σ' H' => σ' = [some (.ref r), some (.int i), some (.int n), some (.int g), some (.int way), none, none] ∧ H' = H1, ?_, ?_⟩
    · refine ⟨_, rfl, _, _, rfl, rfl, _, rfl, ite2 (fun e => ?_) (fun e => iteF ⟨rfl, rfl⟩)⟩
      refine ⟨_, rfl, _, _, rfl, rfl, _, rfl, ite2 (fun e => ?_) (fun e => ⟨rfl, rfl⟩)⟩
      have e0 : 0 < i := of_decide_eq_true e
      exact q _ _ .thr o1 (R1.mono (by omega)) rfl e0 (by show (0 : Int) ≤ g; omega)
    rintro σ' H1 ⟨rfl, rfl⟩
    refine ⟨fun σ' H' => σ' = [some (.ref r), some (.int i), some (.int n), some (.int g), some (.int way), none, none] ∧ H' = H1, ?_, ?_⟩
    · refine ⟨_, rfl, _, _, rfl, rfl, _, rfl, ite2 (fun e => ?_) (fun e => iteF ⟨rfl, rfl⟩)⟩
      refine ⟨_, rfl, _, _, rfl, rfl, _, rfl, ite2 (fun e => ?_) (fun e => ⟨rfl, rfl⟩)⟩
      have e0 : 1 < n := of_decide_eq_true e
      refine ⟨(by show 3 ≤ sizeLine; decide), fun M nM => ⟨_, rfl, r, 3, k + 1, rfl, by decide, by decide, by show _ < 1000000000; omega, R1.same (same_upd nM), fun d H2 d0 d1 R2 o2 => ?_⟩⟩
      have Mr : M ≠ r := by
        obtain ⟨_, _, _, hr2, _⟩ := id R1
        exact (ne_of_none hr2 nM).symm
      have hM := o2 _ _ (upd_same (H := H1) (a := M) (o := .lst (layWords.map V.str))) Mr
      obtain ⟨c, hc, hm⟩ := getW (ws := layWords) d0 d1
      refine ⟨M, _, d, .str c, rfl, rfl, SqL.of hM, hc, _, rfl, _, rfl, _, _, rfl, rfl, r, n - 1, k + 2, rfl, by omega, small40 (by omega), by show _ < 1000000000; omega, R2, fun j H3 j0 j1 R3 o3 => ⟨_, _, rfl, rfl, (by show 2 ≤ sizeLine; decide), fun p np => ?_⟩⟩
      exact q _ _ (.lay c (1 + j)) (((((o1.sameTrans (same_upd nM)).trans o2).trans o3)).sameTrans (same_upd np)) ((R3.same (same_upd np)).mono (by omega)) ⟨p, rfl, upd_same⟩ ⟨hm, by omega, by omega⟩ (by show (0 : Int) ≤ g; omega)
    rintro σ' H1 ⟨rfl, rfl⟩
    refine ⟨_, rfl, r, k + 1, rfl, R1, by show _ < 1000000000; omega, fun H2 c o2 R2 ok => ⟨(by show 2 ≤ sizeLine; decide), fun p np => ?_⟩⟩
    have h3 : holdOk (upd H2 p (.tup [.str "code", .str c])) n p := .inl ⟨c, upd_same, ok⟩
    have o3 : Off r H (upd H2 p (.tup [.str "code", .str c])) := (o1.trans o2).sameTrans (same_upd np)
    have R3 : Reel (upd H2 p (.tup [.str "code", .str c])) r (k + 1 + 20) := R2.same (same_upd np)
    refine (fun (G : ∀ H3, holdOk H3 n p → Off r H H3 → Reel H3 r (k + 1 + 20) → _) => G _ h3 o3 R3) (fun H3 h3 o3 R3 => ?_)
    refine ⟨fun σ' H' => ∃ b, σ' = [some (.ref r), some (.int i), some (.int n), some (.int g), some (.int way), some (.ref b), none] ∧ Off r H H' ∧ Reel H' r (k + 30) ∧ holdOk H' n b, ?_, ?_⟩
    · refine ⟨_, rfl, _, _, rfl, rfl, _, rfl, ite2 (fun e => ?_) (fun e => iteF ⟨p, rfl, o3, R3.mono (by omega), h3⟩)⟩
      have e0 : 1 < n := of_decide_eq_true e
      refine ⟨_, rfl, r, 3, k + 1 + 20, rfl, by decide, by decide, by show _ < 1000000000; omega, R3, fun d H4 d0 d1 R4 o4 => ⟨_, _, rfl, rfl, _, rfl, ite2 (fun e => ?_) (fun e => ⟨p, rfl, o3.trans o4, R4.mono (by omega), h3.keep (R3.tk o4)⟩)⟩⟩
      refine ⟨_, rfl, _, rfl, _, _, rfl, rfl, r, n - 1, k + 1 + 20 + 1, rfl, by omega, small40 (by omega), by show _ < 1000000000; omega, R4, fun j H5 j0 j1 R5 o5 => ⟨_, _, rfl, rfl, (by show 2 ≤ sizeLine; decide), fun p2 np2 => ?_⟩⟩
      exact ⟨p2, rfl, ((o3.trans o4).trans o5).sameTrans (same_upd np2), (R5.same (same_upd np2)).mono (by omega), .inr ⟨1 + j, upd_same, by omega, by omega⟩⟩
    rintro σ' H4 ⟨b, rfl, o4, R4, h4⟩
    have gm : ∀ x : Int, 0 < (if g < x then g else x) ∨ x ≤ 0 := fun x => by split <;> omega
    refine ⟨_, rfl, _, rfl, _, _, rfl, r, (if g < 4 then g else 4), k + 30, rfl, by split <;> omega, small40 (by split <;> omega), by show _ < 1000000000; omega, R4, fun t1 H5 a0 a1 R5 o5 => ⟨_, _, rfl, rfl, ?_⟩⟩
    refine ⟨_, rfl, _, rfl, r, g, k + 30 + 1, rfl, by omega, small40 hg2, by show _ < 1000000000; omega, R5, fun t2 H6 b0 b1 R6 o6 => ⟨_, _, rfl, rfl, _, rfl, (by show 3 ≤ sizeLine; decide), fun M nM => ?_⟩⟩
    refine ⟨_, rfl, r, 3, k + 30 + 1 + 1, rfl, by decide, by decide, by show _ < 1000000000; omega, R6.same (same_upd nM), fun d H7 d0 d1 R7 o7 => ?_⟩
    have Mr : M ≠ r := by
      obtain ⟨_, _, _, hr2, _⟩ := id R6
      exact (ne_of_none hr2 nM).symm
    have hM := o7 _ _ (upd_same (H := H6) (a := M) (o := .lst ([1 + t1, 1 + t2, g].map V.int))) Mr
    obtain ⟨t, ht, hm⟩ := getI (ns := [1 + t1, 1 + t2, g]) d0 d1
    have tb : 1 ≤ t ∧ t ≤ 1000000000 := by
      have hm' := List.mem_of_getElem? hm
      simp only [List.mem_cons, List.mem_nil_iff, or_false] at hm'
      have a1' : t1 < 4 := by
        revert a1
        split <;> omega
      have a2' : t1 < g := by
        revert a1
        split <;> omega
      omega
    have tg : t ≤ g := by
      have hm' := List.mem_of_getElem? hm
      simp only [List.mem_cons, List.mem_nil_iff, or_false] at hm'
      have a1' : t1 < 4 := by
        revert a1
        split <;> omega
      have a2' : t1 < g := by
        revert a1
        split <;> omega
      omega
    refine ⟨M, _, d, .int t, rfl, rfl, SqL.of hM, ht, ?_⟩
    have o07 : Off r H H7 := (((o4.trans o5).trans o6).sameTrans (same_upd nM)).trans o7
    have h7 : holdOk H7 n b := (((h4.keep (R4.tk o5)).keep (R5.tk o6)).keep (Tk.of (same_upd nM))).keep ((R6.same (same_upd nM)).tk o7)
    refine ⟨_, rfl, r, k + 40, rfl, R7.mono (by omega), by show _ < 1000000000; omega, fun H8 c2 o8 R8 ok2 => ⟨_, rfl, _, rfl, (by show 3 ≤ sizeLine; decide), fun W nW => ?_⟩⟩
    refine ⟨_, rfl, r, 3, k + 40 + 20, rfl, by decide, by decide, by show _ < 1000000000; omega, R8.same (same_upd nW), fun d' H9 d0' d1' R9 o9 => ?_⟩
    have Wr : W ≠ r := by
      obtain ⟨_, _, _, hr2, _⟩ := id R8
      exact (ne_of_none hr2 nW).symm
    have hW := o9 _ _ (upd_same (H := H8) (a := W) (o := .lst (rules.map V.str))) Wr
    obtain ⟨u, hu, hmu⟩ := getW (ws := rules) d0' d1'
    refine ⟨W, _, d', .str u, rfl, rfl, SqL.of hW, hu, (by show 5 ≤ sizeLine; decide), fun z nz => ?_⟩
    have h9 : holdOk (upd H9 z (.tup [.str "dual", .str c2, .ref b, .int t, .str u])) n b := (((h7.keep (R7.tk o8)).keep (Tk.of (same_upd nW))).keep ((R8.same (same_upd nW)).tk o9)).keep (Tk.of (same_upd nz))
    have o10 : Off r H (upd H9 z (.tup [.str "dual", .str c2, .ref b, .int t, .str u])) := ((((o07.trans o8).sameTrans (same_upd nW)).trans o9)).sameTrans (same_upd nz)
    have R10 : Reel (upd H9 z (.tup [.str "dual", .str c2, .ref b, .int t, .str u])) r (k + 100) := (R9.same (same_upd nz)).mono (by omega)
    rcases h9 with ⟨y, hy, oky⟩ | ⟨y, hy, y1, y2⟩
    · exact q _ _ (.dualC c2 y t u) o10 R10 ⟨z, b, rfl, upd_same, hy⟩ ⟨ok2, oky, tb, hmu⟩ tg
    · exact q _ _ (.dualL c2 y t u) o10 R10 ⟨z, b, rfl, upd_same, hy⟩ ⟨ok2, ⟨y1, y2⟩, tb, hmu⟩ tg
end
end K84

set_option Elab.async false
set_option linter.all false
set_option maxRecDepth 100000
set_option maxHeartbeats 8000000
namespace K84
open PySem PySem.Spec PyProof.Rows L2 Gd Rm La Cb
open Pl (timeOf)
theorem row_upd {H : Hp} {r p : Addr} {xs : List Actn} {ys zs : List V} (h : Row H r xs) (hp : H p = some (.lst ys)) (n : r ≠ p) : Row (upd H p (.lst zs)) r xs := by
  obtain ⟨vs, a, b⟩ := h
  exact ⟨vs, by rw [upd_ne n]; exact a, b.keep (tk_upd hp)⟩
theorem Rows.snoc {H : Hp} {rs : List Addr} {L : List (List Actn)} {r : Addr} {row : List Actn} (h : Rows H rs L) (hr : Row H r row) : Rows H (rs ++ [r]) (L ++ [row]) := by
  refine ⟨by rw [List.length_append, List.length_append, h.1]; rfl, fun i u y a b => ?_⟩
  have hl := h.1
  rcases Nat.lt_or_ge i rs.length with q | q
  · rw [List.getElem?_append_left q] at a
    rw [List.getElem?_append_left (by omega)] at b
    exact h.2 i u y a b
  · have hi : i = rs.length := by
      have := (List.getElem?_eq_some_iff.mp a).1
      rw [List.length_append] at this
      simp at this
      omega
    subst hi
    rw [List.getElem?_append_right (Nat.le_refl _), Nat.sub_self] at a
    rw [List.getElem?_append_right (by omega), show rs.length - L.length = 0 by omega] at b
    have e1 : r = u := Option.some.inj a
    have e2 : row = y := Option.some.inj b
    subst e1 e2
    exact hr
def FL (H0 : Hp) (D : Addr) (L : List (List Actn)) (H : Hp) : Prop := ∃ rs : List Addr, H D = some (.lst (rs.map V.ref)) ∧ Rows H rs L ∧ rs.Nodup ∧ ∀ r ∈ rs, H0 r = none ∧ r ≠ D
theorem FL.lay {H0 H : Hp} {D : Addr} {L : List (List Actn)} (h : FL H0 D L H) : Lay H D L := by
  obtain ⟨rs, a, b, _⟩ := h
  exact ⟨rs, a, b⟩
theorem row_off {H H' : Hp} {r p : Addr} {xs : List Actn} (h : Row H p xs) (n : p ≠ r) (o : Off r H H') (t : Tk H H') : Row H' p xs := by
  obtain ⟨vs, a, b⟩ := h
  exact ⟨vs, o _ _ a n, b.keep t⟩
theorem FL.more {H0 H1 H5 : Hp} {F M r : Addr} {L : List (List Actn)} {row : List Actn} {vs : List V} {oo : HO} (g : FL H0 F L H1) (nF : H0 F = none) (hr0 : H0 r = some oo) (fM : H0 M = none) (nM : H1 M = none) (o : Off r H1 H5) (t : Tk H1 H5)
    (hM : H5 M = some (.lst vs)) (ha : Acts H5 vs row) : ∃ acc : List V, H5 F = some (.lst acc) ∧ acc.length = L.length ∧ FL H0 F (L ++ [row]) (upd H5 F (.lst (acc ++ [.ref M]))) := by
  obtain ⟨rs, h, hR, nd, hn⟩ := g
  have Fr : F ≠ r := (ne_of_none hr0 nF).symm
  have FM : F ≠ M := ne_of_none h nM
  have h5 : H5 F = some (.lst (rs.map V.ref)) := o _ _ h Fr
  refine ⟨rs.map V.ref, h5, by rw [List.length_map]; exact hR.1, rs ++ [M], by rw [upd_same, List.map_append]; rfl, ?_, ?_, fun q hq => ?_⟩
  · refine Rows.snoc ⟨hR.1, fun i r' row' a b => row_upd (row_off (hR.2 i r' row' a b) ?_ o t) h5 (hn r' (List.mem_of_getElem? a)).2⟩ ⟨vs, by rw [upd_ne FM.symm]; exact hM, ha.keep (tk_upd h5)⟩
    exact (ne_of_none hr0 (hn r' (List.mem_of_getElem? a)).1).symm
  · refine List.nodup_append.mpr ⟨nd, List.nodup_cons.mpr ⟨by simp, List.nodup_nil⟩, fun a ha' b hb e => ?_⟩
    have hb : b = M := List.mem_singleton.mp hb
    subst hb
    subst e
    obtain ⟨i, hi⟩ := List.getElem?_of_mem ha'
    have hil := (List.getElem?_eq_some_iff.mp hi).1
    obtain ⟨vs', hv, _⟩ := hR.2 i a _ hi (List.getElem?_eq_getElem (by rw [← hR.1]; exact hil))
    rw [nM] at hv
    cases hv
  · rcases List.mem_append.mp hq with z | z
    · exact hn q z
    · rw [List.mem_singleton.mp z]; exact ⟨fM, FM.symm⟩
section
variable {P : Program} {w : World} {K : PySem.W.Frag} {mg : Str → Option Value} {base : Heap}
def spLLay : Sp := fun vs H Q _ => ∃ (r : Addr) (k n m : Nat) (g : Int), vs = [.ref r, .int (n : Int), .int (m : Int), .int g] ∧ Reel H r k ∧ k + 20000 < most ∧ 1 ≤ n ∧ n ≤ 6 ∧ 1 ≤ m ∧ m ≤ 16 ∧ 1 ≤ g ∧ g ≤ 1000000000 ∧
  ∀ (H' : Hp) (p : Addr) (L : List (List Actn)), Off r H H' → H p = none → Reel H' r (k + 10000) → FL H p L H' → LayOk L m → L.length = n → (∀ row ∈ L, ∀ x ∈ row, timeOf x ≤ g) → Q (.ref p) H'
theorem ok__law_layout (bt : Bt mg) (a : At K mg "_law_layout" s__law_layout ["_law_reel_here", "_law_layers", "_law_keys", "_law_longest"]) (c__law_action : Cl P w K mg base 3 "_law_action" spLAct) : Cl P w K mg base 4 "_law_layout" spLLay := by
  refine clG a sc__law_layout (fun vs H Q E h => ?_) (fun f cdv A outer s H vs Q hg hr h => ?_)
  · obtain ⟨r, k, n, m, g, rfl, _⟩ := h
    rfl
  · obtain ⟨r, k, n, m, g, rfl, hR, hk, n1, n6, m1, m16, g1, g2, q⟩ := h
    have hk : k + 20000 < 1000000000 := hk
    obtain ⟨_, _, _, hr0, _⟩ := id hR
    refine ⟨_, (pss_cons (ps_set (i := 4) sc__law_layout.nd rfl (Or.inl rfl) (pe_lst pa_nil))
      (pss_cons (ps_for PassesOwn.never rfl (pi_range1 (by rfl) bt.m_range (pa_cons (pv 1) pa_nil)) (pg_name (i := 5) sc__law_layout.nd rfl (Or.inr rfl)) (pss_one (ps_expr (pe_bm PySem.F.plainAttrs_list PySem.F.slot_list_append PySem.F.type_list_append mt_append (pv 4) (pa_cons (pe_lc (own := [("_law_key", 6)]) (g := (gName 6)) (by rfl) sc__law_layout.nd (pi_range1 (by rfl) bt.m_range (pa_cons (pv 2) pa_nil)) (blkOk_by (N := n__law_layout) (sc := defScope s__law_layout) (by decide +kernel)) (fun _ _ _ _ _ => (pg_name (i := 6) sc__law_layout.nd rfl (Or.inl rfl))) (fun _ _ _ _ _ => pts_nil) (fun _ _ _ _ _ => (pe_cl c__law_action hg hr (by decide) (by rfl) (pa_cons (pv 0) (pa_cons (pv 5) (pa_cons (pv 1) (pa_cons (pv 3) pa_nil))))))) pa_nil)))))
      (pss_one (ps_ret (pv 4))))), ?_⟩
    refine ⟨Nat.zero_le _, fun F nF => ?_⟩
    have fl0 : FL H F [] (upd H F (.lst [])) := ⟨[], upd_same, ⟨rfl, fun i r row h _ => by simp at h⟩, List.nodup_nil, fun r h => by simp at h⟩
    have Fr : F ≠ r := (ne_of_none hr0 nF).symm
    refine ⟨_, rfl, (n : Int), rfl, by omega, by omega, for_it walk_range (fun i σ H' => (∃ y5 y6, σ = [some (.ref r), some (.int (n : Int)), some (.int (m : Int)), some (.int g), some (.ref F), y5, y6]) ∧ Off r H H' ∧ Reel H' r (k + 1600 * i) ∧ ∃ L, FL H F L H' ∧ L.length = i ∧ (∀ row ∈ L, row.length = m) ∧ ∀ (i' : Nat) row, L[i']? = some row → ∀ x ∈ row, ActOk n i' x ∧ timeOf x ≤ g)
      ⟨⟨_, _, rfl⟩, Off.of (same_upd nF), hR.same (same_upd nF), [], fl0, rfl, fun row h => by simp at h, fun i' row h => by simp at h⟩ (fun _ _ _ _ _ => True.intro) (fun i x σ Hx H1 hi p y => ?_) (fun σ H1 p => ?_)⟩
    · obtain ⟨⟨y5, y6, rfl⟩, o1, R1, L, fl, hL, hlen, hok⟩ := p
      obtain ⟨rfl, hx⟩ := y
      have hx : x = .int (0 + (i : Int)) := hx
      have e0 : (0 : Int) + (i : Int) = (i : Int) := Int.zero_add _
      rw [e0] at hx
      subst hx
      have hi6 : i < 6 := by omega
      obtain ⟨rs, hF, _⟩ := id fl
      refine ⟨_, rfl, .inl ⟨rfl, _, SqL.of hF⟩, _, rfl, (m : Int), rfl, by omega, by omega, fun M nM => lc_it walk_range (fun j H' => Off r H1 H' ∧ Reel H' r (k + 1600 * i + 100 * j) ∧ ∃ vs xs, H' M = some (.lst vs) ∧ Acts H' vs xs ∧ xs.length = j ∧ ∀ x ∈ xs, ActOk n i x ∧ timeOf x ≤ g) ?_ (fun _ _ _ _ => True.intro) (fun j x Hx H2 hj p y => ?_) (fun H2 p => ?_)⟩
      · exact ⟨Off.of (same_upd nM), R1.same (same_upd nM), [], [], upd_same, Acts.nil, rfl, fun x h => by simp at h⟩
      · obtain ⟨o2, R2, vs, xs, hM, hA, hxl, hxo⟩ := p
        obtain ⟨rfl, rfl⟩ := y
        obtain ⟨_, _, _, hr1, _⟩ := id R1
        have Mr : M ≠ r := (ne_of_none hr1 nM).symm
        have hj16 : j < 16 := by omega
        refine ⟨rfl, ⟨_, rfl, _, rfl, _, rfl, _, rfl, r, k + 1600 * i + 100 * j, i, n, g, rfl, R2, by show _ < 1000000000; omega, by omega, by omega, by omega, g1, g2, fun H3 v x o3 R3 hv ok tg => ?_⟩⟩
        have hM3 := o3 _ _ hM Mr
        have hvl := hA.1
        refine ⟨vs, hM3, small1000 (by omega), (o2.trans o3).new nM, ?_, vs ++ [v], xs ++ [x], upd_same, ?_, by rw [List.length_append, hxl]; rfl, fun z hz => ?_⟩
        · obtain ⟨x, y, z, g, g'⟩ := R3
          exact ⟨x, y, z, by rw [upd_ne Mr.symm]; exact g, by have := g'; omega⟩
        · exact ((hA.keep (R2.tk o3)).snoc hv).keep (tk_upd hM3)
        · rcases List.mem_append.mp hz with q | q
          · exact hxo z q
          · rw [List.mem_singleton.mp q]; exact ⟨ok, tg⟩
      · obtain ⟨o2, R2, vs, xs, hM, hA, hxl, hxo⟩ := p
        obtain ⟨_, _, _, hr1, _⟩ := id R1
        obtain ⟨acc, hF2, hal, fl2⟩ := fl.more nF hr0 (o1.free hr1 nM) nM o2 (R1.tk o2) hM hA
        refine ⟨F, acc, .ref M, rfl, rfl, hF2, small1000 (by omega), ⟨_, _, rfl⟩, (o1.trans o2).new nF, ?_, L ++ [xs], fl2, by rw [List.length_append, hL]; rfl, fun row hrow => ?_, fun i' row hrow => ?_⟩
        · obtain ⟨x, y, z, g, g'⟩ := R2
          exact ⟨x, y, z, by rw [upd_ne Fr.symm]; exact g, by have := g'; omega⟩
        · rcases List.mem_append.mp hrow with z | z
          · exact hlen row z
          · rw [List.mem_singleton.mp z, hxl]; omega
        · rcases Nat.lt_or_ge i' L.length with z | z
          · rw [List.getElem?_append_left z] at hrow
            exact hok i' row hrow
          · have hi' : i' = L.length := by
              have := (List.getElem?_eq_some_iff.mp hrow).1
              rw [List.length_append] at this
              simp at this
              omega
            subst hi'
            rw [List.getElem?_append_right (Nat.le_refl _), Nat.sub_self] at hrow
            have e : xs = row := Option.some.inj hrow
            subst e
            rw [hL]
            exact hxo
    · obtain ⟨⟨y5, y6, rfl⟩, o1, R1, L, fl, hL, hlen, hok⟩ := p
      have hL : L.length = n := by omega
      refine ⟨_, rfl, q _ F L o1 nF (R1.mono (by omega)) fl ⟨by omega, by omega, m1, m16, hlen, ?_⟩ hL (fun row hr x hx => ?_)⟩
      · rw [hL]
        exact fun i' row h x hx => (hok i' row h x hx).1
      · obtain ⟨i', hi'⟩ := List.getElem?_of_mem hr
        exact (hok i' row hi' x hx).2
end
end K84

set_option Elab.async false
set_option linter.all false
set_option maxRecDepth 100000
set_option maxHeartbeats 8000000
namespace K84
open PySem PySem.Spec PyProof.Rows L2 Gd Rm La Cb Pl
theorem lk_ne {f g : Str} {v : V} {r : List (Str × V)} (h : f ≠ g) : ((g, v) :: r).lookup f = r.lookup f := by
  rw [List.lookup_cons, beq_false_of_ne h]
theorem lk_eq {f : Str} {v : V} {r : List (Str × V)} : ((f, v) :: r).lookup f = some v := by
  rw [List.lookup_cons, beq_self_eq_true]
theorem pf_ne {f g : Str} {x v : V} {r : List (Str × V)} (h : g ≠ f) : putF f v ((g, x) :: r) = (g, x) :: putF f v r := if_neg h
theorem pf_eq {f : Str} {x v : V} {r : List (Str × V)} : putF f v ((f, x) :: r) = (f, v) :: r := if_pos rfl
theorem flat_rep {v : V} (m : Nat) : (List.replicate m [v]).flatten = List.replicate m v := by
  induction m with
  | zero => rfl
  | succ m ih => rw [List.replicate_succ, List.flatten_cons, ih, List.replicate_succ]; rfl
def flds (c l : Addr) (o : Int) (d e : Addr) : List (Str × V) := [("layout", .ref c), ("locked", .ref l), ("once", .int o), ("bound", .ref d), ("pressed", .ref e)]
section
variable {c l d e : Addr} {o y : Int}
theorem f_lay : (flds c l o d e).lookup ("layout" : Str) = some (.ref c) := lk_eq
theorem f_lock : (flds c l o d e).lookup ("locked" : Str) = some (.ref l) := by
  unfold flds
  rw [lk_ne (by decide +kernel), lk_eq]
theorem f_once : (flds c l o d e).lookup ("once" : Str) = some (.int o) := by
  unfold flds
  rw [lk_ne (by decide +kernel), lk_ne (by decide +kernel), lk_eq]
theorem f_bound : (flds c l o d e).lookup ("bound" : Str) = some (.ref d) := by
  unfold flds
  rw [lk_ne (by decide +kernel), lk_ne (by decide +kernel), lk_ne (by decide +kernel), lk_eq]
theorem f_pressed : (flds c l o d e).lookup ("pressed" : Str) = some (.ref e) := by
  unfold flds
  rw [lk_ne (by decide +kernel), lk_ne (by decide +kernel), lk_ne (by decide +kernel), lk_ne (by decide +kernel), lk_eq]
def names5 : List Str := ["layout", "locked", "once", "bound", "pressed"]
theorem f_no {m : Str} (h : m ∉ names5) : (flds c l o d e).lookup m = none := by
  unfold names5 at h
  simp only [List.mem_cons, List.mem_nil_iff, or_false, not_or] at h
  unfold flds
  rw [lk_ne h.1, lk_ne h.2.1, lk_ne h.2.2.1, lk_ne h.2.2.2.1, lk_ne h.2.2.2.2]
  rfl
theorem f_put : putF "once" (.int y) (flds c l o d e) = flds c l y d e := by
  unfold flds
  rw [pf_ne (by decide +kernel), pf_ne (by decide +kernel), pf_eq]
theorem f_new : putF "pressed" (.ref e) (putF "bound" (.ref d) (putF "once" (.int o) (putF "locked" (.ref l) (putF "layout" (.ref c) [])))) = flds c l o d e := by
  show putF "pressed" (.ref e) (putF "bound" (.ref d) (putF "once" (.int o) (putF "locked" (.ref l) [("layout", .ref c)]))) = _
  rw [pf_ne (by decide +kernel)]
  show putF "pressed" (.ref e) (putF "bound" (.ref d) (putF "once" (.int o) [("layout", .ref c), ("locked", .ref l)])) = _
  rw [pf_ne (by decide +kernel), pf_ne (by decide +kernel)]
  show putF "pressed" (.ref e) (putF "bound" (.ref d) [("layout", .ref c), ("locked", .ref l), ("once", .int o)]) = _
  rw [pf_ne (by decide +kernel), pf_ne (by decide +kernel), pf_ne (by decide +kernel)]
  show putF "pressed" (.ref e) [("layout", .ref c), ("locked", .ref l), ("once", .int o), ("bound", .ref d)] = _
  rw [pf_ne (by decide +kernel), pf_ne (by decide +kernel), pf_ne (by decide +kernel), pf_ne (by decide +kernel)]
  rfl
end
/-- a player -/
structure PAt (C : Addr) (H : Hp) (p c l d e : Addr) (n : Nat) (s : Sm) : Prop where
  ob : ∃ dx, H p = some (.ins C dx (flds c l s.on d e))
  lk : H l = some (.lst (s.lk.map V.bl))
  bd : ∃ kvs, H d = some (.dK kvs) ∧ Bd H kvs s.bd
  pr : ∃ pvs : List (Key × V), H e = some (.dK pvs) ∧ pvs.length ≤ n ∧ (∀ q ∈ s.bd, ∀ x, q.2 = Actn.code x → ∃ z, valV pvs (Sum.inr x) = some (.int z)) ∧ (∀ k v, valV pvs k = some v → ∃ z, v = .int z)
  de : d ≠ e
theorem PAt.same {C : Addr} {H H' : Hp} {p c l d e : Addr} {n : Nat} {s : Sm} (h : PAt C H p c l d e n s) (t : Same H H') : PAt C H' p c l d e n s := by
  obtain ⟨⟨dx, a⟩, b, ⟨kvs, c1, c2⟩, ⟨pvs, d1, d2⟩, f⟩ := h
  exact ⟨⟨dx, t _ _ a⟩, t _ _ b, ⟨kvs, t _ _ c1, c2.keep (Tk.of t)⟩, ⟨pvs, t _ _ d1, d2⟩, f⟩
/-- what the walk asks of the class -/
structure Cp (K : PySem.W.Frag) (C : Addr) : Prop where
  cl : Cls K C
  n1 : NoAttr K C "layout"
  n2 : NoAttr K C "locked"
  n3 : NoAttr K C "once"
  n4 : NoAttr K C "bound"
  n5 : NoAttr K C "pressed"
theorem strOk_code {c : Str} (h : CodeOk c) : PyData.strOk c = true := by
  unfold PyData.strOk
  rw [← Array.all_toList, List.all_eq_true]
  have all : ∀ y ∈ signs.cps.toList, decide (y < 0x110000) = true := by decide +kernel
  exact fun y hy => all y (h.2.2 y hy)
theorem bd_lay {n : Int} {x : Actn} (h : BdOk n x) : PyData.canLay0 (actD x) = true ∧ PyData.depth (actD x) = 1 := by
  cases x with
  | code c => exact ⟨by simp [actD, PyData.canLay0, PyData.canLayAll0, strOk_code h, (by decide +kernel : PyData.strOk "code" = true)], rfl⟩
  | lay w j => 
    obtain ⟨rfl, _⟩ := h
    exact ⟨by simp [actD, PyData.canLay0, PyData.canLayAll0, (by decide +kernel : PyData.strOk "layer" = true)], rfl⟩
  | none => exact h.elim
  | thr => exact h.elim
  | dualC _ _ _ _ => exact h.elim
  | dualL _ _ _ _ => exact h.elim
theorem bds_lay {n : Int} : ∀ {bd : Bd0}, BdsOk n bd → PyData.canLayAll0 (bd.map fun q => actD q.2) = true ∧ PyData.depthAll (bd.map fun q => actD q.2) ≤ 1
  | [], _ => ⟨rfl, by decide⟩
  | q :: r, h => by
    obtain ⟨a, b⟩ := bds_lay (bd := r) fun p hp => h p (List.mem_cons_of_mem _ hp)
    obtain ⟨x, y⟩ := bd_lay (h q (List.mem_cons_self ..))
    refine ⟨?_, ?_⟩
    · show (PyData.canLay0 (actD q.2) && PyData.canLayAll0 (r.map fun q => actD q.2)) = true
      rw [x, a]; rfl
    · show max (PyData.depth (actD q.2)) (PyData.depthAll (r.map fun q => actD q.2)) ≤ 1
      omega
theorem shaped_bds {n : Int} {bd : Bd0} (h : BdsOk n bd) : SeqAt.shaped (.list (bd.map fun q => actD q.2)) = true := by
  obtain ⟨a, b⟩ := bds_lay h
  show (PyData.canLayAll0 _ && decide (PyData.depthAll _ + 1 ≤ 64)) = true
  rw [a, decide_eq_true (by omega)]; rfl
theorem shaped_layer (i : Int) : SeqAt.shaped (.tuple [.str "layer", .int i]) = true := by
  simp [SeqAt.shaped, PyData.canLay0, PyData.canLayAll0, PyData.depth, PyData.depthAll, (by decide +kernel : PyData.strOk "layer" = true)]
theorem eqv_layer (i : Int) {n : Int} {x : Actn} (h : BdOk n x) : PyData.eqv (actD x) (.tuple [.str "layer", .int i]) = isLay i x := by
  cases x with
  | code c =>
    have e : ((("code" : String) : Str) == (("layer" : String) : Str)) = false := by decide +kernel
    simp [actD, PyData.eqv, PyData.eqvAll, isLay, e]
  | lay w j =>
    obtain ⟨rfl, _⟩ := h
    simp [actD, PyData.eqv, PyData.eqvAll, isLay]
    by_cases z : j = i <;> simp [z]
  | none => exact h.elim
  | thr => exact h.elim
  | dualC _ _ _ _ => exact h.elim
  | dualL _ _ _ _ => exact h.elim
theorem any_layer (i : Int) {n : Int} : ∀ {bd : Bd0}, BdsOk n bd → ((bd.map fun q => actD q.2).any fun z => PyData.eqv z (.tuple [.str "layer", .int i])) = bd.any fun p => isLay i p.2
  | [], _ => rfl
  | q :: r, h => by
    rw [List.map_cons, List.any_cons, List.any_cons, any_layer i (bd := r) fun p hp => h p (List.mem_cons_of_mem _ hp), eqv_layer i (h q (List.mem_cons_self ..))]
section
variable {P : Program} {w : World} {K : PySem.W.Frag} {mg : Str → Option Value} {base : Heap}
def spPInit (C : Addr) : Sp := fun vs H Q _ => ∃ (p dx c : Addr) (xs : List V), vs = [.ref p, .ref c] ∧ H p = some (.ins C dx []) ∧ H c = some (.lst xs) ∧ xs.length ≤ 6 ∧
  ∀ (H' : Hp) (l d e : Addr), H l = none → H d = none → H e = none → PAt C H' p c l d e 0 (init xs.length) → (∀ b o, H b = some o → b ≠ p → H' b = some o) → Q .non H'
theorem ok_Player_init (bt : Bt mg) {C : Addr} (cp : Cp K C) {tk : Tok} (m_NO_LAYER : mg "NO_LAYER" = some (.int 0 tk)) (a : AtI K mg C "Player" "Player.__init__" s_Player_init ["self", "layout"]) : ClI P w K mg base 1 C "Player" (spPInit C) := by
  refine clIG a sc_Player_init (fun vs H Q E h => ?_) (fun f cdv A outer s H vs Q hg hr h => ?_)
  · obtain ⟨p, dx, c, xs, rfl, _⟩ := h
    rfl
  · obtain ⟨p, dx, c, xs, rfl, hp, hc, hl, q⟩ := h
    refine ⟨_, (pss_cons (ps_fld (pv 0) (pv 1) rfl)
      (pss_cons (ps_fld (pv 0) (pe_op op_rep (pe_lst (pa_cons pe_bl pa_nil)) (pe_callB call_len_seq (by rfl) bt.m_len (by decide +kernel) (pa_cons (pv 1) pa_nil))) rfl)
      (pss_cons (ps_fld (pv 0) (pe_glob (v := .int 0) (by rfl) m_NO_LAYER ⟨_, rfl⟩) rfl)
      (pss_cons (ps_fld (pv 0) pe_dnewK rfl)
      (pss_one (ps_fld (pv 0) pe_dnewK rfl)))))), ?_⟩
    refine ⟨_, rfl, _, rfl, p, C, dx, _, rfl, hp, cp.cl, cp.n1, (by show 0 < 1000; decide), ?_⟩
    have pc : c ≠ p := ne_of hc hp (by intro z; cases z)
    refine (fun (X : ∀ H1 : Hp, Off p H H1 → H1 p = some (.ins C dx (putF "layout" (.ref c) [])) → _) => X _ off_upd upd_same) (fun H1 o1 hp1 => ?_)
    have hc1 := o1 _ _ hc pc
    refine ⟨(by show 1 ≤ sizeLine; decide), fun A0 m0 => ⟨_, rfl, c, xs, rfl, .inl (SqL.of ((same_upd m0) _ _ hc1)), A0, _, _, rfl, rfl, upd_same, by omega, by omega, ?_, fun l m1 => ?_⟩⟩
    · show 1 * _ ≤ sizeLine
      rw [sizeLine_eq]
      omega
    have el : (List.replicate ((xs.length : Int)).toNat [V.bl false]).flatten = (List.replicate xs.length false).map V.bl := by
      rw [flat_rep, Int.toNat_natCast, List.map_replicate]
    rw [el]
    have k0 := same_upd (o := .lst [.bl false]) m0
    have k1 := same_upd (o := .lst ((List.replicate xs.length false).map V.bl)) m1
    have l1 : H1 l = none := k0.free m1
    refine (fun (X : ∀ H2 : Hp, Off p H H2 → H2 p = some (.ins C dx (putF "layout" (.ref c) [])) → H2 l = some (.lst ((List.replicate xs.length false).map V.bl)) → _) => X _ (o1.sameTrans (k0.trans k1)) ((k0.trans k1) _ _ hp1) upd_same) (fun H2 o2 hp2 hl2 => ?_)
    have l0 : H l = none := o1.free hp1 l1
    have lp : l ≠ p := fun z => by rw [z, hp] at l0; cases l0
    refine ⟨_, rfl, p, C, dx, _, rfl, hp2, cp.cl, cp.n2, (by show 1 < 1000; decide), ?_⟩
    refine ⟨_, rfl, p, C, dx, _, rfl, upd_same, cp.cl, cp.n3, ?_, ?_⟩
    · show (putF "locked" _ [(("layout" : Str), _)]).length < 1000
      rw [pf_ne (by decide +kernel)]
      show 2 < 1000
      decide
    refine (fun (X : ∀ H3 : Hp, Off p H H3 → H3 p = some (.ins C dx (putF "once" (.int 0) (putF "locked" (.ref l) (putF "layout" (.ref c) [])))) → H3 l = some (.lst ((List.replicate xs.length false).map V.bl)) → _) => X _ ((o2.trans off_upd).trans off_upd) upd_same (by rw [upd_ne lp, upd_ne lp]; exact hl2)) (fun H3 o3 hp3 hl3 d m2 => ?_)
    have k2 := same_upd (o := .dK []) m2
    have d0 : H d = none := o3.free hp3 m2
    refine ⟨_, rfl, p, C, dx, _, rfl, k2 _ _ hp3, cp.cl, cp.n4, ?_, ?_⟩
    · show (putF "once" _ (putF "locked" _ [(("layout" : Str), _)])).length < 1000
      rw [pf_ne (by decide +kernel)]
      show (putF "once" _ [(("layout" : Str), _), (("locked" : Str), _)]).length < 1000
      rw [pf_ne (by decide +kernel), pf_ne (by decide +kernel)]
      show 3 < 1000
      decide
    have dp : d ≠ p := fun z => by rw [z, hp] at d0; cases d0
    refine (fun (X : ∀ H4 : Hp, Off p H H4 → H4 p = some (.ins C dx (putF "bound" (.ref d) (putF "once" (.int 0) (putF "locked" (.ref l) (putF "layout" (.ref c) []))))) → H4 l = some (.lst ((List.replicate xs.length false).map V.bl)) → H4 d = some (.dK []) → _) => X _ ((o3.sameTrans k2).trans off_upd) upd_same (by rw [upd_ne lp]; exact k2 _ _ hl3) (by rw [upd_ne dp]; exact upd_same)) (fun H4 o4 hp4 hl4 hd4 e m3 => ?_)
    have k3 := same_upd (o := .dK []) m3
    have e0 : H e = none := o4.free hp4 m3
    have ep : e ≠ p := fun z => by rw [z, hp] at e0; cases e0
    have de : d ≠ e := ne_of_none hd4 m3
    refine ⟨_, rfl, p, C, dx, _, rfl, k3 _ _ hp4, cp.cl, cp.n5, ?_, ?_⟩
    · show (putF "bound" _ (putF "once" _ (putF "locked" _ [(("layout" : Str), _)]))).length < 1000
      rw [pf_ne (by decide +kernel)]
      show (putF "bound" _ (putF "once" _ [(("layout" : Str), _), (("locked" : Str), _)])).length < 1000
      rw [pf_ne (by decide +kernel), pf_ne (by decide +kernel)]
      show (putF "bound" _ [(("layout" : Str), _), (("locked" : Str), _), (("once" : Str), _)]).length < 1000
      rw [pf_ne (by decide +kernel), pf_ne (by decide +kernel), pf_ne (by decide +kernel)]
      show 4 < 1000
      decide
    refine q _ l d e l0 d0 e0 ⟨⟨dx, ?_⟩, by rw [upd_ne lp]; exact k3 _ _ hl4, ⟨[], by rw [upd_ne dp]; exact k3 _ _ hd4, .nil⟩, ⟨[], by rw [upd_ne ep]; exact upd_same, Nat.le_refl _, fun q hq => by simp [init] at hq, fun k v h => by cases h⟩, de⟩ ((o4.sameTrans k3).trans off_upd)
    rw [upd_same, f_new]
    rfl
end
end K84

set_option Elab.async false
set_option linter.all false
set_option maxRecDepth 100000
set_option maxHeartbeats 8000000
namespace K84
open PySem PySem.Spec PyProof.Rows L2 Gd Rm La Cb Pl
theorem eqI {a b : Int} {p : Bool} (h : decide (a = b) = p) : V.bl (decide (V.int a = V.int b)) = .bl p := by
  rw [← h]
  exact congrArg V.bl (by by_cases z : a = b <;> simp [z])
theorem eqS {a b : Str} {p : Bool} (h : decide (a = b) = p) : V.bl (decide (V.str a = V.str b)) = .bl p := by
  rw [← h]
  exact congrArg V.bl (by by_cases z : a = b <;> simp [z])
theorem shaped_act {n i : Int} {x : Actn} (h : ActOk n i x) : SeqAt.shaped (actD x) = true := by
  have w : ∀ c ∈ layWords ++ rules ++ (["none", "through", "code", "layer", "dual"].map Str.ofString), PyData.strOk c = true := by decide +kernel
  cases x with
  | none => decide +kernel
  | thr => decide +kernel
  | code c => simp [SeqAt.shaped, actD, PyData.canLay0, PyData.canLayAll0, PyData.depth, PyData.depthAll, w "code" (by decide +kernel), strOk_code h]
  | lay u j => simp [SeqAt.shaped, actD, PyData.canLay0, PyData.canLayAll0, PyData.depth, PyData.depthAll, w u (List.mem_append_left _ (List.mem_append_left _ h.1))]
  | dualC c d t r => simp [SeqAt.shaped, actD, PyData.canLay0, PyData.canLayAll0, PyData.depth, PyData.depthAll, w "code" (by decide +kernel), w "dual" (by decide +kernel), strOk_code h.1, strOk_code h.2.1, w r (List.mem_append_left _ (List.mem_append_right _ h.2.2.2))]
  | dualL c j t r => simp [SeqAt.shaped, actD, PyData.canLay0, PyData.canLayAll0, PyData.depth, PyData.depthAll, w "layer" (by decide +kernel), w "dual" (by decide +kernel), strOk_code h.1, w r (List.mem_append_left _ (List.mem_append_right _ h.2.2.2))]
theorem eqv_thr : ∀ x : Actn, PyData.eqv (actD x) (.str "through") = isThr x
  | .none => by decide +kernel
  | .thr => by decide +kernel
  | .code _ => rfl
  | .lay _ _ => rfl
  | .dualC _ _ _ _ => rfl
  | .dualL _ _ _ _ => rfl
theorem bl_at {bs : List Bool} {i : Nat} (h : i < bs.length) : (bs.map V.bl)[i]? = some (.bl (bs.getD i false)) := by
  rw [List.getElem?_map, List.getElem?_eq_getElem h, List.getD_eq_getElem?_getD, List.getElem?_eq_getElem h]; rfl
section
variable {P : Program} {w : World} {K : PySem.W.Frag} {mg : Str → Option Value} {base : Heap}
def spOn (C : Addr) : Sp := fun vs H Q _ => ∃ (p c l d e : Addr) (n : Nat) (s : Sm) (m : Int) (i : Nat), vs = [.ref p, .int (i : Int)] ∧ PAt C H p c l d e n s ∧ BdsOk m s.bd ∧ i < s.lk.length ∧ s.bd.length ≤ 1000 ∧ ∀ H', Same H H' → Q (.bl (onL s i)) H'
theorem ok_is_on (bt : Bt mg) {C : Addr} (cp : Cp K C) (a : AtM K C "is_on" "Player.is_on" s_is_on ["self", "layer"]) : ClM P w K mg base 1 C "is_on" (spOn C) := by
  refine clMG a sc_is_on (fun vs H Q E h => ?_) (fun f cdv A outer s H vs Q hg hr h => ?_)
  · obtain ⟨p, c, l, d, e, n, s, m, i, rfl, _⟩ := h
    rfl
  · obtain ⟨p, c, l, d, e, n, s, m, i, rfl, hP, hB, hi, hbl, q⟩ := h
    refine ⟨_, (pss_cons (ps_if (PW.pt (pw_or (pt_cmpR op_eq (pv 1) pe_int (nomark _)) (pw_or (pt_truth (pe_ix ix_list (pe_fld (pv 0) rfl) (pv 1) (fun _ _ => rfl)) (by intro _; rfl)) (pw_or1 (pt_cmpR op_eq (pe_fld (pv 0) rfl) (pv 1) (nomark _)))))) (pss_one (ps_ret pe_bl)) pss_nil)
      (pss_one (ps_ret (pe_cmpR (op_inD (room65 hr)) (pe_tup (pa_cons pe_str (pa_cons (pv 1) pa_nil))) (pe_listVals rfl (pe_fld (pv 0) rfl) (by rfl) bt.m_list (by decide +kernel)) (by rfl))))), ?_⟩
    obtain ⟨⟨dx, h1⟩, h2, ⟨kvs, h3, h3b⟩, _, _⟩ := id hP
    have e0 : decide ((i : Int) = 0) = decide (i = 0) := decide_eq_decide.mpr (by omega)
    refine ⟨_, rfl, rfl, _, eqI e0, ?_⟩
    cases hz : decide (i = 0) with
    | true =>
      refine iteT ?_
      have := q H (Same.refl _)
      unfold onL at this
      rw [hz] at this
      exact this
    | false =>
      refine iteF ⟨_, rfl, p, C, dx, _, _, rfl, h1, cp.cl, cp.n2, f_lock, _, rfl, l, _, (i : Int), _, rfl, rfl, SqL.of h2, atI_nat (bl_at hi), _, rfl, ?_⟩
      cases hk : s.lk.getD i false with
      | true =>
        refine iteT ?_
        have := q H (Same.refl _)
        unfold onL at this
        rw [hz, hk] at this
        exact this
      | false =>
        refine iteF ⟨_, rfl, p, C, dx, _, _, rfl, h1, cp.cl, cp.n3, f_once, _, rfl, rfl, _, eqI rfl, ?_⟩
        cases ho : decide (s.on = (i : Int)) with
        | true =>
          refine iteT ?_
          have := q H (Same.refl _)
          unfold onL at this
          rw [hz, hk, ho] at this
          exact this
        | false =>
          refine iteF ⟨_, rfl, (by show 2 ≤ sizeLine; decide), fun T nT => ?_⟩
          have k1 := same_upd (o := .tup [.str "layer", .int (i : Int)]) nT
          refine ⟨_, rfl, p, C, dx, _, _, rfl, k1 _ _ h1, cp.cl, cp.n4, f_bound, d, kvs, rfl, k1 _ _ h3, fun W nW => ?_⟩
          have k2 := same_upd (o := .lst (kvs.map (·.2))) nW
          refine ⟨.tuple [.str "layer", .int (i : Int)], _, .tup (SqT.of (k2 _ _ upd_same)) (.cons (.str _) (.cons (.int _) .nil)), .lst (SqL.of upd_same) (h3b.keep (Tk.of (k1.trans k2))).dp, shaped_layer _, shaped_bds hB, ?_⟩
          rw [any_layer (i : Int) hB]
          have := q _ (k1.trans k2)
          unfold onL at this
          rw [hz, hk, ho] at this
          exact this
def spTaken (C : Addr) : Sp := fun vs H Q _ => ∃ (p c l d e : Addr) (n : Nat) (s : Sm) (L : List (List Actn)) (m k : Nat), vs = [.ref p, .int (k : Int)] ∧ PAt C H p c l d e n s ∧ Lay H c L ∧ LayOk L m ∧ BdsOk L.length s.bd ∧ s.lk.length = L.length ∧ s.bd.length ≤ 1000 ∧ k < m ∧
  ∀ (H' : Hp) (T : Addr) (v : V), Same H H' → H' T = some (.tup [.int ((takenL L s k : Nat) : Int), v]) → ActV H' (actAt L (takenL L s k) k) v → Q (.ref T) H'
theorem actAt_eq {L : List (List Actn)} {i k : Nat} (hi : i < L.length) (hk : k < L[i].length) : actAt L i k = L[i][k] := by
  unfold actAt
  simp [List.getD_eq_getElem?_getD, hi, hk]
theorem filt_zero {L : List (List Actn)} {m : Nat} (hO : LayOk L m) (s : Sm) {k : Nat} (hk : k < m) : 0 ∈ filt L s k := by
  have n1 := hO.n1
  refine List.mem_filter.mpr ⟨List.mem_range.mpr (by omega), ?_⟩
  have ht : isThr (actAt L 0 k) = false := by
    have e : L[0]? = some L[0] := List.getElem?_eq_getElem (by omega)
    have hl : L[0].length = m := hO.len _ (List.getElem_mem _)
    have ok := hO.ok 0 _ e L[0][k] (List.getElem_mem _)
    rw [actAt_eq (by omega) (by omega)]
    cases hx : L[0][k] with
    | thr =>
      rw [hx] at ok
      exact absurd (show (0 : Int) < 0 from ok) (by decide)
    | _ => rfl
  rw [ht]
  simp [onL]
theorem filt_last {L : List (List Actn)} {s : Sm} {k : Nat} (h : filt L s k ≠ []) : takenL L s k ∈ filt L s k ∧ ∀ x ∈ filt L s k, x ≤ takenL L s k := by
  have pw : (filt L s k).Pairwise (· < ·) := List.Pairwise.filter _ List.pairwise_lt_range
  have e : (filt L s k).getLast? = some ((filt L s k).getLast h) := List.getLast?_eq_some_getLast h
  unfold takenL
  rw [e, Option.getD_some]
  refine ⟨List.getLast_mem h, fun x hx => ?_⟩
  have hs := List.dropLast_concat_getLast h
  rw [← hs] at hx pw
  rcases List.mem_append.mp hx with z | z
  · exact Nat.le_of_lt ((List.pairwise_append.mp pw).2.2 x z _ (List.mem_singleton.mpr rfl))
  · rw [List.mem_singleton.mp z]
    exact Nat.le_refl _
def pr (L : List (List Actn)) (s : Sm) (k : Nat) (i : Nat) : Bool := !isThr (actAt L i k) && onL s i
theorem ok_taken (bt : Bt mg) {C : Addr} (cp : Cp K C) (a : AtM K C "taken" "Player.taken" s_taken ["self", "key"]) (c_is_on : ClM P w K mg base 1 C "is_on" (spOn C)) : ClM P w K mg base 2 C "taken" (spTaken C) := by
  have cl_Player := cp.cl
  refine clMG a sc_taken (fun vs H Q E h => ?_) (fun f cdv A outer s H vs Q hg hr h => ?_)
  · obtain ⟨p, c, l, d, e, n, s, L, m, k, rfl, _⟩ := h
    rfl
  · obtain ⟨pp, c, l, d, e, n, s, L, m, k, rfl, hP, hL, hO, hB, hlk, hbl, hk, q⟩ := h
    refine ⟨_, (pss_cons (ps_set (i := 2) sc_taken.nd rfl (Or.inl rfl) (pe_callB (cr_max rfl) (by rfl) bt.m_max (by decide +kernel) (pa_cons (pe_lc (own := [("at", 3), ("actions", 4)]) (g := (gTup K 2 (gCons (gName 3) (gCons (gName 4) gNil)))) (by rfl) sc_taken.nd (pi_enum (by rfl) bt.m_enumerate (pa_cons (pe_fld (pv 0) rfl) pa_nil)) (blkOk_by (N := n_taken) (sc := defScope s_taken) (by decide +kernel)) (fun _ _ _ _ _ => (pg_tup rfl (pgs_cons (pg_name (i := 3) sc_taken.nd rfl (Or.inl rfl)) (pgs_cons (pg_name (i := 4) sc_taken.nd rfl (Or.inl rfl)) pgs_nil)))) (fun _ _ _ _ _ => (pts_one (PW.pt (pw_and (pt_cmpR (r := rNeD K) (op_neD hr.units) (pe_ix (r := rIxL K) ix_list (pv 4) (pv 1) (fun _ _ => rfl)) pe_str (nomark _)) (pw_and1 (pt_val (pe_clM c_is_on cl_Player hg hr (by decide) (pv 0) (pa_cons (pv 3) pa_nil)))))))) (fun _ _ _ _ _ => (pv 3))) pa_nil)))
      (pss_one (ps_ret (pe_tup (pa_cons (pv 2) (pa_cons (pe_ix ix_list (pe_ix ix_list (pe_fld (pv 0) rfl) (pv 2) (fun _ _ => rfl)) (pv 1) (fun _ _ => rfl)) pa_nil)))))), ?_⟩
    obtain ⟨⟨dx, h1⟩, h2, ⟨kvs, h3, h3b⟩, _, _⟩ := id hP
    obtain ⟨rs, hc, hR⟩ := id hL
    have n6 := hO.n6
    have hlen : (rs.map V.ref).length = L.length := by rw [List.length_map]; exact hR.1
    refine ⟨_, rfl, pp, C, dx, _, _, rfl, h1, cp.cl, cp.n1, f_lay, c, _, rfl, SqL.of hc, fun M nM => lc_it (walk_enum (xs := rs.map V.ref)) (fun i H' => Same H H' ∧ H' M = some (.lst ((((List.range i).filter (pr L s k)).map fun j : Nat => (j : Int)).map V.int))) ⟨same_upd nM, upd_same⟩
      (fun i H' _ p => SqL.of (p.1 _ _ hc)) (fun i x Hx H3 hi p y => ?_) (fun H3 p => ?_)⟩
    · obtain ⟨sx, hM⟩ := p
      obtain ⟨T, u, v, rfl, nT, rfl, e1, e2⟩ := y
      have hi' : i < L.length := by omega
      obtain ⟨r, hr1, vs, hvs, ha⟩ := hR.at_ hi'
      have e2' : v = .ref r := Option.some.inj (e2.symm.trans (get_map_ref hr1))
      subst e2'
      have e1' : u = .int (i : Nat) := (Option.some.inj e1).symm
      subst e1'
      have hml : L[i].length = m := hO.len _ (List.getElem_mem _)
      have hk' : k < L[i].length := by omega
      obtain ⟨vk, hvk, hak⟩ := ha.at_ hk'
      have s2 := sx.trans (same_upd (o := .tup [.int (i : Nat), .ref r]) nT)
      have act : ActOk L.length i L[i][k] := hO.ok i _ (List.getElem?_eq_getElem hi') _ (List.getElem_mem hk')
      have eA := actAt_eq hi' hk'
      have hM2 := (same_upd (o := .tup [.int (i : Nat), .ref r]) nT) _ _ hM
      have skip : ∀ H' : Hp, Same (upd Hx T (.tup [.int (i : Nat), .ref r])) H' → pr L s k i = false → Same H H' ∧ H' M = some (.lst ((((List.range (i + 1)).filter (pr L s k)).map fun j : Nat => (j : Int)).map V.int)) := fun H' s' e => ⟨s2.trans s', by
        rw [List.range_succ, List.filter_append, List.filter_cons_of_neg (by rw [e]; decide), List.filter_nil, List.append_nil]; exact s' _ _ hM2⟩
      refine ⟨T, _, rfl, SqT.of upd_same, rfl, _, _, rfl, _, _, rfl, rfl, ?_⟩
      refine ⟨rfl, _, rfl, _, rfl, r, vs, (k : Int), vk, rfl, rfl, SqL.of (s2 _ _ hvs), atI_nat hvk, _, _, (hak.keep (Tk.of s2)).dp, .str _, shaped_act act, by decide +kernel, !isThr L[i][k], by rw [eqv_thr], ?_⟩
      cases ht : isThr L[i][k] with
      | true => exact iteF (iteF (skip _ (Same.refl _) (by unfold pr; rw [eA, ht]; rfl)))
      | false =>
        refine iteT ⟨_, rfl, pp, dx, _, rfl, s2 _ _ h1, f_no (by decide +kernel), _, rfl, pp, c, l, d, e, n, s, (L.length : Int), i, rfl, hP.same s2, hB, by omega, hbl, fun H5 s5 => ⟨_, rfl, ?_⟩⟩
        cases ho : onL s i with
        | false => exact iteF (skip _ s5 (by unfold pr; rw [eA, ht, ho]; rfl))
        | true =>
          have pt : pr L s k i = true := by unfold pr; rw [eA, ht, ho]; rfl
          refine iteT ⟨_, rfl, _, s5 _ _ hM2, ?_, Same.off (s2.trans s5) nM off_upd, ?_⟩
          · rw [List.length_map, List.length_map]
            refine small1000 (Nat.le_trans (List.length_filter_le ..) ?_)
            rw [List.length_range]; omega
          · rw [upd_same, List.range_succ, List.filter_append, List.filter_cons_of_pos (by rw [pt]), List.filter_nil, List.map_append, List.map_append]
            rfl
    · obtain ⟨s3, hM⟩ := p
      rw [hlen] at hM
      have hM : H3 M = some (.lst (((filt L s k).map fun j : Nat => (j : Int)).map V.int)) := hM
      have z0 := filt_zero hO s hk
      have hne : filt L s k ≠ [] := fun z => by rw [z] at z0; cases z0
      obtain ⟨f1, f2⟩ := filt_last hne
      refine ⟨M, (filt L s k).map fun j : Nat => (j : Int), rfl, SqL.of hM, ?_, fun mx hm hmax => ?_⟩
      · rw [List.length_map]
        exact List.length_pos_iff.mpr hne
      have em : mx = ((takenL L s k : Nat) : Int) := by
        obtain ⟨j, hj, rfl⟩ := List.mem_map.mp hm
        have a1 := f2 j hj
        have a2 := hmax _ (List.mem_map.mpr ⟨_, f1, rfl⟩)
        omega
      subst em
      have ht : takenL L s k < L.length := List.mem_range.mp (List.mem_filter.mp f1).1
      obtain ⟨r, hr1, vs, hvs, ha⟩ := hR.at_ ht
      have hml : L[takenL L s k].length = m := hO.len _ (List.getElem_mem _)
      have hk' : k < L[takenL L s k].length := by omega
      obtain ⟨vk, hvk, hak⟩ := ha.at_ hk'
      refine ⟨_, rfl, _, rfl, pp, C, dx, _, _, rfl, s3 _ _ h1, cp.cl, cp.n1, f_lay, _, rfl, c, _, _, .ref r, rfl, rfl, SqL.of (s3 _ _ hc), atI_nat (get_map_ref hr1), _, rfl, r, vs, (k : Int), vk, rfl, rfl, SqL.of (s3 _ _ hvs), atI_nat hvk, (by show 2 ≤ sizeLine; decide), fun T nT => ?_⟩
      refine q _ T vk (s3.trans (same_upd nT)) upd_same ?_
      rw [actAt_eq ht hk']
      exact hak.keep (Tk.of (s3.trans (same_upd nT)))
end
end K84

set_option Elab.async false
set_option linter.all false
set_option maxRecDepth 100000
set_option maxHeartbeats 8000000
namespace K84
open PySem PySem.Spec PyProof.Rows L2 Gd Rm La Cb Pl
/-- only a player's own objects change -/
def Off4 (p l d e : Addr) (H H' : Hp) : Prop := ∀ b o, H b = some o → b ≠ p → b ≠ l → b ≠ d → b ≠ e → H' b = some o
theorem Off4.refl {p l d e : Addr} (H : Hp) : Off4 p l d e H H := fun _ _ h _ _ _ _ => h
theorem Off4.trans {p l d e : Addr} {H H1 H2 : Hp} (a : Off4 p l d e H H1) (b : Off4 p l d e H1 H2) : Off4 p l d e H H2 := fun x o h n1 n2 n3 n4 => b x o (a x o h n1 n2 n3 n4) n1 n2 n3 n4
theorem Off4.of {p l d e : Addr} {H H' : Hp} (s : Same H H') : Off4 p l d e H H' := fun b o h _ _ _ _ => s b o h
theorem Off4.upd {p l d e x : Addr} {H : Hp} {o : HO} (h : x = p ∨ x = l ∨ x = d ∨ x = e) : Off4 p l d e H (upd H x o) := fun b u hb n1 n2 n3 n4 => by
  rw [upd_ne (by rcases h with rfl | rfl | rfl | rfl <;> assumption)]
  exact hb
theorem PAt.tk {C : Addr} {H H' : Hp} {p c l d e : Addr} {n : Nat} {s : Sm} (h : PAt C H p c l d e n s) (o : Off4 p l d e H H') : Tk H H' := fun b xs hb => by
  obtain ⟨⟨dx, a⟩, b1, ⟨kvs, c1, _⟩, ⟨pvs, d1, _⟩, _⟩ := h
  exact o _ _ hb (ne_of hb a (by intro z; cases z)) (ne_of hb b1 (by intro z; cases z)) (ne_of hb c1 (by intro z; cases z)) (ne_of hb d1 (by intro z; cases z))
/-- what comes out of an event: nothing, a press, a release -/
inductive Outp where
  | no
  | pr (c : Str)
  | re (c : Str)
def outL : Outp → List V
  | .no => []
  | .pr c => [.str "press", .str c]
  | .re c => [.str "release", .str c]
def OutV (H : Hp) (o : Outp) (v : V) : Prop := ∃ T, v = .ref T ∧ H T = some (.tup (outL o))
def outP : Actn → Outp
  | .code c => .pr c
  | _ => .no
/-- what a down may do in the end -/
def DoOk (m : Nat) : Actn → Prop
  | .none => True
  | .code c => CodeOk c
  | .lay w j => w ∈ layWords ∧ 1 ≤ j ∧ j < m
  | _ => False
theorem DoOk.act {m : Nat} {x : Actn} (h : DoOk m x) : ActOk m 0 x := by
  cases x with
  | none => trivial
  | code c => exact h
  | lay w j => exact ⟨h.1, h.2.1, by have := h.2.2; omega⟩
  | thr => exact h.elim
  | dualC _ _ _ _ => exact h.elim
  | dualL _ _ _ _ => exact h.elim
def isNo : Actn → Bool
  | .none => true
  | _ => false
theorem eqv_no : ∀ x : Actn, PyData.eqv (actD x) (.str "none") = isNo x
  | .none => by decide +kernel
  | .thr => by decide +kernel
  | .code _ => rfl
  | .lay _ _ => rfl
  | .dualC _ _ _ _ => rfl
  | .dualL _ _ _ _ => rfl
theorem press_lay {s : Sm} {k : Int} {w : Str} {j : Int} : press s k (.lay w j) = if w = ("layer" : String) then { s with on := 0, bd := putB s.bd k (.lay w j) } else if w = ("lock" : String) then { s with on := 0, lk := s.lk.set j.toNat (!s.lk.getD j.toNat false) } else { s with on := j } := rfl
section
variable {P : Program} {w : World} {K : PySem.W.Frag} {mg : Str → Option Value} {base : Heap}
def spPress (C : Addr) : Sp := fun vs H Q _ => ∃ (p c l d e : Addr) (n : Nat) (s : Sm) (key : Int) (v : V) (x : Actn), vs = [.ref p, .int key, v] ∧ PAt C H p c l d e n s ∧ ActV H x v ∧ DoOk s.lk.length x ∧ s.lk.length ≤ 6 ∧ s.bd.length ≤ 500 ∧ n ≤ 500 ∧
  ∀ (H' : Hp) (o : V), PAt C H' p c l d e (n + 1) (press s key x) → Off4 p l d e H H' → OutV H' (outP x) o → Q o H'
theorem ok_press (bt : Bt mg) {C : Addr} (cp : Cp K C) {tk : Tok} (m_NO_LAYER : mg "NO_LAYER" = some (.int 0 tk)) (a : AtM K C "press" "Player.press" s_press ["self", "key", "what"]) : ClM P w K mg base 1 C "press" (spPress C) := by
  refine clMG a sc_press (fun vs H Q E h => ?_) (fun f cdv A outer s H vs Q hg hr h => ?_)
  · obtain ⟨p, c, l, d, e, n, s, key, v, x, rfl, _⟩ := h
    rfl
  · obtain ⟨p, c, l, d, e, n, s, key, v, x, rfl, hP, hv, hx, h6, hbl, hn, q⟩ := h
    refine ⟨_, (pss_cons (ps_fld (pv 0) (pe_glob (v := .int 0) (by rfl) m_NO_LAYER ⟨_, rfl⟩) rfl)
      (pss_cons (ps_if (pt_cmpR (op_eqD hr.units) (pv 2) pe_str (nomark _)) (pss_one (ps_ret (pe_tup pa_nil))) pss_nil)
      (pss_cons (ps_asg (pv 2) (pg_tup rfl (pgs_cons (pg_name (i := 3) sc_press.nd rfl (Or.inl rfl)) (pgs_cons (pg_name (i := 4) sc_press.nd rfl (Or.inl rfl)) pgs_nil))))
      (pss_cons (ps_if (pt_cmpR op_eq (pv 3) pe_str (nomark _)) (pss_cons (ps_dput (hu_of hr) (pe_fld (pv 0) rfl) (pv 1) (pv 2) rfl)
      (pss_cons (ps_dput (hu_of hr) (pe_fld (pv 0) rfl) (pv 4) (pe_op op_add (pe_dget2 (hu_of hr) (pe_fld (pv 0) rfl) (pv 4) pe_int ⟨rfl, rfl, rfl, rfl⟩) pe_int) rfl)
      (pss_one (ps_ret (pe_tup (pa_cons pe_str (pa_cons (pv 4) pa_nil))))))) pss_nil)
      (C8.pss_cut (ps_if (pt_cmpR op_eq (pv 3) pe_str (nomark _)) (pss_one (ps_dput (hu_of hr) (pe_fld (pv 0) rfl) (pv 1) (pv 2) rfl)) (pss_one (ps_if (pt_cmpR op_eq (pv 3) pe_str (nomark _)) (pss_one (ps_asg (pe_not (pe_ix ix_list (pe_fld (pv 0) rfl) (pv 4) (fun _ _ => rfl))) (pg_sub (pe_fld (pv 0) rfl) (pv 4) set_list))) (pss_one (ps_fld (pv 0) (pv 4) rfl)))))
      (pss_one (ps_ret (pe_tup pa_nil)))))))), ?_⟩
    obtain ⟨⟨dx, h1⟩, h2, ⟨kvs, h3, h3b⟩, ⟨pvs, h4, h4n, h4c, h4i⟩, hde⟩ := id hP
    have pl : p ≠ l := ne_of h1 h2 (by intro z; cases z)
    have pd : p ≠ d := ne_of h1 h3 (by intro z; cases z)
    have pe : p ≠ e := ne_of h1 h4 (by intro z; cases z)
    have ld : l ≠ d := ne_of h2 h3 (by intro z; cases z)
    have le : l ≠ e := ne_of h2 h4 (by intro z; cases z)
    refine ⟨_, rfl, p, C, dx, _, rfl, h1, cp.cl, cp.n3, (by show 5 < 1000; decide), ?_⟩
    rw [f_put]
    have oA : Off4 p l d e H (upd H p (.ins C dx (flds c l 0 d e))) := Off4.upd (.inl rfl)
    have PA0 : PAt C (upd H p (.ins C dx (flds c l 0 d e))) p c l d e n { s with on := 0 } := ⟨⟨dx, upd_same⟩, by rw [upd_ne pl.symm]; exact h2, ⟨kvs, by rw [upd_ne pd.symm]; exact h3, h3b.keep (hP.tk oA)⟩, ⟨pvs, by rw [upd_ne pe.symm]; exact h4, h4n, h4c, h4i⟩, hde⟩
    refine (fun (X : ∀ H1 : Hp, Off4 p l d e H H1 → PAt C H1 p c l d e n { s with on := 0 } → _) => X _ oA PA0) (fun H1 oA PA0 => ?_)
    have hv1 := hv.keep (hP.tk oA)
    clear h1 h2 h3 h3b h4 h4n h4c h4i
    have hbl' : ({ s with on := 0 } : Sm).bd.length ≤ 500 := hbl
    obtain ⟨⟨dx, h1⟩, h2, ⟨kvs, h3, h3b⟩, ⟨pvs, h4, h4n, h4c, h4i⟩, _⟩ := id PA0
    refine ⟨_, rfl, _, _, hv1.dp, .str _, shaped_act hx.act, by decide +kernel, isNo x, congrArg V.bl (eqv_no x), ?_⟩
    have nothing : ∀ (H2 : Hp) (s' : Sm), press s key x = s' → outP x = .no → PAt C H2 p c l d e n s' → Off4 p l d e H H2 → ∀ T : Addr, H2 T = none → Q (.ref T) (upd H2 T (.tup [])) := fun H2 s' e1 e2 P2 o2 T nT => by
      obtain ⟨b1, b2, b3, ⟨b4, b5, b6, b7⟩, b8⟩ := P2.same (same_upd (o := .tup []) nT)
      exact q _ _ (by rw [e1]; exact ⟨b1, b2, b3, ⟨b4, b5, by omega, b7⟩, b8⟩) (o2.trans (Off4.of (same_upd nT))) (by rw [e2]; exact ⟨T, rfl, upd_same⟩)
    cases x with
    | none => exact iteT ⟨Nat.zero_le _, fun T nT => nothing H1 _ rfl rfl PA0 oA T nT⟩
    | thr => exact hx.elim
    | dualC _ _ _ _ => exact hx.elim
    | dualL _ _ _ _ => exact hx.elim
    | code y =>
      refine iteF ?_
      obtain ⟨a, rfl, ha⟩ := hv1
      refine ⟨_, rfl, a, _, rfl, SqT.of ha, rfl, _, _, rfl, _, _, rfl, rfl, ?_⟩
      refine ⟨_, rfl, rfl, true, rfl, iteT ?_⟩
      refine ⟨_, rfl, _, rfl, p, C, dx, _, _, rfl, h1, cp.cl, cp.n4, f_bound, _, rfl, d, _, rfl, DPut.k (k := Sum.inl key) h3 (small1000 (by have := h3b.length; omega)), ?_⟩
      have hkl : (putK kvs (Sum.inl key) (.ref a)).length ≤ 600 := by
        have := put_len kvs (Sum.inl key) (.ref a)
        have := h3b.length
        omega
      have h1' : upd H1 d (.dK (putK kvs (Sum.inl key) (.ref a))) p = some (.ins C dx (flds c l 0 d e)) := by rw [upd_ne pd]; exact h1
      have h4' : upd H1 d (.dK (putK kvs (Sum.inl key) (.ref a))) e = some (.dK pvs) := by rw [upd_ne hde.symm]; exact h4
      obtain ⟨z, hz⟩ : ∃ z, (valV pvs (Sum.inr y)).getD (.int 0) = .int z := by
        cases hh : valV pvs (Sum.inr y) with
        | none => exact ⟨0, rfl⟩
        | some v =>
          obtain ⟨z, rfl⟩ := h4i _ _ hh
          exact ⟨z, rfl⟩
      refine ⟨_, rfl, p, C, dx, _, _, rfl, h1', cp.cl, cp.n5, f_pressed, e, rfl, .inl ⟨pvs, .inl h4'⟩, _, rfl, _, DGet.k (k := Sum.inr y) h4', ?_⟩
      rw [hz]
      refine ⟨_, _, rfl, rfl, _, rfl, p, C, dx, _, _, rfl, h1', cp.cl, cp.n5, f_pressed, _, rfl, e, _, rfl, DPut.k (k := Sum.inr y) h4' (small1000 (by omega)), ?_⟩
      refine ⟨_, rfl, (by show 2 ≤ sizeLine; decide), fun T nT => ?_⟩
      have oB : Off4 p l d e H (upd (upd H1 d (.dK (putK kvs (Sum.inl key) (.ref a)))) e (.dK (putK pvs (Sum.inr y) (.int (z + 1))))) := oA.trans ((Off4.upd (.inr (.inr (.inl rfl)))).trans (Off4.upd (.inr (.inr (.inr rfl)))))
      have tB : Tk H1 (upd (upd H1 d (.dK (putK kvs (Sum.inl key) (.ref a)))) e (.dK (putK pvs (Sum.inr y) (.int (z + 1))))) := PA0.tk ((Off4.upd (.inr (.inr (.inl rfl)))).trans (Off4.upd (.inr (.inr (.inr rfl)))))
      have PB : PAt C (upd (upd H1 d (.dK (putK kvs (Sum.inl key) (.ref a)))) e (.dK (putK pvs (Sum.inr y) (.int (z + 1))))) p c l d e (n + 1) (press s key (.code y)) := by
        refine ⟨⟨dx, by rw [upd_ne pe, upd_ne pd]; exact h1⟩, by rw [upd_ne le, upd_ne ld]; exact h2, ⟨_, by rw [upd_ne hde]; exact upd_same, ?_⟩, ⟨_, upd_same, ?_, ?_, ?_⟩, hde⟩
        · exact (h3b.keep tB).put ⟨a, rfl, tB _ _ ha⟩
        · have := put_len pvs (Sum.inr y) (.int (z + 1)); omega
        · intro q' hq' x' hx'
          rw [valV_put]
          by_cases e1 : x' = y
          · rw [if_pos (by rw [e1])]; exact ⟨_, rfl⟩
          · rw [if_neg (fun zz => e1 (Sum.inr.inj zz))]
            rcases putB_mem hq' with h | h
            · exact h4c q' h x' hx'
            · rw [h] at hx'
              exact absurd (Actn.code.inj hx').symm e1
        · intro k v hk
          rw [valV_put] at hk
          by_cases e1 : k = Sum.inr y
          · rw [if_pos e1] at hk
            exact ⟨_, (Option.some.inj hk).symm⟩
          · rw [if_neg e1] at hk
            exact h4i k v hk
      exact q _ _ (PB.same (same_upd nT)) (oB.trans (Off4.of (same_upd nT))) ⟨T, rfl, upd_same⟩
    | lay u j =>
      refine iteF ?_
      obtain ⟨a, rfl, ha⟩ := hv1
      obtain ⟨x1, x2, x3⟩ := hx
      have hu : decide (u = (("code" : String) : Str)) = false := by
        refine decide_eq_false ?_
        rintro rfl
        revert x1
        decide +kernel
      refine ⟨_, rfl, a, _, rfl, SqT.of ha, rfl, _, _, rfl, _, _, rfl, rfl, ?_⟩
      refine ⟨_, rfl, rfl, false, eqS hu, iteF ?_⟩
      refine ⟨fun σ' H' => PAt C H' p c l d e n (press s key (.lay u j)) ∧ Off4 p l d e H H', ?_, ?_⟩
      · by_cases w1 : u = (("layer" : String) : Str)
        · refine ⟨_, rfl, rfl, true, eqS (decide_eq_true w1), iteT ?_⟩
          refine ⟨_, rfl, _, rfl, p, C, dx, _, _, rfl, h1, cp.cl, cp.n4, f_bound, _, rfl, d, _, rfl, DPut.k (k := Sum.inl key) h3 (small1000 (by have := h3b.length; omega)), ?_⟩
          have oB : Off4 p l d e H1 (upd H1 d (.dK (putK kvs (Sum.inl key) (.ref a)))) := Off4.upd (.inr (.inr (.inl rfl)))
          have tB := PA0.tk oB
          refine ⟨?_, oA.trans oB⟩
          rw [press_lay, if_pos w1]
          refine ⟨⟨dx, by rw [upd_ne pd]; exact h1⟩, by rw [upd_ne ld]; exact h2, ⟨_, upd_same, (h3b.keep tB).put ⟨a, rfl, tB _ _ ha⟩⟩, ⟨pvs, by rw [upd_ne hde.symm]; exact h4, h4n, fun q' hq' x' hx' => ?_, h4i⟩, hde⟩
          rcases putB_mem hq' with h | h
          · exact h4c q' h x' hx'
          · rw [h] at hx'; cases hx'
        · refine ⟨_, rfl, rfl, false, eqS (decide_eq_false w1), iteF ?_⟩
          by_cases w2 : u = (("lock" : String) : Str)
          · refine ⟨_, rfl, rfl, true, eqS (decide_eq_true w2), iteT ?_⟩
            have hj : j = ((j.toNat : Nat) : Int) := by omega
            have hj' : j.toNat < s.lk.length := by omega
            have hix : ixN (s.lk.map V.bl).length j = some j.toNat := by
              rw [List.length_map]
              unfold ixN
              rw [if_pos (by omega), if_pos (by omega)]
            refine ⟨_, rfl, p, C, dx, _, _, rfl, h1, cp.cl, cp.n2, f_lock, _, rfl, l, _, j, _, rfl, rfl, SqL.of h2, (by rw [hj]; exact atI_nat (bl_at hj')), ?_⟩
            refine ⟨_, rfl, _, rfl, p, C, dx, _, _, rfl, h1, cp.cl, cp.n2, f_lock, _, rfl, l, _, j, j.toNat, rfl, rfl, h2, hix, ?_⟩
            have oB : Off4 p l d e H1 (upd H1 l (.lst ((s.lk.map V.bl).set j.toNat (.bl (!s.lk.getD j.toNat false))))) := Off4.upd (.inr (.inl rfl))
            have tB := PA0.tk oB
            refine ⟨?_, oA.trans oB⟩
            rw [press_lay, if_neg w1, if_pos w2]
            exact ⟨⟨dx, by rw [upd_ne pl]; exact h1⟩, by rw [upd_same, List.map_set], ⟨kvs, by rw [upd_ne ld.symm]; exact h3, h3b.keep tB⟩, ⟨pvs, by rw [upd_ne le.symm]; exact h4, h4n, h4c, h4i⟩, hde⟩
          · refine ⟨_, rfl, rfl, false, eqS (decide_eq_false w2), iteF ?_⟩
            refine ⟨_, rfl, _, rfl, p, C, dx, _, rfl, h1, cp.cl, cp.n3, (by show 5 < 1000; decide), ?_⟩
            rw [f_put]
            have oB : Off4 p l d e H1 (upd H1 p (.ins C dx (flds c l j d e))) := Off4.upd (.inl rfl)
            have tB := PA0.tk oB
            refine ⟨?_, oA.trans oB⟩
            rw [press_lay, if_neg w1, if_neg w2]
            exact ⟨⟨dx, upd_same⟩, by rw [upd_ne pl.symm]; exact h2, ⟨kvs, by rw [upd_ne pd.symm]; exact h3, h3b.keep tB⟩, ⟨pvs, by rw [upd_ne pe.symm]; exact h4, h4n, h4c, h4i⟩, hde⟩
      · rintro σ' H2 ⟨P2, o2⟩
        exact ⟨Nat.zero_le _, fun T nT => nothing H2 _ rfl rfl P2 o2 T nT⟩
def relO (s : Sm) (key : Int) : Outp := match getB s.bd key with | some (.code c) => .re c | _ => .no
def spRelease (C : Addr) : Sp := fun vs H Q _ => ∃ (p c l d e : Addr) (n : Nat) (s : Sm) (m : Int) (key : Int), vs = [.ref p, .int key] ∧ PAt C H p c l d e n s ∧ BdsOk m s.bd ∧ n ≤ 500 ∧
  ∀ (H' : Hp) (o : V), PAt C H' p c l d e (n + 1) (release s key) → Off4 p l d e H H' → OutV H' (relO s key) o → Q o H'
theorem ok_release (bt : Bt mg) {C : Addr} (cp : Cp K C) {tk : Tok} (m_NO_LAYER : mg "NO_LAYER" = some (.int 0 tk)) (a : AtM K C "release" "Player.release" s_release ["self", "key"]) : ClM P w K mg base 1 C "release" (spRelease C) := by
  refine clMG a sc_release (fun vs H Q E h => ?_) (fun f cdv A outer s H vs Q hg hr h => ?_)
  · obtain ⟨p, c, l, d, e, n, s, m, key, rfl, _⟩ := h
    rfl
  · obtain ⟨p, c, l, d, e, n, s, m, key, rfl, hP, hB, hn, q⟩ := h
    refine ⟨_, (pss_cons (ps_asg (pe_dpop2 (pe_fld (pv 0) rfl) (pv 1) (pe_tup (pa_cons pe_str (pa_cons (pe_glob (v := .int 0) (by rfl) m_NO_LAYER ⟨_, rfl⟩) pa_nil))) ⟨rfl, rfl, rfl, rfl⟩) (pg_tup rfl (pgs_cons (pg_name (i := 2) sc_release.nd rfl (Or.inl rfl)) (pgs_cons (pg_name (i := 3) sc_release.nd rfl (Or.inl rfl)) pgs_nil))))
      (pss_cons (ps_if (pt_cmpR op_ne (pv 2) pe_str (nomark _)) (pss_one (ps_ret (pe_tup pa_nil))) pss_nil)
      (pss_cons (ps_dput (hu_of hr) (pe_fld (pv 0) rfl) (pv 3) (pe_op op_sub (pe_dget (hu_of hr) (pe_fld (pv 0) rfl) (pv 3) (fun _ _ => rfl)) pe_int) rfl)
      (pss_one (ps_ret (pe_tup (pa_cons pe_str (pa_cons (pv 3) pa_nil)))))))), ?_⟩
    obtain ⟨⟨dx, h1⟩, h2, ⟨kvs, h3, h3b⟩, ⟨pvs, h4, h4n, h4c, h4i⟩, hde⟩ := id hP
    have pl : p ≠ l := ne_of h1 h2 (by intro z; cases z)
    have pd : p ≠ d := ne_of h1 h3 (by intro z; cases z)
    have pe : p ≠ e := ne_of h1 h4 (by intro z; cases z)
    have ld : l ≠ d := ne_of h2 h3 (by intro z; cases z)
    have le : l ≠ e := ne_of h2 h4 (by intro z; cases z)
    refine ⟨_, rfl, p, C, dx, _, _, rfl, h1, cp.cl, cp.n4, f_bound, d, rfl, .inl ⟨kvs, .inl h3⟩, _, rfl, (by show 2 ≤ sizeLine; decide), fun T nT => ?_⟩
    have sT := same_upd (o := .tup [.str "none", .int 0]) nT
    have oT := Off4.of (p := p) (l := l) (d := d) (e := e) sT
    have PT := hP.same sT
    have hT := upd_same (H := H) (a := T) (o := .tup [.str "none", .int 0])
    refine (fun (X : ∀ H1 : Hp, PAt C H1 p c l d e n s → Off4 p l d e H H1 → H1 T = some (.tup [.str "none", .int 0]) → H1 d = some (.dK kvs) → _) => X _ PT oT hT (sT _ _ h3)) (fun H1 P1 o1 hT h3 => ?_)
    clear h1 h2 h3b h4 h4n h4c h4i PT oT sT nT
    obtain ⟨⟨dx, h1⟩, h2, ⟨kvs', h3', h3b⟩, ⟨pvs, h4, h4n, h4c, h4i⟩, _⟩ := id P1
    cases HO.dK.inj (Option.some.inj (h3.symm.trans h3'))
    have dropped : release s key = { s with bd := dropB s.bd key } := rfl
    have PD : ∀ H2 : Hp, H2 = upd H1 d (.dK (dropK kvs (Sum.inl key))) → PAt C H2 p c l d e n (release s key) := fun H2 e2 => by
      subst e2
      have oB : Off4 p l d e H1 (upd H1 d (.dK (dropK kvs (Sum.inl key)))) := Off4.upd (.inr (.inr (.inl rfl)))
      exact ⟨⟨dx, by rw [upd_ne pd]; exact h1⟩, by rw [upd_ne ld]; exact h2, ⟨_, upd_same, (h3b.keep (P1.tk oB)).drop key⟩, ⟨pvs, by rw [upd_ne hde.symm]; exact h4, h4n, fun q' hq' => h4c q' (dropB_mem hq'), h4i⟩, hde⟩
    have nothing : ∀ (H2 : Hp), relO s key = .no → PAt C H2 p c l d e n (release s key) → Off4 p l d e H H2 → ∀ T : Addr, H2 T = none → Q (.ref T) (upd H2 T (.tup [])) := fun H2 e2 P2 o2 T nT => by
      obtain ⟨b1, b2, b3, ⟨b4, b5, b6, b7⟩, b8⟩ := P2.same (same_upd (o := .tup []) nT)
      exact q _ _ ⟨b1, b2, b3, ⟨b4, b5, by omega, b7⟩, b8⟩ (o2.trans (Off4.of (same_upd nT))) (by rw [e2]; exact ⟨T, rfl, upd_same⟩)
    refine ⟨kvs, Sum.inl key, h3, rfl, fun v hv => ?_, fun hv => ?_⟩
    · rcases h3b.get key with ⟨g1, _⟩ | ⟨v', x, g1, g2, g3⟩
      · rw [g1] at hv; cases hv
      rw [g1] at hv
      cases hv
      obtain ⟨q0, hq0, e1, e2⟩ := getB_mem g2
      have hbx := hB q0 hq0
      rw [e2] at hbx
      have oB : Off4 p l d e H1 (upd H1 d (.dK (dropK kvs (Sum.inl key)))) := Off4.upd (.inr (.inr (.inl rfl)))
      have tB := P1.tk oB
      cases x with
      | none => exact hbx.elim
      | thr => exact hbx.elim
      | dualC _ _ _ _ => exact hbx.elim
      | dualL _ _ _ _ => exact hbx.elim
      | lay u j =>
        obtain ⟨a, rfl, ha⟩ := g3
        obtain ⟨rfl, _⟩ := hbx
        refine ⟨a, _, rfl, SqT.of (tB _ _ ha), rfl, _, _, rfl, _, _, rfl, rfl, ?_⟩
        refine ⟨_, rfl, rfl, true, by decide +kernel, iteT ⟨Nat.zero_le _, fun T2 n2 => nothing _ (by unfold relO; rw [g2]) (PD _ rfl) (o1.trans oB) T2 n2⟩⟩
      | code y =>
        obtain ⟨a, rfl, ha⟩ := g3
        refine ⟨a, _, rfl, SqT.of (tB _ _ ha), rfl, _, _, rfl, _, _, rfl, rfl, ?_⟩
        refine ⟨_, rfl, rfl, false, by decide +kernel, iteF ?_⟩
        obtain ⟨z, hz⟩ := h4c q0 hq0 y e2
        have h1' : upd H1 d (.dK (dropK kvs (Sum.inl key))) p = some (.ins C dx (flds c l s.on d e)) := by rw [upd_ne pd]; exact h1
        have h4' : upd H1 d (.dK (dropK kvs (Sum.inl key))) e = some (.dK pvs) := by rw [upd_ne hde.symm]; exact h4
        refine ⟨_, rfl, p, C, dx, _, _, rfl, h1', cp.cl, cp.n5, f_pressed, _, rfl, e, _, rfl, (by have := DGet.k (k := (Sum.inr y : Key)) h4'; rw [hz] at this; exact this), ?_⟩
        refine ⟨_, _, rfl, rfl, _, rfl, p, C, dx, _, _, rfl, h1', cp.cl, cp.n5, f_pressed, _, rfl, e, _, rfl, DPut.k (k := Sum.inr y) h4' (small1000 (by omega)), ?_⟩
        refine ⟨_, rfl, (by show 2 ≤ sizeLine; decide), fun T2 n2 => ?_⟩
        have oC : Off4 p l d e (upd H1 d (.dK (dropK kvs (Sum.inl key)))) (upd (upd H1 d (.dK (dropK kvs (Sum.inl key)))) e (.dK (putK pvs (Sum.inr y) (.int (z - 1))))) := Off4.upd (.inr (.inr (.inr rfl)))
        have PE : PAt C (upd (upd H1 d (.dK (dropK kvs (Sum.inl key)))) e (.dK (putK pvs (Sum.inr y) (.int (z - 1))))) p c l d e (n + 1) (release s key) := by
          obtain ⟨b1, b2, ⟨k2, b3, b3'⟩, ⟨b4, b5, b6, b7⟩, b8⟩ := PD _ rfl
          refine ⟨⟨dx, by rw [upd_ne pe]; exact h1'⟩, by rw [upd_ne le, upd_ne ld]; exact h2, ⟨k2, by rw [upd_ne hde]; exact b3, b3'.keep ((PD _ rfl).tk oC)⟩, ⟨_, upd_same, ?_, ?_, ?_⟩, hde⟩
          · have := put_len pvs (Sum.inr y) (.int (z - 1)); omega
          · intro q' hq' x' hx'
            rw [valV_put]
            by_cases e1 : x' = y
            · rw [if_pos (by rw [e1])]; exact ⟨_, rfl⟩
            · rw [if_neg (fun zz => e1 (Sum.inr.inj zz))]
              exact h4c q' (dropB_mem hq') x' hx'
          · intro k v hk
            rw [valV_put] at hk
            by_cases e1 : k = Sum.inr y
            · rw [if_pos e1] at hk
              exact ⟨_, (Option.some.inj hk).symm⟩
            · rw [if_neg e1] at hk
              exact h4i k v hk
        exact q _ _ (PE.same (same_upd n2)) (((o1.trans oB).trans oC).trans (Off4.of (same_upd n2))) (by unfold relO; rw [g2]; exact ⟨T2, rfl, upd_same⟩)
    · rcases h3b.get key with ⟨_, g2⟩ | ⟨v', x, g1, _⟩
      · have eb : release s key = s := by
          unfold Pl.release
          have : dropB s.bd key = s.bd := by
            unfold dropB
            rw [List.filter_eq_self]
            intro p' hp'
            unfold getB at g2
            rw [Option.map_eq_none_iff, List.find?_eq_none] at g2
            have := g2 p' hp'
            simpa using this
          rw [this]
        refine ⟨T, _, rfl, SqT.of hT, rfl, _, _, rfl, _, _, rfl, rfl, ?_⟩
        refine ⟨_, rfl, rfl, true, by decide +kernel, iteT ⟨Nat.zero_le _, fun T2 n2 => nothing H1 (by unfold relO; rw [g2]) (by rw [eb]; exact P1) o1 T2 n2⟩⟩
      · rw [g1] at hv; cases hv
end
end K84

set_option Elab.async false
set_option linter.all false
set_option maxRecDepth 100000
set_option maxHeartbeats 8000000
namespace K84
open PySem PySem.Spec PyProof.Rows L2 Gd Rm La Cb Pl
def optN : Option Nat → V
  | none => .non
  | some n => .int (n : Int)
theorem two {T G : Prop} (f : G → T) (g : G) : T := f g
theorem what_plain {x : Actn} : whatM x "plain" = x := if_pos rfl
theorem what_tap {x : Actn} : whatM x "tap" = tapOf x := by
  unfold whatM
  rw [if_neg (by decide +kernel), if_pos rfl]
theorem what_hold {x : Actn} : whatM x "hold" = holdOf x := by
  unfold whatM
  rw [if_neg (by decide +kernel), if_neg (by decide +kernel)]
section
variable {P : Program} {w : World} {K : PySem.W.Frag} {mg : Str → Option Value} {base : Heap}
def spWhat : Sp := fun vs H Q _ => ∃ (v : V) (x : Actn) (kind : Str), vs = [v, .str kind] ∧ ActV H x v ∧ (kind = ("plain" : String) ∨ (isDl x = true ∧ (kind = ("tap" : String) ∨ kind = ("hold" : String)))) ∧ ∀ H' v', Same H H' → ActV H' (whatM x kind) v' → Q v' H'
theorem ok_what_is_done (a : At K mg "what_is_done" s_what_is_done ["action", "kind"]) : Cl P w K mg base 1 "what_is_done" spWhat := by
  refine clG a sc_what_is_done (fun vs H Q E h => ?_) (fun f cdv A outer s H vs Q hg hr h => ?_)
  · obtain ⟨v, x, kind, rfl, _⟩ := h
    rfl
  · obtain ⟨v, x, kind, rfl, hv, hk, q⟩ := h
    refine ⟨_, (pss_cons (ps_if (pt_cmpR op_eq (pv 1) pe_str (nomark _)) (pss_one (ps_ret (pv 0))) pss_nil)
      (pss_cons (ps_if (pt_cmpR op_eq (pv 1) pe_str (nomark _)) (pss_one (ps_ret (pe_tup (pa_cons pe_str (pa_cons (pe_ix ix_tup (pv 0) pe_int (fun _ _ => rfl)) pa_nil))))) pss_nil)
      (pss_one (ps_ret (pe_ix ix_tup (pv 0) pe_int (fun _ _ => rfl)))))), ?_⟩
    rcases hk with rfl | ⟨hd, hk⟩
    · refine ⟨_, rfl, rfl, true, by decide +kernel, iteT ⟨_, rfl, q _ _ (Same.refl _) (by rw [what_plain]; exact hv)⟩⟩
    · have two : ∃ (a b : Addr) (c r : Str) (t : Int), v = .ref a ∧ H a = some (.tup [.str "dual", .str c, .ref b, .int t, .str r]) ∧ tapOf x = .code c ∧ ActV H (holdOf x) (.ref b) := by
        cases x with
        | dualC c d t r =>
          obtain ⟨a, b, e1, e2, e3⟩ := hv
          exact ⟨a, b, c, r, t, e1, e2, rfl, ⟨b, rfl, e3⟩⟩
        | dualL c j t r =>
          obtain ⟨a, b, e1, e2, e3⟩ := hv
          exact ⟨a, b, c, r, t, e1, e2, rfl, ⟨b, rfl, e3⟩⟩
        | _ => cases hd
      obtain ⟨a, b, c, r, t, rfl, ha, ht, hb⟩ := two
      rcases hk with rfl | rfl
      · refine ⟨_, rfl, rfl, false, by decide +kernel, iteF ⟨_, rfl, rfl, true, by decide +kernel, iteT ?_⟩⟩
        refine ⟨_, rfl, a, _, 1, .str c, rfl, rfl, SqT.of ha, atI_nat (j := 1) rfl, (by show 2 ≤ sizeLine; decide), fun T nT => ?_⟩
        exact q _ _ (same_upd nT) (by rw [what_tap, ht]; exact ⟨T, rfl, upd_same⟩)
      · refine ⟨_, rfl, rfl, false, by decide +kernel, iteF ⟨_, rfl, rfl, false, by decide +kernel, iteF ?_⟩⟩
        exact ⟨_, rfl, a, _, 2, .ref b, rfl, rfl, SqT.of ha, atI_nat (j := 2) rfl, q _ _ (Same.refl _) (by rw [what_hold]; exact hb)⟩
def spDec : Sp := fun vs H Q _ => ∃ (c : Addr) (es : List Ev) (i : Nat) (r : Str), vs = [.ref c, .int (i : Int), .str r] ∧ Lst evV H c es ∧ i < es.length ∧ es.length ≤ 400 ∧ ∀ H', Same H H' → Q (optN (decM es i r)) H'
theorem ok_deciding_event (bt : Bt mg) (a : At K mg "deciding_event" s_deciding_event ["record", "at", "rule"]) : Cl P w K mg base 1 "deciding_event" spDec := by
  refine clG a sc_deciding_event (fun vs H Q E h => ?_) (fun f cdv A outer s H vs Q hg hr h => ?_)
  · obtain ⟨c, es, i, r, rfl, _⟩ := h
    rfl
  · obtain ⟨c, es, i, r, rfl, hL, hi, h4, q⟩ := h
    refine ⟨_, (pss_cons (ps_set (i := 3) sc_deciding_event.nd rfl (Or.inl rfl) (pe_ix ix_tup (pe_ix ix_list (pv 0) (pv 1) (fun _ _ => rfl)) pe_int (fun _ _ => rfl)))
      (pss_cons (ps_set (i := 4) sc_deciding_event.nd rfl (Or.inl rfl) (pe_lst pa_nil))
      (pss_cons (ps_for PassesOwn.never rfl (pi_range2 (by rfl) bt.m_range (pa_cons (pe_op op_add (pv 1) pe_int) (pa_cons (pe_callB call_len_seq (by rfl) bt.m_len (by decide +kernel) (pa_cons (pv 0) pa_nil)) pa_nil))) (pg_name (i := 5) sc_deciding_event.nd rfl (Or.inl rfl)) (pss_cons (ps_asg (pe_ix ix_list (pv 0) (pv 5) (fun _ _ => rfl)) (pg_tup rfl (pgs_cons (pg_name (i := 6) sc_deciding_event.nd rfl (Or.inl rfl)) (pgs_cons (pg_name (i := 7) sc_deciding_event.nd rfl (Or.inl rfl)) (pgs_cons (pg_name (i := 8) sc_deciding_event.nd rfl (Or.inl rfl)) pgs_nil)))))
      (pss_cons (ps_if (PW.pt (pw_or (pt_cmpR op_eq (pv 7) (pv 3) (nomark _)) (pw_or1 (PW.pt (pw_and (pt_cmpR op_eq (pv 2) pe_str (nomark _)) (pw_and1 (pt_cmpR op_eq (pv 8) pe_str (nomark _)))))))) (pss_one (ps_ret (pv 5))) pss_nil)
      (pss_one (ps_if (pt_cmpR op_eq (pv 8) pe_str (nomark _)) (pss_one (ps_expr (pe_bm PySem.F.plainAttrs_list PySem.F.slot_list_append PySem.F.type_list_append mt_append (pv 4) (pa_cons (pv 7) pa_nil)))) (pss_one (ps_if (PW.pt (pw_and (pt_cmpR op_eq (pv 2) pe_str (nomark _)) (pw_and1 (pt_cmpR op_in_seq (pv 7) (pv 4) (by rfl))))) (pss_one (ps_ret (pv 5))) pss_nil)))))))
      (pss_one (ps_ret pe_non))))), ?_⟩
    obtain ⟨as, hc, hT⟩ := id hL
    have hlen : (as.map V.ref).length = es.length := by rw [List.length_map]; exact hT.1
    obtain ⟨b, hb, hbt⟩ := hT.at_ hi
    refine ⟨_, rfl, _, rfl, c, _, (i : Int), .ref b, rfl, rfl, SqL.of hc, atI_nat (get_map_ref hb), b, _, 1, _, rfl, rfl, SqT.of hbt, atI_nat (j := 1) rfl, Nat.zero_le _, fun I nI => ?_⟩
    have sI := same_upd (o := .lst []) nI
    refine ⟨_, rfl, _, _, rfl, rfl, _, rfl, c, _, rfl, .inl (SqL.of (sI _ _ hc)), ?_⟩
    have hcI := sI _ _ hc
    have inv0 : decM es i r = ((decEv es[i].k r [] (es.drop (i + 1 + 0))).map (· + 0)).map (· + (i + 1)) := by
      unfold decM
      rw [List.getD_eq_getElem?_getD, List.getElem?_eq_getElem hi, Option.getD_some, Nat.add_zero]
      cases decEv es[i].k r [] (es.drop (i + 1)) <;> rfl
    refine ⟨_, _, rfl, ⟨by omega, by omega, by omega, by omega⟩, for_it walk_range (fun j σ H' => ∃ (inner : List Int) (y5 y6 y7 y8 : Option V), σ = [some (.ref c), some (.int (i : Int)), some (.str r), some (.int es[i].k), some (.ref I), y5, y6, y7, y8] ∧ Same H H' ∧ H' I = some (.lst (inner.map V.int)) ∧ inner.length ≤ j ∧ decM es i r = ((decEv es[i].k r inner (es.drop (i + 1 + j))).map (· + j)).map (· + (i + 1)))
      ⟨[], _, _, _, _, rfl, sI, upd_same, Nat.le_refl _, inv0⟩ (fun _ _ _ _ _ => True.intro) (fun j x σ Hx H1 hj p y => ?_) (fun σ H1 p => ?_)⟩
    · obtain ⟨inner, y5, y6, y7, y8, rfl, s1, hI, hin, hd⟩ := p
      obtain ⟨rfl, rfl⟩ := y
      have hj' : i + 1 + j < es.length := by rw [hlen] at hj; omega
      have en : (i : Int) + 1 + (j : Int) = ((i + 1 + j : Nat) : Int) := by omega
      obtain ⟨b2, hb2, hbt2⟩ := hT.at_ hj'
      have hdr : es.drop (i + 1 + j) = es[i + 1 + j] :: es.drop (i + 1 + (j + 1)) := List.drop_eq_getElem_cons hj'
      rw [hdr] at hd
      refine ⟨_, rfl, _, rfl, c, _, _, .ref b2, rfl, rfl, SqL.of (s1 _ _ hc), (by rw [en]; exact atI_nat (get_map_ref hb2)), b2, _, rfl, SqT.of (s1 _ _ hbt2), rfl, _, _, rfl, _, _, rfl, _, _, rfl, rfl, ?_⟩
      have found : decEv es[i].k r inner (es[i + 1 + j] :: es.drop (i + 1 + (j + 1))) = some 0 → Q (.int ((i : Int) + 1 + (j : Int))) H1 := fun e => by
        have := q H1 s1
        rw [hd, e] at this
        rw [show (i : Int) + 1 + (j : Int) = ((0 + j + (i + 1) : Nat) : Int) by omega]
        exact this
      generalize he : es[i + 1 + j] = ev at *
      unfold decEv at hd found
      by_cases hc : ev.k = es[i].k ∨ r = (("other" : String) : Str) ∧ ev.d = true
      · replace found := found (if_pos hc)
        by_cases h1 : ev.k = es[i].k
        · exact ⟨_, rfl, _, rfl, rfl, true, eqI (decide_eq_true h1), iteT ⟨_, rfl, found⟩⟩
        · obtain ⟨h2, hdd⟩ := hc.resolve_left h1
          exact ⟨_, rfl, _, rfl, rfl, false, eqI (decide_eq_false h1), iteF ⟨_, rfl, rfl, true, eqS (decide_eq_true h2), iteT ⟨_, rfl, rfl, true, congrArg V.bl ((wayS_down ev.d).trans hdd), iteT ⟨_, rfl, found⟩⟩⟩⟩
      · have h1 : ¬ ev.k = es[i].k := fun z => hc (.inl z)
        rw [if_neg hc] at hd found
        refine ⟨_, rfl, _, rfl, rfl, false, eqI (decide_eq_false h1), iteF ?_⟩
        apply two
        · intro G
          by_cases h2 : r = (("other" : String) : Str)
          · have hdd : ev.d = false := by
              cases e : ev.d with
              | false => rfl
              | true => exact (hc (.inr ⟨h2, e⟩)).elim
            exact ⟨_, rfl, rfl, true, eqS (decide_eq_true h2), iteT ⟨_, rfl, rfl, false, congrArg V.bl ((wayS_down ev.d).trans hdd), iteF G⟩⟩
          · exact ⟨_, rfl, rfl, false, eqS (decide_eq_false h2), iteF (iteF G)⟩
        · refine ⟨_, rfl, rfl, ev.d, congrArg V.bl (wayS_down ev.d), ?_⟩
          cases hdd : ev.d with
          | true =>
            rw [hdd, if_pos rfl] at hd
            refine iteT ⟨_, rfl, .inl ⟨rfl, _, SqL.of hI⟩, _, rfl, I, _, .int ev.k, rfl, rfl, hI, small1000 (by rw [List.length_map]; omega), inner ++ [ev.k], _, _, _, _, rfl, Same.off s1 nI off_upd, by rw [upd_same, List.map_append]; rfl, by rw [List.length_append]; show _ + 1 ≤ _; omega, ?_⟩
            rw [hd]
            cases decEv es[i].k r (inner ++ [ev.k]) (es.drop (i + 1 + (j + 1))) with
            | none => rfl
            | some n => exact congrArg some (by show n + 1 + j + (i + 1) = n + (j + 1) + (i + 1); omega)
          | false =>
            rw [hdd, if_neg (by decide)] at hd found
            by_cases hc2 : r = (("within" : String) : Str) ∧ ev.k ∈ inner
            · exact iteF ⟨_, rfl, rfl, true, eqS (decide_eq_true hc2.1), iteT ⟨_, rfl, _, rfl, I, _, rfl, .inl (SqL.of hI), rfl, flat_ints inner, true, congrArg V.bl ((inv_int _ _).trans (decide_eq_true hc2.2)), iteT ⟨_, rfl, found (if_pos hc2)⟩⟩⟩
            · rw [if_neg hc2] at hd
              apply two
              · intro G
                by_cases h3 : r = (("within" : String) : Str)
                · have h4' : ¬ ev.k ∈ inner := fun z => hc2 ⟨h3, z⟩
                  exact iteF ⟨_, rfl, rfl, true, eqS (decide_eq_true h3), iteT ⟨_, rfl, _, rfl, I, _, rfl, .inl (SqL.of hI), rfl, flat_ints inner, false, congrArg V.bl ((inv_int _ _).trans (decide_eq_false h4')), iteF G⟩⟩
                · exact iteF ⟨_, rfl, rfl, false, eqS (decide_eq_false h3), iteF (iteF G)⟩
              · refine ⟨inner, _, _, _, _, rfl, s1, hI, by omega, ?_⟩
                rw [hd]
                cases decEv es[i].k r inner (es.drop (i + 1 + (j + 1))) with
                | none => rfl
                | some n => exact congrArg some (by show n + 1 + j + (i + 1) = n + (j + 1) + (i + 1); omega)
    · obtain ⟨inner, y5, y6, y7, y8, rfl, s1, hI, hin, hd⟩ := p
      rw [List.drop_of_length_le (by rw [hlen]; omega)] at hd
      unfold decEv at hd
      have := q H1 s1
      rw [hd] at this
      exact this
end
end K84

set_option Elab.async false
set_option linter.all false
set_option maxRecDepth 100000
set_option maxHeartbeats 8000000
namespace K84
open PySem PySem.Spec PyProof.Rows L2 Gd Rm La Cb Pl
theorem decEv_lt {own : Int} {r : Str} : ∀ {es : List Ev} {inner : List Int} {n : Nat}, decEv own r inner es = some n → n < es.length
  | [], _, _, h => by cases h
  | e :: es, inner, n, h => by
    rw [List.length_cons]
    unfold decEv at h
    have go : ∀ {l : List Int}, (decEv own r l es).map (· + 1) = some n → n < es.length + 1 := fun {l} h => by
      cases e : decEv own r l es with
      | none => rw [e] at h; cases h
      | some m =>
        rw [e] at h
        have := decEv_lt e
        have : m + 1 = n := Option.some.inj h
        omega
    split at h
    · cases h; omega
    · split at h
      · exact go h
      · split at h
        · cases h; omega
        · exact go h
theorem decM_lt {es : List Ev} {i n : Nat} {r : Str} (h : decM es i r = some n) : i < n ∧ n < es.length := by
  unfold decM at h
  cases e : decEv ((es.getD i ⟨0, 0, false⟩).k) r [] (es.drop (i + 1)) with
  | none => rw [e] at h; cases h
  | some m =>
    rw [e] at h
    have h1 := decEv_lt e
    rw [List.length_drop] at h1
    have : m + (i + 1) = n := Option.some.inj h
    omega
theorem sureM_lt {es : List Ev} {i n : Nat} {x : Actn} (h : sureM es i x = some n) : i < n ∧ n < es.length := by
  unfold sureM at h
  cases e : decM es i (ruleOf x) with
  | none => rw [e] at h; cases h
  | some m =>
    rw [e] at h
    dsimp only at h
    split at h
    · cases h
    · cases h; exact decM_lt e
theorem evAt_eq {es : List Ev} {i : Nat} (h : i < es.length) : evAt es i = es[i] := by
  unfold evAt
  rw [List.getD_eq_getElem?_getD, List.getElem?_eq_getElem h, Option.getD_some]
theorem dl_at {H : Hp} {x : Actn} {v : V} (h : ActV H x v) (d : isDl x = true) : ∃ (a b : Addr) (c : Str), v = .ref a ∧ H a = some (.tup [.str "dual", .str c, .ref b, .int (timeOf x), .str (ruleOf x)]) := by
  cases x with
  | dualC c d t r => obtain ⟨a, b, e, h1, _⟩ := h; exact ⟨a, b, c, e, h1⟩
  | dualL c d t r => obtain ⟨a, b, e, h1, _⟩ := h; exact ⟨a, b, c, e, h1⟩
  | _ => cases d
section
variable {P : Program} {w : World} {K : PySem.W.Frag} {mg : Str → Option Value} {base : Heap}
def spDual : Sp := fun vs H Q _ => ∃ (v : V) (x : Actn) (n i : Int), vs = [v] ∧ ActV H x v ∧ ActOk n i x ∧ Q (.bl (isDl x)) H
theorem ok_is_dual (bt : Bt mg) (a : At K mg "is_dual" s_is_dual ["action"]) : Cl P w K mg base 1 "is_dual" spDual := by
  refine clG a sc_is_dual (fun vs H Q E h => ?_) (fun f cdv A outer s H vs Q hg hr h => ?_)
  · obtain ⟨v, x, n, i, rfl, _⟩ := h
    rfl
  · obtain ⟨v, x, n, i, rfl, hv, hx, q⟩ := h
    refine ⟨_, (pss_one (ps_ret (pe_and (pe_callB call_isi (by rfl) bt.m_isinstance (by decide +kernel) (pa_cons (pv 0) (pa_cons (pe_bltn (v := .ty "tuple") (by rfl) bt.m_tuple (by decide +kernel) rfl) pa_nil))) (pe_one (pe_cmpR op_eq (pe_ix ix_tup (pv 0) pe_int (fun _ _ => rfl)) pe_str (nomark _)))))), ?_⟩
    have wd : ∀ (c : Str) (b : Bool), decide (c = (("dual" : String) : Str)) = b → Q (.bl b) H → Q (.bl (decide (V.str c = V.str "dual"))) H := fun c b e q => by
      have : decide (V.str c = V.str "dual") = b := by rw [← e]; by_cases z : c = (("dual" : String) : Str) <;> simp [z]
      rw [this]
      exact q
    cases x with
    | none =>
      cases hv
      exact ⟨_, rfl, _, _, _, _, false, rfl, .ty "tuple", .base (.str _), kit_ty (by decide +kernel), _, rfl, iteF q⟩
    | thr =>
      cases hv
      exact ⟨_, rfl, _, _, _, _, false, rfl, .ty "tuple", .base (.str _), kit_ty (by decide +kernel), _, rfl, iteF q⟩
    | code c =>
      obtain ⟨a, rfl, ha⟩ := hv
      exact ⟨_, rfl, _, _, _, _, true, rfl, .ty "tuple", .base (.tup ha), kit_ty (by decide +kernel), _, rfl, iteT ⟨_, rfl, a, _, 0, .str "code", rfl, rfl, SqT.of ha, atI_nat (j := 0) rfl, rfl, wd _ false (by decide +kernel) q⟩⟩
    | lay u j =>
      obtain ⟨a, rfl, ha⟩ := hv
      have hu : decide (u = (("dual" : String) : Str)) = false := by
        refine decide_eq_false ?_
        rintro rfl
        have := hx.1
        revert this
        decide +kernel
      exact ⟨_, rfl, _, _, _, _, true, rfl, .ty "tuple", .base (.tup ha), kit_ty (by decide +kernel), _, rfl, iteT ⟨_, rfl, a, _, 0, .str u, rfl, rfl, SqT.of ha, atI_nat (j := 0) rfl, rfl, wd _ false hu q⟩⟩
    | dualC c d t r =>
      obtain ⟨a, b, rfl, ha, hb⟩ := hv
      exact ⟨_, rfl, _, _, _, _, true, rfl, .ty "tuple", .base (.tup ha), kit_ty (by decide +kernel), _, rfl, iteT ⟨_, rfl, a, _, 0, .str "dual", rfl, rfl, SqT.of ha, atI_nat (j := 0) rfl, rfl, wd _ true (by decide +kernel) q⟩⟩
    | dualL c d t r =>
      obtain ⟨a, b, rfl, ha, hb⟩ := hv
      exact ⟨_, rfl, _, _, _, _, true, rfl, .ty "tuple", .base (.tup ha), kit_ty (by decide +kernel), _, rfl, iteT ⟨_, rfl, a, _, 0, .str "dual", rfl, rfl, SqT.of ha, atI_nat (j := 0) rfl, rfl, wd _ true (by decide +kernel) q⟩⟩
def spSure : Sp := fun vs H Q _ => ∃ (c : Addr) (es : List Ev) (i : Nat) (v : V) (x : Actn), vs = [.ref c, .int (i : Int), v] ∧ Lst evV H c es ∧ i < es.length ∧ es.length ≤ 400 ∧ ActV H x v ∧ isDl x = true ∧ ∀ H', Same H H' → Q (optN (sureM es i x)) H'
theorem ok_sure_event (bt : Bt mg) (a : At K mg "sure_event" s_sure_event ["record", "at", "dual"]) (c_deciding_event : Cl P w K mg base 1 "deciding_event" spDec) : Cl P w K mg base 2 "sure_event" spSure := by
  refine clG a sc_sure_event (fun vs H Q E h => ?_) (fun f cdv A outer s H vs Q hg hr h => ?_)
  · obtain ⟨c, es, i, v, x, rfl, _⟩ := h
    rfl
  · obtain ⟨c, es, i, v, x, rfl, hL, hi, h4, hv, hd, q⟩ := h
    refine ⟨_, (pss_cons (ps_set (i := 3) sc_sure_event.nd rfl (Or.inl rfl) (pe_cl c_deciding_event hg hr (by decide) (by rfl) (pa_cons (pv 0) (pa_cons (pv 1) (pa_cons (pe_ix ix_tup (pv 2) pe_int (fun _ _ => rfl)) pa_nil)))))
      (pss_cons (ps_if (PW.pt (pw_or (pt_cmpR op_isN (pv 3) pe_non (nomark _)) (pw_or1 (pt_cmpR op_ge (pe_ix ix_tup (pe_ix ix_list (pv 0) (pv 3) (fun _ _ => rfl)) pe_int (fun _ _ => rfl)) (pe_op op_add (pe_ix ix_tup (pe_ix ix_list (pv 0) (pv 1) (fun _ _ => rfl)) pe_int (fun _ _ => rfl)) (pe_ix ix_tup (pv 2) pe_int (fun _ _ => rfl))) (nomark _))))) (pss_one (ps_ret pe_non)) pss_nil)
      (pss_one (ps_ret (pv 3))))), ?_⟩
    obtain ⟨a, b, cc, rfl, ha⟩ := dl_at hv hd
    refine ⟨_, rfl, _, rfl, _, rfl, a, _, 4, _, rfl, rfl, SqT.of ha, atI_nat (j := 4) rfl, c, es, i, ruleOf x, rfl, hL, hi, h4, fun H1 s1 => ?_⟩
    have q1 := q H1 s1
    unfold sureM at q1
    cases e : decM es i (ruleOf x) with
    | none =>
      rw [e] at q1
      exact ⟨_, rfl, rfl, true, rfl, iteT q1⟩
    | some n =>
      rw [e] at q1
      dsimp only at q1
      obtain ⟨n1, n2⟩ := decM_lt e
      obtain ⟨as, hc, hT⟩ := id (hL.same s1)
      obtain ⟨bn, hbn, hbt⟩ := hT.at_ n2
      obtain ⟨bi, hbi, hbti⟩ := hT.at_ hi
      refine ⟨_, rfl, rfl, false, rfl, iteF ?_⟩
      refine ⟨_, rfl, _, rfl, c, _, _, .ref bn, rfl, rfl, SqL.of hc, atI_nat (get_map_ref hbn), bn, _, 0, _, rfl, rfl, SqT.of hbt, atI_nat (j := 0) rfl, ?_⟩
      refine ⟨_, rfl, _, rfl, c, _, _, .ref bi, rfl, rfl, SqL.of hc, atI_nat (get_map_ref hbi), bi, _, 0, _, rfl, rfl, SqT.of hbti, atI_nat (j := 0) rfl, ?_⟩
      refine ⟨_, rfl, a, _, 3, _, rfl, rfl, SqT.of (s1 _ _ ha), atI_nat (j := 3) rfl, ?_⟩
      rw [evAt_eq n2, evAt_eq hi] at q1
      refine ⟨_, _, rfl, rfl, _, _, rfl, rfl, _, rfl, ite2 (fun z => ?_) (fun z => ?_)⟩
      · rw [if_pos (of_decide_eq_true z)] at q1
        exact q1
      · rw [if_neg (fun y => z (decide_eq_true y))] at q1
        exact ⟨_, rfl, q1⟩
def spKind : Sp := fun vs H Q _ => ∃ (c : Addr) (es : List Ev) (i : Nat) (o : Option Nat), vs = [.ref c, .int (i : Int), optN o] ∧ Lst evV H c es ∧ i < es.length ∧ (∀ n, o = some n → n < es.length) ∧ ∀ H', Same H H' → Q (.str (if tapM es i o then "tap" else "hold")) H'
theorem ok_dual_kind (bt : Bt mg) (a : At K mg "dual_kind" s_dual_kind ["record", "at", "sure"]) : Cl P w K mg base 1 "dual_kind" spKind := by
  refine clG a sc_dual_kind (fun vs H Q E h => ?_) (fun f cdv A outer s H vs Q hg hr h => ?_)
  · obtain ⟨c, es, i, o, rfl, _⟩ := h
    rfl
  · obtain ⟨c, es, i, o, rfl, hL, hi, ho, q⟩ := h
    refine ⟨_, (pss_cons (ps_if (PW.pt (pw_and (pt_cmpR op_notN (pv 2) pe_non (nomark _)) (pw_and1 (pt_cmpR op_eq (pe_ix ix_tup (pe_ix ix_list (pv 0) (pv 2) (fun _ _ => rfl)) pe_int (fun _ _ => rfl)) (pe_ix ix_tup (pe_ix ix_list (pv 0) (pv 1) (fun _ _ => rfl)) pe_int (fun _ _ => rfl)) (nomark _))))) (pss_one (ps_ret pe_str)) pss_nil)
      (pss_one (ps_ret pe_str))), ?_⟩
    have q1 := q H (Same.refl _)
    cases o with
    | none => exact ⟨_, rfl, rfl, false, rfl, iteF (iteF q1)⟩
    | some n =>
      have n2 := ho n rfl
      obtain ⟨as, hc, hT⟩ := id hL
      obtain ⟨bn, hbn, hbt⟩ := hT.at_ n2
      obtain ⟨bi, hbi, hbti⟩ := hT.at_ hi
      refine ⟨_, rfl, rfl, true, rfl, iteT ?_⟩
      refine ⟨_, rfl, _, rfl, c, _, _, .ref bn, rfl, rfl, SqL.of hc, atI_nat (get_map_ref hbn), bn, _, 1, _, rfl, rfl, SqT.of hbt, atI_nat (j := 1) rfl, ?_⟩
      refine ⟨_, rfl, _, rfl, c, _, _, .ref bi, rfl, rfl, SqL.of hc, atI_nat (get_map_ref hbi), bi, _, 1, _, rfl, rfl, SqT.of hbti, atI_nat (j := 1) rfl, ?_⟩
      have et : tapM es i (some n) = decide (es[n].k = es[i].k) := by
        unfold tapM
        dsimp only
        rw [evAt_eq n2, evAt_eq hi]
      rw [et] at q1
      refine ⟨rfl, decide (es[n].k = es[i].k), eqI rfl, ?_⟩
      cases e : decide (es[n].k = es[i].k) with
      | true => rw [e] at q1; exact iteT q1
      | false => rw [e] at q1; exact iteF q1
end
end K84

set_option Elab.async false
set_option linter.all false
set_option maxRecDepth 100000
set_option maxHeartbeats 8000000
namespace K84
open PySem PySem.Spec PyProof.Rows L2 Gd Rm La Cb Pl
theorem none_back {H H' : Hp} (s : Same H H') {a : Addr} (h : H' a = none) : H a = none := by
  cases e : H a with
  | none => rfl
  | some o => rw [s _ _ e] at h; cases h
/-- what the state keeps between the events -/
structure St1 (L : List (List Actn)) (s : Sm) (i : Nat) : Prop where
  lk : s.lk.length = L.length
  bds : BdsOk L.length s.bd
  len : s.bd.length ≤ i
theorem St1.init {L : List (List Actn)} : St1 L (init L.length) 0 := ⟨List.length_replicate, fun p h => absurd h List.not_mem_nil, Nat.le_refl _⟩
theorem taken_ok {L : List (List Actn)} {m : Nat} (hO : LayOk L m) (s : Sm) {k : Nat} (hk : k < m) : takenL L s k < L.length ∧ ActOk L.length ((takenL L s k : Nat) : Int) (actAt L (takenL L s k) k) ∧ isThr (actAt L (takenL L s k) k) = false := by
  have hne : filt L s k ≠ [] := fun z => by
    have := filt_zero hO s hk
    rw [z] at this
    cases this
  have h1 := (filt_last hne).1
  obtain ⟨h2, h3⟩ := List.mem_filter.mp h1
  have hl : takenL L s k < L.length := List.mem_range.mp h2
  have hm : L[takenL L s k].length = m := hO.len _ (List.getElem_mem _)
  have e := actAt_eq hl (by omega : k < L[takenL L s k].length)
  refine ⟨hl, ?_, ?_⟩
  · rw [e]
    exact hO.ok _ _ (List.getElem?_eq_getElem hl) _ (List.getElem_mem _)
  · cases q : isThr (actAt L (takenL L s k) k) with
    | false => rfl
    | true => rw [q] at h3; cases h3
theorem what_do {n : Nat} {i : Int} {x : Actn} {es : List Ev} {j : Nat} (h : ActOk n i x) (ht : isThr x = false) : DoOk n (whatM x (kindM es j x)) := by
  cases x with
  | none => exact (show DoOk n (whatM .none "plain") from by rw [what_plain]; trivial)
  | thr => cases ht
  | code c => exact (show DoOk n (whatM (.code c) "plain") from by rw [what_plain]; exact h)
  | lay w j => exact (show DoOk n (whatM (.lay w j) "plain") from by rw [what_plain]; exact ⟨h.1, h.2.1, by have := h.2.2; omega⟩)
  | dualC c d t r =>
    show DoOk n (whatM _ (if tapM es j (sureM es j (.dualC c d t r)) then ("tap" : Str) else ("hold" : Str)))
    split
    · rw [what_tap]; exact h.1
    · rw [what_hold]; exact h.2.1
  | dualL c l t r =>
    show DoOk n (whatM _ (if tapM es j (sureM es j (.dualL c l t r)) then ("tap" : Str) else ("hold" : Str)))
    split
    · rw [what_tap]; exact h.1
    · rw [what_hold]; exact ⟨by decide +kernel, h.2.1.1, by have := h.2.1.2; omega⟩
theorem kind_or {es : List Ev} {j : Nat} {x : Actn} : kindM es j x = ("plain" : String) ∨ (isDl x = true ∧ (kindM es j x = ("tap" : String) ∨ kindM es j x = ("hold" : String))) := by
  unfold kindM
  by_cases h : isDl x = true
  · rw [if_pos h]
    refine .inr ⟨h, ?_⟩
    split
    · exact .inl rfl
    · exact .inr rfl
  · rw [if_neg h]; exact .inl rfl
theorem St1.press {L : List (List Actn)} {s : Sm} {i : Nat} (h : St1 L s i) (k : Int) {x : Actn} (hx : DoOk L.length x) : St1 L (press s k x) (i + 1) := by
  obtain ⟨h1, h2, h3⟩ := h
  cases x with
  | none => exact ⟨h1, h2, by show s.bd.length ≤ _; omega⟩
  | thr => exact hx.elim
  | dualC _ _ _ _ => exact hx.elim
  | dualL _ _ _ _ => exact hx.elim
  | code c =>
    refine ⟨h1, fun p hp => ?_, Nat.le_trans (putB_len ..) (by omega)⟩
    rcases putB_mem hp with q | q
    · exact h2 p q
    · rw [q]; exact hx
  | lay w j =>
    rw [press_lay]
    obtain ⟨x1, x2, x3⟩ := hx
    by_cases w1 : w = (("layer" : String) : Str)
    · rw [if_pos w1]
      refine ⟨h1, fun p hp => ?_, Nat.le_trans (putB_len ..) (by omega)⟩
      rcases putB_mem hp with q | q
      · exact h2 p q
      · rw [q]; exact ⟨w1, x2, by omega⟩
    · rw [if_neg w1]
      by_cases w2 : w = (("lock" : String) : Str)
      · rw [if_pos w2]; exact ⟨by rw [List.length_set]; exact h1, h2, by show s.bd.length ≤ _; omega⟩
      · rw [if_neg w2]; exact ⟨h1, h2, by show s.bd.length ≤ _; omega⟩
theorem St1.release {L : List (List Actn)} {s : Sm} {i : Nat} (h : St1 L s i) (k : Int) : St1 L (release s k) (i + 1) :=
  ⟨h.lk, fun p hp => h.bds p (dropB_mem hp), Nat.le_trans (dropB_len ..) (Nat.le_succ_of_le h.len)⟩
def xAt (L : List (List Actn)) (es : List Ev) (i : Nat) : Actn := actAt L (takenL L (runS L es i) (evAt es i).k.toNat) (evAt es i).k.toNat
def outM (L : List (List Actn)) (es : List Ev) (i : Nat) : Outp := if (evAt es i).d then outP (whatM (xAt L es i) (kindM es i (xAt L es i))) else relO (runS L es i) (evAt es i).k
theorem runS_dn {L : List (List Actn)} {es : List Ev} {i : Nat} (h : (evAt es i).d = true) : runS L es (i + 1) = press (runS L es i) (evAt es i).k (whatM (xAt L es i) (kindM es i (xAt L es i))) := by
  show stepS L es i (runS L es i) = _
  unfold stepS xAt
  rw [if_pos h]
theorem runS_up {L : List (List Actn)} {es : List Ev} {i : Nat} (h : (evAt es i).d = false) : runS L es (i + 1) = release (runS L es i) (evAt es i).k := by
  show stepS L es i (runS L es i) = _
  unfold stepS
  rw [if_neg (by rw [h]; decide)]
theorem runT_dn {L : List (List Actn)} {es : List Ev} {i : Nat} (h : (evAt es i).d = true) : runT L es i = .dn (takenL L (runS L es i) (evAt es i).k.toNat) (kindM es i (xAt L es i)) (whatM (xAt L es i) (kindM es i (xAt L es i))) (if isDl (xAt L es i) then sureM es i (xAt L es i) else none) := by
  unfold runT stepT xAt
  rw [if_pos h]
theorem runT_up {L : List (List Actn)} {es : List Ev} {i : Nat} (h : (evAt es i).d = false) : runT L es i = .up := by
  unfold runT stepT
  rw [if_neg (by rw [h]; decide)]
theorem runS_ok {L : List (List Actn)} {es : List Ev} {m : Nat} (hO : LayOk L m) (hV : Valid es) (hk : ∀ e ∈ es, e.k < (m : Int)) : ∀ i, i ≤ es.length → St1 L (runS L es i) i
  | 0, _ => St1.init
  | i + 1, hi => by
    have ih := runS_ok hO hV hk i (by omega)
    have hi' : i < es.length := by omega
    have e := evAt_eq hi'
    cases hd : (evAt es i).d with
    | true =>
      rw [runS_dn hd]
      have k0 := (hV i _ (List.getElem?_eq_getElem hi')).1
      have k1 := hk _ (List.getElem_mem hi')
      obtain ⟨_, t2, t3⟩ := taken_ok hO (runS L es i) (k := (evAt es i).k.toNat) (by rw [e]; omega)
      exact ih.press _ (what_do t2 t3)
    | false => rw [runS_up hd]; exact ih.release _
/-- what was told of an event -/
def TdV (H : Hp) (t : Td) (mv sv : V) : Prop := match t with
  | .up => mv = .non ∧ sv = .non
  | .dn l kind what sure => sv = optN sure ∧ ∃ M v, mv = .ref M ∧ H M = some (.tup [.int (l : Int), .str kind, v]) ∧ ActV H what v
def ToldV (H : Hp) (L : List (List Actn)) (es : List Ev) (i : Nat) (T : Addr) : Prop := ∃ mv sv ov, H T = some (.tup [mv, sv, ov]) ∧ TdV H (runT L es i) mv sv ∧ OutV H (outM L es i) ov
theorem TdV.keep {H H' : Hp} {t : Td} {mv sv : V} (h : TdV H t mv sv) (k : Tk H H') : TdV H' t mv sv := by
  cases t with
  | up => exact h
  | dn l kind what sure =>
    obtain ⟨h1, M, v, h2, h3, h4⟩ := h
    exact ⟨h1, M, v, h2, k _ _ h3, h4.keep k⟩
theorem OutV.keep {H H' : Hp} {o : Outp} {v : V} (h : OutV H o v) (k : Tk H H') : OutV H' o v := by
  obtain ⟨T, e, h1⟩ := h
  exact ⟨T, e, k _ _ h1⟩
theorem ToldV.keep {H H' : Hp} {L : List (List Actn)} {es : List Ev} {i : Nat} {T : Addr} (h : ToldV H L es i T) (k : Tk H H') : ToldV H' L es i T := by
  obtain ⟨mv, sv, ov, h1, h2, h3⟩ := h
  exact ⟨mv, sv, ov, k _ _ h1, h2.keep k, h3.keep k⟩
def Tolds (H : Hp) (L : List (List Actn)) (es : List Ev) (W : Addr) (n : Nat) : Prop := ∃ Ts : List Addr, H W = some (.lst (Ts.map V.ref)) ∧ Ts.length = n ∧ ∀ j T, Ts[j]? = some T → ToldV H L es j T
theorem Tolds.off {H H' : Hp} {L : List (List Actn)} {es : List Ev} {W p l d e : Addr} {n : Nat} (h : Tolds H L es W n) (o : Off4 p l d e H H') (k : Tk H H') (w1 : W ≠ p) (w2 : W ≠ l) (w3 : W ≠ d) (w4 : W ≠ e) : Tolds H' L es W n := by
  obtain ⟨Ts, h1, h2, h3⟩ := h
  exact ⟨Ts, o _ _ h1 w1 w2 w3 w4, h2, fun j T x => (h3 j T x).keep k⟩
theorem Tolds.add {H : Hp} {L : List (List Actn)} {es : List Ev} {W T : Addr} {n : Nat} {Ts : List Addr} (h1 : H W = some (.lst (Ts.map V.ref))) (h2 : Ts.length = n) (h3 : ∀ j T, Ts[j]? = some T → ToldV H L es j T) (hT : ToldV H L es n T) : Tolds (upd H W (.lst (Ts.map V.ref ++ [.ref T]))) L es W (n + 1) := by
  refine ⟨Ts ++ [T], by rw [upd_same, List.map_append]; rfl, by rw [List.length_append, h2]; rfl, fun j U x => ?_⟩
  have tk : Tk H (upd H W (.lst (Ts.map V.ref ++ [.ref T]))) := tk_upd h1
  rcases Nat.lt_or_ge j Ts.length with q | q
  · rw [List.getElem?_append_left q] at x
    exact (h3 j U x).keep tk
  · rw [List.getElem?_append_right q] at x
    have : j - Ts.length = 0 := by
      have := (List.getElem?_eq_some_iff.mp x).1
      simpa using this
    rw [this] at x
    have e : T = U := Option.some.inj x
    have e2 : j = n := by omega
    rw [← e, e2]
    exact hT.keep tk
theorem wayS_up (d : Bool) : decide (V.str (wayS d) = V.str "up") = !d := by cases d <;> decide +kernel
end K84

set_option Elab.async false
set_option linter.all false
set_option maxRecDepth 100000
set_option maxHeartbeats 8000000
namespace K84
open PySem PySem.Spec PyProof.Rows L2 Gd Rm La Cb Pl
theorem PAt.updW {C : Addr} {H : Hp} {p c l d e W : Addr} {n : Nat} {s : Sm} {xs ys : List V} (h : PAt C H p c l d e n s) (hW : H W = some (.lst xs)) (w1 : W ≠ p) (w2 : W ≠ l) (w3 : W ≠ d) (w4 : W ≠ e) : PAt C (upd H W (.lst ys)) p c l d e n s := by
  obtain ⟨⟨dx, h1⟩, h2, ⟨kvs, h3, h3b⟩, ⟨pvs, h4, h4b⟩, h5⟩ := h
  exact ⟨⟨dx, by rw [upd_ne (Ne.symm w1)]; exact h1⟩, by rw [upd_ne (Ne.symm w2)]; exact h2, ⟨kvs, by rw [upd_ne (Ne.symm w3)]; exact h3, h3b.keep (tk_upd hW)⟩, ⟨pvs, by rw [upd_ne (Ne.symm w4)]; exact h4, h4b⟩, h5⟩
section
variable {P : Program} {w : World} {K : PySem.W.Frag} {mg : Str → Option Value} {base : Heap}
def spPlay (C : Addr) : Sp := fun vs H Q _ => ∃ (c g : Addr) (L : List (List Actn)) (m : Nat) (es : List Ev), vs = [.ref c, .ref g] ∧ Lay H c L ∧ LayOk L m ∧ Lst evV H g es ∧ Valid es ∧ es.length ≤ 400 ∧ (∀ e ∈ es, e.k < (m : Int)) ∧
  ∀ (H' : Hp) (T p l d e W : Addr), Same H H' → H' T = some (.tup [.ref p, .ref W]) → PAt C H' p c l d e es.length (runS L es es.length) → Tolds H' L es W es.length → Q (.ref T) H'
theorem ok_play (bt : Bt mg) {C : Addr} (cp : Cp K C) (a : At K mg "play" s_play ["layout", "record"]) (c_Player : ClI P w K mg base 1 C "Player" (spPInit C)) (c_release : ClM P w K mg base 1 C "release" (spRelease C)) (c_taken : ClM P w K mg base 2 C "taken" (spTaken C)) (c_press : ClM P w K mg base 1 C "press" (spPress C))
    (c_is_dual : Cl P w K mg base 1 "is_dual" spDual) (c_sure_event : Cl P w K mg base 2 "sure_event" spSure) (c_dual_kind : Cl P w K mg base 1 "dual_kind" spKind) (c_what_is_done : Cl P w K mg base 1 "what_is_done" spWhat) : Cl P w K mg base 3 "play" (spPlay C) := by
  have cl_Player := cp.cl
  refine clG a sc_play (fun vs H Q E h => ?_) (fun f cdv A outer s H vs Q hg hr h => ?_)
  · obtain ⟨c, g, L, m, es, rfl, _⟩ := h
    rfl
  · obtain ⟨c, g, L, m, es, rfl, hL, hO, hG, hV, h4, hkm, q⟩ := h
    refine ⟨_, (pss_cons (ps_set (i := 2) sc_play.nd rfl (Or.inl rfl) (pe_clI c_Player hg hr (by decide) (by rfl) (pa_cons (pv 0) pa_nil)))
      (pss_cons (ps_set (i := 3) sc_play.nd rfl (Or.inl rfl) (pe_lst pa_nil))
      (pss_cons (ps_for PassesOwn.never rfl (pi_enum (by rfl) bt.m_enumerate (pa_cons (pv 1) pa_nil)) (pg_tup rfl (pgs_cons (pg_name (i := 4) sc_play.nd rfl (Or.inl rfl)) (pgs_cons (pg_tup rfl (pgs_cons (pg_name (i := 5) sc_play.nd rfl (Or.inl rfl)) (pgs_cons (pg_name (i := 6) sc_play.nd rfl (Or.inl rfl)) (pgs_cons (pg_name (i := 7) sc_play.nd rfl (Or.inl rfl)) pgs_nil)))) pgs_nil))) (C8.pss_cut (ps_if (pt_cmpR op_eq (pv 7) pe_str (nomark _)) (pss_cons (ps_expr (pe_bm PySem.F.plainAttrs_list PySem.F.slot_list_append PySem.F.type_list_append mt_append (pv 3) (pa_cons (pe_tup (pa_cons pe_non (pa_cons pe_non (pa_cons (pe_clM c_release cl_Player hg hr (by decide) (pv 2) (pa_cons (pv 6) pa_nil)) pa_nil)))) pa_nil)))
      (pss_one ps_continue)) pss_nil)
      (pss_cons (ps_asg (pe_clM c_taken cl_Player hg hr (by decide) (pv 2) (pa_cons (pv 6) pa_nil)) (pg_tup rfl (pgs_cons (pg_name (i := 8) sc_play.nd rfl (Or.inl rfl)) (pgs_cons (pg_name (i := 9) sc_play.nd rfl (Or.inl rfl)) pgs_nil))))
      (pss_cons (ps_asg (pe_tup (pa_cons pe_non (pa_cons pe_str pa_nil))) (pg_tup rfl (pgs_cons (pg_name (i := 10) sc_play.nd rfl (Or.inl rfl)) (pgs_cons (pg_name (i := 11) sc_play.nd rfl (Or.inl rfl)) pgs_nil))))
      (C8.pss_cut (ps_if (pt_val (pe_cl c_is_dual hg hr (by decide) (by rfl) (pa_cons (pv 9) pa_nil))) (pss_cons (ps_set (i := 10) sc_play.nd rfl (Or.inl rfl) (pe_cl c_sure_event hg hr (by decide) (by rfl) (pa_cons (pv 1) (pa_cons (pv 4) (pa_cons (pv 9) pa_nil)))))
      (pss_one (ps_set (i := 11) sc_play.nd rfl (Or.inl rfl) (pe_cl c_dual_kind hg hr (by decide) (by rfl) (pa_cons (pv 1) (pa_cons (pv 4) (pa_cons (pv 10) pa_nil))))))) pss_nil)
      (pss_cons (ps_set (i := 12) sc_play.nd rfl (Or.inl rfl) (pe_cl c_what_is_done hg hr (by decide) (by rfl) (pa_cons (pv 9) (pa_cons (pv 11) pa_nil))))
      (pss_one (ps_expr (pe_bm PySem.F.plainAttrs_list PySem.F.slot_list_append PySem.F.type_list_append mt_append (pv 3) (pa_cons (pe_tup (pa_cons (pe_tup (pa_cons (pv 8) (pa_cons (pv 11) (pa_cons (pv 12) pa_nil)))) (pa_cons (pv 10) (pa_cons (pe_clM c_press cl_Player hg hr (by decide) (pv 2) (pa_cons (pv 6) (pa_cons (pv 12) pa_nil))) pa_nil)))) pa_nil))))))))))
      (pss_one (ps_ret (pe_tup (pa_cons (pv 2) (pa_cons (pv 3) pa_nil)))))))), ?_⟩
    obtain ⟨rs, hc, hR⟩ := id hL
    have n6 := hO.n6
    have hrl : (rs.map V.ref).length = L.length := by rw [List.length_map]; exact hR.1
    refine ⟨_, rfl, fun p dx np ndx hdp => ?_⟩
    have cp0 : c ≠ p := ne_of_none hc np
    have cdx : c ≠ dx := ne_of_none hc ndx
    refine ⟨p, dx, c, _, rfl, upd_same, by rw [upd_ne cp0, upd_ne cdx]; exact hc, by omega, fun H1 l d e nl nd ne hP hoff => ⟨rfl, ?_⟩⟩
    rw [hrl] at hP
    have s0 : Same H (upd (upd H dx (.own p)) p (.ins C dx [])) := (same_upd ndx).trans (same_upd (by rw [upd_ne (Ne.symm hdp)]; exact np))
    have s1 : Same H H1 := fun b o hb => hoff _ _ (s0 _ _ hb) (ne_of_none hb np)
    have nl' := none_back s0 nl
    have nd' := none_back s0 nd
    have ne' := none_back s0 ne
    clear hoff nl nd ne
    refine ⟨Nat.zero_le _, fun W nW => ?_⟩
    have W1 : W ≠ p := fun z => by rw [z, hP.ob.choose_spec] at nW; cases nW
    have W2 : W ≠ l := fun z => by rw [z, hP.lk] at nW; cases nW
    have W3 : W ≠ d := fun z => by rw [z, hP.bd.choose_spec.1] at nW; cases nW
    have W4 : W ≠ e := fun z => by rw [z, hP.pr.choose_spec.1] at nW; cases nW
    have nWH := none_back s1 nW
    have kW := same_upd (o := .lst []) nW
    obtain ⟨as, hg0, hT⟩ := id hG
    have hlen : (as.map V.ref).length = es.length := by rw [List.length_map]; exact hT.1
    have s2 := s1.trans kW
    refine ⟨_, rfl, g, _, rfl, SqL.of (s2 _ _ hg0), for_it (walk_enum (xs := as.map V.ref))
      (fun i σ H' => ∃ y4 y5 y6 y7 y8 y9 y10 y11 y12 : Option V, σ = [some (.ref c), some (.ref g), some (.ref p), some (.ref W), y4, y5, y6, y7, y8, y9, y10, y11, y12] ∧ Same H H' ∧ PAt C H' p c l d e i (runS L es i) ∧ Tolds H' L es W i)
      ⟨_, _, _, _, _, _, _, _, _, rfl, s2, hP.same kW, [], upd_same, rfl, fun j T x => by simp at x⟩ (fun i σ H' _ z => by obtain ⟨_, _, _, _, _, _, _, _, _, _, s3, _⟩ := z; exact SqL.of (s3 _ _ hg0)) (fun i x σ H2 H3 hi z y => ?_) (fun σ H2 z => ?_)⟩
    · obtain ⟨y4, y5, y6, y7, y8, y9, y10, y11, y12, rfl, s3, P3, T3⟩ := z
      obtain ⟨T, u, v, rfl, nT, rfl, e1, e2⟩ := y
      have hi' : i < es.length := by omega
      obtain ⟨b, hb, hbt⟩ := hT.at_ hi'
      have e2' : v = .ref b := Option.some.inj (e2.symm.trans (get_map_ref hb))
      subst e2'
      have e1' : u = .int (i : Nat) := (Option.some.inj e1).symm
      subst e1'
      have kT := same_upd (o := .tup [.int (i : Nat), .ref b]) nT
      have s4 := s3.trans kT
      have P4 := P3.same kT
      have tkT : Tk H2 _ := Tk.of kT
      have hb4 := s4 _ _ hbt
      obtain ⟨v1, v2, v3⟩ := hV i _ (List.getElem?_eq_getElem hi')
      have hkk := hkm _ (List.getElem_mem hi')
      have hev := evAt_eq hi'
      have hS := runS_ok hO hV hkm i (by omega)
      have T4 : Tolds (upd H2 T (.tup [.int (i : Nat), .ref b])) L es W i := by
        obtain ⟨Ts, t1, t2, t3⟩ := T3
        exact ⟨Ts, kT _ _ t1, t2, fun j U x => (t3 j U x).keep tkT⟩
      have hT1 := upd_same (H := H2) (a := T) (o := .tup [.int (i : Nat), .ref b])
      clear kT tkT
      generalize upd H2 T (.tup [.int (i : Nat), .ref b]) = H3 at s4 P4 T4 hT1 hb4 ⊢
      refine ⟨T, _, rfl, SqT.of hT1, rfl, _, _, rfl, _, _, rfl, b, _, rfl, SqT.of hb4, rfl, _, _, rfl, _, _, rfl, _, _, rfl, rfl, rfl, ?_⟩
      obtain ⟨dxp, hp⟩ := P4.ob
      refine ⟨fun σ' H' => σ' = [some (.ref c), some (.ref g), some (.ref p), some (.ref W), some (.int (i : Nat)), some (.int es[i].t), some (.int es[i].k), some (.str (wayS es[i].d)), y8, y9, y10, y11, y12] ∧ H' = H3 ∧ es[i].d = true, ⟨_, rfl, rfl, !es[i].d, congrArg V.bl (wayS_up es[i].d), ?_⟩, ?_⟩
      · cases hd : es[i].d with
        | true => exact iteF ⟨rfl, rfl, rfl⟩
        | false =>
          refine iteT ?_
          obtain ⟨Ts, t1, t2, t3⟩ := id T4
          refine ⟨_, rfl, .inl ⟨rfl, _, SqL.of t1⟩, _, rfl, p, dxp, _, rfl, hp, f_no (by decide +kernel), _, rfl, p, c, l, d, e, i, runS L es i, L.length, es[i].k, rfl, P4, hS.bds, by omega, fun H4 o P5 o5 ho => ⟨(by show 3 ≤ sizeLine; decide), fun T5 nT5 => ?_⟩⟩
          have k5 := same_upd (o := .tup [.non, .non, o]) nT5
          have s6 : Same H (upd H4 T5 (.tup [.non, .non, o])) := fun b o hb => k5 _ _ (o5 _ _ (s4 _ _ hb) (ne_of_none hb np) (ne_of_none hb nl') (ne_of_none hb nd') (ne_of_none hb ne'))
          have tk5 := P4.tk o5
          have T6 := T4.off o5 tk5 W1 W2 W3 W4
          have P6 := P5.same k5
          obtain ⟨Ts', u1, u2, u3⟩ := T6
          have u1' := k5 _ _ u1
          have hd' : (evAt es i).d = false := by rw [hev]; exact hd
          refine ⟨W, _, .ref T5, rfl, rfl, u1', small1000 (by rw [List.length_map]; omega), _, _, _, _, y8, y9, y10, y11, y12, rfl, Same.off s6 nWH off_upd, ?_, ?_⟩
          · rw [runS_up hd', hev]
            exact P6.updW u1' W1 W2 W3 W4
          · refine Tolds.add u1' u2 (fun j U x => (u3 j U x).keep (Tk.of k5)) ⟨_, _, _, upd_same, ?_, ?_⟩
            · rw [runT_up hd']; exact ⟨rfl, rfl⟩
            · unfold outM
              rw [if_neg (by rw [hd']; decide), hev]
              exact ho.keep (Tk.of k5)
      · rintro σ' H' ⟨rfl, rfl, hd⟩
        have hd' : (evAt es i).d = true := by rw [hev]; exact hd
        have hk0 : es[i].k = ((es[i].k.toNat : Nat) : Int) := by omega
        obtain ⟨t1, t2, t3⟩ := taken_ok hO (runS L es i) (k := es[i].k.toNat) (by omega)
        refine ⟨_, rfl, p, dxp, _, rfl, hp, f_no (by decide +kernel), _, rfl, p, c, l, d, e, i, runS L es i, L, m, es[i].k.toNat, congrArg (fun z => [V.ref p, V.int z]) hk0, P4, hL.same s4, hO, hS.bds, hS.lk, by have := hS.len; omega, by omega, fun H4 T4' v s5 hT4 hv => ?_⟩
        refine ⟨T4', _, rfl, SqT.of hT4, rfl, _, _, rfl, _, _, rfl, rfl, ?_⟩
        have hx : xAt L es i = actAt L (takenL L (runS L es i) es[i].k.toNat) es[i].k.toNat := by unfold xAt; rw [hev]
        rw [← hx] at t2 t3 hv
        refine ⟨(by show 2 ≤ sizeLine; decide), fun T7 nT7 => ?_⟩
        have k7 := same_upd (o := .tup [.non, .str "plain"]) nT7
        refine ⟨T7, _, rfl, SqT.of upd_same, rfl, _, _, rfl, _, _, rfl, rfl, ?_⟩
        have s6 := s5.trans k7
        have P6 := P4.same s6
        have T6 := T4.off (Off4.of s6) (Tk.of s6) W1 W2 W3 W4
        have hv6 := hv.keep (Tk.of k7)
        have s7 := s4.trans s6
        clear hT4
        generalize upd H4 T7 (.tup [.non, .str "plain"]) = H6 at s6 P6 T6 hv6 s7 ⊢
        refine ⟨fun σ' H' => σ' = [some (.ref c), some (.ref g), some (.ref p), some (.ref W), some (.int (i : Nat)), some (.int es[i].t), some (.int es[i].k), some (.str (wayS es[i].d)), some (.int ((takenL L (runS L es i) es[i].k.toNat : Nat) : Int)), some v, some (optN (if isDl (xAt L es i) then sureM es i (xAt L es i) else none)), some (.str (kindM es i (xAt L es i))), y12] ∧ Same H6 H', ?_, ?_⟩
        · refine ⟨_, rfl, v, xAt L es i, L.length, _, rfl, hv6, t2, _, rfl, ?_⟩
          cases hd2 : isDl (xAt L es i) with
          | false =>
            refine iteF ⟨?_, Same.refl _⟩
            rw [if_neg (by decide)]
            unfold kindM
            rw [if_neg (by rw [hd2]; decide)]
            rfl
          | true =>
            refine iteT ⟨_, rfl, _, rfl, _, rfl, g, es, i, v, xAt L es i, rfl, hG.same s7, hi', h4, hv6, hd2, fun H7 s8 => ?_⟩
            refine ⟨_, rfl, _, rfl, _, rfl, g, es, i, sureM es i (xAt L es i), rfl, hG.same (s7.trans s8), hi', fun n hn => (sureM_lt hn).2, fun H8 s9 => ⟨?_, s8.trans s9⟩⟩
            rw [if_pos rfl]
            unfold kindM
            rw [if_pos hd2]
            rfl
        · rintro σ' H7 ⟨rfl, s8⟩
          refine ⟨_, rfl, _, rfl, v, xAt L es i, kindM es i (xAt L es i), rfl, hv6.keep (Tk.of s8), kind_or, fun H8 wv s9 hw => ?_⟩
          have s10 := s8.trans s9
          have P8 := P6.same s10
          have T8 := T6.off (Off4.of s10) (Tk.of s10) W1 W2 W3 W4
          have s11 := s7.trans s10
          obtain ⟨Ts, u1, u2, u3⟩ := id T8
          obtain ⟨dx8, hp8⟩ := P8.ob
          refine ⟨_, rfl, .inl ⟨rfl, _, SqL.of u1⟩, _, rfl, _, rfl, _, rfl, (by show 3 ≤ sizeLine; decide), fun M nM => ?_⟩
          have kM := same_upd (o := .tup [.int ((takenL L (runS L es i) es[i].k.toNat : Nat) : Int), .str (kindM es i (xAt L es i)), wv]) nM
          have hM := upd_same (H := H8) (a := M) (o := .tup [.int ((takenL L (runS L es i) es[i].k.toNat : Nat) : Int), .str (kindM es i (xAt L es i)), wv])
          have P9 := P8.same kM
          have T9 := T8.off (Off4.of kM) (Tk.of kM) W1 W2 W3 W4
          have hw9 := hw.keep (Tk.of kM)
          have s12 := s11.trans kM
          have hp9 := kM _ _ hp8
          refine ⟨_, rfl, _, rfl, p, dx8, _, rfl, hp9, f_no (by decide +kernel), _, rfl, _, rfl, p, c, l, d, e, i, runS L es i, es[i].k, wv, whatM (xAt L es i) (kindM es i (xAt L es i)), rfl, P9, hw9, by rw [hS.lk]; exact what_do t2 t3, by rw [hS.lk]; exact n6, by have := hS.len; omega, by omega, fun H10 o P10 o10 ho => ⟨(by show 3 ≤ sizeLine; decide), fun T11 nT11 => ?_⟩⟩
          have k11 := same_upd (o := .tup [.ref M, optN (if isDl (xAt L es i) then sureM es i (xAt L es i) else none), o]) nT11
          have s13 : Same H (upd H10 T11 (.tup [.ref M, optN (if isDl (xAt L es i) then sureM es i (xAt L es i) else none), o])) := fun b o hb => k11 _ _ (o10 _ _ (s12 _ _ hb) (ne_of_none hb np) (ne_of_none hb nl') (ne_of_none hb nd') (ne_of_none hb ne'))
          have tk10 := P9.tk o10
          obtain ⟨Ts', x1, x2, x3⟩ := T9.off o10 tk10 W1 W2 W3 W4
          have x1' := k11 _ _ x1
          have P11 := P10.same k11
          refine ⟨W, _, .ref T11, rfl, rfl, x1', small1000 (by rw [List.length_map]; omega), _, _, _, _, _, _, _, _, _, rfl, Same.off s13 nWH off_upd, ?_, ?_⟩
          · rw [runS_dn hd', hev]
            exact P11.updW x1' W1 W2 W3 W4
          · refine Tolds.add x1' x2 (fun j U x => (x3 j U x).keep (Tk.of k11)) ⟨_, _, _, upd_same, ?_, ?_⟩
            · rw [runT_dn hd', hev]
              exact ⟨rfl, M, wv, rfl, k11 _ _ (tk10 _ _ hM), (hw9.keep tk10).keep (Tk.of k11)⟩
            · unfold outM
              rw [if_pos hd']
              exact ho.keep (Tk.of k11)
    · obtain ⟨y4, y5, y6, y7, y8, y9, y10, y11, y12, rfl, s3, P3, T3⟩ := z
      rw [hlen] at P3 T3
      refine ⟨_, rfl, _, rfl, (by show 2 ≤ sizeLine; decide), fun R nR => ?_⟩
      have kR := same_upd (o := .tup [.ref p, .ref W]) nR
      exact q _ R p l d e W (s3.trans kR) upd_same (P3.same kR) (T3.off (Off4.of kR) (Tk.of kR) W1 W2 W3 W4)
end
end K84

set_option Elab.async false
set_option linter.all false
set_option maxRecDepth 100000
set_option maxHeartbeats 8000000
namespace K84
open PySem PySem.Spec PyProof.Rows L2 Gd Rm La Cb Pl
section
variable {P : Program} {w : World} {K : PySem.W.Frag} {mg : Str → Option Value} {base : Heap}
def spPlayable : Sp := fun vs H Q _ => ∃ (c g : Addr) (L : List (List Actn)) (m : Nat) (es : List Ev), vs = [.ref c, .ref g] ∧ Lay H c L ∧ LayOk L m ∧ Lst evV H g es ∧ Valid es ∧ es.length ≤ 400 ∧ (∀ e ∈ es, e.k < (m : Int)) ∧ ∀ H', Same H H' → Q .non H'
theorem ok_check_playable (bt : Bt mg) (a : At K mg "check_playable" s_check_playable ["layout", "record"]) (c_check_layout : Cl P w K mg base 7 "check_layout" spCheckL) (c_check_record : Cl P w K mg base 4 "check_record" spCheck) : Cl P w K mg base 8 "check_playable" spPlayable := by
  refine clG a sc_check_playable (fun vs H Q E h => ?_) (fun f cdv A outer s H vs Q hg hr h => ?_)
  · obtain ⟨c, g, L, m, es, rfl, _⟩ := h
    rfl
  · obtain ⟨c, g, L, m, es, rfl, hL, hO, hG, hV, h4, hkm, q⟩ := h
    refine ⟨_, (pss_cons (ps_expr (pe_cl c_check_layout hg hr (by decide) (by rfl) (pa_cons (pv 0) pa_nil)))
      (pss_one (ps_expr (pe_cl c_check_record hg hr (by decide) (by rfl) (pa_cons (pv 1) (pa_cons (pe_callB call_len_seq (by rfl) bt.m_len (by decide +kernel) (pa_cons (pe_ix ix_list (pv 0) pe_int (fun _ _ => rfl)) pa_nil)) pa_nil)))))), ?_⟩
    obtain ⟨rs, hc, hR⟩ := id hL
    refine ⟨_, rfl, c, L, m, rfl, hL, hO, fun H1 s1 => ?_⟩
    obtain ⟨rs, hc, hR⟩ := hL.same s1
    have n1 := hO.n1
    obtain ⟨r, hr1, vs, hvs, ha⟩ := hR.at_ (i := 0) (by omega)
    refine ⟨_, rfl, _, rfl, c, _, _, .ref r, rfl, rfl, SqL.of hc, atI_nat (j := 0) (get_map_ref hr1), r, vs, rfl, .inl (SqL.of hvs), ?_⟩
    have hl : vs.length = m := by rw [ha.1]; exact hO.len _ (List.getElem_mem _)
    rw [hl]
    exact ⟨g, m, es, rfl, hG.same s1, hV, h4, hkm, fun H2 s2 => q _ (s1.trans s2)⟩
end
section
variable {P : Program} {w : World} {K : PySem.W.Frag} {mg : Str → Option Value} {base : Heap}
structure RecOk (keys : Int) (size : Nat) (es : List Ev) : Prop where
  valid : Valid es
  len : es.length = size
  key : ∀ e ∈ es, 0 ≤ e.k ∧ e.k < keys
  tick : ∀ e ∈ es, -(10 ^ 20) < e.t ∧ e.t < 10 ^ 20
def spRec : Sp := fun vs H Q _ => ∃ (r g : Addr) (n size : Nat) (keys : Int) (gs : List Int), vs = [.ref r, .int keys, .int (size : Int), .ref g] ∧ Reel H r n ∧ n + 4000 < most ∧ 0 < keys ∧ keys ≤ 1000 ∧ size ≤ 400 ∧
  H g = some (.lst (gs.map V.int)) ∧ g ≠ r ∧ 0 < gs.length ∧ gs.length ≤ 10 ∧ (∀ x ∈ gs, 0 ≤ x ∧ x ≤ 10 ^ 10) ∧
  ∀ (H' : Hp) (p : Addr) (es : List Ev), Off r H H' → H p = none → Reel H' r (n + 2000) → Lst evV H' p es → RecOk keys size es → Q (.ref p) H'
structure RecIn (H0 : Hp) (r g F Dn : Addr) (gs : List Int) (m : Nat) (keys : Int) (i : Nat) (tick : Int) (es : List Ev) (ns : List Int) (H : Hp) : Prop where
  Fr : F ≠ r
  Dr : Dn ≠ r
  FD : F ≠ Dn
  gr : g ≠ r
  nF : H0 F = none
  nD : H0 Dn = none
  gap0 : H0 g = some (.lst (gs.map V.int))
  off : Off r H0 H
  reel : Reel H r m
  gap : H g = some (.lst (gs.map V.int))
  found : Lst evV H F es
  down : H Dn = some (.lst (ns.map V.int))
  ok : RecOk keys i es
  dn : DownOk ns es
  key : ∀ k ∈ ns, 0 ≤ k ∧ k < keys
  nl : ns.length ≤ i
  last : ∀ e ∈ es, e.t ≤ tick
  tk : -(10 ^ 16) ≤ tick ∧ tick ≤ 10 ^ 16 + i * 10 ^ 10
section
variable {H0 H H' : Hp} {r g F Dn : Addr} {gs : List Int} {m m' : Nat} {keys : Int} {i : Nat} {tick : Int} {es : List Ev} {ns : List Int}
theorem RecIn.go (h : RecIn H0 r g F Dn gs m keys i tick es ns H) (o : Off r H H') (R : Reel H' r m') : RecIn H0 r g F Dn gs m' keys i tick es ns H' := by
  obtain ⟨x, y, z, hr, _⟩ := id h.reel
  exact { h with off := h.off.trans o, reel := R, gap := o _ _ h.gap h.gr, found := h.found.off hr h.Fr o, down := o _ _ h.down h.Dr }
theorem RecIn.same (h : RecIn H0 r g F Dn gs m keys i tick es ns H) (o : Same H H') : RecIn H0 r g F Dn gs m keys i tick es ns H' := h.go (Off.of o) (h.reel.same o)
theorem RecIn.push {p : Addr} {ns' : List Int} {e : Ev} (h : RecIn H0 r g F Dn gs m keys i tick es ns H) (np : upd H Dn (.lst (ns'.map V.int)) p = none)
    (dn : DownOk ns' (es ++ [e])) (hv : Valid (es ++ [e])) (hk : 0 ≤ e.k ∧ e.k < keys) (hns : ∀ k ∈ ns', 0 ≤ k ∧ k < keys) (nl : ns'.length ≤ i + 1) (ht : tick ≤ e.t) (tk : e.t ≤ 10 ^ 16 + ((i + 1 : Nat) : Int) * 10 ^ 10) (hi : i < 1000) :
    ∃ as : List Addr, upd (upd H Dn (.lst (ns'.map V.int))) p (.tup (evV e)) F = some (.lst (as.map V.ref)) ∧ as.length = i ∧
      RecIn H0 r g F Dn gs m keys (i + 1) e.t (es ++ [e]) ns' (upd (upd (upd H Dn (.lst (ns'.map V.int))) p (.tup (evV e))) F (.lst (as.map V.ref ++ [.ref p]))) := by
  obtain ⟨x, y, z, hr, hb⟩ := id h.reel
  obtain ⟨as, hF, hT⟩ := h.found
  have gD : g ≠ Dn := ne_of_none h.gap0 h.nD
  have gF : g ≠ F := ne_of_none h.gap0 h.nF
  have hr1 : upd H Dn (.lst (ns'.map V.int)) r = some (.lst [.int x, .int y, .int z]) := by rw [upd_ne h.Dr.symm]; exact hr
  have hF1 : upd H Dn (.lst (ns'.map V.int)) F = some (.lst (as.map V.ref)) := by rw [upd_ne h.FD]; exact hF
  have hg1 : upd H Dn (.lst (ns'.map V.int)) g = some (.lst (gs.map V.int)) := by rw [upd_ne gD]; exact h.gap
  have hT1 : Tups (upd H Dn (.lst (ns'.map V.int))) evV as es := hT.off h.down off_upd
  have hD1 : upd H Dn (.lst (ns'.map V.int)) Dn = some (.lst (ns'.map V.int)) := upd_same
  have o1 : Off r H0 (upd H Dn (.lst (ns'.map V.int))) := h.off.new h.nD
  generalize upd H Dn (.lst (ns'.map V.int)) = H1 at *
  have hF2 := (same_upd (o := .tup (evV e)) np) _ _ hF1
  have hr2 := (same_upd (o := .tup (evV e)) np) _ _ hr1
  have hg2 := (same_upd (o := .tup (evV e)) np) _ _ hg1
  have hD2 := (same_upd (o := .tup (evV e)) np) _ _ hD1
  have hp : upd H1 p (.tup (evV e)) p = some (.tup (evV e)) := upd_same
  have pF : p ≠ F := (ne_of_none hF1 np).symm
  have hl := h.ok.len
  have hal := hT.1
  refine ⟨as, hF2, by omega, ?_⟩
  refine { h with off := (o1.sameTrans (same_upd np)).new h.nF, reel := ⟨x, y, z, by rw [upd_ne h.Fr.symm]; exact hr2, hb⟩, gap := by rw [upd_ne gF]; exact hg2,
                  found := ⟨as ++ [p], by rw [upd_same, List.map_append]; rfl, Tups.snoc ((hT1.same (same_upd np)).off hF2 off_upd) (by rw [upd_ne pF]; exact hp)⟩,
                  down := by rw [upd_ne h.FD.symm]; exact hD2, ok := ⟨hv, by rw [List.length_append, hl]; rfl, fun x hx => ?_, fun x hx => ?_⟩, dn := dn, key := hns, nl := nl, last := fun x hx => ?_, tk := ⟨by have := h.tk.1; omega, tk⟩ }
  · rcases List.mem_append.mp hx with hx | hx
    · exact h.ok.key x hx
    · rw [List.mem_singleton.mp hx]; exact hk
  · rcases List.mem_append.mp hx with hx | hx
    · exact h.ok.tick x hx
    · rw [List.mem_singleton.mp hx]
      have := h.tk.1
      exact ⟨by omega, by omega⟩
  · rcases List.mem_append.mp hx with hx | hx
    · have := h.last x hx; omega
    · rw [List.mem_singleton.mp hx]; exact Int.le_refl _
theorem RecIn.mono (h : RecIn H0 r g F Dn gs m keys i tick es ns H) (l : m ≤ m') : RecIn H0 r g F Dn gs m' keys i tick es ns H := { h with reel := h.reel.mono l }
end
theorem ok__law_record (bt : Bt mg) (a : At K mg "_law_record" s__law_record ["_law_reel_here", "_law_keys", "_law_size", "_law_gaps"]) (c__law_spin : Cl P w K mg base 1 "_law_spin" spSpin) : Cl P w K mg base 2 "_law_record" spRec := by
  refine clG a sc__law_record (fun vs H Q E h => ?_) (fun f cdv A outer s H vs Q hg hr h => ?_)
  · obtain ⟨r, g, n, size, keys, gs, rfl, _⟩ := h
    rfl
  · obtain ⟨r, g, n, size, keys, gs, rfl, hR, hn, hk0, hk1, hs, hG, gr, g0, g1, g2, q⟩ := h
    have hn' : n + 4000 < 1000000000 := hn
    refine ⟨_, (pss_cons (ps_par3 (i := 4) (j := 5) (l := 6) rfl sc__law_record.nd rfl rfl rfl (by decide) (by decide) (by decide) rfl rfl rfl (pa_cons (pe_lst pa_nil) (pa_cons (pe_lst pa_nil) (pa_cons (pe_ix ix_list (pe_lst (pa_cons pe_int (pa_cons (pe_op op_sub pe_int (pe_op op_powW pe_int pe_int)) (pa_cons (pe_cl c__law_spin hg hr (by decide) (by rfl) (pa_cons (pv 0) (pa_cons (pe_op op_powW pe_int pe_int) pa_nil))) pa_nil)))) (pe_cl c__law_spin hg hr (by decide) (by rfl) (pa_cons (pv 0) (pa_cons pe_int pa_nil))) (fun _ _ => rfl)) pa_nil))) (by rfl))
      (pss_cons (ps_for PassesOwn.never rfl (pi_range1 (by rfl) bt.m_range (pa_cons (pv 2) pa_nil)) (pg_name (i := 7) sc__law_record.nd rfl (Or.inl rfl)) (pss_cons (ps_set (i := 8) sc__law_record.nd rfl (Or.inl rfl) (pe_cl c__law_spin hg hr (by decide) (by rfl) (pa_cons (pv 0) (pa_cons (pv 1) pa_nil))))
      (C8.pss_cut (ps_if (PW.pt (pw_and (pt_cmpR (op_neD hr.units) (pv 5) (pe_lst pa_nil) (nomark _)) (pw_and1 (pt_cmpR op_eq (pe_cl c__law_spin hg hr (by decide) (by rfl) (pa_cons (pv 0) (pa_cons pe_int pa_nil))) pe_int (nomark _))))) (pss_one (ps_set (i := 8) sc__law_record.nd rfl (Or.inl rfl) (pe_ix ix_list (pv 5) (pe_cl c__law_spin hg hr (by decide) (by rfl) (pa_cons (pv 0) (pa_cons (pe_callB call_len_seq (by rfl) bt.m_len (by decide +kernel) (pa_cons (pv 5) pa_nil)) pa_nil))) (fun _ _ => rfl)))) pss_nil)
      (pss_cons (ps_set (i := 6) sc__law_record.nd rfl (Or.inl rfl) (pe_op op_add (pv 6) (pe_ix ix_list (pv 3) (pe_cl c__law_spin hg hr (by decide) (by rfl) (pa_cons (pv 0) (pa_cons (pe_callB call_len_seq (by rfl) bt.m_len (by decide +kernel) (pa_cons (pv 3) pa_nil)) pa_nil))) (fun _ _ => rfl))))
      (pss_one (ps_if (pt_cmpR op_in_seq (pv 8) (pv 5) (by rfl)) (pss_cons (ps_expr (pe_bm PySem.F.plainAttrs_list PySem.F.slot_list_remove PySem.F.type_list_remove mt_remove (pv 5) (pa_cons (pv 8) pa_nil)))
      (pss_one (ps_expr (pe_bm PySem.F.plainAttrs_list PySem.F.slot_list_append PySem.F.type_list_append mt_append (pv 4) (pa_cons (pe_tup (pa_cons (pv 6) (pa_cons (pv 8) (pa_cons pe_str pa_nil)))) pa_nil))))) (pss_cons (ps_expr (pe_bm PySem.F.plainAttrs_list PySem.F.slot_list_append PySem.F.type_list_append mt_append (pv 5) (pa_cons (pv 8) pa_nil)))
      (pss_one (ps_expr (pe_bm PySem.F.plainAttrs_list PySem.F.slot_list_append PySem.F.type_list_append mt_append (pv 4) (pa_cons (pe_tup (pa_cons (pv 6) (pa_cons (pv 8) (pa_cons pe_str pa_nil)))) pa_nil)))))))))))
      (pss_one (ps_ret (pv 4))))), ?_⟩
    refine ⟨Nat.zero_le _, fun F nF => ⟨Nat.zero_le _, fun Dn nD => ?_⟩⟩
    have FD : F ≠ Dn := ne_of_none upd_same nD
    have s1 : Same H (upd (upd H F (.lst [])) Dn (.lst [])) := (same_upd nF).trans (same_upd nD)
    have hF1 : upd (upd H F (.lst [])) Dn (.lst []) F = some (.lst []) := by rw [upd_ne FD]; exact upd_same
    have hD1 : upd (upd H F (.lst [])) Dn (.lst []) Dn = some (.lst []) := upd_same
    have nD0 : H Dn = none := (same_upd nF).free nD
    obtain ⟨rx, ry, rz, hr0, _⟩ := id hR
    have Fr : F ≠ r := (ne_of_none hr0 nF).symm
    have Dr : Dn ≠ r := (ne_of_none hr0 nD0).symm
    have Fg : F ≠ g := (ne_of_none hG nF).symm
    have Dg : Dn ≠ g := (ne_of_none hG nD0).symm
    have hR1 := hR.same s1
    generalize upd (upd H F (.lst [])) Dn (.lst []) = H1 at s1 hF1 hD1 hR1
    -- [0, 0 - 10 ** 15, spin][spin]
    refine ⟨_, _, rfl, rfl, powW (n := 40) (k := 15) (by decide) (by decide), _, _, rfl, rfl, ?_⟩
    refine ⟨_, rfl, _, _, rfl, rfl, powW (n := 40) (k := 14) (by decide) (by decide), r, _, n, rfl, by decide, by decide, by show n < 1000000000; omega, hR1, fun d1 H2 d10 d11 hR2 o2 => ?_⟩
    refine ⟨by show 3 ≤ sizeLine; decide, fun L nL => ?_⟩
    refine ⟨_, rfl, r, 3, n + 1, rfl, by decide, by decide, by show n + 1 < 1000000000; omega, hR2.same (same_upd nL), fun d2 H3 d20 d21 hR3 o3 => ?_⟩
    have Lr : L ≠ r := by
      obtain ⟨_, _, _, hr2, _⟩ := id hR2
      exact (ne_of_none hr2 nL).symm
    have hL3 : H3 L = some (.lst ([0, 0 - 10 ^ 15, d1].map V.int)) := o3 _ _ upd_same Lr
    obtain ⟨t0, at0, m0⟩ := getI (ns := [0, 0 - 10 ^ 15, d1]) d20 (by show d2 < 3; exact d21)
    have bt0 : -(10 ^ 16) ≤ t0 ∧ t0 ≤ 10 ^ 16 + ((0 : Nat) : Int) * 10 ^ 10 := by
      have hm := List.mem_of_getElem? m0
      have d11' : d1 < 10 ^ 14 := d11
      simp only [List.mem_cons, List.mem_nil_iff, or_false] at hm
      omega
    have hF3 : Lst evV H3 F [] := by
      obtain ⟨_, _, _, hr2, _⟩ := id hR2
      refine ⟨[], ?_, Tups.nil⟩
      exact o3 _ _ ((same_upd nL) _ _ (o2 _ _ hF1 Fr)) Fr
    have hD3 : H3 Dn = some (.lst (([] : List Int).map V.int)) := o3 _ _ ((same_upd nL) _ _ (o2 _ _ hD1 Dr)) Dr
    have hG3 : H3 g = some (.lst (gs.map V.int)) := o3 _ _ ((same_upd nL) _ _ (o2 _ _ (s1 _ _ hG) gr)) gr
    have I0 : RecIn H r g F Dn gs (n + 2 + 4 * 0) keys 0 t0 [] [] H3 :=
      ⟨Fr, Dr, FD, gr, nF, nD0, hG, (Off.of s1).trans (o2.trans ((Off.of (same_upd nL)).trans o3)), hR3, hG3, hF3, hD3,
        ⟨Valid.nil, rfl, fun e h => by simp at h, fun e h => by simp at h⟩, DownOk.nil, fun k h => by simp at h, Nat.le_refl _, fun e h => by simp at h, bt0⟩
    refine ⟨L, _, d2, .int t0, rfl, rfl, SqL.of hL3, at0, _, _, _, rfl, ?_⟩
    refine ⟨_, rfl, (size : Int), rfl, by omega, by omega, for_it walk_range (fun i σ H' => ∃ tick es ns y7 y8, σ = [some (.ref r), some (.int keys), some (.int (size : Int)), some (.ref g), some (.ref F), some (.ref Dn), some (.int tick), y7, y8] ∧
      RecIn H r g F Dn gs (n + 2 + 4 * i) keys i tick es ns H') ⟨t0, [], [], _, _, rfl, I0⟩ (fun _ _ _ _ _ => True.intro) (fun i x σ H4 H5 hi p y => ?_) (fun σ H4 p => ?_)⟩
    · obtain ⟨tick, es, ns, y7, y8, rfl, R⟩ := p
      obtain ⟨rfl, rfl⟩ := y
      have hi' : i < size := by omega
      -- key = spin(reel, keys)
      refine ⟨_, rfl, _, rfl, r, keys, n + 2 + 4 * i, rfl, hk0, Int.lt_of_le_of_lt hk1 (by decide), by show _ < 1000000000; omega, R.reel, fun k H5 k0 k1 R5 o5 => ?_⟩
      have R1 := R.go o5 R5
      clear R R5 o5
      refine ⟨fun σ' H' => ∃ k : Int, σ' = [some (.ref r), some (.int keys), some (.int (size : Int)), some (.ref g), some (.ref F), some (.ref Dn), some (.int tick), some (.int (0 + (i : Int))), some (.int k)] ∧ 0 ≤ k ∧ k < keys ∧ RecIn H r g F Dn gs (n + 2 + 4 * i + 3) keys i tick es ns H', ?_, ?_⟩
      · -- if down != [] and spin(reel, 2) == 0
        refine ⟨_, rfl, Nat.zero_le _, fun e ne => ?_⟩
        have R2 := R1.same (same_upd (o := .lst []) ne)
        refine ⟨_, _, .lst (SqL.of R2.down) (dpInts ns), .lst (SqL.of upd_same) .nil, shaped_ints ns, shaped_nil, _, rfl, ?_⟩
        rw [eqv_nil]
        cases ns with
        | nil => exact iteF (iteF ⟨k, rfl, k0, k1, R2.mono (by omega)⟩)
        | cons d0 dr =>
          refine iteT ⟨_, rfl, r, 2, n + 2 + 4 * i + 1, rfl, by decide, by decide, by show _ < 1000000000; omega, R2.reel, fun b H6 b0 b1 R6 o6 => ⟨rfl, _, rfl, ite2 (fun z => ?_) (fun z => ?_)⟩⟩
          · have R3 := R2.go o6 R6
            refine ⟨_, rfl, _, rfl, _, rfl, Dn, _, rfl, .inl (SqL.of R3.down), r, _, n + 2 + 4 * i + 1 + 1, rfl, ?_, ?_, by show _ < 1000000000; omega, R3.reel, fun c H7 c0 c1 R7 o7 => ?_⟩
            · rw [List.length_map, List.length_cons]; omega
            · have := R3.nl
              rw [List.length_map]
              have h2 : (10 : Int) ^ 40 > 1000 := by decide
              omega
            · have R4 := R3.go o7 R7
              rw [List.length_map] at c1
              obtain ⟨k', ak, mk⟩ := getI (ns := d0 :: dr) c0 c1
              have hk' := R4.key k' (List.mem_of_getElem? mk)
              exact ⟨Dn, _, c, _, rfl, rfl, SqL.of R4.down, ak, k', rfl, hk'.1, hk'.2, R4.mono (by omega)⟩
          · exact ⟨k, rfl, k0, k1, (R2.go o6 R6).mono (by omega)⟩
      · rintro σ' H' ⟨k, rfl, k0, k1, R⟩
        refine ⟨_, rfl, _, rfl, _, rfl, _, rfl, g, _, rfl, .inl (SqL.of R.gap), r, _, n + 2 + 4 * i + 3, rfl, ?_, ?_, by show _ < 1000000000; omega, R.reel, fun c H6 c0 c1 R6 o6 => ?_⟩
        · rw [List.length_map]; omega
        · rw [List.length_map]
          have h2 : (10 : Int) ^ 40 > 1000 := by decide
          omega
        · have R2 := R.go o6 R6
          rw [List.length_map] at c1
          obtain ⟨dv, adv, mdv⟩ := getI (ns := gs) c0 c1
          have hdv := g2 dv (List.mem_of_getElem? mdv)
          refine ⟨g, _, c, _, rfl, rfl, SqL.of R2.gap, adv, _, _, rfl, rfl, ?_⟩
          have htk := R2.tk
          have hup : tick + dv ≤ 10 ^ 16 + ((i + 1 : Nat) : Int) * 10 ^ 10 := by
            have e : ((i + 1 : Nat) : Int) * 10 ^ 10 = (i : Int) * 10 ^ 10 + 10 ^ 10 := by rw [Int.natCast_add, Int.add_mul]; rfl
            omega
          refine ⟨_, rfl, _, rfl, Dn, _, rfl, .inl (SqL.of R2.down), rfl, flat_ints ns, _, rfl, ?_⟩
          show (if inV (.int k) (ns.map V.int) = true then _ else _)
          rw [inv_int]
          have hlast : ∀ e' ∈ es, e'.t ≤ tick + dv := fun e' he => by have := R2.last e' he; omega
          have eqm : n + 2 + 4 * (i + 1) = n + 2 + 4 * i + 3 + 1 := by omega
          refine ite2 (fun z => ?_) (fun z => ?_)
          · have zm : k ∈ ns := of_decide_eq_true z
            obtain ⟨j, hj⟩ := List.getElem?_of_mem zm
            refine ⟨_, rfl, .inl ⟨rfl, _, SqL.of R2.down⟩, _, rfl, Dn, ns, k, j, rfl, rfl, R2.down, hj, first_ix R2.dn.nd hj, ?_⟩
            have hF := R2.found
            refine ⟨_, rfl, ?_, _, rfl, _, rfl, (by show 3 ≤ sizeLine; decide), fun p np => ?_⟩
            · obtain ⟨as, hFa, _⟩ := hF
              exact .inl ⟨rfl, _, SqL.of (by rw [upd_ne R2.FD]; exact hFa)⟩
            · obtain ⟨as, h1, h2, R3⟩ := R2.push (e := ⟨tick + dv, k, false⟩) np (R2.dn.up hj) (R2.ok.valid.snoc k0 ((R2.dn.mem k).mp zm) hlast) ⟨k0, k1⟩
                (fun x hx => R2.key x ((mem_eraseIdx R2.dn.nd hj x).mp hx).2) (by have := R2.nl; have := List.length_eraseIdx_le ns j; omega) (by show tick ≤ tick + dv; omega) hup (by omega)
              refine ⟨F, _, .ref p, rfl, rfl, h1, by rw [List.length_map, h2]; exact small1000 (by omega), tick + dv, es ++ [⟨tick + dv, k, false⟩], ns.eraseIdx j, _, _, rfl, ?_⟩
              rw [eqm]
              exact R3
          · have zm : ¬ k ∈ ns := fun q => z (decide_eq_true q)
            refine ⟨_, rfl, .inl ⟨rfl, _, SqL.of R2.down⟩, _, rfl, Dn, _, .int k, rfl, rfl, R2.down, by rw [List.length_map]; have := R2.nl; exact small1000 (by omega), ?_⟩
            have hF := R2.found
            have emap : (ns.map V.int) ++ [V.int k] = (ns ++ [k]).map V.int := by rw [List.map_append]; rfl
            rw [emap]
            refine ⟨_, rfl, ?_, _, rfl, _, rfl, (by show 3 ≤ sizeLine; decide), fun p np => ?_⟩
            · obtain ⟨as, hFa, _⟩ := hF
              exact .inl ⟨rfl, _, SqL.of (by rw [upd_ne R2.FD]; exact hFa)⟩
            · obtain ⟨as, h1, h2, R3⟩ := R2.push (e := ⟨tick + dv, k, true⟩) np (R2.dn.down zm) (R2.ok.valid.snoc k0 (R2.dn.not zm) hlast) ⟨k0, k1⟩
                (fun x hx => by
                  rcases List.mem_append.mp hx with hx | hx
                  · exact R2.key x hx
                  · rw [List.mem_singleton.mp hx]; exact ⟨k0, k1⟩) (by rw [List.length_append]; have := R2.nl; simp; omega) (by show tick ≤ tick + dv; omega) hup (by omega)
              refine ⟨F, _, .ref p, rfl, rfl, h1, by rw [List.length_map, h2]; exact small1000 (by omega), tick + dv, es ++ [⟨tick + dv, k, true⟩], ns ++ [k], _, _, rfl, ?_⟩
              rw [eqm]
              exact R3
    · obtain ⟨tick, es, ns, y7, y8, rfl, R⟩ := p
      have e : ((size : Int)).toNat = size := Int.toNat_natCast size
      rw [e] at R
      exact ⟨_, rfl, q H4 F es R.off nF (R.reel.mono (by omega)) R.found R.ok⟩
end
end K84

set_option Elab.async false
set_option linter.all false
set_option maxRecDepth 100000
set_option maxHeartbeats 8000000
namespace K84
open PySem PySem.Spec PyProof.Rows L2 Gd Rm La Cb Pl
/-- x[i] of a tuple or of a text -/
def rIxE (K : PySem.W.Frag) : R2 := fun x y H Q => rIxT K x y H Q ∨ rIxS x y H Q
theorem ix_either {X : Cx} : IxR X (rIxE X.K) := by
  intro value slice pins s σ H x y v u Q I rx ry h hs
  rcases h with h | h
  · exact ix_tup value slice pins s σ H x y v u Q I rx ry h hs
  · exact ix_str value slice pins s σ H x y v u Q I rx ry h hs
/-- the first sign of an action's text, or its word -/
def headW : Actn → Str
  | .none => ⟨#['n'.toNat]⟩
  | .thr => ⟨#['t'.toNat]⟩
  | .code _ => "code"
  | .lay w _ => w
  | .dualC _ _ _ _ => "dual"
  | .dualL _ _ _ _ => "dual"
theorem act_head {K : PySem.W.Frag} {x : Actn} {v : V} {H : Hp} {Q : VK} (h : ActV H x v) (q : Q (.str (headW x)) H) : rIxE K v (.int 0) H Q := by
  cases x with
  | none => cases h; exact .inr ⟨_, 0, _, rfl, rfl, by decide +kernel, rfl, q⟩
  | thr => cases h; exact .inr ⟨_, 0, _, rfl, rfl, by decide +kernel, rfl, q⟩
  | code c => obtain ⟨a, rfl, ha⟩ := h; exact .inl ⟨a, _, 0, _, rfl, rfl, SqT.of ha, atI_nat (j := 0) rfl, q⟩
  | lay w j => obtain ⟨a, rfl, ha⟩ := h; exact .inl ⟨a, _, 0, _, rfl, rfl, SqT.of ha, atI_nat (j := 0) rfl, q⟩
  | dualC c d t r => obtain ⟨a, b, rfl, ha, hb⟩ := h; exact .inl ⟨a, _, 0, _, rfl, rfl, SqT.of ha, atI_nat (j := 0) rfl, q⟩
  | dualL c d t r => obtain ⟨a, b, rfl, ha, hb⟩ := h; exact .inl ⟨a, _, 0, _, rfl, rfl, SqT.of ha, atI_nat (j := 0) rfl, q⟩
theorem head_dual {n i : Int} {x : Actn} (h : ActOk n i x) : decide (headW x = (("dual" : String) : Str)) = isDl x := by
  cases x with
  | lay w j =>
    refine decide_eq_false ?_
    intro e
    have e : w = (("dual" : String) : Str) := e
    subst e
    have := h.1
    revert this
    decide +kernel
  | none => decide +kernel
  | thr => decide +kernel
  | code _ => exact (show decide (((("code" : String) : Str)) = ((("dual" : String) : Str))) = false by decide +kernel)
  | dualC _ _ _ _ => exact (decide_eq_true rfl)
  | dualL _ _ _ _ => exact (decide_eq_true rfl)
theorem neI {a b : Int} {p : Bool} (h : (!decide (a = b)) = p) : V.bl (!decide (V.int a = V.int b)) = .bl p := by
  rw [← h]
  by_cases z : a = b <;> simp [z]
def argL : Actn → Int
  | .lay _ j => j
  | _ => 0
theorem do_lay {n : Nat} {x : Actn} {u : Str} (h : DoOk n x) (e : headW x = u) (hu : u ∈ layWords) : ∃ j, x = .lay u j ∧ 1 ≤ j ∧ j < n := by
  cases x with
  | lay w j => exact ⟨j, by rw [← e]; rfl, h.2.1, h.2.2⟩
  | none => subst e; exact absurd hu (show ¬ headW .none ∈ layWords by decide +kernel)
  | code c => subst e; exact absurd hu (show ¬ (("code" : String) : Str) ∈ layWords by decide +kernel)
  | thr => exact h.elim
  | dualC _ _ _ _ => exact h.elim
  | dualL _ _ _ _ => exact h.elim
theorem do_code {n : Nat} {x : Actn} (h : DoOk n x) (e : headW x = (("code" : String) : Str)) : ∃ c, x = .code c := by
  cases x with
  | code c => exact ⟨c, rfl⟩
  | lay w j =>
    have e : w = (("code" : String) : Str) := e
    subst e
    exact absurd h.1 (show ¬ (("code" : String) : Str) ∈ layWords by decide +kernel)
  | none => exact absurd e (show ¬ headW .none = ((("code" : String) : Str)) by decide +kernel)
  | thr => exact h.elim
  | dualC _ _ _ _ => exact h.elim
  | dualL _ _ _ _ => exact h.elim
theorem dl_two {H : Hp} {x : Actn} {v : V} (hv : ActV H x v) (hd : isDl x = true) : ∃ (a b : Addr) (c r : Str) (t : Int), v = .ref a ∧ H a = some (.tup [.str "dual", .str c, .ref b, .int t, .str r]) ∧ tapOf x = .code c ∧ ActV H (holdOf x) (.ref b) := by
  cases x with
  | dualC c d t r =>
    obtain ⟨a, b, e1, e2, e3⟩ := hv
    exact ⟨a, b, c, r, t, e1, e2, rfl, ⟨b, rfl, e3⟩⟩
  | dualL c j t r =>
    obtain ⟨a, b, e1, e2, e3⟩ := hv
    exact ⟨a, b, c, r, t, e1, e2, rfl, ⟨b, rfl, e3⟩⟩
  | _ => cases hd
def outR : Actn → Outp
  | .code c => .re c
  | _ => .no
theorem relO_eq {s : Sm} {k : Int} : relO s k = outR ((getB s.bd k).getD .none) := by
  unfold relO
  cases getB s.bd k with
  | none => rfl
  | some x => cases x <;> rfl
theorem BdOk.doo {n : Nat} {x : Actn} (h : BdOk n x) : DoOk n x := by
  cases x with
  | code c => exact h
  | lay w j => exact ⟨by rw [h.1]; decide +kernel, h.2.1, by have := h.2.2; omega⟩
  | none => trivial
  | thr => exact h.elim
  | dualC _ _ _ _ => exact h.elim
  | dualL _ _ _ _ => exact h.elim
theorem rel_none {s : Sm} {k : Int} (h : getB s.bd k = none) : release s k = s := by
  unfold Pl.release
  have : dropB s.bd k = s.bd := by
    unfold dropB
    rw [List.filter_eq_self]
    intro p' hp'
    unfold getB at h
    rw [Option.map_eq_none_iff, List.find?_eq_none] at h
    have := h p' hp'
    simpa using this
  rw [this]
end K84

set_option Elab.async false
set_option linter.all false
set_option maxRecDepth 100000
set_option maxHeartbeats 8000000
namespace K84
open PySem PySem.Spec PyProof.Rows L2 Gd Rm La Cb Pl
def outD : Outp → PyData
  | .no => .tuple []
  | .pr c => .tuple [.str "press", .str c]
  | .re c => .tuple [.str "release", .str c]
def OutOk : Outp → Prop
  | .no => True
  | .pr c => CodeOk c
  | .re c => CodeOk c
theorem fit_out {o : Outp} (h : OutOk o) : Fit 500 1 (outD o) := by
  cases o with
  | no => exact ⟨rfl, by decide, by decide +kernel⟩
  | pr c => exact fit_two' (fit_const "press") (fit_code h)
  | re c => exact fit_two' (fit_const "release") (fit_code h)
theorem OutV.dp {K : PySem.W.Frag} {H : Hp} {o : Outp} {v : V} (h : OutV H o v) : Dp K H v (outD o) := by
  obtain ⟨T, rfl, hT⟩ := h
  cases o with
  | no => exact .tup (SqT.of hT) .nil
  | pr c => exact .tup (SqT.of hT) (.cons (.str _) (.cons (.str _) .nil))
  | re c => exact .tup (SqT.of hT) (.cons (.str _) (.cons (.str _) .nil))
theorem out_lay {o : Outp} (h : OutOk o) : SeqAt.shaped (outD o) = true := by
  cases o with
  | no => decide +kernel
  | pr c => simp [SeqAt.shaped, outD, PyData.canLay0, PyData.canLayAll0, PyData.depth, PyData.depthAll, (by decide +kernel : PyData.strOk "press" = true), strOk_code h]
  | re c => simp [SeqAt.shaped, outD, PyData.canLay0, PyData.canLayAll0, PyData.depth, PyData.depthAll, (by decide +kernel : PyData.strOk "release" = true), strOk_code h]
def isOut : Outp → Bool
  | .no => false
  | _ => true
theorem eqv_out : ∀ o : Outp, PyData.eqv (outD o) (.tuple []) = !isOut o
  | .no => by decide +kernel
  | .pr _ => rfl
  | .re _ => rfl
def OutsV (H : Hp) (vs : List V) (os : List Outp) : Prop := vs.length = os.length ∧ ∀ (i : Nat) (v : V) (o : Outp), vs[i]? = some v → os[i]? = some o → OutV H o v
def Outs (H : Hp) (D : Addr) (os : List Outp) : Prop := ∃ vs, H D = some (.lst vs) ∧ OutsV H vs os
section
variable {H H' : Hp} {vs : List V} {os : List Outp} {D : Addr}
theorem OutsV.keep (h : OutsV H vs os) (t : Tk H H') : OutsV H' vs os := ⟨h.1, fun i v o a b => (h.2 i v o a b).keep t⟩
theorem Outs.same (h : Outs H D os) (s : Same H H') : Outs H' D os := by
  obtain ⟨vs, a, b⟩ := h
  exact ⟨vs, s _ _ a, b.keep (Tk.of s)⟩
theorem OutsV.nil : OutsV H [] [] := ⟨rfl, fun i v o h _ => by simp at h⟩
theorem OutsV.snoc {v : V} {o : Outp} (h : OutsV H vs os) (hv : OutV H o v) : OutsV H (vs ++ [v]) (os ++ [o]) := by
  refine ⟨by rw [List.length_append, List.length_append, h.1]; rfl, fun i u y a b => ?_⟩
  have hl := h.1
  rcases Nat.lt_or_ge i vs.length with q | q
  · rw [List.getElem?_append_left q] at a
    rw [List.getElem?_append_left (by omega)] at b
    exact h.2 i u y a b
  · have hi : i = vs.length := by
      have := (List.getElem?_eq_some_iff.mp a).1
      rw [List.length_append] at this
      simp at this
      omega
    subst hi
    rw [List.getElem?_append_right (Nat.le_refl _), Nat.sub_self] at a
    rw [List.getElem?_append_right (by omega), show vs.length - os.length = 0 by omega] at b
    have e1 : v = u := Option.some.inj a
    have e2 : o = y := Option.some.inj b
    subst e1 e2
    exact hv
theorem OutsV.dp {K : PySem.W.Frag} : ∀ {vs : List V} {os : List Outp}, OutsV H vs os → DpAll K H vs (os.map outD)
  | [], [], _ => .nil
  | [], _ :: _, h => by have := h.1; simp at this
  | _ :: _, [], h => by have := h.1; simp at this
  | v :: vs, x :: xs, h => .cons ((h.2 0 v x rfl rfl).dp) (OutsV.dp ⟨by have := h.1; simpa using this, fun i u y a b => h.2 (i + 1) u y (by simpa using a) (by simpa using b)⟩)
theorem Outs.dp {K : PySem.W.Frag} (h : Outs H D os) : Dp K H (.ref D) (.list (os.map outD)) := by
  obtain ⟨vs, a, b⟩ := h
  exact .lst (SqL.of a) b.dp
end
theorem fit_outs {os : List Outp} (h : ∀ o ∈ os, OutOk o) (hl : os.length ≤ 400) : Fit 210000 2 (.list (os.map outD)) := by
  refine Fit.mono (fit_list (L := 500) (n := 1) fun d hd => ?_) (by rw [List.length_map]; omega) (Nat.le_refl _)
  obtain ⟨o, ho, rfl⟩ := List.mem_map.mp hd
  exact fit_out (h o ho)
def outsM (L : List (List Actn)) (es : List Ev) (n : Nat) : List Outp := (List.range n).map (outM L es)
theorem outsM_succ {L : List (List Actn)} {es : List Ev} {n : Nat} : outsM L es (n + 1) = outsM L es n ++ [outM L es n] := by
  unfold outsM
  rw [List.range_succ, List.map_append]
  rfl
theorem outsM_len {L : List (List Actn)} {es : List Ev} {n : Nat} : (outsM L es n).length = n := by unfold outsM; rw [List.length_map, List.length_range]
theorem outM_ok {L : List (List Actn)} {es : List Ev} {m : Nat} (hO : LayOk L m) (hV : Valid es) (hk : ∀ e ∈ es, e.k < (m : Int)) {i : Nat} (hi : i < es.length) : OutOk (outM L es i) := by
  have e := evAt_eq hi
  unfold outM
  split
  · have k0 := (hV i _ (List.getElem?_eq_getElem hi)).1
    have k1 := hk _ (List.getElem_mem hi)
    obtain ⟨_, t2, t3⟩ := taken_ok hO (runS L es i) (k := (evAt es i).k.toNat) (by rw [e]; omega)
    have := what_do (es := es) (j := i) (n := L.length) (x := xAt L es i) t2 t3
    generalize whatM (xAt L es i) (kindM es i (xAt L es i)) = W at this ⊢
    cases W with
    | code c => exact this
    | _ => trivial
  · have hSt := runS_ok hO hV hk i (by omega)
    rw [relO_eq]
    cases g : getB (runS L es i).bd (evAt es i).k with
    | none => trivial
    | some x =>
      obtain ⟨p0, hp0, _, e2⟩ := getB_mem g
      have := hSt.bds p0 hp0
      rw [e2] at this
      cases x with
      | code c => exact this
      | _ => trivial
theorem outsM_ok {L : List (List Actn)} {es : List Ev} {m : Nat} (hO : LayOk L m) (hV : Valid es) (hk : ∀ e ∈ es, e.k < (m : Int)) : ∀ o ∈ outsM L es es.length, OutOk o := fun o ho => by
  unfold outsM at ho
  obtain ⟨i, hi, rfl⟩ := List.mem_map.mp ho
  exact outM_ok hO hV hk (List.mem_range.mp hi)
theorem neD {b : Bool} {x y : PyData} (h : PyData.eqv x y = b) : V.bl (!PyData.eqv x y) = V.bl (!b) := by rw [h]
section
variable {P : Program} {w : World} {K : PySem.W.Frag} {mg : Str → Option Value} {base : Heap}
def spPlayed : Sp := fun vs H Q _ => ∃ (c g : Addr) (L : List (List Actn)) (m : Nat) (es : List Ev), vs = [.ref c, .ref g] ∧ Lay H c L ∧ LayOk L m ∧ Lst evV H g es ∧ Valid es ∧ es.length ≤ 400 ∧ (∀ e ∈ es, e.k < (m : Int)) ∧
  ∀ (H' : Hp) (D : Addr), Same H H' → H D = none → Outs H' D (outsM L es es.length) → Q (.ref D) H'
theorem ok_played (bt : Bt mg) {C : Addr} (a : At K mg "played" s_played ["layout", "record"]) (c_check_playable : Cl P w K mg base 8 "check_playable" spPlayable) (c_play : Cl P w K mg base 3 "play" (spPlay C)) : Cl P w K mg base 9 "played" spPlayed := by
  refine clG a sc_played (fun vs H Q E h => ?_) (fun f cdv A outer s H vs Q hg hr h => ?_)
  · obtain ⟨c, g, L, m, es, rfl, _⟩ := h
    rfl
  · obtain ⟨c, g, L, m, es, rfl, hL, hO, hG, hV, h4, hkm, q⟩ := h
    refine ⟨_, (pss_cons (ps_expr (pe_cl c_check_playable hg hr (by decide) (by rfl) (pa_cons (pv 0) (pa_cons (pv 1) pa_nil))))
      (pss_cons (ps_asg (pe_cl c_play hg hr (by decide) (by rfl) (pa_cons (pv 0) (pa_cons (pv 1) pa_nil))) (pg_tup rfl (pgs_cons (pg_name (i := 2) sc_played.nd rfl (Or.inl rfl)) (pgs_cons (pg_name (i := 3) sc_played.nd rfl (Or.inl rfl)) pgs_nil))))
      (pss_one (ps_ret (pe_lc (own := [("meaning", 4), ("sure", 5), ("output", 6)]) (g := (gTup K 3 (gCons (gName 4) (gCons (gName 5) (gCons (gName 6) gNil))))) (by rfl) sc_played.nd (pi_list (pv 3)) (blkOk_by (N := n_played) (sc := defScope s_played) (by decide +kernel)) (fun _ _ _ _ _ => (pg_tup rfl (pgs_cons (pg_name (i := 4) sc_played.nd rfl (Or.inl rfl)) (pgs_cons (pg_name (i := 5) sc_played.nd rfl (Or.inl rfl)) (pgs_cons (pg_name (i := 6) sc_played.nd rfl (Or.inl rfl)) pgs_nil))))) (fun _ _ _ _ _ => pts_nil) (fun _ _ _ _ _ => (pv 6))))))), ?_⟩
    refine ⟨_, rfl, _, rfl, c, g, L, m, es, rfl, hL, hO, hG, hV, h4, hkm, fun H1 s1 => ?_⟩
    refine ⟨_, rfl, _, rfl, c, g, L, m, es, rfl, hL.same s1, hO, hG.same s1, hV, h4, hkm, fun H2 T p l d e W s2 hT hP hW => ?_⟩
    obtain ⟨Ts, w1, w2, w3⟩ := hW
    have s12 := s1.trans s2
    refine ⟨T, _, rfl, SqT.of hT, rfl, _, _, rfl, _, _, rfl, rfl, ?_⟩
    refine ⟨_, rfl, W, rfl, ⟨_, SqL.of w1⟩, fun M nM => lc_it (walk_list (xs := Ts.map V.ref)) (fun j H' => Same H2 H' ∧ ∃ vs, H' M = some (.lst vs) ∧ OutsV H' vs (outsM L es j)) ⟨same_upd nM, [], upd_same, OutsV.nil⟩ (fun j H' _ p => SqL.of (p.1 _ _ w1)) (fun j x Hx Hy hj p y => ?_) (fun H3 p => ?_)⟩
    · obtain ⟨sx, vs, hM, hvs⟩ := p
      obtain ⟨rfl, hx⟩ := y
      have hj' : j < Ts.length := by rw [List.length_map] at hj; exact hj
      have hTj : Ts[j]? = some Ts[j] := List.getElem?_eq_getElem hj'
      have ex : V.ref Ts[j] = x := Option.some.inj ((get_map_ref hTj).symm.trans hx)
      subst ex
      obtain ⟨mv, sv, ov, f1, f2, f3⟩ := w3 j _ hTj
      have hvl := hvs.1
      rw [outsM_len] at hvl
      refine ⟨Ts[j], _, rfl, SqT.of (sx _ _ f1), rfl, _, _, rfl, _, _, rfl, _, _, rfl, rfl, ?_⟩
      refine ⟨rfl, ⟨_, rfl, vs, hM, small1000 (by omega), Same.off sx nM off_upd, vs ++ [ov], upd_same, ?_⟩⟩
      rw [outsM_succ]
      exact (hvs.snoc (f3.keep (Tk.of sx))).keep (tk_upd hM)
    · obtain ⟨sx, vs, hM, hvs⟩ := p
      have en : (Ts.map V.ref).length = es.length := by rw [List.length_map]; exact w2
      rw [en] at hvs
      exact q _ M (s12.trans sx) (none_back s12 nM) ⟨vs, hM, hvs⟩
end
end K84

set_option Elab.async false
set_option linter.all false
set_option maxRecDepth 100000
set_option maxHeartbeats 8000000
namespace K84
open PySem PySem.Spec PyProof.Rows L2 Gd Rm La Cb Pl
def optI : Option Int → V
  | none => .non
  | some d => .int d
/-- the tick at which the down of a dual is sure -/
def decD (L : List (List Actn)) (es : List Ev) (i : Nat) : Option Int :=
  if (evAt es i).d = true ∧ isDl (xAt L es i) = true then
    match sureM es i (xAt L es i) with
    | some n => some (evAt es n).t
    | none => some ((evAt es i).t + timeOf (xAt L es i))
  else none
def decL (L : List (List Actn)) (es : List Ev) (n : Nat) : List (Option Int) := (List.range n).map (decD L es)
/-- the list of the decisions, while it is made -/
def fdV (L : List (List Actn)) (es : List Ev) (n i : Nat) : List V := (List.range n).map fun j => if j < i then optI (decD L es j) else .non
theorem fdV_len {L : List (List Actn)} {es : List Ev} {n i : Nat} : (fdV L es n i).length = n := by unfold fdV; rw [List.length_map, List.length_range]
theorem fdV_zero {L : List (List Actn)} {es : List Ev} {n : Nat} : fdV L es n 0 = List.replicate n V.non := by
  refine List.ext_getElem? fun j => ?_
  unfold fdV
  rw [List.getElem?_map, List.getElem?_replicate]
  by_cases h : j < n
  · rw [List.getElem?_range h, if_pos h]; rfl
  · rw [if_neg h, List.getElem?_eq_none (by rw [List.length_range]; omega)]; rfl
theorem fdV_end {L : List (List Actn)} {es : List Ev} {n : Nat} : fdV L es n n = (decL L es n).map optI := by
  unfold fdV decL
  rw [List.map_map]
  refine List.map_congr_left fun j hj => ?_
  rw [if_pos (List.mem_range.mp hj)]
  rfl
theorem fdV_set {L : List (List Actn)} {es : List Ev} {n i : Nat} {d : Int} (h : decD L es i = some d) : (fdV L es n i).set i (.int d) = fdV L es n (i + 1) := by
  refine List.ext_getElem? fun j => ?_
  rw [List.getElem?_set, fdV_len]
  unfold fdV
  rw [List.getElem?_map, List.getElem?_map]
  by_cases hj : j < n
  · rw [List.getElem?_range hj]
    by_cases e : i = j
    · subst e
      rw [if_pos rfl, if_pos hj]
      show _ = some (if i < i + 1 then optI (decD L es i) else .non)
      rw [if_pos (Nat.lt_succ_self _), h]
      rfl
    · rw [if_neg e]
      show some (if j < i then optI (decD L es j) else .non) = some (if j < i + 1 then optI (decD L es j) else .non)
      by_cases z : j < i
      · rw [if_pos z, if_pos (by omega)]
      · rw [if_neg z, if_neg (by omega)]
  · have : (List.range n)[j]? = none := List.getElem?_eq_none (by rw [List.length_range]; omega)
    rw [this]
    by_cases e : i = j
    · subst e; rw [if_pos rfl, if_neg hj]; rfl
    · rw [if_neg e]; rfl
theorem fdV_skip {L : List (List Actn)} {es : List Ev} {n i : Nat} (h : decD L es i = none) : fdV L es n i = fdV L es n (i + 1) := by
  unfold fdV
  refine List.map_congr_left fun j _ => ?_
  by_cases z : j < i
  · rw [if_pos z, if_pos (by omega)]
  · rw [if_neg z]
    by_cases e : j = i
    · subst e; rw [if_pos (Nat.lt_succ_self _), h]; rfl
    · rw [if_neg (by omega)]
def later (t : Int) : Option Int → Int
  | none => t
  | some d => if d > t then d else t
/-- the done ticks -/
def dnF (es : List Ev) (ds : List (Option Int)) : Nat → Int
  | 0 => later (evAt es 0).t (ds.getD 0 none)
  | i + 1 => if dnF es ds i > later (evAt es (i + 1)).t (ds.getD (i + 1) none) then dnF es ds i else later (evAt es (i + 1)).t (ds.getD (i + 1) none)
def dnL (es : List Ev) (ds : List (Option Int)) (n : Nat) : List Int := (List.range n).map (dnF es ds)
theorem dnL_succ {es : List Ev} {ds : List (Option Int)} {n : Nat} : dnL es ds (n + 1) = dnL es ds n ++ [dnF es ds n] := by
  unfold dnL
  rw [List.range_succ, List.map_append]
  rfl
section
variable {P : Program} {w : World} {K : PySem.W.Frag} {mg : Str → Option Value} {base : Heap}
def spDcs : Sp := fun vs H Q _ => ∃ (c g : Addr) (L : List (List Actn)) (m : Nat) (es : List Ev), vs = [.ref c, .ref g] ∧ Lay H c L ∧ LayOk L m ∧ Lst evV H g es ∧ Valid es ∧ es.length ≤ 400 ∧ (∀ e ∈ es, e.k < (m : Int)) ∧
  ∀ (H' : Hp) (F : Addr), Same H H' → H' F = some (.lst ((decL L es es.length).map optI)) → Q (.ref F) H'
theorem ok_decisions (bt : Bt mg) {C : Addr} (a : At K mg "decisions" s_decisions ["layout", "record"]) (c_play : Cl P w K mg base 3 "play" (spPlay C)) : Cl P w K mg base 4 "decisions" spDcs := by
  refine clG a sc_decisions (fun vs H Q E h => ?_) (fun f cdv A outer s H vs Q hg hr h => ?_)
  · obtain ⟨c, g, L, m, es, rfl, _⟩ := h
    rfl
  · obtain ⟨c, g, L, m, es, rfl, hL, hO, hG, hV, h4, hkm, q⟩ := h
    refine ⟨_, (pss_cons (ps_asg (pe_cl c_play hg hr (by decide) (by rfl) (pa_cons (pv 0) (pa_cons (pv 1) pa_nil))) (pg_tup rfl (pgs_cons (pg_name (i := 2) sc_decisions.nd rfl (Or.inl rfl)) (pgs_cons (pg_name (i := 3) sc_decisions.nd rfl (Or.inl rfl)) pgs_nil))))
      (pss_cons (ps_set (i := 4) sc_decisions.nd rfl (Or.inl rfl) (pe_op op_rep (pe_lst (pa_cons pe_non pa_nil)) (pe_callB call_len_seq (by rfl) bt.m_len (by decide +kernel) (pa_cons (pv 1) pa_nil))))
      (pss_cons (ps_for PassesOwn.never rfl (pi_enum (by rfl) bt.m_enumerate (pa_cons (pv 3) pa_nil)) (pg_tup rfl (pgs_cons (pg_name (i := 5) sc_decisions.nd rfl (Or.inl rfl)) (pgs_cons (pg_tup rfl (pgs_cons (pg_name (i := 6) sc_decisions.nd rfl (Or.inl rfl)) (pgs_cons (pg_name (i := 7) sc_decisions.nd rfl (Or.inl rfl)) (pgs_cons (pg_name (i := 8) sc_decisions.nd rfl (Or.inl rfl)) pgs_nil)))) pgs_nil))) (pss_one (ps_if (pt_cmpR op_notN (pv 7) pe_non (nomark _)) (pss_one (ps_asg (pe_ix ix_tup (pe_ix ix_list (pv 1) (pv 7) (fun _ _ => rfl)) pe_int (fun _ _ => rfl)) (pg_sub (pv 4) (pv 5) set_list))) (pss_one (ps_if (PW.pt (pw_and (pt_cmpR op_notN (pv 6) pe_non (nomark _)) (pw_and1 (pt_cmpR op_ne (pe_ix ix_tup (pv 6) pe_int (fun _ _ => rfl)) pe_str (nomark _))))) (pss_cons (ps_set (i := 9) sc_decisions.nd rfl (Or.inl rfl) (pe_ix ix_tup (pv 6) pe_int (fun _ _ => rfl)))
      (pss_cons (ps_asg (pe_ix ix_list (pv 1) (pv 5) (fun _ _ => rfl)) (pg_tup rfl (pgs_cons (pg_name (i := 10) sc_decisions.nd rfl (Or.inl rfl)) (pgs_cons (pg_name (i := 11) sc_decisions.nd rfl (Or.inl rfl)) (pgs_cons (pg_name (i := 12) sc_decisions.nd rfl (Or.inl rfl)) pgs_nil)))))
      (pss_one (ps_asg (pe_op op_add (pv 10) (pe_ix ix_tup (pe_ix ix_list (pe_ix ix_list (pv 0) (pv 9) (fun _ _ => rfl)) (pv 11) (fun _ _ => rfl)) pe_int (fun _ _ => rfl))) (pg_sub (pv 4) (pv 5) set_list))))) pss_nil)))))
      (pss_one (ps_ret (pv 4)))))), ?_⟩
    refine ⟨_, rfl, _, rfl, c, g, L, m, es, rfl, hL, hO, hG, hV, h4, hkm, fun H1 R p l d e W s1 hR hP hW => ?_⟩
    obtain ⟨Ts, t1, t2, t3⟩ := hW
    obtain ⟨as, hg0, hT⟩ := hG.same s1
    have hal : as.length = es.length := hT.1
    refine ⟨R, _, rfl, SqT.of hR, rfl, _, _, rfl, _, _, rfl, rfl, ?_⟩
    refine ⟨(by show 1 ≤ sizeLine; decide), fun A0 m0 => ⟨_, rfl, g, _, rfl, .inl (SqL.of ((same_upd m0) _ _ hg0)), A0, _, _, rfl, rfl, upd_same, by rw [List.length_map]; omega, by rw [List.length_map]; omega, ?_, fun F nF => ?_⟩⟩
    · show 1 * _ ≤ sizeLine
      rw [sizeLine_eq, List.length_map]
      omega
    have el : (List.replicate (((as.map V.ref).length : Int)).toNat [V.non]).flatten = fdV L es es.length 0 := by
      rw [flat_rep, Int.toNat_natCast, List.length_map, hal, fdV_zero]
    rw [el]
    have k0 := same_upd (o := .lst [.non]) m0
    have k1 := same_upd (o := .lst (fdV L es es.length 0)) nF
    have k2 := k0.trans k1
    have nF1 := k0.free nF
    have hlen : (Ts.map V.ref).length = es.length := by rw [List.length_map]; exact t2
    refine ⟨_, rfl, W, _, rfl, SqL.of (k2 _ _ t1), for_it (walk_enum (xs := Ts.map V.ref))
      (fun i σ H' => ∃ y5 y6 y7 y8 y9 y10 y11 y12 : Option V, σ = [some (.ref c), some (.ref g), some (.ref p), some (.ref W), some (.ref F), y5, y6, y7, y8, y9, y10, y11, y12] ∧ Same H1 H' ∧ H' F = some (.lst (fdV L es es.length i)))
      ⟨_, _, _, _, _, _, _, _, rfl, k2, upd_same⟩ (fun i σ H' _ z => by obtain ⟨_, _, _, _, _, _, _, _, _, s3, _⟩ := z; exact SqL.of (s3 _ _ t1)) (fun i x σ H2 H3 hi z y => ?_) (fun σ H2 z => ?_)⟩
    · obtain ⟨y5, y6, y7, y8, y9, y10, y11, y12, rfl, s3, hF⟩ := z
      obtain ⟨T, u, v, rfl, nT, rfl, e1, e2⟩ := y
      have hi' : i < es.length := by omega
      have hTi : Ts[i]? = some (Ts[i]'(by omega)) := List.getElem?_eq_getElem _
      have e2' : v = .ref (Ts[i]'(by omega)) := Option.some.inj (e2.symm.trans (get_map_ref hTi))
      subst e2'
      have e1' : u = .int (i : Nat) := (Option.some.inj e1).symm
      subst e1'
      have kT := same_upd (o := .tup [.int (i : Nat), .ref (Ts[i]'(by omega))]) nT
      have s4 := s3.trans kT
      have hF4 := kT _ _ hF
      obtain ⟨mv, sv, ov, b1, b2, b3⟩ := (t3 i _ hTi).keep (Tk.of s4)
      obtain ⟨b, hb, hbt⟩ := hT.at_ hi'
      have hev := evAt_eq hi'
      have v1 := (hV i _ (List.getElem?_eq_getElem hi')).1
      have hkk := hkm _ (List.getElem_mem hi')
      have skip : decD L es i = none → upd H2 T (.tup [.int (i : Nat), .ref (Ts[i]'(by omega))]) F = some (.lst (fdV L es es.length (i + 1))) := fun e => by rw [← fdV_skip e]; exact hF4
      have hix : ixN (fdV L es es.length i).length (i : Int) = some i := by rw [fdV_len]; exact ixN_nat hi'
      have put : ∀ t : Int, decD L es i = some t → Same H1 (upd (upd H2 T (.tup [.int (i : Nat), .ref (Ts[i]'(by omega))])) F (.lst ((fdV L es es.length i).set i (.int t)))) ∧ upd (upd H2 T (.tup [.int (i : Nat), .ref (Ts[i]'(by omega))])) F (.lst ((fdV L es es.length i).set i (.int t))) F = some (.lst (fdV L es es.length (i + 1))) := fun t e => ⟨Same.off s4 nF1 off_upd, by rw [upd_same, fdV_set e]⟩
      have hT1 := upd_same (H := H2) (a := T) (o := .tup [.int (i : Nat), .ref (Ts[i]'(by omega))])
      refine ⟨T, _, rfl, SqT.of hT1, rfl, _, _, rfl, _, _, rfl, _, _, rfl, SqT.of b1, rfl, _, _, rfl, _, _, rfl, _, _, rfl, rfl, rfl, ?_⟩
      cases hd : (evAt es i).d with
      | false =>
        rw [runT_up hd] at b2
        obtain ⟨rfl, rfl⟩ := b2
        have e0 : decD L es i = none := by unfold decD; rw [if_neg (fun z => by rw [hd] at z; cases z.1)]
        exact ⟨_, rfl, rfl, false, rfl, iteF ⟨_, rfl, rfl, false, rfl, iteF (iteF ⟨_, _, _, _, _, _, _, _, rfl, s4, skip e0⟩)⟩⟩
      | true =>
        rw [runT_dn hd] at b2
        obtain ⟨rfl, M, v, rfl, hM, hv⟩ := b2
        cases hdl : isDl (xAt L es i) with
        | false =>
          have e0 : decD L es i = none := by unfold decD; rw [if_neg (fun z => by rw [hdl] at z; cases z.2)]
          have ek : kindM es i (xAt L es i) = ("plain" : String) := by unfold kindM; rw [if_neg (by rw [hdl]; decide)]
          rw [ek] at hM
          rw [if_neg (by decide)]
          exact ⟨_, rfl, rfl, false, rfl, iteF ⟨_, rfl, rfl, true, rfl, iteT ⟨_, rfl, M, _, 1, _, rfl, rfl, SqT.of hM, atI_nat (j := 1) rfl, rfl, false, by decide +kernel, iteF ⟨_, _, _, _, _, _, _, _, rfl, s4, skip e0⟩⟩⟩⟩
        | true =>
          rw [if_pos rfl]
          cases ho : sureM es i (xAt L es i) with
          | some n =>
            obtain ⟨n1, n2⟩ := sureM_lt ho
            obtain ⟨bn, hbn, hbtn⟩ := hT.at_ n2
            have e0 : decD L es i = some es[n].t := by unfold decD; rw [if_pos ⟨hd, hdl⟩, ho, ← evAt_eq n2]
            obtain ⟨x1, x2⟩ := put _ e0
            refine ⟨_, rfl, rfl, true, rfl, iteT ?_⟩
            refine ⟨_, rfl, _, rfl, g, _, _, .ref bn, rfl, rfl, SqL.of (s4 _ _ hg0), atI_nat (get_map_ref hbn), bn, _, 0, _, rfl, rfl, SqT.of (s4 _ _ hbtn), atI_nat (j := 0) rfl, ?_⟩
            exact ⟨_, rfl, _, rfl, F, _, _, i, rfl, rfl, hF4, hix, _, _, _, _, _, _, _, _, rfl, x1, x2⟩
          | none =>
            have e0 : decD L es i = some (es[i].t + timeOf (xAt L es i)) := by unfold decD; rw [if_pos ⟨hd, hdl⟩, ho, ← hev]
            obtain ⟨x1, x2⟩ := put _ e0
            have ek : ∃ k : Str, kindM es i (xAt L es i) = k ∧ V.bl (!decide (V.str k = V.str "plain")) = V.bl true := by
              rcases (kind_or (es := es) (j := i) (x := xAt L es i)) with h | ⟨_, h | h⟩
              · have : kindM es i (xAt L es i) ≠ ("plain" : String) := by
                  unfold kindM
                  rw [if_pos hdl]
                  split <;> decide +kernel
                exact absurd h this
              · exact ⟨_, h, by decide +kernel⟩
              · exact ⟨_, h, by decide +kernel⟩
            obtain ⟨k, hk, hkp⟩ := ek
            rw [hk] at hM
            refine ⟨_, rfl, rfl, false, rfl, iteF ⟨_, rfl, rfl, true, rfl, iteT ⟨_, rfl, M, _, 1, _, rfl, rfl, SqT.of hM, atI_nat (j := 1) rfl, rfl, true, hkp, iteT ?_⟩⟩⟩
            obtain ⟨rs, hc, hR⟩ := hL.same (s1.trans s4)
            obtain ⟨q1, q2, q3⟩ := taken_ok hO (runS L es i) (k := (evAt es i).k.toNat) (by rw [hev]; omega)
            obtain ⟨r, hr1, vs, hvs, ha⟩ := hR.at_ q1
            have hml : L[takenL L (runS L es i) (evAt es i).k.toNat].length = m := hO.len _ (List.getElem_mem _)
            have hkm' : (evAt es i).k.toNat < m := by rw [hev]; omega
            have hk' : (evAt es i).k.toNat < L[takenL L (runS L es i) (evAt es i).k.toNat].length := by omega
            obtain ⟨vk, hvk, hak⟩ := ha.at_ hk'
            have ex : xAt L es i = L[takenL L (runS L es i) (evAt es i).k.toNat][(evAt es i).k.toNat] := actAt_eq q1 hk'
            rw [← ex] at hak
            obtain ⟨a, b', cc, rfl, haa⟩ := dl_at hak hdl
            have hk0 : es[i].k = (((evAt es i).k.toNat : Nat) : Int) := by rw [hev]; omega
            refine ⟨_, rfl, M, _, 0, _, rfl, rfl, SqT.of hM, atI_nat (j := 0) rfl, ?_⟩
            refine ⟨_, rfl, _, rfl, g, _, _, .ref b, rfl, rfl, SqL.of (s4 _ _ hg0), atI_nat (get_map_ref hb), b, _, rfl, SqT.of (s4 _ _ hbt), rfl, _, _, rfl, _, _, rfl, _, _, rfl, rfl, ?_⟩
            refine ⟨_, rfl, _, rfl, _, rfl, c, _, _, .ref r, rfl, rfl, SqL.of hc, atI_nat (get_map_ref hr1), _, rfl, r, vs, es[i].k, .ref a, rfl, rfl, SqL.of hvs, (by rw [hk0]; exact atI_nat hvk), a, _, 3, _, rfl, rfl, SqT.of haa, atI_nat (j := 3) rfl, _, _, rfl, rfl, ?_⟩
            exact ⟨_, rfl, _, rfl, F, _, _, i, rfl, rfl, hF4, hix, _, _, _, _, _, _, _, _, rfl, x1, x2⟩
    · obtain ⟨y5, y6, y7, y8, y9, y10, y11, y12, rfl, s3, hF⟩ := z
      rw [hlen, fdV_end] at hF
      exact ⟨_, rfl, q _ F (s1.trans s3) hF⟩
theorem atI_end {xs : List V} {v : V} (h : xs[xs.length - 1]? = some v) : atI xs (-1) = some v := by
  have hn : xs ≠ [] := by
    intro e
    subst e
    simp at h
  have e := List.getLast?_eq_getElem? (l := xs)
  rw [h] at e
  have hz : xs.dropLast ++ [v] = xs := by
    have := List.dropLast_concat_getLast hn
    rw [List.getLast?_eq_some_getLast hn] at e
    rw [← Option.some.inj e]
    exact this
  rw [← hz]
  exact atI_last _ _
/-- a new list of new tuples, one more -/
theorem later_if {σ : L2.St} {H : Hp} {Q : VK} {t : Int} {o : Option Int} (h3 : σ[3]? = some (some (.int t))) (h6 : σ[6]? = some (some (optI o))) (q : Q (.int (later t o)) H) : tIf (tTest (tOp (fun x y H Q => y = V.non ∧ Q (V.bl (decide (x = V.non))) H) (tVar 6) (tC V.non))) (tVar 3) (tCB (fun xs H Q => ∃ i j, xs = [V.int i, V.int j] ∧ Q (V.int (if j > i then j else i)) H) (tCons (tVar 3) (tCons (tVar 6) tNil))) σ H Q := by
  cases o with
  | none => exact ⟨_, h6, rfl, true, rfl, iteT ⟨_, h3, q⟩⟩
  | some d => exact ⟨_, h6, rfl, false, rfl, iteF ⟨_, h3, _, h6, t, d, rfl, q⟩⟩
def spDoneBy : Sp := fun vs H Q _ => ∃ (c g : Addr) (es : List Ev) (ds : List (Option Int)), vs = [.ref c, .ref g] ∧ Lst evV H c es ∧ H g = some (.lst (ds.map optI)) ∧ ds.length = es.length ∧ es.length ≤ 400 ∧
  ∀ (H' : Hp) (D : Addr), Same H H' → H' D = some (.lst ((dnL es ds es.length).map V.int)) → H D = none → Q (.ref D) H'
theorem ok_done_by (bt : Bt mg) (a : At K mg "done_by" s_done_by ["record", "decided"]) : Cl P w K mg base 1 "done_by" spDoneBy := by
  refine clG a sc_done_by (fun vs H Q E h => ?_) (fun f cdv A outer s H vs Q hg hr h => ?_)
  · obtain ⟨c, g, es, ds, rfl, _⟩ := h
    rfl
  · obtain ⟨c, g, es, ds, rfl, hG, hD, hdl, h4, q⟩ := h
    refine ⟨_, (pss_cons (ps_set (i := 2) sc_done_by.nd rfl (Or.inl rfl) (pe_lst pa_nil))
      (pss_cons (ps_for PassesOwn.never rfl (pi_zip (by rfl) bt.m_zip (pa_cons (pv 0) (pa_cons (pv 1) pa_nil))) (pg_tup rfl (pgs_cons (pg_tup rfl (pgs_cons (pg_name (i := 3) sc_done_by.nd rfl (Or.inl rfl)) (pgs_cons (pg_name (i := 4) sc_done_by.nd rfl (Or.inl rfl)) (pgs_cons (pg_name (i := 5) sc_done_by.nd rfl (Or.inl rfl)) pgs_nil)))) (pgs_cons (pg_name (i := 6) sc_done_by.nd rfl (Or.inl rfl)) pgs_nil))) (pss_cons (ps_set (i := 7) sc_done_by.nd rfl (Or.inl rfl) (pe_ifExp (pt_cmpR op_isN (pv 6) pe_non (nomark _)) (pv 3) (pe_callB (call_max2 rfl) (by rfl) bt.m_max (by decide +kernel) (pa_cons (pv 3) (pa_cons (pv 6) pa_nil)))))
      (C8.pss_cut (ps_if (pt_truth (pv 2) (by intro _; rfl)) (pss_one (ps_set (i := 7) sc_done_by.nd rfl (Or.inl rfl) (pe_callB (call_max2 rfl) (by rfl) bt.m_max (by decide +kernel) (pa_cons (pv 7) (pa_cons (pe_ix ix_list (pv 2) (pe_un un_neg pe_int) (fun _ _ => rfl)) pa_nil))))) pss_nil)
      (pss_one (ps_expr (pe_bm PySem.F.plainAttrs_list PySem.F.slot_list_append PySem.F.type_list_append mt_append (pv 2) (pa_cons (pv 7) pa_nil)))))))
      (pss_one (ps_ret (pv 2))))), ?_⟩
    obtain ⟨as, hc, hT⟩ := id hG
    have hal : as.length = es.length := hT.1
    refine ⟨Nat.zero_le _, fun D nD => ?_⟩
    have kD := same_upd (o := .lst []) nD
    refine ⟨_, rfl, _, rfl, c, g, _, _, rfl, SqL.of (kD _ _ hc), SqL.of (kD _ _ hD), for_it (walk_zip (n := es.length) (xs := as.map V.ref) (ys := ds.map optI) (by rw [List.length_map, List.length_map]; omega))
      (fun i σ H' => ∃ y3 y4 y5 y6 y7 : Option V, σ = [some (.ref c), some (.ref g), some (.ref D), y3, y4, y5, y6, y7] ∧ Same H H' ∧ H' D = some (.lst ((dnL es ds i).map V.int)))
      ⟨_, _, _, _, _, rfl, kD, upd_same⟩ (fun i σ H' _ z => by obtain ⟨_, _, _, _, _, _, s3, _⟩ := z; exact ⟨SqL.of (s3 _ _ hc), SqL.of (s3 _ _ hD)⟩) (fun i x σ H2 H3 hi z y => ?_) (fun σ H2 z => ?_)⟩
    · obtain ⟨y3, y4, y5, y6, y7, rfl, s3, hF⟩ := z
      obtain ⟨T, u, v, rfl, nT, rfl, e1, e2⟩ := y
      obtain ⟨b, hb, hbt⟩ := hT.at_ hi
      have eu : V.ref b = u := Option.some.inj ((get_map_ref hb).symm.trans e1)
      have hdi : i < ds.length := by omega
      have ev : optI ds[i] = v := Option.some.inj ((by rw [List.getElem?_map, List.getElem?_eq_getElem hdi]; rfl : (ds.map optI)[i]? = some (optI ds[i])).symm.trans e2)
      subst eu ev
      have kT := same_upd (o := .tup [.ref b, optI ds[i]]) nT
      have s4 := s3.trans kT
      have hF4 := kT _ _ hF
      have hb4 := s4 _ _ hbt
      have hln : ((dnL es ds i).map V.int).length = i := by unfold dnL; rw [List.length_map, List.length_map, List.length_range]
      refine ⟨T, _, rfl, SqT.of upd_same, rfl, _, _, rfl, b, _, rfl, SqT.of hb4, rfl, _, _, rfl, _, _, rfl, _, _, rfl, rfl, _, _, rfl, rfl, ?_⟩
      have hgd : ds.getD i none = ds[i] := by rw [List.getD_eq_getElem?_getD, List.getElem?_eq_getElem hdi, Option.getD_some]
      have hev := evAt_eq hi
      refine later_if rfl rfl ?_
      refine ⟨fun σ' H' => ∃ y3 y4 y5 y6 : Option V, σ' = [some (.ref c), some (.ref g), some (.ref D), y3, y4, y5, y6, some (.int (dnF es ds i))] ∧ H' = upd H2 T (.tup [.ref b, optI ds[i]]), ⟨_, rfl, !((dnL es ds i).map V.int).isEmpty, .inl ⟨_, SqL.of hF4, rfl⟩, ?_⟩, ?_⟩
      · cases i with
        | zero =>
          have d0 : dnF es ds 0 = later es[0].t ds[0] := by
            show later (evAt es 0).t (ds.getD 0 none) = _
            rw [hgd, hev]
          refine iteF ?_
          rw [d0]
          exact ⟨_, _, _, _, rfl, rfl⟩
        | succ n =>
          have hne : (!((dnL es ds (n + 1)).map V.int).isEmpty) = true := by rw [dnL_succ, List.map_append]; simp
          rw [hne]
          have hat : atI ((dnL es ds (n + 1)).map V.int) (-1) = some (.int (dnF es ds n)) := by
            refine atI_end ?_
            rw [hln, dnL_succ, List.map_append, List.getElem?_append_right (by unfold dnL; rw [List.length_map, List.length_map, List.length_range]; omega)]
            unfold dnL
            rw [List.length_map, List.length_map, List.length_range, Nat.add_sub_cancel, Nat.sub_self]
            rfl
          have d1 : dnF es ds (n + 1) = if dnF es ds n > later es[n + 1].t ds[n + 1] then dnF es ds n else later es[n + 1].t ds[n + 1] := by
            show (if dnF es ds n > later (evAt es (n + 1)).t (ds.getD (n + 1) none) then dnF es ds n else later (evAt es (n + 1)).t (ds.getD (n + 1) none)) = _
            rw [hgd, hev]

          refine iteT ⟨_, rfl, _, rfl, _, rfl, D, _, _, .int (dnF es ds n), rfl, rfl, SqL.of hF4, hat, _, _, rfl, ?_⟩
          rw [d1]
          exact ⟨_, _, _, _, rfl, rfl⟩
      · rintro σ' H' ⟨z3, z4, z5, z6, rfl, rfl⟩
        refine ⟨_, rfl, .inl ⟨rfl, _, SqL.of hF4⟩, _, rfl, D, _, .int (dnF es ds i), rfl, rfl, hF4, small1000 (by omega), _, _, _, _, _, rfl, Same.off s4 nD off_upd, ?_⟩
        rw [upd_same, dnL_succ, List.map_append]
        rfl
    · obtain ⟨y3, y4, y5, y6, y7, rfl, s3, hF⟩ := z
      exact ⟨_, rfl, q _ D s3 hF nD⟩
end
end K84

set_option Elab.async false
set_option linter.all false
set_option maxRecDepth 100000
set_option maxHeartbeats 8000000
namespace K84
open PySem PySem.Spec PyProof.Rows L2 Gd Rm La Cb Pl
theorem decL_len {L : List (List Actn)} {es : List Ev} {n : Nat} : (decL L es n).length = n := by unfold decL; rw [List.length_map, List.length_range]
def doneM (L : List (List Actn)) (es : List Ev) : List Int := dnL es (decL L es es.length) es.length
theorem small40' {n : Int} (h : n ≤ 1000000001) : n < 10 ^ 40 := Int.lt_of_le_of_lt h (by decide)
section
variable {P : Program} {w : World} {K : PySem.W.Frag} {mg : Str → Option Value} {base : Heap}
def spTicks : Sp := fun vs H Q _ => ∃ (c g : Addr) (L : List (List Actn)) (m : Nat) (es : List Ev), vs = [.ref c, .ref g] ∧ Lay H c L ∧ LayOk L m ∧ Lst evV H g es ∧ Valid es ∧ es.length ≤ 400 ∧ (∀ e ∈ es, e.k < (m : Int)) ∧
  ∀ (H' : Hp) (D : Addr), Same H H' → H D = none → H' D = some (.lst ((doneM L es).map V.int)) → Q (.ref D) H'
theorem ok_done_ticks (bt : Bt mg) {C : Addr} (a : At K mg "done_ticks" s_done_ticks ["layout", "record"]) (c_check_playable : Cl P w K mg base 8 "check_playable" spPlayable) (c_done_by : Cl P w K mg base 1 "done_by" spDoneBy) (c_decisions : Cl P w K mg base 4 "decisions" spDcs) : Cl P w K mg base 9 "done_ticks" spTicks := by
  refine clG a sc_done_ticks (fun vs H Q E h => ?_) (fun f cdv A outer s H vs Q hg hr h => ?_)
  · obtain ⟨c, g, L, m, es, rfl, _⟩ := h
    rfl
  · obtain ⟨c, g, L, m, es, rfl, hL, hO, hG, hV, h4, hkm, q⟩ := h
    refine ⟨_, (pss_cons (ps_expr (pe_cl c_check_playable hg hr (by decide) (by rfl) (pa_cons (pv 0) (pa_cons (pv 1) pa_nil))))
      (pss_one (ps_ret (pe_cl c_done_by hg hr (by decide) (by rfl) (pa_cons (pv 1) (pa_cons (pe_cl c_decisions hg hr (by decide) (by rfl) (pa_cons (pv 0) (pa_cons (pv 1) pa_nil))) pa_nil)))))), ?_⟩
    refine ⟨_, rfl, _, rfl, c, g, L, m, es, rfl, hL, hO, hG, hV, h4, hkm, fun H1 s1 => ?_⟩
    refine ⟨_, rfl, _, rfl, _, rfl, c, g, L, m, es, rfl, hL.same s1, hO, hG.same s1, hV, h4, hkm, fun H2 F s2 hF => ?_⟩
    exact ⟨g, F, es, _, rfl, hG.same (s1.trans s2), hF, decL_len, h4, fun H3 D s3 hD nD => q _ D ((s1.trans s2).trans s3) (none_back (s1.trans s2) nD) hD⟩
end
end K84

set_option Elab.async false
set_option linter.all false
set_option maxRecDepth 100000
set_option maxHeartbeats 8000000
namespace K84
open PySem PySem.Spec PyProof.Rows L2 Gd Rm La Cb Pl
/-- lists of values that stand for things -/
def AllV {α : Type} (R : Hp → α → V → Prop) (H : Hp) (vs : List V) (xs : List α) : Prop := vs.length = xs.length ∧ ∀ (i : Nat) (v : V) (x : α), vs[i]? = some v → xs[i]? = some x → R H x v
section
variable {α : Type} {R : Hp → α → V → Prop} {H H' : Hp} {vs : List V} {xs : List α} {D : Addr}
theorem AllV.nil : AllV R H [] [] := ⟨rfl, fun i v o h _ => by simp at h⟩
theorem AllV.keep (h : AllV R H vs xs) (k : ∀ x v, R H x v → R H' x v) : AllV R H' vs xs := ⟨h.1, fun i v x a b => k x v (h.2 i v x a b)⟩
theorem AllV.snoc {v : V} {x : α} (h : AllV R H vs xs) (hv : R H x v) : AllV R H (vs ++ [v]) (xs ++ [x]) := by
  refine ⟨by rw [List.length_append, List.length_append, h.1]; rfl, fun i u y a b => ?_⟩
  have hl := h.1
  rcases Nat.lt_or_ge i vs.length with q | q
  · rw [List.getElem?_append_left q] at a
    rw [List.getElem?_append_left (by omega)] at b
    exact h.2 i u y a b
  · have hi : i = vs.length := by
      have := (List.getElem?_eq_some_iff.mp a).1
      rw [List.length_append] at this
      simp at this
      omega
    subst hi
    rw [List.getElem?_append_right (Nat.le_refl _), Nat.sub_self] at a
    rw [List.getElem?_append_right (by omega), show vs.length - xs.length = 0 by omega] at b
    have e1 : v = u := Option.some.inj a
    have e2 : x = y := Option.some.inj b
    subst e1 e2
    exact hv
theorem AllV.dp {K : PySem.W.Frag} {d : α → PyData} (hd : ∀ x v, R H x v → Dp K H v (d x)) : ∀ {vs : List V} {xs : List α}, AllV R H vs xs → DpAll K H vs (xs.map d)
  | [], [], _ => .nil
  | [], _ :: _, h => by have := h.1; simp at this
  | _ :: _, [], h => by have := h.1; simp at this
  | v :: vs, x :: xs, h => .cons (hd _ _ (h.2 0 v x rfl rfl)) (AllV.dp hd ⟨by have := h.1; simpa using this, fun i u y a b => h.2 (i + 1) u y (by simpa using a) (by simpa using b)⟩)
end
/-! ### when events are done -/
theorem decL_at {L : List (List Actn)} {es : List Ev} {n i : Nat} (h : i < n) : (decL L es n).getD i none = decD L es i := by
  unfold decL
  rw [List.getD_eq_getElem?_getD, List.getElem?_map, List.getElem?_range h]
  rfl
/-- the done tick of an event -/
def dnT (L : List (List Actn)) (es : List Ev) (i : Nat) : Int := dnF es (decL L es es.length) i
theorem later_ge {t : Int} {d : Option Int} : t ≤ later t d ∧ (∀ z, d = some z → z ≤ later t d) ∧ (later t d = t ∨ d = some (later t d)) := by
  cases d with
  | none => exact ⟨Int.le_refl _, fun z h => (by cases h), .inl rfl⟩
  | some z =>
    show t ≤ (if z > t then z else t) ∧ (∀ y, some z = some y → y ≤ (if z > t then z else t)) ∧ ((if z > t then z else t) = t ∨ some z = some (if z > t then z else t))
    split
    · exact ⟨by omega, fun y h => (by cases h; exact Int.le_refl _), .inr rfl⟩
    · exact ⟨Int.le_refl _, fun y h => (by cases h; omega), .inl rfl⟩
theorem dnT_ge {L : List (List Actn)} {es : List Ev} {i : Nat} (hi : i < es.length) : (evAt es i).t ≤ dnT L es i ∧ (∀ z, decD L es i = some z → z ≤ dnT L es i) := by
  have hd := decL_at (L := L) (es := es) hi
  unfold dnT
  cases i with
  | zero =>
    obtain ⟨a, b, _⟩ := later_ge (t := (evAt es 0).t) (d := (decL L es es.length).getD 0 none)
    refine ⟨a, fun z hz => b z ?_⟩
    rw [hd]; exact hz
  | succ i =>
    obtain ⟨a, b, _⟩ := later_ge (t := (evAt es (i + 1)).t) (d := (decL L es es.length).getD (i + 1) none)
    have e : dnF es (decL L es es.length) (i + 1) = if dnF es (decL L es es.length) i > later (evAt es (i + 1)).t ((decL L es es.length).getD (i + 1) none) then dnF es (decL L es es.length) i else later (evAt es (i + 1)).t ((decL L es es.length).getD (i + 1) none) := rfl
    rw [e]
    refine ⟨by split <;> omega, fun z hz => ?_⟩
    have := b z (by rw [hd]; exact hz)
    split <;> omega
theorem dnT_succ {L : List (List Actn)} {es : List Ev} {i : Nat} : dnT L es i ≤ dnT L es (i + 1) := by
  have e : dnT L es (i + 1) = if dnF es (decL L es es.length) i > later (evAt es (i + 1)).t ((decL L es es.length).getD (i + 1) none) then dnF es (decL L es es.length) i else later (evAt es (i + 1)).t ((decL L es es.length).getD (i + 1) none) := rfl
  rw [e]
  unfold dnT
  split <;> omega
theorem dnT_mono {L : List (List Actn)} {es : List Ev} {i : Nat} : ∀ {j : Nat}, i ≤ j → dnT L es i ≤ dnT L es j
  | 0, h => by rw [show i = 0 by omega]; exact Int.le_refl _
  | j + 1, h => by
    rcases Nat.lt_or_ge i (j + 1) with q | q
    · have := dnT_mono (L := L) (es := es) (i := i) (j := j) (by omega)
      have := dnT_succ (L := L) (es := es) (i := j)
      omega
    · rw [show i = j + 1 by omega]; exact Int.le_refl _
theorem dnT_le {L : List (List Actn)} {es : List Ev} {i : Nat} {now : Int} (hi : i < es.length) (h1 : ∀ j, j < i → dnT L es j ≤ now) (h2 : (evAt es i).t ≤ now) (h3 : ∀ z, decD L es i = some z → z ≤ now) : dnT L es i ≤ now := by
  have hd := decL_at (L := L) (es := es) hi
  have lt : later (evAt es i).t ((decL L es es.length).getD i none) ≤ now := by
    obtain ⟨_, _, c⟩ := later_ge (t := (evAt es i).t) (d := (decL L es es.length).getD i none)
    rcases c with c | c
    · omega
    · rw [hd] at c; exact h3 _ (by rw [hd]; exact c)
  cases i with
  | zero => exact lt
  | succ i =>
    have e : dnT L es (i + 1) = if dnF es (decL L es es.length) i > later (evAt es (i + 1)).t ((decL L es es.length).getD (i + 1) none) then dnF es (decL L es es.length) i else later (evAt es (i + 1)).t ((decL L es es.length).getD (i + 1) none) := rfl
    rw [e]
    have := h1 i (Nat.lt_succ_self _)
    unfold dnT at this
    split <;> omega

/-! ### a beginning of the record, and the front -/
theorem decEv_take {own : Int} {r : Str} : ∀ {es : List Ev} {inner : List Int} {m : Nat}, decEv own r inner (es.take m) = (decEv own r inner es).bind fun n => if n < m then some n else none
  | [], inner, m => by rw [List.take_nil]; rfl
  | e :: es, inner, 0 => by
    rw [List.take_zero]
    show none = _
    cases decEv own r inner (e :: es) with
    | none => rfl
    | some n => rfl
  | e :: es, inner, m + 1 => by
    rw [List.take_succ_cons]
    have ih := fun l => decEv_take (own := own) (r := r) (es := es) (inner := l) (m := m)
    have go : ∀ l, (decEv own r l (es.take m)).map (· + 1) = ((decEv own r l es).map (· + 1)).bind fun n => if n < m + 1 then some n else none := fun l => by
      rw [ih l]
      cases decEv own r l es with
      | none => rfl
      | some n =>
        show Option.map (· + 1) (if n < m then some n else none) = if n + 1 < m + 1 then some (n + 1) else none
        by_cases z : n < m
        · rw [if_pos z, if_pos (by omega)]; rfl
        · rw [if_neg z, if_neg (by omega)]; rfl
    unfold decEv
    by_cases c1 : e.k = own ∨ r = ("other" : String) ∧ e.d = true
    · rw [if_pos c1, if_pos c1]; rfl
    · rw [if_neg c1, if_neg c1]
      by_cases c2 : e.d = true
      · rw [if_pos c2, if_pos c2]; exact go _
      · rw [if_neg c2, if_neg c2]
        by_cases c3 : r = ("within" : String) ∧ e.k ∈ inner
        · rw [if_pos c3, if_pos c3]; rfl
        · rw [if_neg c3, if_neg c3]; exact go _
/-- the events that have come, and are not done -/
def quE (es : List Ev) (f k : Nat) : List Ev := (es.take k).drop f
theorem quE_len {es : List Ev} {f k : Nat} (hk : k ≤ es.length) : (quE es f k).length = k - f := by unfold quE; rw [List.length_drop, List.length_take]; omega
theorem quE_at {es : List Ev} {f k i : Nat} (h : f + i < k) (hk : k ≤ es.length) : evAt (quE es f k) i = evAt es (f + i) := by
  unfold evAt quE
  rw [List.getD_eq_getElem?_getD, List.getD_eq_getElem?_getD, List.getElem?_drop, List.getElem?_take, if_pos h]
theorem dec_q {es : List Ev} {f k : Nat} {r : Str} (hf : f < k) (hk : k ≤ es.length) : decM (quE es f k) 0 r = (decM es f r).bind fun n => if n < k then some (n - f) else none := by
  have e0 := quE_at (i := 0) hf hk
  unfold evAt at e0
  unfold decM
  rw [e0, Nat.add_zero]
  have eq : (quE es f k).drop (0 + 1) = (es.drop (f + 1)).take (k - (f + 1)) := by
    unfold quE
    rw [List.drop_drop, List.drop_take]
  rw [eq, decEv_take]
  cases decEv (es.getD f ⟨0, 0, false⟩).k r [] (es.drop (f + 1)) with
  | none => rfl
  | some n =>
    show Option.map (· + (0 + 1)) (if n < k - (f + 1) then some n else none) = if n + (f + 1) < k then some (n + (f + 1) - f) else none
    by_cases z : n < k - (f + 1)
    · rw [if_pos z, if_pos (by omega)]
      exact congrArg some (by show n + (0 + 1) = n + (f + 1) - f; omega)
    · rw [if_neg z, if_neg (by omega)]; rfl
theorem sure_q {es : List Ev} {f k : Nat} {x : Actn} (hf : f < k) (hk : k ≤ es.length) : sureM (quE es f k) 0 x = (sureM es f x).bind fun n => if n < k then some (n - f) else none := by
  have e0 := quE_at (i := 0) hf hk
  rw [Nat.add_zero] at e0
  unfold sureM
  rw [dec_q hf hk]
  cases h : decM es f (ruleOf x) with
  | none => rfl
  | some n =>
    obtain ⟨h1, h2⟩ := decM_lt h
    show (match (if n < k then some (n - f) else none) with
      | none => none
      | some n => if (evAt (quE es f k) 0).t + timeOf x ≤ (evAt (quE es f k) n).t then none else some n) = _
    by_cases z : n < k
    · rw [if_pos z]
      have e1 := quE_at (es := es) (f := f) (k := k) (i := n - f) (by omega) hk
      rw [show f + (n - f) = n by omega] at e1
      show (if (evAt (quE es f k) 0).t + timeOf x ≤ (evAt (quE es f k) (n - f)).t then none else some (n - f)) = _
      rw [e0, e1]
      show _ = Option.bind (if (evAt es f).t + timeOf x ≤ (evAt es n).t then none else some n) _
      by_cases y : (evAt es f).t + timeOf x ≤ (evAt es n).t
      · rw [if_pos y, if_pos y]; rfl
      · rw [if_neg y, if_neg y]
        show _ = if n < k then some (n - f) else none
        rw [if_pos z]
    · rw [if_neg z]
      show none = Option.bind (if (evAt es f).t + timeOf x ≤ (evAt es n).t then none else some n) _
      by_cases y : (evAt es f).t + timeOf x ≤ (evAt es n).t
      · rw [if_pos y]; rfl
      · rw [if_neg y]
        show _ = if n < k then some (n - f) else none
        rw [if_neg z]
theorem sure_in {es : List Ev} {f n : Nat} {x : Actn} (h : sureM es f x = some n) : (evAt es n).t < (evAt es f).t + timeOf x := by
  unfold sureM at h
  cases e : decM es f (ruleOf x) with
  | none => rw [e] at h; cases h
  | some m =>
    rw [e] at h
    dsimp only at h
    split at h
    · cases h
    · rename_i z
      cases h
      omega
/-- the front waits: nothing that has come decides it -/
def Waits (L : List (List Actn)) (es : List Ev) (f k : Nat) (now : Int) : Prop := isDl (xAt L es f) = true ∧ (∀ n, sureM es f (xAt L es f) = some n → k ≤ n) ∧ now < (evAt es f).t + timeOf (xAt L es f)
/-- all is done, or the front waits -/
def Still (L : List (List Actn)) (es : List Ev) (f k : Nat) (now : Int) : Prop := f = k ∨ (f < k ∧ (evAt es f).d = true ∧ Waits L es f k now)
theorem dec_none {L : List (List Actn)} {es : List Ev} {f : Nat} (h : (evAt es f).d = false ∨ isDl (xAt L es f) = false) : decD L es f = none := by
  unfold decD
  rw [if_neg (fun z => by rcases h with h | h <;> rw [h] at z; cases z.1; cases z.2)]
theorem dec_some {L : List (List Actn)} {es : List Ev} {f : Nat} (h1 : (evAt es f).d = true) (h2 : isDl (xAt L es f) = true) : decD L es f = match sureM es f (xAt L es f) with
    | some n => some (evAt es n).t
    | none => some ((evAt es f).t + timeOf (xAt L es f)) := by
  unfold decD
  exact (if_pos ⟨h1, h2⟩).trans (by cases sureM es f (xAt L es f) <;> rfl)
/-- what waits at a tick is done later -/
theorem Still.late {L : List (List Actn)} {es : List Ev} {f k : Nat} {now : Int} (h : Still L es f k now) (hk : k ≤ es.length) (h2 : ∀ i, k ≤ i → i < es.length → now < (evAt es i).t) (i : Nat) (h1 : f ≤ i) (h3 : i < k) : now < dnT L es i := by
  rcases h with h | ⟨hf, hd, hl, hw, ht⟩
  · omega
  have m := dnT_mono (L := L) (es := es) h1
  have g := (dnT_ge (L := L) (es := es) (i := f) (by omega)).2
  rw [dec_some hd hl] at g
  cases e : sureM es f (xAt L es f) with
  | none =>
    rw [e] at g
    have := g _ rfl
    omega
  | some n =>
    rw [e] at g
    have := g _ rfl
    have a := hw n e
    have b := (sureM_lt e).2
    have := h2 n a b
    omega
/-- the outputs of some events, with their ticks -/
def outsT (L : List (List Actn)) (es : List Ev) (f g : Nat) : List (Int × Outp) := ((List.range' f (g - f)).filter fun i => isOut (outM L es i)).map fun i => (dnT L es i, outM L es i)
theorem outsT_nil {L : List (List Actn)} {es : List Ev} {f : Nat} : outsT L es f f = [] := by unfold outsT; rw [Nat.sub_self]; rfl
theorem outsT_succ {L : List (List Actn)} {es : List Ev} {f g : Nat} (h : f ≤ g) : outsT L es f (g + 1) = outsT L es f g ++ if isOut (outM L es g) = true then [(dnT L es g, outM L es g)] else [] := by
  unfold outsT
  rw [show g + 1 - f = (g - f) + 1 by omega, List.range'_concat, List.filter_append, List.map_append]
  rw [show f + 1 * (g - f) = g by omega]
  by_cases z : isOut (outM L es g) = true
  · rw [if_pos z, List.filter_cons_of_pos (p := fun i => isOut (outM L es i)) z]; rfl
  · rw [if_neg z, List.filter_cons_of_neg (p := fun i => isOut (outM L es i)) z]; rfl
theorem outsT_app {L : List (List Actn)} {es : List Ev} {f g h : Nat} (h1 : f ≤ g) (h2 : g ≤ h) : outsT L es f g ++ outsT L es g h = outsT L es f h := by
  unfold outsT
  rw [← List.map_append, ← List.filter_append]
  congr 2
  rw [show h - f = (g - f) + (h - g) by omega, ← List.range'_append, show f + 1 * (g - f) = g by omega]
theorem outsT_len {L : List (List Actn)} {es : List Ev} {f g : Nat} : (outsT L es f g).length ≤ g - f := by
  unfold outsT
  rw [List.length_map]
  refine Nat.le_trans (List.length_filter_le ..) ?_
  rw [List.length_range']
  exact Nat.le_refl _
def TripV (H : Hp) (x : Int × Outp) (v : V) : Prop := ∃ T, v = .ref T ∧ H T = some (.tup (.int x.1 :: outL x.2))
theorem TripV.keep {H H' : Hp} {x : Int × Outp} {v : V} (h : TripV H x v) (k : Tk H H') : TripV H' x v := by
  obtain ⟨T, e, h1⟩ := h
  exact ⟨T, e, k _ _ h1⟩
def Trips (H : Hp) (O : Addr) (xs : List (Int × Outp)) : Prop := ∃ vs, H O = some (.lst vs) ∧ AllV TripV H vs xs
theorem Trips.go {H H' : Hp} {O : Addr} {xs : List (Int × Outp)} (h : Trips H O xs) (k : Tk H H') (e : ∀ vs, H O = some (.lst vs) → H' O = some (.lst vs)) : Trips H' O xs := by
  obtain ⟨vs, a, b⟩ := h
  exact ⟨vs, e _ a, b.keep fun x v z => z.keep k⟩
theorem Trips.same {H H' : Hp} {O : Addr} {xs : List (Int × Outp)} (h : Trips H O xs) (s : Same H H') : Trips H' O xs := h.go (Tk.of s) fun _ z => s _ _ z
end K84

set_option Elab.async false
set_option linter.all false
set_option maxRecDepth 100000
set_option maxHeartbeats 8000000
namespace K84
open PySem PySem.Spec PyProof.Rows L2 Gd Rm La Cb Pl
def rflds (p E : Addr) : List (Str × V) := [("player", .ref p), ("events", .ref E)]
theorem rf_player {p E : Addr} : (rflds p E).lookup ("player" : Str) = some (.ref p) := lk_eq
theorem rf_events {p E : Addr} : (rflds p E).lookup ("events" : Str) = some (.ref E) := by
  unfold rflds
  rw [lk_ne (by decide +kernel), lk_eq]
theorem rf_no {p E : Addr} {m : Str} (h : m ∉ ([("player" : String), "events"].map Str.ofString)) : (rflds p E).lookup m = none := by
  simp only [List.map_cons, List.map_nil, List.mem_cons, List.mem_nil_iff, or_false, not_or] at h
  unfold rflds
  rw [lk_ne h.1, lk_ne h.2]
  rfl
theorem rf_new {p E : Addr} : putF "events" (.ref E) (putF "player" (.ref p) []) = rflds p E := by
  show putF "events" (.ref E) [("player", .ref p)] = _
  rw [pf_ne (by decide +kernel)]
  rfl
structure Rp (K : PySem.W.Frag) (C : Addr) : Prop where
  cl : Cls K C
  n1 : NoAttr K C "player"
  n2 : NoAttr K C "events"
/-- a layout and a record -/
structure Pb (Hb : Hp) (c g : Addr) (L : List (List Actn)) (m : Nat) (es : List Ev) : Prop where
  lay : Lay Hb c L
  ok : LayOk L m
  rc : Lst evV Hb g es
  val : Valid es
  len : es.length ≤ 400
  key : ∀ e ∈ es, e.k < (m : Int)
/-- only a row's own objects change -/
def Off5 (p l d e E : Addr) (H H' : Hp) : Prop := ∀ b o, H b = some o → b ≠ p → b ≠ l → b ≠ d → b ≠ e → b ≠ E → H' b = some o
theorem Off5.refl {p l d e E : Addr} (H : Hp) : Off5 p l d e E H H := fun _ _ h _ _ _ _ _ => h
theorem Off5.trans {p l d e E : Addr} {H H1 H2 : Hp} (a : Off5 p l d e E H H1) (b : Off5 p l d e E H1 H2) : Off5 p l d e E H H2 := fun x o h n1 n2 n3 n4 n5 => b x o (a x o h n1 n2 n3 n4 n5) n1 n2 n3 n4 n5
theorem Off5.of {p l d e E : Addr} {H H' : Hp} (s : Same H H') : Off5 p l d e E H H' := fun b o h _ _ _ _ _ => s b o h
theorem Off5.of4 {p l d e E : Addr} {H H' : Hp} (s : Off4 p l d e H H') : Off5 p l d e E H H' := fun b o h n1 n2 n3 n4 _ => s b o h n1 n2 n3 n4
theorem Off5.upE {p l d e E : Addr} {H : Hp} {o : HO} : Off5 p l d e E H (upd H E o) := fun b u hb n1 n2 n3 n4 n5 => by
  rw [upd_ne n5]
  exact hb
/-- a row: the events f to k wait -/
structure RSt (C C1 : Addr) (Hb H : Hp) (rw p c l d e E : Addr) (L : List (List Actn)) (es : List Ev) (f k : Nat) : Prop where
  ob : ∃ dx, H rw = some (.ins C1 dx (rflds p E))
  pl : PAt C H p c l d e f (runS L es f)
  ev : Lst evV H E (quE es f k)
  sb : Same Hb H
  fr : Hb p = none ∧ Hb l = none ∧ Hb d = none ∧ Hb e = none ∧ Hb E = none
  El : E ≠ l
  rp : rw ≠ p
  fk : f ≤ k
  kl : k ≤ es.length
section
variable {C C1 : Addr} {Hb H H' : Hp} {rw p c l d e E : Addr} {L : List (List Actn)} {es : List Ev} {f k : Nat}
theorem RSt.same (h : RSt C C1 Hb H rw p c l d e E L es f k) (s : Same H H') : RSt C C1 Hb H' rw p c l d e E L es f k := by
  obtain ⟨dx, a⟩ := h.ob
  exact { h with ob := ⟨dx, s _ _ a⟩, pl := h.pl.same s, ev := h.ev.same s, sb := h.sb.trans s }
theorem RSt.back (h : RSt C C1 Hb H rw p c l d e E L es f k) (o : Off5 p l d e E H H') : Same Hb H' := fun b u hb => by
  obtain ⟨f1, f2, f3, f4, f5⟩ := h.fr
  exact o _ _ (h.sb _ _ hb) (ne_of_none hb f1) (ne_of_none hb f2) (ne_of_none hb f3) (ne_of_none hb f4) (ne_of_none hb f5)
theorem RSt.tk (h : RSt C C1 Hb H rw p c l d e E L es f k) (o : Off5 p l d e E H H') : Tk H H' := fun b xs hb => by
  obtain ⟨⟨dx, a⟩, b1, ⟨kvs, c1, _⟩, ⟨pvs, d1, _⟩, _⟩ := h.pl
  obtain ⟨as, e1, _⟩ := h.ev
  exact o _ _ hb (ne_of hb a (by intro z; cases z)) (ne_of hb b1 (by intro z; cases z)) (ne_of hb c1 (by intro z; cases z)) (ne_of hb d1 (by intro z; cases z)) (ne_of hb e1 (by intro z; cases z))
theorem RSt.sep (h : RSt C C1 Hb H rw p c l d e E L es f k) : E ≠ p ∧ E ≠ d ∧ E ≠ e ∧ rw ≠ l ∧ rw ≠ d ∧ rw ≠ e ∧ rw ≠ E := by
  obtain ⟨⟨dx, a⟩, b1, ⟨kvs, c1, _⟩, ⟨pvs, d1, _⟩, _⟩ := h.pl
  obtain ⟨as, e1, _⟩ := h.ev
  obtain ⟨dr, r1⟩ := h.ob
  exact ⟨ne_of e1 a (by intro z; cases z), ne_of e1 c1 (by intro z; cases z), ne_of e1 d1 (by intro z; cases z), ne_of r1 b1 (by intro z; cases z), ne_of r1 c1 (by intro z; cases z), ne_of r1 d1 (by intro z; cases z), ne_of r1 e1 (by intro z; cases z)⟩
/-- the player has done what is at the front: that leaves the row -/
theorem RSt.pop {H2 : Hp} {as : List Addr} (h : RSt C C1 Hb H rw p c l d e E L es f k) (o : Off4 p l d e H H2) (P2 : PAt C H2 p c l d e (f + 1) (runS L es (f + 1))) (hE : H E = some (.lst (as.map V.ref))) (hf : f < k) :
    H2 E = some (.lst (as.map V.ref)) ∧ RSt C C1 Hb (upd H2 E (.lst ((as.map V.ref).eraseIdx 0))) rw p c l d e E L es (f + 1) k := by
  obtain ⟨s1, s2, s3, s4, s5, s6, s7⟩ := h.sep
  obtain ⟨dx, r1⟩ := h.ob
  obtain ⟨as', e1, e2⟩ := h.ev
  have ee : as' = as := by
    have := HO.lst.inj (Option.some.inj (e1.symm.trans hE))
    exact List.map_inj_right (fun a b z => V.ref.inj z) |>.mp this
  subst ee
  have hE2 := o _ _ hE s1 h.El s2 s3
  refine ⟨hE2, ?_⟩
  have o5 : Off5 p l d e E H (upd H2 E (.lst ((as'.map V.ref).eraseIdx 0))) := (Off5.of4 o).trans Off5.upE
  have tk := h.tk o5
  refine { h with ob := ⟨dx, by rw [upd_ne s7]; exact o _ _ r1 h.rp s4 s5 s6⟩, pl := P2.updW hE2 s1 h.El s2 s3, ev := ?_, sb := h.back o5, fk := hf }
  refine ⟨as'.drop 1, by rw [upd_same]; congr 2; rw [List.map_drop]; cases as' <;> rfl, ?_⟩
  have eq : quE es (f + 1) k = (quE es f k).drop 1 := by unfold quE; rw [List.drop_drop]
  rw [eq]
  refine ⟨by rw [List.length_drop, List.length_drop, e2.1], fun i a x u v => ?_⟩
  rw [List.getElem?_drop] at u v
  exact tk _ _ (e2.2 _ _ _ u v)
/-- one more event comes -/
theorem RSt.push {b : Addr} {as : List Addr} (h : RSt C C1 Hb H rw p c l d e E L es f k) (hk : k < es.length) (hb : H b = some (.tup (evV es[k]))) (hE : H E = some (.lst (as.map V.ref))) :
    RSt C C1 Hb (upd H E (.lst (as.map V.ref ++ [.ref b]))) rw p c l d e E L es f (k + 1) := by
  obtain ⟨s1, s2, s3, s4, s5, s6, s7⟩ := h.sep
  obtain ⟨dx, r1⟩ := h.ob
  obtain ⟨as', e1, e2⟩ := h.ev
  have ee : as' = as := by
    have := HO.lst.inj (Option.some.inj (e1.symm.trans hE))
    exact List.map_inj_right (fun a b z => V.ref.inj z) |>.mp this
  subst ee
  have o5 : Off5 p l d e E H (upd H E (.lst (as'.map V.ref ++ [.ref b]))) := Off5.upE
  have tk := h.tk o5
  have fk := h.fk
  refine { h with ob := ⟨dx, by rw [upd_ne s7]; exact r1⟩, pl := h.pl.updW hE s1 h.El s2 s3, ev := ?_, sb := h.back o5, fk := by omega, kl := hk }
  have eq : quE es f (k + 1) = quE es f k ++ [es[k]] := by
    unfold quE
    rw [List.take_add_one, List.getElem?_eq_getElem hk, List.drop_append_of_le_length (by rw [List.length_take]; omega)]
    rfl
  rw [eq]
  refine ⟨as' ++ [b], by rw [upd_same, List.map_append]; rfl, Tups.snoc ⟨e2.1, fun i a x u v => tk _ _ (e2.2 i a x u v)⟩ (tk _ _ hb)⟩
/-- the event at the front -/
theorem RSt.front (h : RSt C C1 Hb H rw p c l d e E L es f k) (hf : f < k) : ∃ (as : List Addr) (b : Addr), H E = some (.lst (as.map V.ref)) ∧ as[0]? = some b ∧ H b = some (.tup (evV (evAt es f))) ∧ as.length = k - f := by
  obtain ⟨as, e1, e2⟩ := h.ev
  have hl := quE_len (es := es) (f := f) h.kl
  have h0 : 0 < (quE es f k).length := by omega
  obtain ⟨b, b1, b2⟩ := e2.at_ h0
  refine ⟨as, b, e1, b1, ?_, by rw [e2.1, hl]⟩
  have e0 := quE_at (es := es) (f := f) (k := k) (i := 0) hf h.kl
  rw [evAt_eq h0, Nat.add_zero] at e0
  rw [← e0]
  exact b2
end
section
variable {P : Program} {w : World} {K : PySem.W.Frag} {mg : Str → Option Value} {base : Heap}
def spRInit (C C1 : Addr) : Sp := fun vs H Q _ => ∃ (rw dx c : Addr) (xs : List V), vs = [.ref rw, .ref c] ∧ H rw = some (.ins C1 dx []) ∧ H c = some (.lst xs) ∧ xs.length ≤ 6 ∧
  ∀ (H' : Hp) (p l d e E : Addr), H p = none → H l = none → H d = none → H e = none → H E = none → E ≠ l → PAt C H' p c l d e 0 (init xs.length) → H' E = some (.lst []) → H' rw = some (.ins C1 dx (rflds p E)) → (∀ b o, H b = some o → b ≠ rw → H' b = some o) → Q .non H'
theorem ok_Row_init (bt : Bt mg) {C C1 : Addr} (cp : Cp K C) (rp : Rp K C1) (a : AtI K mg C1 "Row" "Row.__init__" s_Row_init ["self", "layout"]) (c_Player : ClI P w K mg base 1 C "Player" (spPInit C)) : ClI P w K mg base 3 C1 "Row" (spRInit C C1) := by
  refine clIG a sc_Row_init (fun vs H Q E h => ?_) (fun f cdv A outer s H vs Q hg hr h => ?_)
  · obtain ⟨rw, dx, c, xs, rfl, _⟩ := h
    rfl
  · obtain ⟨rw, dx, c, xs, rfl, hrw, hc, hl, q⟩ := h
    refine ⟨_, (pss_cons (ps_fld (pv 0) (pe_clI c_Player hg hr (by decide) (by rfl) (pa_cons (pv 1) pa_nil)) rfl)
      (pss_one (ps_fld (pv 0) (pe_lst pa_nil) rfl))), ?_⟩
    refine ⟨_, rfl, fun p dp np ndp hdp => ?_⟩
    have cp0 : c ≠ p := ne_of_none hc np
    have cdx : c ≠ dp := ne_of_none hc ndp
    refine ⟨p, dp, c, xs, rfl, upd_same, by rw [upd_ne cp0, upd_ne cdx]; exact hc, hl, fun H1 l d e nl nd ne hP hoff => ⟨rfl, ?_⟩⟩
    have s0 : Same H (upd (upd H dp (.own p)) p (.ins C dp [])) := (same_upd ndp).trans (same_upd (by rw [upd_ne (Ne.symm hdp)]; exact np))
    have s1 : Same H H1 := fun b o hb => hoff _ _ (s0 _ _ hb) (ne_of_none hb np)
    have nl' := none_back s0 nl
    have nd' := none_back s0 nd
    have ne' := none_back s0 ne
    clear hoff nl nd ne
    have rwp : rw ≠ p := ne_of_none hrw np
    have hr1 := s1 _ _ hrw
    refine ⟨_, rfl, rw, C1, dx, _, rfl, hr1, rp.cl, rp.n1, (by show 0 < 1000; decide), ?_⟩
    have pl1 : PAt C (upd H1 rw (.ins C1 dx (putF "player" (.ref p) []))) p c l d e 0 (init xs.length) := by
      obtain ⟨⟨dxp, h1⟩, h2, ⟨kvs, h3, h3b⟩, ⟨pvs, h4, h4b⟩, h5⟩ := hP
      have tk : Tk H1 (upd H1 rw (.ins C1 dx (putF "player" (.ref p) []))) := fun b xs hb => by
        rw [upd_ne (ne_of hb hr1 (by intro z; cases z))]; exact hb
      exact ⟨⟨dxp, by rw [upd_ne rwp.symm]; exact h1⟩, by rw [upd_ne (ne_of h2 hr1 (by intro z; cases z))]; exact h2, ⟨kvs, by rw [upd_ne (ne_of h3 hr1 (by intro z; cases z))]; exact h3, h3b.keep tk⟩, ⟨pvs, by rw [upd_ne (ne_of h4 hr1 (by intro z; cases z))]; exact h4, h4b⟩, h5⟩
    have o1 : ∀ b o, H b = some o → b ≠ rw → upd H1 rw (.ins C1 dx (putF "player" (.ref p) [])) b = some o := fun b o hb n => by
      rw [upd_ne n]; exact s1 _ _ hb
    have hr2 := upd_same (H := H1) (a := rw) (o := .ins C1 dx (putF "player" (.ref p) []))
    have hlL := pl1.lk
    generalize upd H1 rw (.ins C1 dx (putF "player" (.ref p) [])) = H2 at pl1 o1 hr2 hlL ⊢
    refine ⟨Nat.zero_le _, fun E nE => ?_⟩
    have kE := same_upd (o := .lst []) nE
    have nE0 : H E = none := by
      cases h : H E with
      | none => rfl
      | some o =>
        by_cases z : E = rw
        · rw [z, hr2] at nE; cases nE
        · rw [o1 _ _ h z] at nE; cases nE
    have El : E ≠ l := fun z => by rw [z, hlL] at nE; cases nE
    have Erw : E ≠ rw := fun z => by rw [z, hr2] at nE; cases nE
    have hr3 := kE _ _ hr2
    have pl2 := pl1.same kE
    have hE3 := upd_same (H := H2) (a := E) (o := .lst [])
    refine ⟨_, rfl, rw, C1, dx, _, rfl, hr3, rp.cl, rp.n2, (by show 1 < 1000; decide), ?_⟩
    have pl3 : PAt C (upd (upd H2 E (.lst [])) rw (.ins C1 dx (putF "events" (.ref E) (putF "player" (.ref p) [])))) p c l d e 0 (init xs.length) := by
      obtain ⟨⟨dxp, h1⟩, h2, ⟨kvs, h3, h3b⟩, ⟨pvs, h4, h4b⟩, h5⟩ := pl2
      have tk : Tk (upd H2 E (.lst [])) (upd (upd H2 E (.lst [])) rw (.ins C1 dx (putF "events" (.ref E) (putF "player" (.ref p) [])))) := fun b xs hb => by
        rw [upd_ne (ne_of hb hr3 (by intro z; cases z))]; exact hb
      exact ⟨⟨dxp, by rw [upd_ne rwp.symm]; exact h1⟩, by rw [upd_ne (ne_of h2 hr3 (by intro z; cases z))]; exact h2, ⟨kvs, by rw [upd_ne (ne_of h3 hr3 (by intro z; cases z))]; exact h3, h3b.keep tk⟩, ⟨pvs, by rw [upd_ne (ne_of h4 hr3 (by intro z; cases z))]; exact h4, h4b⟩, h5⟩
    refine q _ p l d e E np nl' nd' ne' nE0 El pl3 (by rw [upd_ne Erw]; exact hE3) (by rw [upd_same, rf_new]) (fun b o hb n => ?_)
    rw [upd_ne n]
    exact kE _ _ (o1 _ _ hb n)
def spDue (C C1 : Addr) : Sp := fun vs H Q _ => ∃ (Hb : Hp) (rw p c g l d e E : Addr) (L : List (List Actn)) (m : Nat) (es : List Ev) (f k : Nat) (now : Int), vs = [.ref rw] ∧ Pb Hb c g L m es ∧ RSt C C1 Hb H rw p c l d e E L es f k ∧ Still L es f k now ∧
  ∀ H', Same H H' → Q (if f = k then .non else .int ((evAt es f).t + timeOf (xAt L es f))) H'
theorem ok_due (bt : Bt mg) {C C1 : Addr} (cp : Cp K C) (rp : Rp K C1) (a : AtM K C1 "due" "Row.due" s_due ["self"]) (c_taken : ClM P w K mg base 2 C "taken" (spTaken C)) : ClM P w K mg base 3 C1 "due" (spDue C C1) := by
  have cl_Player := cp.cl
  have cl_Row := rp.cl
  refine clMG a sc_due (fun vs H Q E h => ?_) (fun ff cdv A outer s H vs Q hg hr h => ?_)
  · obtain ⟨Hb, rw, p, c, g, l, d, e, E, L, m, es, f, k, now, rfl, _⟩ := h
    rfl
  · obtain ⟨Hb, rw, p, c, g, l, d, e, E, L, m, es, f, k, now, rfl, B, S, hs, q⟩ := h
    refine ⟨_, (pss_cons (ps_if (pt_not (pt_truth (pe_fld (pv 0) rfl) (by intro _; rfl))) (pss_one (ps_ret pe_non)) pss_nil)
      (pss_cons (ps_asg (pe_ix ix_list (pe_fld (pv 0) rfl) pe_int (fun _ _ => rfl)) (pg_tup rfl (pgs_cons (pg_name (i := 1) sc_due.nd rfl (Or.inl rfl)) (pgs_cons (pg_name (i := 2) sc_due.nd rfl (Or.inl rfl)) (pgs_cons (pg_name (i := 3) sc_due.nd rfl (Or.inl rfl)) pgs_nil)))))
      (pss_cons (ps_asg (pe_clM c_taken cl_Player hg hr (by decide) (pe_fld (pv 0) rfl) (pa_cons (pv 2) pa_nil)) (pg_tup rfl (pgs_cons (pg_name (i := 4) sc_due.nd rfl (Or.inl rfl)) (pgs_cons (pg_name (i := 5) sc_due.nd rfl (Or.inl rfl)) pgs_nil))))
      (pss_one (ps_ret (pe_op op_add (pv 1) (pe_ix ix_either (pv 5) pe_int (fun _ _ => rfl)))))))), ?_⟩
    obtain ⟨dx, hrw⟩ := S.ob
    obtain ⟨as, hE, hT⟩ := id S.ev
    have hql := quE_len (es := es) (f := f) S.kl
    have hal : as.length = k - f := by rw [hT.1, hql]
    refine ⟨_, rfl, rw, C1, dx, _, _, rfl, hrw, rp.cl, rp.n2, rf_events, !(as.map V.ref).isEmpty, .inl ⟨_, SqL.of hE, rfl⟩, ?_⟩
    rcases hs with hf | ⟨hf, hd, hw⟩
    · have : (as.map V.ref).isEmpty = true := by
        rw [List.isEmpty_map, List.isEmpty_iff_length_eq_zero]
        omega
      rw [this]
      have := q H (Same.refl _)
      rw [if_pos hf] at this
      exact iteT this
    · have hne : (as.map V.ref).isEmpty = false := by
        rw [List.isEmpty_map]
        cases as with
        | nil => simp at hal; omega
        | cons _ _ => rfl
      rw [hne]
      obtain ⟨as', b, hE', hb0, hb, _⟩ := S.front hf
      have ee : as' = as := by
        have := HO.lst.inj (Option.some.inj (hE'.symm.trans hE))
        exact List.map_inj_right (fun a b z => V.ref.inj z) |>.mp this
      subst ee
      have hfl : f < es.length := by have := S.kl; omega
      have hev := evAt_eq hfl
      have v1 := (B.val f _ (List.getElem?_eq_getElem hfl)).1
      have hkk := B.key _ (List.getElem_mem hfl)
      have hk0 : (evAt es f).k = (((evAt es f).k.toNat : Nat) : Int) := by rw [hev]; omega
      have hS := runS_ok B.ok B.val B.key f (by omega)
      have h4 := B.len
      obtain ⟨dxp, hp⟩ := S.pl.ob
      refine iteF ⟨_, rfl, rw, C1, dx, _, _, rfl, hrw, rp.cl, rp.n2, rf_events, E, _, 0, .ref b, rfl, rfl, SqL.of hE, atI_nat (j := 0) (get_map_ref hb0), b, _, rfl, SqT.of hb, rfl, _, _, rfl, _, _, rfl, _, _, rfl, rfl, ?_⟩
      refine ⟨_, rfl, rw, C1, dx, _, _, rfl, hrw, rp.cl, rp.n1, rf_player, p, dxp, _, rfl, hp, f_no (by decide +kernel), _, rfl, p, c, l, d, e, f, runS L es f, L, m, (evAt es f).k.toNat, congrArg (fun z => [V.ref p, V.int z]) hk0, S.pl, B.lay.same S.sb, B.ok, hS.bds, hS.lk, by have := hS.len; omega, by rw [hev]; omega, fun H4 T4 v s5 hT4 hv => ?_⟩
      have hv : ActV H4 (xAt L es f) v := hv
      obtain ⟨a', b', cc, rfl, ha⟩ := dl_at hv hw.1
      refine ⟨T4, _, rfl, SqT.of hT4, rfl, _, _, rfl, _, _, rfl, rfl, ?_⟩
      refine ⟨_, rfl, _, rfl, .inl ⟨a', _, 3, _, rfl, rfl, SqT.of ha, atI_nat (j := 3) rfl, _, _, rfl, rfl, ?_⟩⟩
      have := q H4 s5
      rw [if_neg (by omega)] at this
      exact this
def spFront (C C1 : Addr) : Sp := fun vs H Q _ => ∃ (Hb : Hp) (rw p c g l d e E : Addr) (L : List (List Actn)) (m : Nat) (es : List Ev) (f k : Nat) (now : Int), vs = [.ref rw, .int now] ∧ Pb Hb c g L m es ∧ RSt C C1 Hb H rw p c l d e E L es f k ∧ f < k ∧ (evAt es f).d = true ∧ (∀ i, k ≤ i → i < es.length → now ≤ (evAt es i).t) ∧
  (∀ H', Same H H' → Waits L es f k now → Q .non H') ∧ (∀ H' v, Same H H' → (∀ z, decD L es f = some z → (∀ i, i < k → (evAt es i).t ≤ now) → z ≤ now) → ActV H' (whatM (xAt L es f) (kindM es f (xAt L es f))) v → Q v H')
theorem ok_front_means (bt : Bt mg) {C C1 : Addr} (cp : Cp K C) (rp : Rp K C1) (a : AtM K C1 "front_means" "Row.front_means" s_front_means ["self", "now"]) (c_taken : ClM P w K mg base 2 C "taken" (spTaken C)) (c_is_dual : Cl P w K mg base 1 "is_dual" spDual) (c_sure_event : Cl P w K mg base 2 "sure_event" spSure) (c_dual_kind : Cl P w K mg base 1 "dual_kind" spKind) (c_what_is_done : Cl P w K mg base 1 "what_is_done" spWhat) : ClM P w K mg base 3 C1 "front_means" (spFront C C1) := by
  have cl_Player := cp.cl
  have cl_Row := rp.cl
  refine clMG a sc_front_means (fun vs H Q E h => ?_) (fun ff cdv A outer s H vs Q hg hr h => ?_)
  · obtain ⟨Hb, rw, p, c, g, l, d, e, E, L, m, es, f, k, now, rfl, _⟩ := h
    rfl
  · obtain ⟨Hb, rw, p, c, g, l, d, e, E, L, m, es, f, k, now, rfl, B, S, hf, hd, hlate, q1, q2⟩ := h
    refine ⟨_, (pss_cons (ps_asg (pe_ix ix_list (pe_fld (pv 0) rfl) pe_int (fun _ _ => rfl)) (pg_tup rfl (pgs_cons (pg_name (i := 2) sc_front_means.nd rfl (Or.inl rfl)) (pgs_cons (pg_name (i := 3) sc_front_means.nd rfl (Or.inl rfl)) (pgs_cons (pg_name (i := 4) sc_front_means.nd rfl (Or.inl rfl)) pgs_nil)))))
      (pss_cons (ps_asg (pe_clM c_taken cl_Player hg hr (by decide) (pe_fld (pv 0) rfl) (pa_cons (pv 3) pa_nil)) (pg_tup rfl (pgs_cons (pg_name (i := 5) sc_front_means.nd rfl (Or.inl rfl)) (pgs_cons (pg_name (i := 6) sc_front_means.nd rfl (Or.inl rfl)) pgs_nil))))
      (pss_cons (ps_if (pt_not (pt_val (pe_cl c_is_dual hg hr (by decide) (by rfl) (pa_cons (pv 6) pa_nil)))) (pss_one (ps_ret (pv 6))) pss_nil)
      (pss_cons (ps_set (i := 7) sc_front_means.nd rfl (Or.inl rfl) (pe_cl c_sure_event hg hr (by decide) (by rfl) (pa_cons (pe_fld (pv 0) rfl) (pa_cons pe_int (pa_cons (pv 6) pa_nil)))))
      (pss_cons (ps_if (PW.pt (pw_and (pt_cmpR op_isN (pv 7) pe_non (nomark _)) (pw_and1 (pt_cmpR op_lt (pv 1) (pe_op op_add (pv 2) (pe_ix ix_either (pv 6) pe_int (fun _ _ => rfl))) (nomark _))))) (pss_one (ps_ret pe_non)) pss_nil)
      (pss_one (ps_ret (pe_cl c_what_is_done hg hr (by decide) (by rfl) (pa_cons (pv 6) (pa_cons (pe_cl c_dual_kind hg hr (by decide) (by rfl) (pa_cons (pe_fld (pv 0) rfl) (pa_cons pe_int (pa_cons (pv 7) pa_nil)))) pa_nil)))))))))), ?_⟩
    obtain ⟨dx, hrw⟩ := S.ob
    obtain ⟨as, b, hE, hb0, hb, hal⟩ := S.front hf
    have kl := S.kl
    have hfl : f < es.length := by omega
    have hev := evAt_eq hfl
    have v1 := (B.val f _ (List.getElem?_eq_getElem hfl)).1
    have hkk := B.key _ (List.getElem_mem hfl)
    have hk0 : (evAt es f).k = (((evAt es f).k.toNat : Nat) : Int) := by rw [hev]; omega
    have hS := runS_ok B.ok B.val B.key f (by omega)
    have h4 := B.len
    obtain ⟨dxp, hp⟩ := S.pl.ob
    have hkm : (evAt es f).k.toNat < m := by rw [hev]; omega
    refine ⟨_, rfl, rw, C1, dx, _, _, rfl, hrw, rp.cl, rp.n2, rf_events, E, _, 0, .ref b, rfl, rfl, SqL.of hE, atI_nat (j := 0) (get_map_ref hb0), b, _, rfl, SqT.of hb, rfl, _, _, rfl, _, _, rfl, _, _, rfl, rfl, ?_⟩
    refine ⟨_, rfl, rw, C1, dx, _, _, rfl, hrw, rp.cl, rp.n1, rf_player, p, dxp, _, rfl, hp, f_no (by decide +kernel), _, rfl, p, c, l, d, e, f, runS L es f, L, m, (evAt es f).k.toNat, congrArg (fun z => [V.ref p, V.int z]) hk0, S.pl, B.lay.same S.sb, B.ok, hS.bds, hS.lk, by have := hS.len; omega, hkm, fun H4 T4 v s5 hT4 hv => ?_⟩
    have hv : ActV H4 (xAt L es f) v := hv
    obtain ⟨t1, t2, t3⟩ := taken_ok B.ok (runS L es f) hkm
    have t2 : ActOk L.length _ (xAt L es f) := t2
    have S4 := S.same s5
    refine ⟨T4, _, rfl, SqT.of hT4, rfl, _, _, rfl, _, _, rfl, rfl, ?_⟩
    refine ⟨_, rfl, v, xAt L es f, _, _, rfl, hv, t2, _, rfl, ?_⟩
    cases hdl : isDl (xAt L es f) with
    | false =>
      have ek : kindM es f (xAt L es f) = ("plain" : String) := by unfold kindM; rw [if_neg (by rw [hdl]; decide)]
      refine iteT ⟨_, rfl, q2 H4 v s5 (fun z hz => ?_) (by rw [ek, what_plain]; exact hv)⟩
      rw [dec_none (.inr hdl)] at hz
      cases hz
    | true =>
      obtain ⟨a', b', cc, rfl, ha⟩ := dl_at hv hdl
      have hql := quE_len (es := es) (f := f) kl
      refine iteF ⟨_, rfl, rw, C1, dx, _, _, rfl, s5 _ _ hrw, rp.cl, rp.n2, rf_events, _, rfl, E, quE es f k, 0, .ref a', xAt L es f, rfl, S4.ev, by omega, by omega, hv, hdl, fun H5 s6 => ?_⟩
      have s56 := s5.trans s6
      have ha5 := s6 _ _ ha
      have hv5 := hv.keep (Tk.of s6)
      have eS := sure_q (es := es) (x := xAt L es f) hf kl
      have ek0 : kindM es f (xAt L es f) = if tapM es f (sureM es f (xAt L es f)) then (("tap" : String) : Str) else (("hold" : String) : Str) := by unfold kindM; rw [if_pos hdl]
      cases hq : sureM (quE es f k) 0 (xAt L es f) with
      | none =>
        have hno : ∀ n, sureM es f (xAt L es f) = some n → k ≤ n := fun n hn => by
          rw [hn, hq] at eS
          rcases Nat.lt_or_ge n k with z | z
          · have eS : none = (if n < k then some (n - f) else none) := eS
            rw [if_pos z] at eS; cases eS
          · exact z
        refine ⟨_, rfl, rfl, true, rfl, iteT ⟨_, rfl, _, rfl, _, rfl, .inl ⟨a', _, 3, _, rfl, rfl, SqT.of ha5, atI_nat (j := 3) rfl, _, _, rfl, rfl, _, _, rfl, rfl, _, rfl, ite2 (fun z => ?_) (fun z => ?_)⟩⟩⟩
        · exact q1 H5 s56 ⟨hdl, hno, of_decide_eq_true z⟩
        · have z : (evAt es f).t + timeOf (xAt L es f) ≤ now := by
            have : ¬ now < (evAt es f).t + timeOf (xAt L es f) := fun y => z (decide_eq_true y)
            omega
          have hnone : sureM es f (xAt L es f) = none := by
            cases hs : sureM es f (xAt L es f) with
            | none => rfl
            | some n =>
              have h1 := hno n hs
              have h2 := (sureM_lt hs).2
              have h3 := hlate n h1 h2
              have h5 := sure_in hs
              omega
          have ek : kindM es f (xAt L es f) = (("hold" : String) : Str) := by rw [ek0, hnone]; rfl
          refine ⟨_, rfl, _, rfl, rw, C1, dx, _, _, rfl, s56 _ _ hrw, rp.cl, rp.n2, rf_events, _, rfl, E, quE es f k, 0, none, rfl, S4.ev.same s6, by omega, fun n hn => (by cases hn), fun H6 s7 => ?_⟩
          rw [show tapM (quE es f k) 0 none = false from rfl, if_neg (by decide)]
          refine ⟨.ref a', xAt L es f, "hold", rfl, hv5.keep (Tk.of s7), .inr ⟨hdl, .inr rfl⟩, fun H7 v7 s8 hv7 => ?_⟩
          refine q2 H7 v7 ((s56.trans s7).trans s8) (fun y hy hcome => ?_) (by rw [ek]; exact hv7)
          rw [dec_some hd hdl, hnone] at hy
          rw [← Option.some.inj hy]
          exact z
      | some n' =>
        have hs : ∃ n, sureM es f (xAt L es f) = some n ∧ n < k ∧ n' = n - f := by
          rw [hq] at eS
          cases hs : sureM es f (xAt L es f) with
          | none => rw [hs] at eS; cases eS
          | some n =>
            rw [hs] at eS
            have eS : some n' = (if n < k then some (n - f) else none) := eS
            by_cases z : n < k
            · rw [if_pos z] at eS; exact ⟨n, rfl, z, Option.some.inj eS⟩
            · rw [if_neg z] at eS; cases eS
        obtain ⟨n, hs, hnk, rfl⟩ := hs
        obtain ⟨n1, n2⟩ := sureM_lt hs
        have et : tapM (quE es f k) 0 (some (n - f)) = tapM es f (some n) := by
          unfold tapM
          dsimp only
          have e1 := quE_at (es := es) (f := f) (k := k) (i := n - f) (by omega) kl
          have e0 := quE_at (es := es) (f := f) (k := k) (i := 0) hf kl
          rw [e1, e0, show f + (n - f) = n by omega, Nat.add_zero]
        refine ⟨_, rfl, rfl, false, rfl, iteF (iteF ?_)⟩
        refine ⟨_, rfl, _, rfl, rw, C1, dx, _, _, rfl, s56 _ _ hrw, rp.cl, rp.n2, rf_events, _, rfl, E, quE es f k, 0, some (n - f), rfl, S4.ev.same s6, by omega, fun j hj => (by cases hj; omega), fun H6 s7 => ?_⟩
        have ek : kindM es f (xAt L es f) = if tapM (quE es f k) 0 (some (n - f)) then (("tap" : String) : Str) else (("hold" : String) : Str) := by rw [ek0, hs, et]
        refine ⟨.ref a', xAt L es f, _, rfl, hv5.keep (Tk.of s7), .inr ⟨hdl, ?_⟩, fun H7 v7 s8 hv7 => ?_⟩
        · cases tapM (quE es f k) 0 (some (n - f)) with
          | true => exact .inl rfl
          | false => exact .inr rfl
        refine q2 H7 v7 ((s56.trans s7).trans s8) (fun y hy hcome => ?_) (by rw [ek]; exact hv7)
        rw [dec_some hd hdl, hs] at hy
        rw [← Option.some.inj hy]
        exact hcome n hnk
end
end K84

set_option Elab.async false
set_option linter.all false
set_option maxRecDepth 100000
set_option maxHeartbeats 8000000
namespace K84
open PySem PySem.Spec PyProof.Rows L2 Gd Rm La Cb Pl
theorem upI {b : Bool} : decide (V.str (wayS b) = V.str "up") = !b := by cases b <;> decide +kernel
theorem isNon (v : V) (h : v ≠ .non) : decide (v = V.non) = false := decide_eq_false h
theorem act_ne {H : Hp} {x : Actn} {v : V} (h : ActV H x v) : v ≠ .non := by
  cases x with
  | none => rw [show v = .str "none" from h]; intro z; cases z
  | thr => rw [show v = .str "through" from h]; intro z; cases z
  | code _ => obtain ⟨a, e, _⟩ := h; rw [e]; intro z; cases z
  | lay _ _ => obtain ⟨a, e, _⟩ := h; rw [e]; intro z; cases z
  | dualC _ _ _ _ => obtain ⟨a, b, e, _⟩ := h; rw [e]; intro z; cases z
  | dualL _ _ _ _ => obtain ⟨a, b, e, _⟩ := h; rw [e]; intro z; cases z
theorem RSt.runOk {C C1 : Addr} {Hb H : Hp} {rw p c l d e E g : Addr} {L : List (List Actn)} {m : Nat} {es : List Ev} {f k : Nat} (h : RSt C C1 Hb H rw p c l d e E L es f k) (B : Pb Hb c g L m es) : St1 L (runS L es f) f := by
  have a := h.fk
  have b := h.kl
  exact runS_ok B.ok B.val B.key f (by omega)
section
variable {P : Program} {w : World} {K : PySem.W.Frag} {mg : Str → Option Value} {base : Heap}
def spLet (C C1 : Addr) : Sp := fun vs H Q _ => ∃ (Hb : Hp) (rw p c g l d e E : Addr) (L : List (List Actn)) (m : Nat) (es : List Ev) (f k : Nat) (now : Int), vs = [.ref rw, .int now] ∧ Pb Hb c g L m es ∧ RSt C C1 Hb H rw p c l d e E L es f k ∧ (∀ i, i < k → (evAt es i).t ≤ now) ∧ (∀ i, k ≤ i → i < es.length → now ≤ (evAt es i).t) ∧ (f < k → now ≤ dnT L es f) ∧ (∀ i, i < f → dnT L es i ≤ now) ∧
  ∀ (H' : Hp) (O : Addr) (f' : Nat), f ≤ f' → f' ≤ k → RSt C C1 Hb H' rw p c l d e E L es f' k → Off5 p l d e E H H' → H O = none → Trips H' O (outsT L es f f') → Still L es f' k now → (∀ i, i < f' → dnT L es i ≤ now) → Q (.ref O) H'
theorem ok_let_out (bt : Bt mg) {C C1 : Addr} (cp : Cp K C) (rp : Rp K C1) (a : AtM K C1 "let_out" "Row.let_out" s_let_out ["self", "now"]) (c_release : ClM P w K mg base 1 C "release" (spRelease C)) (c_press : ClM P w K mg base 1 C "press" (spPress C)) (c_front_means : ClM P w K mg base 3 C1 "front_means" (spFront C C1)) : ClM P w K mg base 4 C1 "let_out" (spLet C C1) := by
  have cl_Player := cp.cl
  have cl_Row := rp.cl
  refine clMG a sc_let_out (fun vs H Q E h => ?_) (fun ff cdv A outer s H vs Q hg hr h => ?_)
  · obtain ⟨Hb, rw, p, c, g, l, d, e, E, L, m, es, f, k, now, rfl, _⟩ := h
    rfl
  · obtain ⟨Hb, rw, p, c, g, l, d, e, E, L, m, es, f, k, now, rfl, B, S, hc1, hc2, hlo, hup, q⟩ := h
    refine ⟨_, (pss_cons (ps_set (i := 2) sc_let_out.nd rfl (Or.inl rfl) (pe_lst pa_nil))
      (pss_cons (ps_while PassesOwn.never (pt_truth (pe_fld (pv 0) rfl) (by intro _; rfl)) (pss_cons (ps_asg (pe_ix ix_list (pe_fld (pv 0) rfl) pe_int (fun _ _ => rfl)) (pg_tup rfl (pgs_cons (pg_name (i := 3) sc_let_out.nd rfl (Or.inl rfl)) (pgs_cons (pg_name (i := 4) sc_let_out.nd rfl (Or.inl rfl)) (pgs_cons (pg_name (i := 5) sc_let_out.nd rfl (Or.inl rfl)) pgs_nil)))))
      (C8.pss_cut (ps_if (pt_cmpR op_eq (pv 5) pe_str (nomark _)) (pss_one (ps_set (i := 6) sc_let_out.nd rfl (Or.inl rfl) (pe_clM c_release cl_Player hg hr (by decide) (pe_fld (pv 0) rfl) (pa_cons (pv 4) pa_nil)))) (pss_cons (ps_set (i := 7) sc_let_out.nd rfl (Or.inl rfl) (pe_clM c_front_means cl_Row hg hr (by decide) (pv 0) (pa_cons (pv 1) pa_nil)))
      (pss_cons (ps_if (pt_cmpR op_isN (pv 7) pe_non (nomark _)) (pss_one (ps_ret (pv 2))) pss_nil)
      (pss_one (ps_set (i := 6) sc_let_out.nd rfl (Or.inl rfl) (pe_clM c_press cl_Player hg hr (by decide) (pe_fld (pv 0) rfl) (pa_cons (pv 4) (pa_cons (pv 7) pa_nil))))))))
      (pss_cons (ps_expr (pe_bm PySem.F.plainAttrs_list PySem.F.slot_list_pop PySem.F.type_list_pop mt_popAt (pe_fld (pv 0) rfl) (pa_cons pe_int pa_nil)))
      (pss_one (ps_if (pt_cmpR (op_neD hr.units) (pv 6) (pe_tup pa_nil) (nomark _)) (pss_one (ps_expr (pe_bm PySem.F.plainAttrs_list PySem.F.slot_list_append PySem.F.type_list_append mt_append (pv 2) (pa_cons (pe_tup (pa_cons (pv 1) (pa_cons (pe_ix ix_tup (pv 6) pe_int (fun _ _ => rfl)) (pa_cons (pe_ix ix_tup (pv 6) pe_int (fun _ _ => rfl)) pa_nil)))) pa_nil)))) pss_nil))))))
      (pss_one (ps_ret (pv 2))))), ?_⟩
    refine ⟨Nat.zero_le _, fun O nO => ?_⟩
    have kO := same_upd (o := .lst []) nO
    have h4 := B.len
    refine ⟨fun n σ H' => ∃ (f' : Nat) (y3 y4 y5 y6 y7 : Option V), n = k - f' ∧ f ≤ f' ∧ σ = [some (.ref rw), some (.int now), some (.ref O), y3, y4, y5, y6, y7] ∧ RSt C C1 Hb H' rw p c l d e E L es f' k ∧ Off5 p l d e E H H' ∧ O ≠ p ∧ O ≠ l ∧ O ≠ d ∧ O ≠ e ∧ O ≠ E ∧ Trips H' O (outsT L es f f') ∧ (f' < k → now ≤ dnT L es f') ∧ (∀ i, i < f' → dnT L es i ≤ now),
      ⟨_, f, _, _, _, _, _, rfl, Nat.le_refl _, rfl, S.same kO, Off5.of kO, ?_, ?_, ?_, ?_, ?_, ⟨[], upd_same, by rw [outsT_nil]; exact AllV.nil⟩, hlo, hup⟩, fun n σ H1 z => ?_⟩
    · intro z; obtain ⟨dx, h⟩ := S.pl.ob; rw [z, h] at nO; cases nO
    · intro z; have h := S.pl.lk; rw [z, h] at nO; cases nO
    · intro z; obtain ⟨_, h, _⟩ := S.pl.bd; rw [z, h] at nO; cases nO
    · intro z; obtain ⟨_, h, _⟩ := S.pl.pr; rw [z, h] at nO; cases nO
    · intro z; obtain ⟨_, h, _⟩ := S.ev; rw [z, h] at nO; cases nO
    obtain ⟨f', y3, y4, y5, y6, y7, rfl, hff, rfl, S1, o1, O1, O2, O3, O4, O5, T1, lo1, up1⟩ := z
    obtain ⟨dx, hrw⟩ := S1.ob
    obtain ⟨as, hE, hT⟩ := id S1.ev
    have kl := S1.kl
    have fk := S1.fk
    have hql := quE_len (es := es) (f := f') kl
    have hal : as.length = k - f' := by rw [hT.1, hql]
    refine ⟨_, rfl, rw, C1, dx, _, _, rfl, hrw, rp.cl, rp.n2, rf_events, !(as.map V.ref).isEmpty, .inl ⟨_, SqL.of hE, rfl⟩, ?_⟩
    rcases Nat.lt_or_ge f' k with hf | hf
    rotate_left
    · have hem : (as.map V.ref).isEmpty = true := by
        rw [List.isEmpty_map, List.isEmpty_iff_length_eq_zero]
        omega
      rw [hem]
      exact iteF ⟨_, rfl, q H1 O f' hff fk S1 o1 nO T1 (.inl (by omega)) up1⟩
    have hne : (as.map V.ref).isEmpty = false := by
      rw [List.isEmpty_map]
      cases as with
      | nil => simp at hal; omega
      | cons _ _ => rfl
    rw [hne]
    refine iteT ⟨_, fun σ' H' z => z, ?_⟩
    obtain ⟨as', b, hE', hb0, hb, _⟩ := S1.front hf
    have ee : as' = as := by
      have := HO.lst.inj (Option.some.inj (hE'.symm.trans hE))
      exact List.map_inj_right (fun a b z => V.ref.inj z) |>.mp this
    subst ee
    have hfl : f' < es.length := by omega
    have hev := evAt_eq hfl
    have hS := S1.runOk B
    have hbl := hS.len
    have hlk := hS.lk
    obtain ⟨dxp, hp⟩ := S1.pl.ob
    refine ⟨_, rfl, rw, C1, dx, _, _, rfl, hrw, rp.cl, rp.n2, rf_events, E, _, 0, .ref b, rfl, rfl, SqL.of hE, atI_nat (j := 0) (get_map_ref hb0), b, _, rfl, SqT.of hb, rfl, _, _, rfl, _, _, rfl, _, _, rfl, rfl, ?_⟩
    refine ⟨fun σ' H' => ∃ (o : V) (y7 : Option V), σ' = [some (.ref rw), some (.int now), some (.ref O), some (.int (evAt es f').t), some (.int (evAt es f').k), some (.str (wayS (evAt es f').d)), some o, y7] ∧ Off4 p l d e H1 H' ∧ PAt C H' p c l d e (f' + 1) (runS L es (f' + 1)) ∧ OutV H' (outM L es f') o ∧ dnT L es f' ≤ now, ⟨_, rfl, rfl, !(evAt es f').d, congrArg V.bl upI, ?_⟩, ?_⟩
    · cases hd : (evAt es f').d with
      | false =>
        refine iteT ⟨_, rfl, rw, C1, dx, _, _, rfl, hrw, rp.cl, rp.n1, rf_player, p, dxp, _, rfl, hp, f_no (by decide +kernel), _, rfl, p, c, l, d, e, f', runS L es f', L.length, (evAt es f').k, rfl, S1.pl, hS.bds, by omega, fun H4 o P4 o4 ho => ?_⟩
        refine ⟨o, _, rfl, o4, by rw [runS_up hd]; exact P4, ?_, ?_⟩
        · unfold outM; rw [if_neg (by rw [hd]; decide)]; exact ho
        · exact dnT_le hfl up1 (hc1 f' hf) (fun z hz => by rw [dec_none (.inl hd)] at hz; cases hz)
      | true =>
        refine iteF ⟨_, rfl, rw, dx, _, rfl, hrw, rf_no (by decide +kernel), _, rfl, Hb, rw, p, c, g, l, d, e, E, L, m, es, f', k, now, rfl, B, S1, hf, hd, hc2, fun H4 s4 hw => ?_, fun H4 v s4 hdec hv => ?_⟩
        · exact ⟨_, rfl, rfl, true, rfl, iteT ⟨_, rfl, q H4 O f' hff fk (S1.same s4) (o1.trans (Off5.of s4)) nO (T1.same s4) (.inr ⟨hf, hd, hw⟩) up1⟩⟩
        · have v1 := (B.val f' _ (List.getElem?_eq_getElem hfl)).1
          have hkk := B.key _ (List.getElem_mem hfl)
          obtain ⟨t1, t2, t3⟩ := taken_ok B.ok (runS L es f') (k := (evAt es f').k.toNat) (by rw [hev]; omega)
          have hW := what_do (es := es) (j := f') (n := L.length) (x := xAt L es f') t2 t3
          rw [← hlk] at hW
          have n6 := B.ok.n6
          refine ⟨_, rfl, rfl, false, congrArg V.bl (isNon v (act_ne hv)), iteF ?_⟩
          refine ⟨_, rfl, rw, C1, dx, _, _, rfl, s4 _ _ hrw, rp.cl, rp.n1, rf_player, p, dxp, _, rfl, s4 _ _ hp, f_no (by decide +kernel), _, rfl, _, rfl, p, c, l, d, e, f', runS L es f', (evAt es f').k, v, _, rfl, S1.pl.same s4, hv, hW, by omega, by omega, by omega, fun H5 o P5 o5 ho => ?_⟩
          refine ⟨o, _, rfl, (Off4.of s4).trans o5, by rw [runS_dn hd]; exact P5, ?_, ?_⟩
          · unfold outM; rw [if_pos hd]; exact ho
          · exact dnT_le hfl up1 (hc1 f' hf) (fun z hz => hdec z hz hc1)
    · rintro σ' H2 ⟨o, y7, rfl, o4, P2, ho, hdn⟩
      obtain ⟨hE2, S2⟩ := S1.pop o4 P2 hE hf
      obtain ⟨s1, s2, s3, s4, s5, s6, s7⟩ := S1.sep
      have hrw2 := o4 _ _ hrw S1.rp s4 s5 s6
      refine ⟨_, rfl, rw, C1, dx, _, _, rfl, hrw2, rp.cl, rp.n2, rf_events, .inl ⟨rfl, _, SqL.of hE2⟩, E, _, 0, 0, .ref b, rfl, rfl, hE2, by decide, by decide, ?_, get_map_ref hb0, ?_⟩
      · rw [List.length_map, hal]
        unfold seqIndex?
        have h0 : (0 : Int) < ((k - f' : Nat) : Int) := by omega
        simp
        omega
      have o2 : Off5 p l d e E H1 (upd H2 E (.lst ((as'.map V.ref).eraseIdx 0))) := (Off5.of4 o4).trans Off5.upE
      have tk2 := S1.tk o2
      have ho2 : OutV (upd H2 E (.lst ((as'.map V.ref).eraseIdx 0))) (outM L es f') o := ho.keep (tk_upd hE2)
      have T2 : Trips (upd H2 E (.lst ((as'.map V.ref).eraseIdx 0))) O (outsT L es f f') := T1.go tk2 fun vs hv => o2 _ _ hv O1 O2 O3 O4 O5
      generalize upd H2 E (.lst ((as'.map V.ref).eraseIdx 0)) = H3 at S2 o2 ho2 T2 ⊢
      have edn : dnT L es f' = now := by have := lo1 hf; omega
      have lo2 : f' + 1 < k → now ≤ dnT L es (f' + 1) := fun _ => by have := dnT_succ (L := L) (es := es) (i := f'); omega
      have up2 : ∀ i, i < f' + 1 → dnT L es i ≤ now := fun i hi => by
        rcases Nat.lt_or_ge i f' with z | z
        · exact up1 i z
        · rw [show i = f' by omega]; omega
      have okO := outM_ok B.ok B.val B.key hfl
      refine ⟨_, rfl, Nat.zero_le _, fun Te nTe => ?_⟩
      have kTe := same_upd (o := .tup []) nTe
      refine ⟨_, _, (ho2.keep (Tk.of kTe)).dp, .tup (SqT.of upd_same) .nil, out_lay okO, by decide +kernel, isOut (outM L es f'), by rw [eqv_out, Bool.not_not], ?_⟩
      have S3 := S2.same kTe
      have T3 := T2.same kTe
      have ho3 := ho2.keep (Tk.of kTe)
      have o3 := o1.trans (o2.trans (Off5.of kTe))
      generalize upd H3 Te (.tup []) = H4 at S3 T3 ho3 o3 ⊢
      have os := outsT_succ (L := L) (es := es) hff
      have ol := outsT_len (L := L) (es := es) (f := f) (g := f')
      obtain ⟨vs, hO4, hvs⟩ := id T3
      have hvl := hvs.1
      cases hio : isOut (outM L es f') with
      | false =>
        rw [hio, if_neg (by decide), List.append_nil] at os
        refine iteF ⟨k - (f' + 1), by omega, f' + 1, _, _, _, _, _, rfl, by omega, rfl, S3, o3, O1, O2, O3, O4, O5, ?_, lo2, up2⟩
        rw [os]; exact T3
      | true =>
        rw [hio, if_pos rfl] at os
        obtain ⟨To, rfl, hTo⟩ := ho3
        have fin : ∀ (w1 : Str) (c1 : Str), outL (outM L es f') = [.str w1, .str c1] → ∀ U : Addr, H4 U = none → Trips (upd (upd H4 U (.tup [.int now, .str w1, .str c1])) O (.lst (vs ++ [.ref U]))) O (outsT L es f (f' + 1)) := fun w1 c1 ew U nU => by
          have kU := same_upd (o := .tup [.int now, .str w1, .str c1]) nU
          rw [os]
          refine ⟨vs ++ [.ref U], upd_same, (AllV.snoc (hvs.keep fun x v z => z.keep (Tk.of kU)) ⟨U, rfl, ?_⟩).keep fun x v z => z.keep (tk_upd (kU _ _ hO4))⟩
          rw [upd_same, edn, ew]
        have go : ∀ (w1 : Str) (c1 : Str), outL (outM L es f') = [.str w1, .str c1] → ∀ U : Addr, H4 U = none → RSt C C1 Hb (upd (upd H4 U (.tup [.int now, .str w1, .str c1])) O (.lst (vs ++ [.ref U]))) rw p c l d e E L es (f' + 1) k ∧ Off5 p l d e E H (upd (upd H4 U (.tup [.int now, .str w1, .str c1])) O (.lst (vs ++ [.ref U]))) := fun w1 c1 ew U nU => by
          have kU := same_upd (o := .tup [.int now, .str w1, .str c1]) nU
          have S4 := S3.same kU
          have hO5 := kU _ _ hO4
          obtain ⟨dx4, hr4⟩ := S4.ob
          have Orw : rw ≠ O := ne_of hr4 hO5 (by intro z; cases z)
          have HbO : Hb O = none := by
            cases h : Hb O with
            | none => rfl
            | some u => have := S.sb _ _ h; rw [this] at nO; cases nO
          refine ⟨{ S4 with ob := ⟨dx4, by rw [upd_ne Orw]; exact hr4⟩, pl := S4.pl.updW hO5 O1 O2 O3 O4, ev := ?_, sb := Same.off S4.sb HbO off_upd }, fun b o hb n1 n2 n3 n4 n5 => ?_⟩
          · obtain ⟨as5, e5, t5⟩ := S4.ev
            exact ⟨as5, by rw [upd_ne O5.symm]; exact e5, t5.1, fun i a x u v => tk_upd hO5 _ _ (t5.2 i a x u v)⟩
          · rw [upd_ne (ne_of_none hb nO)]
            exact kU _ _ (o3 _ _ hb n1 n2 n3 n4 n5)
        cases hoo : outM L es f' with
        | no => rw [hoo] at hio; cases hio
        | pr cc =>
          rw [hoo] at hTo
          refine iteT ⟨_, rfl, .inl ⟨rfl, _, SqL.of hO4⟩, _, rfl, _, rfl, To, _, 0, _, rfl, rfl, SqT.of hTo, atI_nat (j := 0) rfl, _, rfl, To, _, 1, _, rfl, rfl, SqT.of hTo, atI_nat (j := 1) rfl, (by show 3 ≤ sizeLine; decide), fun U nU => ?_⟩
          obtain ⟨g1, g2⟩ := go "press" cc (by rw [hoo]; rfl) U nU
          exact ⟨O, _, .ref U, rfl, rfl, (same_upd nU) _ _ hO4, small1000 (by omega), k - (f' + 1), by omega, f' + 1, _, _, _, _, _, rfl, by omega, rfl, g1, g2, O1, O2, O3, O4, O5, fin "press" cc (by rw [hoo]; rfl) U nU, lo2, up2⟩
        | re cc =>
          rw [hoo] at hTo
          refine iteT ⟨_, rfl, .inl ⟨rfl, _, SqL.of hO4⟩, _, rfl, _, rfl, To, _, 0, _, rfl, rfl, SqT.of hTo, atI_nat (j := 0) rfl, _, rfl, To, _, 1, _, rfl, rfl, SqT.of hTo, atI_nat (j := 1) rfl, (by show 3 ≤ sizeLine; decide), fun U nU => ?_⟩
          obtain ⟨g1, g2⟩ := go "release" cc (by rw [hoo]; rfl) U nU
          exact ⟨O, _, .ref U, rfl, rfl, (same_upd nU) _ _ hO4, small1000 (by omega), k - (f' + 1), by omega, f' + 1, _, _, _, _, _, rfl, by omega, rfl, g1, g2, O1, O2, O3, O4, O5, fin "release" cc (by rw [hoo]; rfl) U nU, lo2, up2⟩
end
end K84

set_option Elab.async false
set_option linter.all false
set_option maxRecDepth 100000
set_option maxHeartbeats 8000000
namespace K84
open PySem PySem.Spec PyProof.Rows L2 Gd Rm La Cb Pl
theorem AllV.app {α : Type} {R : Hp → α → V → Prop} {H : Hp} {vs : List V} {xs : List α} (h : AllV R H vs xs) : ∀ {ws : List V} {ys : List α}, AllV R H ws ys → AllV R H (vs ++ ws) (xs ++ ys) := by
  intro ws ys h2
  have hl := h.1
  refine ⟨by rw [List.length_append, List.length_append, h.1, h2.1], fun i v x a b => ?_⟩
  rcases Nat.lt_or_ge i vs.length with q | q
  · rw [List.getElem?_append_left q] at a
    rw [List.getElem?_append_left (by omega)] at b
    exact h.2 i v x a b
  · rw [List.getElem?_append_right q] at a
    rw [List.getElem?_append_right (by omega), ← hl] at b
    exact h2.2 _ v x a b
/-- a list beside a row -/
structure Bes (H : Hp) (O p l d e E : Addr) : Prop where
  n1 : O ≠ p
  n2 : O ≠ l
  n3 : O ≠ d
  n4 : O ≠ e
  n5 : O ≠ E
section
variable {C C1 : Addr} {Hb H H' : Hp} {rw p c l d e E O : Addr} {L : List (List Actn)} {es : List Ev} {f k : Nat}
theorem RSt.bes (S : RSt C C1 Hb H rw p c l d e E L es f k) (nO : H O = none) : Bes H O p l d e E := by
  refine ⟨?_, ?_, ?_, ?_, ?_⟩
  · intro z; obtain ⟨dx, h⟩ := S.pl.ob; rw [z, h] at nO; cases nO
  · intro z; have h := S.pl.lk; rw [z, h] at nO; cases nO
  · intro z; obtain ⟨_, h, _⟩ := S.pl.bd; rw [z, h] at nO; cases nO
  · intro z; obtain ⟨_, h, _⟩ := S.pl.pr; rw [z, h] at nO; cases nO
  · intro z; obtain ⟨_, h, _⟩ := S.ev; rw [z, h] at nO; cases nO
/-- such a list changes -/
theorem RSt.updO {vs ws : List V} {H0 : Hp} (S : RSt C C1 Hb H rw p c l d e E L es f k) (hb : Bes H0 O p l d e E) (hO : H O = some (.lst vs)) (n : Hb O = none) : RSt C C1 Hb (upd H O (.lst ws)) rw p c l d e E L es f k := by
  obtain ⟨dx, hr⟩ := S.ob
  refine { S with ob := ⟨dx, by rw [upd_ne (ne_of hr hO (by intro z; cases z))]; exact hr⟩, pl := S.pl.updW hO hb.n1 hb.n2 hb.n3 hb.n4, ev := ?_, sb := Same.off S.sb n off_upd }
  obtain ⟨as, e1, e2⟩ := S.ev
  exact ⟨as, by rw [upd_ne hb.n5.symm]; exact e1, e2.1, fun i a x u v => tk_upd hO _ _ (e2.2 i a x u v)⟩
theorem hb_none (S : RSt C C1 Hb H rw p c l d e E L es f k) (nO : H O = none) : Hb O = none := none_back S.sb nO
end
theorem Still.lo {Hb : Hp} {c g : Addr} {L : List (List Actn)} {m : Nat} {es : List Ev} {f k : Nat} {now T : Int} (B : Pb Hb c g L m es) (h : Still L es f k now) (hf : f ≠ k) (hk : k ≤ es.length) (h2 : ∀ i, k ≤ i → i < es.length → T ≤ (evAt es i).t) (hT : (evAt es f).t + timeOf (xAt L es f) ≤ T) : (evAt es f).t + timeOf (xAt L es f) ≤ dnT L es f := by
  rcases h with h | ⟨h, hd, hl, hw, ht⟩
  · exact absurd h hf
  have g := (dnT_ge (L := L) (es := es) (i := f) (by omega)).2
  rw [dec_some hd hl] at g
  cases e : sureM es f (xAt L es f) with
  | none => rw [e] at g; exact g _ rfl
  | some n =>
    have a := hw n e
    have b := (sureM_lt e).2
    have := h2 n a b
    have := sure_in e
    omega
section
variable {P : Program} {w : World} {K : PySem.W.Frag} {mg : Str → Option Value} {base : Heap}
def spClock (C C1 : Addr) : Sp := fun vs H Q _ => ∃ (Hb : Hp) (rw p c g l d e E : Addr) (L : List (List Actn)) (m : Nat) (es : List Ev) (f k : Nat) (now T : Int), vs = [.ref rw, .int T] ∧ Pb Hb c g L m es ∧ RSt C C1 Hb H rw p c l d e E L es f k ∧ Still L es f k now ∧ now ≤ T ∧ (∀ i, i < k → (evAt es i).t ≤ now) ∧ (∀ i, k ≤ i → i < es.length → T ≤ (evAt es i).t) ∧ (∀ i, i < f → dnT L es i ≤ now) ∧
  ∀ (H' : Hp) (O : Addr) (f' : Nat), f ≤ f' → f' ≤ k → RSt C C1 Hb H' rw p c l d e E L es f' k → Off5 p l d e E H H' → H O = none → Trips H' O (outsT L es f f') → Still L es f' k T → (∀ i, i < f' → dnT L es i ≤ T) → Q (.ref O) H'
theorem ok_clock (bt : Bt mg) {C C1 : Addr} (rp : Rp K C1) (a : AtM K C1 "clock" "Row.clock" s_clock ["self", "tick"]) (c_due : ClM P w K mg base 3 C1 "due" (spDue C C1)) (c_let_out : ClM P w K mg base 4 C1 "let_out" (spLet C C1)) : ClM P w K mg base 5 C1 "clock" (spClock C C1) := by
  have cl_Row := rp.cl
  refine clMG a sc_clock (fun vs H Q E h => ?_) (fun ff cdv A outer s H vs Q hg hr h => ?_)
  · obtain ⟨Hb, rw, p, c, g, l, d, e, E, L, m, es, f, k, now, T, rfl, _⟩ := h
    rfl
  · obtain ⟨Hb, rw, p, c, g, l, d, e, E, L, m, es, f, k, now, T, rfl, B, S, st, hnT, hc1, hc2, hup, q⟩ := h
    refine ⟨_, (pss_cons (ps_set (i := 2) sc_clock.nd rfl (Or.inl rfl) (pe_lst pa_nil))
      (pss_cons (ps_set (i := 3) sc_clock.nd rfl (Or.inl rfl) (pe_clM0 c_due cl_Row hg hr (by decide) (pv 0)))
      (pss_cons (ps_while PassesOwn.never (PW.pt (pw_and (pt_cmpR op_notN (pv 3) pe_non (nomark _)) (pw_and1 (pt_cmpR op_le (pv 3) (pv 1) (nomark _))))) (pss_cons (ps_expr (pe_bm PySem.F.plainAttrs_list PySem.F.slot_list_extend PySem.F.type_list_extend mt_extend (pv 2) (pa_cons (pe_clM c_let_out cl_Row hg hr (by decide) (pv 0) (pa_cons (pv 3) pa_nil)) pa_nil)))
      (pss_one (ps_set (i := 3) sc_clock.nd rfl (Or.inl rfl) (pe_clM0 c_due cl_Row hg hr (by decide) (pv 0))))))
      (pss_one (ps_ret (pv 2)))))), ?_⟩
    refine ⟨Nat.zero_le _, fun O nO => ?_⟩
    have kO := same_upd (o := .lst []) nO
    have h4 := B.len
    have S0 := S.same kO
    have bs := S.bes nO
    have nOb := hb_none S nO
    obtain ⟨dx0, hrw0⟩ := S0.ob
    refine ⟨_, rfl, rw, dx0, _, rfl, hrw0, rf_no (by decide +kernel), Hb, rw, p, c, g, l, d, e, E, L, m, es, f, k, now, rfl, B, S0, st, fun H1 s1 => ?_⟩
    refine ⟨fun n σ H' => ∃ (f' : Nat) (now' : Int), n = k - f' ∧ f ≤ f' ∧ now' ≤ T ∧ σ = [some (.ref rw), some (.int T), some (.ref O), some (if f' = k then .non else .int ((evAt es f').t + timeOf (xAt L es f')))] ∧ RSt C C1 Hb H' rw p c l d e E L es f' k ∧ Off5 p l d e E H H' ∧ Trips H' O (outsT L es f f') ∧ Still L es f' k now' ∧ (∀ i, i < k → (evAt es i).t ≤ now') ∧ (∀ i, i < f' → dnT L es i ≤ now'),
      ⟨_, f, now, rfl, Nat.le_refl _, hnT, rfl, S0.same s1, Off5.of (kO.trans s1), ⟨[], s1 _ _ upd_same, by rw [outsT_nil]; exact AllV.nil⟩, st, hc1, hup⟩, fun n σ H2 z => ?_⟩
    obtain ⟨f', now', rfl, hff, hnT', rfl, S1, o1, T1, st1, hc1', up1⟩ := z
    have kl := S1.kl
    have fk := S1.fk
    by_cases hf : f' = k
    · rw [if_pos hf]
      exact ⟨_, rfl, rfl, false, rfl, iteF (iteF ⟨_, rfl, q H2 O f' hff fk S1 o1 nO T1 (.inl hf) (fun i hi => by have := up1 i hi; omega)⟩)⟩
    rw [if_neg hf]
    have hw : f' < k ∧ (evAt es f').d = true ∧ Waits L es f' k now' := by
      rcases st1 with h | h
      · exact absurd h hf
      · exact h
    obtain ⟨hfk, hd, hl, hwt, hnow⟩ := id hw
    refine ⟨_, rfl, rfl, true, rfl, iteT ⟨_, rfl, _, rfl, _, _, rfl, rfl, _, rfl, ite2 (fun z => ?_) (fun z => ?_)⟩⟩
    rotate_left
    · have z : T < (evAt es f').t + timeOf (xAt L es f') := by
        have : ¬ (evAt es f').t + timeOf (xAt L es f') ≤ T := fun y => z (decide_eq_true y)
        omega
      exact ⟨_, rfl, q H2 O f' hff fk S1 o1 nO T1 (.inr ⟨hfk, hd, hl, hwt, z⟩) (fun i hi => by have := up1 i hi; omega)⟩
    have z : (evAt es f').t + timeOf (xAt L es f') ≤ T := of_decide_eq_true z
    have lo := st1.lo B hf kl hc2 z
    refine ⟨_, fun σ' H' z => z, ?_⟩
    obtain ⟨dx, hrw⟩ := S1.ob
    obtain ⟨vs, hO, hvs⟩ := id T1
    refine ⟨_, rfl, .inl ⟨rfl, _, SqL.of hO⟩, ?_⟩
    refine ⟨_, rfl, rw, dx, _, rfl, hrw, rf_no (by decide +kernel), _, rfl, Hb, rw, p, c, g, l, d, e, E, L, m, es, f', k, _, rfl, B, S1, fun i hi => by have := hc1' i hi; omega, fun i h1 h2 => by have := hc2 i h1 h2; omega, fun _ => lo, fun i hi => by have := up1 i hi; omega, fun H4 O4 f2 h1 h2 S4 o4 nO4 T4 st4 up4 => ?_⟩
    have hO4 := o4 _ _ hO bs.n1 bs.n2 bs.n3 bs.n4 bs.n5
    obtain ⟨zs, hZ, hzs⟩ := id T4
    have e1 := hvs.1
    have e2 := hzs.1
    have l1 := outsT_len (L := L) (es := es) (f := f) (g := f')
    have l2 := outsT_len (L := L) (es := es) (f := f') (g := f2)
    have tk4 := S1.tk o4
    have T5 : Trips (upd H4 O (.lst (vs ++ zs))) O (outsT L es f f2) := by
      rw [← outsT_app hff h1]
      refine ⟨_, upd_same, (AllV.app (hvs.keep fun x v z => z.keep tk4) hzs).keep fun x v z => z.keep (tk_upd hO4)⟩
    have S5 := S4.updO (ws := vs ++ zs) bs hO4 nOb
    have o5 : Off5 p l d e E H (upd H4 O (.lst (vs ++ zs))) := fun b o hb n1 n2 n3 n4 n5 => by
      rw [upd_ne (ne_of_none hb nO)]
      exact o4 _ _ (o1 _ _ hb n1 n2 n3 n4 n5) n1 n2 n3 n4 n5
    refine ⟨O, O4, vs, zs, rfl, rfl, hO4, hZ, by rw [sizeLine_eq]; omega, ?_⟩
    generalize upd H4 O (.lst (vs ++ zs)) = H5 at T5 S5 o5 ⊢
    obtain ⟨dx5, hrw5⟩ := S5.ob
    have prog : f' < f2 := by
      rcases Nat.lt_or_ge f' f2 with y | y
      · exact y
      · have e : f2 = f' := by omega
        subst e
        rcases st4 with h | ⟨_, _, _, _, h⟩
        · exact absurd h hf
        · omega
    refine ⟨_, rfl, rw, dx5, _, rfl, hrw5, rf_no (by decide +kernel), Hb, rw, p, c, g, l, d, e, E, L, m, es, f2, k, _, rfl, B, S5, st4, fun H6 s6 => ⟨k - f2, by omega, f2, _, rfl, by omega, z, rfl, S5.same s6, o5.trans (Off5.of s6), T5.same s6, st4, fun i hi => by have := hc1' i hi; omega, up4⟩⟩
def spCome (C C1 : Addr) : Sp := fun vs H Q _ => ∃ (Hb : Hp) (rw p c g l d e E b : Addr) (L : List (List Actn)) (m : Nat) (es : List Ev) (f k : Nat), vs = [.ref rw, .ref b] ∧ Pb Hb c g L m es ∧ RSt C C1 Hb H rw p c l d e E L es f k ∧ k < es.length ∧ H b = some (.tup (evV (evAt es k))) ∧ Still L es f k (evAt es k).t ∧ (∀ i, i < f → dnT L es i ≤ (evAt es k).t) ∧
  ∀ (H' : Hp) (O : Addr) (f' : Nat), f ≤ f' → f' ≤ k + 1 → RSt C C1 Hb H' rw p c l d e E L es f' (k + 1) → Off5 p l d e E H H' → H O = none → Trips H' O (outsT L es f f') → Still L es f' (k + 1) (evAt es k).t → (∀ i, i < f' → dnT L es i ≤ (evAt es k).t) → Q (.ref O) H'
theorem val_mono {es : List Ev} (hV : Valid es) {i j : Nat} (h : i ≤ j) (hj : j < es.length) : (evAt es i).t ≤ (evAt es j).t := by
  rcases Nat.lt_or_ge i j with q | q
  · rw [evAt_eq (by omega : i < es.length), evAt_eq hj]
    exact (hV j _ (List.getElem?_eq_getElem hj)).2.2 i _ q (List.getElem?_eq_getElem (by omega))
  · rw [show i = j by omega]; exact Int.le_refl _
theorem ok_come (bt : Bt mg) {C C1 : Addr} (rp : Rp K C1) (a : AtM K C1 "come" "Row.come" s_come ["self", "event"]) (c_let_out : ClM P w K mg base 4 C1 "let_out" (spLet C C1)) : ClM P w K mg base 5 C1 "come" (spCome C C1) := by
  have cl_Row := rp.cl
  refine clMG a sc_come (fun vs H Q E h => ?_) (fun ff cdv A outer s H vs Q hg hr h => ?_)
  · obtain ⟨Hb, rw, p, c, g, l, d, e, E, b, L, m, es, f, k, rfl, _⟩ := h
    rfl
  · obtain ⟨Hb, rw, p, c, g, l, d, e, E, b, L, m, es, f, k, rfl, B, S, hk, hb, st, hup, q⟩ := h
    refine ⟨_, (pss_cons (ps_expr (pe_bm PySem.F.plainAttrs_list PySem.F.slot_list_append PySem.F.type_list_append mt_append (pe_fld (pv 0) rfl) (pa_cons (pv 1) pa_nil)))
      (pss_one (ps_ret (pe_clM c_let_out cl_Row hg hr (by decide) (pv 0) (pa_cons (pe_ix ix_tup (pv 1) pe_int (fun _ _ => rfl)) pa_nil))))), ?_⟩
    obtain ⟨dx, hrw⟩ := S.ob
    obtain ⟨as, hE, hT⟩ := id S.ev
    have hql := quE_len (es := es) (f := f) S.kl
    have hal : as.length = k - f := by rw [hT.1, hql]
    have h4 := B.len
    have hev := evAt_eq hk
    have S2 := S.push hk (by rw [← hev]; exact hb) hE
    have o2 : Off5 p l d e E H (upd H E (.lst (as.map V.ref ++ [.ref b]))) := Off5.upE
    have hb2 := S.tk o2 _ _ hb
    refine ⟨_, rfl, rw, C1, dx, _, _, rfl, hrw, rp.cl, rp.n2, rf_events, .inl ⟨rfl, _, SqL.of hE⟩, _, rfl, E, _, .ref b, rfl, rfl, hE, by rw [List.length_map]; exact small1000 (by omega), ?_⟩
    generalize upd H E (.lst (as.map V.ref ++ [.ref b])) = H2 at S2 o2 hb2 ⊢
    obtain ⟨dx2, hrw2⟩ := S2.ob
    refine ⟨_, rfl, rw, dx2, _, rfl, hrw2, rf_no (by decide +kernel), _, rfl, b, _, 0, _, rfl, rfl, SqT.of hb2, atI_nat (j := 0) rfl, Hb, rw, p, c, g, l, d, e, E, L, m, es, f, k + 1, _, rfl, B, S2, fun i hi => val_mono B.val (by omega) hk, fun i h1 h2 => val_mono B.val (by omega) h2, fun hf => ?_, hup, fun H4 O f' h1 h2 S4 o4 nO T4 st4 up4 => q H4 O f' h1 h2 S4 (o2.trans o4) ?_ T4 st4 up4⟩
    · rcases st with h | ⟨h, hd, hl, hw, ht⟩
      · rw [h]; exact (dnT_ge (L := L) hk).1
      · have g := (dnT_ge (L := L) (es := es) (i := f) (by omega)).2
        rw [dec_some hd hl] at g
        cases e : sureM es f (xAt L es f) with
        | none =>
          rw [e] at g
          have := g _ rfl
          omega
        | some n =>
          rw [e] at g
          have := g _ rfl
          have a := hw n e
          have b := (sureM_lt e).2
          have := val_mono B.val a b
          omega
    · cases h : H O with
      | none => rfl
      | some u =>
        have bs := S2.bes nO
        rw [o2 _ _ h bs.n1 bs.n2 bs.n3 bs.n4 bs.n5] at nO
        cases nO
def spComeAll (C C1 : Addr) : Sp := fun vs H Q _ => ∃ (Hb : Hp) (rw p c g l d e E G : Addr) (L : List (List Actn)) (m : Nat) (es : List Ev) (n : Nat) (as : List Addr), vs = [.ref rw, .ref G] ∧ Pb Hb c g L m es ∧ RSt C C1 Hb H rw p c l d e E L es 0 0 ∧ n ≤ es.length ∧ Hb G = some (.lst (as.map V.ref)) ∧ Tups Hb evV as (es.take n) ∧
  ∀ (H' : Hp) (O : Addr) (f' : Nat) (now : Int), f' ≤ n → RSt C C1 Hb H' rw p c l d e E L es f' n → Off5 p l d e E H H' → H O = none → Trips H' O (outsT L es 0 f') → Still L es f' n now → (∀ i, i < n → (evAt es i).t ≤ now) → (∀ i, i < f' → dnT L es i ≤ now) → (n = 0 ∨ now = (evAt es (n - 1)).t) → Q (.ref O) H'
theorem ok_come_all (bt : Bt mg) {C C1 : Addr} (rp : Rp K C1) (a : At K mg "come_all" s_come_all ["machine", "events"]) (c_clock : ClM P w K mg base 5 C1 "clock" (spClock C C1)) (c_come : ClM P w K mg base 5 C1 "come" (spCome C C1)) : Cl P w K mg base 6 "come_all" (spComeAll C C1) := by
  have cl_Row := rp.cl
  refine clG a sc_come_all (fun vs H Q E h => ?_) (fun ff cdv A outer s H vs Q hg hr h => ?_)
  · obtain ⟨Hb, rw, p, c, g, l, d, e, E, G, L, m, es, n, as, rfl, _⟩ := h
    rfl
  · obtain ⟨Hb, rw, p, c, g, l, d, e, E, G, L, m, es, n, as, rfl, B, S, hn, hG, hT, q⟩ := h
    refine ⟨_, (pss_cons (ps_set (i := 2) sc_come_all.nd rfl (Or.inl rfl) (pe_lst pa_nil))
      (pss_cons (ps_for PassesOwn.never rfl (pi_list (pv 1)) (pg_name (i := 3) sc_come_all.nd rfl (Or.inl rfl)) (pss_cons (ps_expr (pe_bm PySem.F.plainAttrs_list PySem.F.slot_list_extend PySem.F.type_list_extend mt_extend (pv 2) (pa_cons (pe_clM c_clock cl_Row hg hr (by decide) (pv 0) (pa_cons (pe_ix ix_tup (pv 3) pe_int (fun _ _ => rfl)) pa_nil)) pa_nil)))
      (pss_one (ps_expr (pe_bm PySem.F.plainAttrs_list PySem.F.slot_list_extend PySem.F.type_list_extend mt_extend (pv 2) (pa_cons (pe_clM c_come cl_Row hg hr (by decide) (pv 0) (pa_cons (pv 3) pa_nil)) pa_nil))))))
      (pss_one (ps_ret (pv 2))))), ?_⟩
    refine ⟨Nat.zero_le _, fun O nO => ?_⟩
    have kO := same_upd (o := .lst []) nO
    have h4 := B.len
    have S0 := S.same kO
    have bs := S.bes nO
    have nOb := hb_none S nO
    have htl : (es.take n).length = n := by rw [List.length_take]; omega
    have hal : as.length = n := by rw [hT.1, htl]
    have hlen : (as.map V.ref).length = n := by rw [List.length_map]; exact hal
    refine ⟨_, rfl, G, rfl, ⟨_, SqL.of (S0.sb _ _ hG)⟩, for_it (walk_list (xs := as.map V.ref)) (fun i σ H' => ∃ (f' : Nat) (now : Int) (y3 : Option V), σ = [some (.ref rw), some (.ref G), some (.ref O), y3] ∧ f' ≤ i ∧ RSt C C1 Hb H' rw p c l d e E L es f' i ∧ Off5 p l d e E H H' ∧ Trips H' O (outsT L es 0 f') ∧ Still L es f' i now ∧ (∀ j, j < i → (evAt es j).t ≤ now) ∧ (∀ j, j < f' → dnT L es j ≤ now) ∧ (i = 0 ∨ now = (evAt es (i - 1)).t))
      ⟨0, 0, _, rfl, Nat.le_refl _, S0, Off5.of kO, ⟨[], upd_same, by rw [outsT_nil]; exact AllV.nil⟩, .inl rfl, fun j h => absurd h (Nat.not_lt_zero _), fun j h => absurd h (Nat.not_lt_zero _), .inl rfl⟩ (fun i σ H' _ z => by obtain ⟨_, _, _, _, _, S1, _⟩ := z; exact SqL.of (S1.sb _ _ hG)) (fun i x σ H1 H1b hi z y => ?_) (fun σ H1 z => ?_)⟩
    · obtain ⟨f', now, y3, rfl, hfi, S1, o1, T1, st1, hc1, up1, hn1⟩ := z
      obtain ⟨rfl, hx⟩ := y
      have hin : i < n := by omega
      have hie : i < es.length := by omega
      obtain ⟨b, hb0, hb⟩ := hT.at_ (i := i) (by rw [htl]; exact hin)
      have ex : V.ref b = x := Option.some.inj ((get_map_ref hb0).symm.trans hx)
      subst ex
      have hb1 := S1.sb _ _ hb
      have eei : (es.take n)[i]'(by rw [htl]; exact hin) = evAt es i := by rw [List.getElem_take, evAt_eq hie]
      rw [eei] at hb1
      obtain ⟨dx, hrw⟩ := S1.ob
      obtain ⟨vs, hO, hvs⟩ := id T1
      have e1 := hvs.1
      have l1 := outsT_len (L := L) (es := es) (f := 0) (g := f')
      obtain ⟨now0, h01, h02, h03, h04⟩ : ∃ now0, now0 ≤ (evAt es i).t ∧ Still L es f' i now0 ∧ (∀ j, j < i → (evAt es j).t ≤ now0) ∧ (∀ j, j < f' → dnT L es j ≤ now0) := by
        rcases hn1 with h | h
        · refine ⟨(evAt es i).t, Int.le_refl _, .inl (by omega), fun j hj => by omega, fun j hj => by omega⟩
        · exact ⟨now, by rw [h]; exact val_mono B.val (by omega) hie, st1, hc1, up1⟩
      refine ⟨_, rfl, .inl ⟨rfl, _, SqL.of hO⟩, ?_⟩
      refine ⟨_, rfl, rw, dx, _, rfl, hrw, rf_no (by decide +kernel), _, rfl, b, _, 0, _, rfl, rfl, SqT.of hb1, atI_nat (j := 0) rfl, Hb, rw, p, c, g, l, d, e, E, L, m, es, f', i, now0, _, rfl, B, S1, h02, h01, h03, fun j h1 h2 => val_mono B.val h1 h2, h04, fun H4 O4 f2 h1 h2 S4 o4 nO4 T4 st4 up4 => ?_⟩
      have hO4 := o4 _ _ hO bs.n1 bs.n2 bs.n3 bs.n4 bs.n5
      obtain ⟨zs, hZ, hzs⟩ := id T4
      have e2 := hzs.1
      have l2 := outsT_len (L := L) (es := es) (f := f') (g := f2)
      have tk4 := S1.tk o4
      have T5 : Trips (upd H4 O (.lst (vs ++ zs))) O (outsT L es 0 f2) := by
        rw [← outsT_app (Nat.zero_le _) h1]
        exact ⟨_, upd_same, (AllV.app (hvs.keep fun x v z => z.keep tk4) hzs).keep fun x v z => z.keep (tk_upd hO4)⟩
      have S5 := S4.updO (ws := vs ++ zs) bs hO4 nOb
      have o5 : Off5 p l d e E H (upd H4 O (.lst (vs ++ zs))) := fun b o hb n1 n2 n3 n4 n5 => by
        rw [upd_ne (ne_of_none hb nO)]
        exact o4 _ _ (o1 _ _ hb n1 n2 n3 n4 n5) n1 n2 n3 n4 n5
      refine ⟨O, O4, vs, zs, rfl, rfl, hO4, hZ, by rw [sizeLine_eq]; omega, ?_⟩
      generalize upd H4 O (.lst (vs ++ zs)) = H5 at T5 S5 o5 ⊢
      obtain ⟨dx5, hrw5⟩ := S5.ob
      obtain ⟨vs5, hO5, hvs5⟩ := id T5
      have e5 := hvs5.1
      have l5 := outsT_len (L := L) (es := es) (f := 0) (g := f2)
      have hb5 := S5.sb _ _ hb
      rw [eei] at hb5
      refine ⟨_, rfl, .inl ⟨rfl, _, SqL.of hO5⟩, ?_⟩
      refine ⟨_, rfl, rw, dx5, _, rfl, hrw5, rf_no (by decide +kernel), _, rfl, Hb, rw, p, c, g, l, d, e, E, b, L, m, es, f2, i, rfl, B, S5, hie, hb5, st4, up4, fun H6 O6 f3 h3 h4' S6 o6 nO6 T6 st6 up6 => ?_⟩
      have hO6 := o6 _ _ hO5 bs.n1 bs.n2 bs.n3 bs.n4 bs.n5
      obtain ⟨zs6, hZ6, hzs6⟩ := id T6
      have e6 := hzs6.1
      have l6 := outsT_len (L := L) (es := es) (f := f2) (g := f3)
      have tk6 := S5.tk o6
      have T7 : Trips (upd H6 O (.lst (vs5 ++ zs6))) O (outsT L es 0 f3) := by
        rw [← outsT_app (Nat.zero_le _) h3]
        exact ⟨_, upd_same, (AllV.app (hvs5.keep fun x v z => z.keep tk6) hzs6).keep fun x v z => z.keep (tk_upd hO6)⟩
      have S7 := S6.updO (ws := vs5 ++ zs6) bs hO6 nOb
      have o7 : Off5 p l d e E H (upd H6 O (.lst (vs5 ++ zs6))) := fun b o hb n1 n2 n3 n4 n5 => by
        rw [upd_ne (ne_of_none hb nO)]
        exact o6 _ _ (o5 _ _ hb n1 n2 n3 n4 n5) n1 n2 n3 n4 n5
      exact ⟨O, O6, vs5, zs6, rfl, rfl, hO6, hZ6, by rw [sizeLine_eq]; omega, f3, _, _, rfl, h4', S7, o7, T7, st6, fun j hj => val_mono B.val (by omega) hie, up6, .inr rfl⟩
    · obtain ⟨f', now, y3, rfl, hfi, S1, o1, T1, st1, hc1, up1, hn1⟩ := z
      rw [hlen] at hfi S1 st1 hc1 hn1
      exact ⟨_, rfl, q H1 O f' now hfi S1 o1 nO T1 st1 hc1 up1 hn1⟩
end
end K84

set_option Elab.async false
set_option linter.all false
set_option maxRecDepth 100000
set_option maxHeartbeats 8000000
namespace K84
open PySem PySem.Spec PyProof.Rows L2 Gd Rm La Cb Pl
section
variable {P : Program} {w : World} {K : PySem.W.Frag} {mg : Str → Option Value} {base : Heap}
def spRunOut (C C1 : Addr) : Sp := fun vs H Q _ => ∃ (Hb : Hp) (rw p c g l d e E : Addr) (L : List (List Actn)) (m : Nat) (es : List Ev) (f : Nat) (now : Int), vs = [.ref rw] ∧ Pb Hb c g L m es ∧ RSt C C1 Hb H rw p c l d e E L es f es.length ∧ Still L es f es.length now ∧ (∀ i, i < es.length → (evAt es i).t ≤ now) ∧ (∀ i, i < f → dnT L es i ≤ now) ∧
  ∀ (H' : Hp) (O : Addr), RSt C C1 Hb H' rw p c l d e E L es es.length es.length → Off5 p l d e E H H' → H O = none → Trips H' O (outsT L es f es.length) → Q (.ref O) H'
theorem ok_run_out (bt : Bt mg) {C C1 : Addr} (rp : Rp K C1) (a : At K mg "run_out" s_run_out ["machine"]) (c_due : ClM P w K mg base 3 C1 "due" (spDue C C1)) (c_clock : ClM P w K mg base 5 C1 "clock" (spClock C C1)) : Cl P w K mg base 6 "run_out" (spRunOut C C1) := by
  have cl_Row := rp.cl
  refine clG a sc_run_out (fun vs H Q E h => ?_) (fun ff cdv A outer s H vs Q hg hr h => ?_)
  · obtain ⟨Hb, rw, p, c, g, l, d, e, E, L, m, es, f, now, rfl, _⟩ := h
    rfl
  · obtain ⟨Hb, rw, p, c, g, l, d, e, E, L, m, es, f, now, rfl, B, S, st, hc1, hup, q⟩ := h
    refine ⟨_, (pss_cons (ps_set (i := 1) sc_run_out.nd rfl (Or.inl rfl) (pe_lst pa_nil))
      (pss_cons (ps_set (i := 2) sc_run_out.nd rfl (Or.inl rfl) (pe_clM0 c_due cl_Row hg hr (by decide) (pv 0)))
      (pss_cons (ps_while PassesOwn.never (pt_cmpR op_notN (pv 2) pe_non (nomark _)) (pss_cons (ps_expr (pe_bm PySem.F.plainAttrs_list PySem.F.slot_list_extend PySem.F.type_list_extend mt_extend (pv 1) (pa_cons (pe_clM c_clock cl_Row hg hr (by decide) (pv 0) (pa_cons (pv 2) pa_nil)) pa_nil)))
      (pss_one (ps_set (i := 2) sc_run_out.nd rfl (Or.inl rfl) (pe_clM0 c_due cl_Row hg hr (by decide) (pv 0))))))
      (pss_one (ps_ret (pv 1)))))), ?_⟩
    refine ⟨Nat.zero_le _, fun O nO => ?_⟩
    have kO := same_upd (o := .lst []) nO
    have h4 := B.len
    have S0 := S.same kO
    have bs := S.bes nO
    have nOb := hb_none S nO
    obtain ⟨dx0, hrw0⟩ := S0.ob
    refine ⟨_, rfl, rw, dx0, _, rfl, hrw0, rf_no (by decide +kernel), Hb, rw, p, c, g, l, d, e, E, L, m, es, f, es.length, now, rfl, B, S0, st, fun H1 s1 => ?_⟩
    refine ⟨fun n σ H' => ∃ (f' : Nat) (now' : Int), n = es.length - f' ∧ f ≤ f' ∧ σ = [some (.ref rw), some (.ref O), some (if f' = es.length then .non else .int ((evAt es f').t + timeOf (xAt L es f')))] ∧ RSt C C1 Hb H' rw p c l d e E L es f' es.length ∧ Off5 p l d e E H H' ∧ Trips H' O (outsT L es f f') ∧ Still L es f' es.length now' ∧ (∀ i, i < es.length → (evAt es i).t ≤ now') ∧ (∀ i, i < f' → dnT L es i ≤ now'),
      ⟨_, f, now, rfl, Nat.le_refl _, rfl, S0.same s1, Off5.of (kO.trans s1), ⟨[], s1 _ _ upd_same, by rw [outsT_nil]; exact AllV.nil⟩, st, hc1, hup⟩, fun n σ H2 z => ?_⟩
    obtain ⟨f', now', rfl, hff, rfl, S1, o1, T1, st1, hc1', up1⟩ := z
    have fk := S1.fk
    by_cases hf : f' = es.length
    · rw [if_pos hf]
      rw [hf] at T1 S1
      exact ⟨_, rfl, rfl, false, rfl, iteF ⟨_, rfl, q H2 O S1 o1 nO T1⟩⟩
    rw [if_neg hf]
    have hw : f' < es.length ∧ (evAt es f').d = true ∧ Waits L es f' es.length now' := by
      rcases st1 with h | h
      · exact absurd h hf
      · exact h
    obtain ⟨hfk, hd, hl, hwt, hnow⟩ := id hw
    refine ⟨_, rfl, rfl, true, rfl, iteT ⟨_, fun σ' H' z => z, ?_⟩⟩
    obtain ⟨dx, hrw⟩ := S1.ob
    obtain ⟨vs, hO, hvs⟩ := id T1
    refine ⟨_, rfl, .inl ⟨rfl, _, SqL.of hO⟩, ?_⟩
    refine ⟨_, rfl, rw, dx, _, rfl, hrw, rf_no (by decide +kernel), _, rfl, Hb, rw, p, c, g, l, d, e, E, L, m, es, f', es.length, now', _, rfl, B, S1, st1, by omega, hc1', fun i h1 h2 => by omega, up1, fun H4 O4 f2 h1 h2 S4 o4 nO4 T4 st4 up4 => ?_⟩
    have hO4 := o4 _ _ hO bs.n1 bs.n2 bs.n3 bs.n4 bs.n5
    obtain ⟨zs, hZ, hzs⟩ := id T4
    have e1 := hvs.1
    have e2 := hzs.1
    have l1 := outsT_len (L := L) (es := es) (f := f) (g := f')
    have l2 := outsT_len (L := L) (es := es) (f := f') (g := f2)
    have tk4 := S1.tk o4
    have T5 : Trips (upd H4 O (.lst (vs ++ zs))) O (outsT L es f f2) := by
      rw [← outsT_app hff h1]
      refine ⟨_, upd_same, (AllV.app (hvs.keep fun x v z => z.keep tk4) hzs).keep fun x v z => z.keep (tk_upd hO4)⟩
    have S5 := S4.updO (ws := vs ++ zs) bs hO4 nOb
    have o5 : Off5 p l d e E H (upd H4 O (.lst (vs ++ zs))) := fun b o hb n1 n2 n3 n4 n5 => by
      rw [upd_ne (ne_of_none hb nO)]
      exact o4 _ _ (o1 _ _ hb n1 n2 n3 n4 n5) n1 n2 n3 n4 n5
    refine ⟨O, O4, vs, zs, rfl, rfl, hO4, hZ, by rw [sizeLine_eq]; omega, ?_⟩
    generalize upd H4 O (.lst (vs ++ zs)) = H5 at T5 S5 o5 ⊢
    obtain ⟨dx5, hrw5⟩ := S5.ob
    have prog : f' < f2 := by
      rcases Nat.lt_or_ge f' f2 with y | y
      · exact y
      · have e : f2 = f' := by omega
        subst e
        rcases st4 with h | ⟨_, _, _, _, h⟩
        · exact absurd h hf
        · omega
    refine ⟨_, rfl, rw, dx5, _, rfl, hrw5, rf_no (by decide +kernel), Hb, rw, p, c, g, l, d, e, E, L, m, es, f2, es.length, _, rfl, B, S5, st4, fun H6 s6 => ⟨es.length - f2, by omega, f2, _, rfl, by omega, rfl, S5.same s6, o5.trans (Off5.of s6), T5.same s6, st4, fun i hi => by have := hc1' i hi; omega, up4⟩⟩
def spOutputs : Sp := fun vs H Q _ => ∃ (c g : Addr) (L : List (List Actn)) (m : Nat) (es : List Ev), vs = [.ref c, .ref g] ∧ Lay H c L ∧ LayOk L m ∧ Lst evV H g es ∧ Valid es ∧ es.length ≤ 400 ∧ (∀ e ∈ es, e.k < (m : Int)) ∧
  ∀ (H' : Hp) (D : Addr), Same H H' → H D = none → Trips H' D (outsT L es 0 es.length) → Q (.ref D) H'
theorem ok_outputs (bt : Bt mg) {C C1 : Addr} (cp : Cp K C) (rp : Rp K C1) (a : At K mg "outputs" s_outputs ["layout", "record"]) (c_check_playable : Cl P w K mg base 8 "check_playable" spPlayable) (c_Row : ClI P w K mg base 3 C1 "Row" (spRInit C C1)) (c_come_all : Cl P w K mg base 6 "come_all" (spComeAll C C1)) (c_run_out : Cl P w K mg base 6 "run_out" (spRunOut C C1)) : Cl P w K mg base 9 "outputs" spOutputs := by
  have cl_Row := rp.cl
  refine clG a sc_outputs (fun vs H Q E h => ?_) (fun ff cdv A outer s H vs Q hg hr h => ?_)
  · obtain ⟨c, g, L, m, es, rfl, _⟩ := h
    rfl
  · obtain ⟨c, g, L, m, es, rfl, hL, hO, hG, hV, h4, hkm, q⟩ := h
    refine ⟨_, (pss_cons (ps_expr (pe_cl c_check_playable hg hr (by decide) (by rfl) (pa_cons (pv 0) (pa_cons (pv 1) pa_nil))))
      (pss_cons (ps_set (i := 2) sc_outputs.nd rfl (Or.inl rfl) (pe_clI c_Row hg hr (by decide) (by rfl) (pa_cons (pv 0) pa_nil)))
      (pss_one (ps_ret (pe_op op_cat (pe_cl c_come_all hg hr (by decide) (by rfl) (pa_cons (pv 2) (pa_cons (pv 1) pa_nil))) (pe_cl c_run_out hg hr (by decide) (by rfl) (pa_cons (pv 2) pa_nil))))))), ?_⟩
    refine ⟨_, rfl, _, rfl, c, g, L, m, es, rfl, hL, hO, hG, hV, h4, hkm, fun H2 s2 => ?_⟩
    obtain ⟨as, hg2, hT2⟩ := hG.same s2
    have B : Pb H2 c g L m es := ⟨hL.same s2, hO, hG.same s2, hV, h4, hkm⟩
    obtain ⟨rs, hc, hR⟩ := B.lay
    have n6 := hO.n6
    have hrl : (rs.map V.ref).length = L.length := by rw [List.length_map]; exact hR.1
    refine ⟨_, rfl, fun rw_ dx nrw ndx hdx => ?_⟩
    have crw : c ≠ rw_ := ne_of_none hc nrw
    have cdx : c ≠ dx := ne_of_none hc ndx
    have s0 : Same H2 (upd (upd H2 dx (.own rw_)) rw_ (.ins C1 dx [])) := (same_upd ndx).trans (same_upd (by rw [upd_ne (Ne.symm hdx)]; exact nrw))
    refine ⟨rw_, dx, c, _, rfl, upd_same, by rw [upd_ne crw, upd_ne cdx]; exact hc, by omega, fun H3 p l d e E np nl nd ne nE El hP hE3 hr3 hoff => ⟨rfl, ?_⟩⟩
    rw [hrl] at hP
    have sb3 : Same H2 H3 := fun b o hb => hoff _ _ (s0 _ _ hb) (ne_of_none hb nrw)
    have rwp : rw_ ≠ p := fun z => by
      rw [← z, upd_same] at np
      cases np
    have S3 : RSt C C1 H2 H3 rw_ p c l d e E L es 0 0 := ⟨⟨dx, hr3⟩, hP, ⟨[], hE3, Tups.nil⟩, sb3, ⟨none_back s0 np, none_back s0 nl, none_back s0 nd, none_back s0 ne, none_back s0 nE⟩, El, rwp, Nat.le_refl _, Nat.zero_le _⟩
    refine ⟨_, rfl, _, rfl, H2, rw_, p, c, g, l, d, e, E, g, L, m, es, es.length, as, rfl, B, S3, Nat.le_refl _, hg2, by rw [List.take_length]; exact hT2, fun H5 O5 f5 now hf5 S5 o5 nO5 T5 st5 hc5 up5 hn5 => ?_⟩
    refine ⟨_, rfl, H2, rw_, p, c, g, l, d, e, E, L, m, es, f5, now, rfl, B, S5, st5, hc5, up5, fun H6 O6 S6 o6 nO6 T6 => ?_⟩
    have bs := S3.bes nO5
    obtain ⟨us, hU, hus⟩ := id T5
    obtain ⟨ws, hW, hws⟩ := id T6
    have hU6 := o6 _ _ hU bs.n1 bs.n2 bs.n3 bs.n4 bs.n5
    have tk6 := S5.tk o6
    have e1 := hus.1
    have e2 := hws.1
    have l1 := outsT_len (L := L) (es := es) (f := 0) (g := f5)
    have l2 := outsT_len (L := L) (es := es) (f := f5) (g := es.length)
    refine ⟨O5, O6, us, ws, rfl, rfl, hU6, hW, by rw [sizeLine_eq]; omega, fun D nD => ?_⟩
    have kD := same_upd (o := .lst (us ++ ws)) nD
    have st := s2.trans S6.sb
    refine q _ D (st.trans kD) (none_back st nD) ?_
    rw [← outsT_app (Nat.zero_le _) hf5]
    exact ⟨_, upd_same, (AllV.app (hus.keep fun x v z => z.keep tk6) hws).keep fun x v z => z.keep (Tk.of kD)⟩
end
/-! ### the displays of outputs with ticks -/
def tripD (x : Int × Outp) : PyData := .tuple (.int x.1 :: match x.2 with
  | .no => []
  | .pr c => [.str "press", .str c]
  | .re c => [.str "release", .str c])
theorem TripV.dp {K : PySem.W.Frag} {H : Hp} {x : Int × Outp} {v : V} (h : TripV H x v) : Dp K H v (tripD x) := by
  obtain ⟨T, rfl, hT⟩ := h
  obtain ⟨t, o⟩ := x
  cases o with
  | no => exact .tup (SqT.of hT) (.cons (.int _) .nil)
  | pr c => exact .tup (SqT.of hT) (.cons (.int _) (.cons (.str _) (.cons (.str _) .nil)))
  | re c => exact .tup (SqT.of hT) (.cons (.int _) (.cons (.str _) (.cons (.str _) .nil)))
theorem trip_eq (x : Int × Outp) : PyData.eqv (tripD x) (tripD x) = true := by
  obtain ⟨t, o⟩ := x
  cases o <;> simp [tripD, PyData.eqv, PyData.eqvAll]
theorem trips_eq : ∀ xs : List (Int × Outp), PyData.eqvAll (xs.map tripD) (xs.map tripD) = true
  | [] => rfl
  | x :: xs => by
    show (PyData.eqv (tripD x) (tripD x) && PyData.eqvAll (xs.map tripD) (xs.map tripD)) = true
    rw [trip_eq, trips_eq xs]; rfl
theorem tripsL_eq (xs : List (Int × Outp)) : PyData.eqv (.list (xs.map tripD)) (.list (xs.map tripD)) = true := trips_eq xs
theorem trips_lay : ∀ {xs : List (Int × Outp)}, (∀ x ∈ xs, OutOk x.2) → PyData.canLayAll0 (xs.map tripD) = true ∧ PyData.depthAll (xs.map tripD) ≤ 1
  | [], _ => ⟨rfl, Nat.zero_le _⟩
  | x :: xs, h => by
    obtain ⟨a, b⟩ := trips_lay (xs := xs) fun y hy => h y (List.mem_cons_of_mem _ hy)
    have hx := h x (List.mem_cons_self ..)
    obtain ⟨t, o⟩ := x
    have h1 : PyData.canLay0 (tripD (t, o)) = true := by
      cases o with
      | no => rfl
      | pr c => simp [tripD, PyData.canLay0, PyData.canLayAll0, (by decide +kernel : PyData.strOk "press" = true), strOk_code hx]
      | re c => simp [tripD, PyData.canLay0, PyData.canLayAll0, (by decide +kernel : PyData.strOk "release" = true), strOk_code hx]
    have h2 : PyData.depth (tripD (t, o)) ≤ 1 := by cases o <;> exact Nat.le_refl _
    refine ⟨?_, ?_⟩
    · show (PyData.canLay0 (tripD (t, o)) && PyData.canLayAll0 (xs.map tripD)) = true
      rw [h1, a]; rfl
    · show max (PyData.depth (tripD (t, o))) (PyData.depthAll (xs.map tripD)) ≤ 1
      omega
theorem trips_shaped {xs : List (Int × Outp)} (h : ∀ x ∈ xs, OutOk x.2) : SeqAt.shaped (.list (xs.map tripD)) = true := by
  obtain ⟨a, b⟩ := trips_lay h
  show (PyData.canLayAll0 (xs.map tripD) && decide (PyData.depthAll (xs.map tripD) + 1 ≤ 64)) = true
  rw [a, decide_eq_true (by omega)]
  rfl
theorem Trips.dp {K : PySem.W.Frag} {H : Hp} {D : Addr} {xs : List (Int × Outp)} (h : Trips H D xs) : Dp K H (.ref D) (.list (xs.map tripD)) := by
  obtain ⟨vs, a, b⟩ := h
  exact .lst (SqL.of a) (b.dp fun x v z => z.dp)
theorem outsT_ok {L : List (List Actn)} {es : List Ev} {m : Nat} (hO : LayOk L m) (hV : Valid es) (hk : ∀ e ∈ es, e.k < (m : Int)) {f g : Nat} (hg : g ≤ es.length) : ∀ x ∈ outsT L es f g, OutOk x.2 := fun x hx => by
  unfold outsT at hx
  obtain ⟨i, hi, rfl⟩ := List.mem_map.mp hx
  have hi := (List.mem_filter.mp hi).1
  obtain ⟨j, hj, rfl⟩ := List.mem_range'.mp hi
  exact outM_ok hO hV hk (by omega)
end K84

set_option Elab.async false
set_option linter.all false
set_option maxRecDepth 100000
set_option maxHeartbeats 8000000
namespace K84
open PySem PySem.Spec PyProof.Rows L2 Gd Rm La Cb Pl
section
variable {P : Program} {w : World} {K : PySem.W.Frag} {mg : Str → Option Value} {base : Heap}
def onLs (s : Sm) (n : Nat) : List Int := ((List.range n).filter (onL s)).map fun i : Nat => (i : Int)
def spOnLs (C : Addr) : Sp := fun vs H Q _ => ∃ (p c l d e : Addr) (n : Nat) (s : Sm) (m : Int) (xs : List V), vs = [.ref p] ∧ PAt C H p c l d e n s ∧ H c = some (.lst xs) ∧ xs.length = s.lk.length ∧ xs.length ≤ 6 ∧ BdsOk m s.bd ∧ s.bd.length ≤ 1000 ∧
  ∀ (H' : Hp) (D : Addr), Same H H' → H D = none → H' D = some (.lst ((onLs s s.lk.length).map V.int)) → Q (.ref D) H'
theorem ok_on_layers (bt : Bt mg) {C : Addr} (cp : Cp K C) (a : AtM K C "on_layers" "Player.on_layers" s_on_layers ["self"]) (c_is_on : ClM P w K mg base 1 C "is_on" (spOn C)) : ClM P w K mg base 2 C "on_layers" (spOnLs C) := by
  have cl_Player := cp.cl
  refine clMG a sc_on_layers (fun vs H Q E h => ?_) (fun f cdv A outer s H vs Q hg hr h => ?_)
  · obtain ⟨p, c, l, d, e, n, s, m, xs, rfl, _⟩ := h
    rfl
  · obtain ⟨p, c, l, d, e, n, s, m, xs, rfl, hP, hc, hxl, hx6, hB, hbl, q⟩ := h
    refine ⟨_, (pss_one (ps_ret (pe_lc (own := [("layer", 1)]) (g := (gName 1)) (by rfl) sc_on_layers.nd (pi_range1 (by rfl) bt.m_range (pa_cons (pe_callB call_len_seq (by rfl) bt.m_len (by decide +kernel) (pa_cons (pe_fld (pv 0) rfl) pa_nil)) pa_nil)) (blkOk_by (N := n_on_layers) (sc := defScope s_on_layers) (by decide +kernel)) (fun _ _ _ _ _ => (pg_name (i := 1) sc_on_layers.nd rfl (Or.inl rfl))) (fun _ _ _ _ _ => (pts_one (pt_val (pe_clM c_is_on cl_Player hg hr (by decide) (pv 0) (pa_cons (pv 1) pa_nil))))) (fun _ _ _ _ _ => (pv 1))))), ?_⟩
    obtain ⟨dx, hp⟩ := hP.ob
    refine ⟨_, rfl, p, C, dx, _, _, rfl, hp, cp.cl, cp.n1, f_lay, c, xs, rfl, .inl (SqL.of hc), xs.length, rfl, by omega, by omega, fun M nM => lc_it walk_range (fun j H' => Same H H' ∧ H' M = some (.lst ((onLs s j).map V.int))) ⟨same_upd nM, upd_same⟩ (fun _ _ _ _ => True.intro) (fun j x Hx Hy hj z y => ?_) (fun H2 z => ?_)⟩
    · obtain ⟨sx, hM⟩ := z
      obtain ⟨rfl, ex⟩ := y
      have ex : x = .int (j : Nat) := ex.trans (congrArg V.int (Int.zero_add _))
      subst ex
      have hj' : j < s.lk.length := by omega
      have okl : (onLs s j).length ≤ 6 := by
        unfold onLs
        rw [List.length_map]
        exact Nat.le_trans (List.length_filter_le ..) (by rw [List.length_range]; omega)
      refine ⟨rfl, _, rfl, p, dx, _, rfl, sx _ _ hp, f_no (by decide +kernel), _, rfl, p, c, l, d, e, n, s, m, j, rfl, hP.same sx, hB, hj', hbl, fun H3 s3 => ⟨_, rfl, ?_⟩⟩
      have hM3 := s3 _ _ hM
      have s4 := sx.trans s3
      have eo : onLs s (j + 1) = onLs s j ++ if onL s j = true then [(j : Int)] else [] := by
        unfold onLs
        rw [List.range_succ, List.filter_append, List.map_append]
        cases ho : onL s j with
        | true => rw [List.filter_cons_of_pos ho]; rfl
        | false => rw [List.filter_cons_of_neg (by rw [ho]; decide)]; rfl
      rw [eo]
      cases ho : onL s j with
      | true =>
        refine iteT ⟨_, rfl, _, hM3, small1000 (by rw [List.length_map]; omega), Same.off s4 nM off_upd, ?_⟩
        rw [upd_same, if_pos rfl, List.map_append]
        rfl
      | false =>
        refine iteF ⟨s4, ?_⟩
        rw [if_neg (by decide), List.append_nil]
        exact hM3
    · obtain ⟨sx, hM⟩ := z
      rw [Int.toNat_natCast, hxl] at hM
      exact q _ M sx nM hM
def spLayersOn (C : Addr) : Sp := fun vs H Q _ => ∃ (c g : Addr) (L : List (List Actn)) (m : Nat) (es : List Ev), vs = [.ref c, .ref g] ∧ Lay H c L ∧ LayOk L m ∧ Lst evV H g es ∧ Valid es ∧ es.length ≤ 400 ∧ (∀ e ∈ es, e.k < (m : Int)) ∧
  ∀ (H' : Hp) (D : Addr), Same H H' → H D = none → H' D = some (.lst ((onLs (runS L es es.length) L.length).map V.int)) → Q (.ref D) H'
theorem ok_layers_on (bt : Bt mg) {C : Addr} (cp : Cp K C) (a : At K mg "layers_on" s_layers_on ["layout", "record"]) (c_check_playable : Cl P w K mg base 8 "check_playable" spPlayable) (c_play : Cl P w K mg base 3 "play" (spPlay C)) (c_on_layers : ClM P w K mg base 2 C "on_layers" (spOnLs C)) : Cl P w K mg base 9 "layers_on" (spLayersOn C) := by
  have cl_Player := cp.cl
  refine clG a sc_layers_on (fun vs H Q E h => ?_) (fun f cdv A outer s H vs Q hg hr h => ?_)
  · obtain ⟨c, g, L, m, es, rfl, _⟩ := h
    rfl
  · obtain ⟨c, g, L, m, es, rfl, hL, hO, hG, hV, h4, hkm, q⟩ := h
    refine ⟨_, (pss_cons (ps_expr (pe_cl c_check_playable hg hr (by decide) (by rfl) (pa_cons (pv 0) (pa_cons (pv 1) pa_nil))))
      (pss_cons (ps_asg (pe_cl c_play hg hr (by decide) (by rfl) (pa_cons (pv 0) (pa_cons (pv 1) pa_nil))) (pg_tup rfl (pgs_cons (pg_name (i := 2) sc_layers_on.nd rfl (Or.inl rfl)) (pgs_cons (pg_name (i := 3) sc_layers_on.nd rfl (Or.inl rfl)) pgs_nil))))
      (pss_one (ps_ret (pe_clM0 c_on_layers cl_Player hg hr (by decide) (pv 2)))))), ?_⟩
    refine ⟨_, rfl, _, rfl, c, g, L, m, es, rfl, hL, hO, hG, hV, h4, hkm, fun H1 s1 => ?_⟩
    refine ⟨_, rfl, _, rfl, c, g, L, m, es, rfl, hL.same s1, hO, hG.same s1, hV, h4, hkm, fun H2 T p l d e W s2 hT hP hW => ?_⟩
    have s12 := s1.trans s2
    obtain ⟨rs, hc, hR⟩ := hL.same s12
    obtain ⟨dx, hp⟩ := hP.ob
    have hS := runS_ok hO hV hkm es.length (Nat.le_refl _)
    have n6 := hO.n6
    have hrl : (rs.map V.ref).length = L.length := by rw [List.length_map]; exact hR.1
    refine ⟨T, _, rfl, SqT.of hT, rfl, _, _, rfl, _, _, rfl, rfl, ?_⟩
    refine ⟨_, rfl, p, dx, _, rfl, hp, f_no (by decide +kernel), p, c, l, d, e, es.length, runS L es es.length, L.length, rs.map V.ref, rfl, hP, hc, by rw [hS.lk]; exact hrl, by omega, hS.bds, by have := hS.len; omega, fun H3 D s3 nD hD => ?_⟩
    rw [hS.lk] at hD
    exact q _ D (s12.trans s3) (none_back s12 nD) hD
end
end K84

set_option Elab.async false
set_option linter.all false
set_option maxRecDepth 100000
set_option maxHeartbeats 8000000
namespace K84
open PySem PySem.Spec PyProof.Rows L2 Gd Rm La Cb Pl
section
variable {α : Type} {R : Hp → α → V → Prop} {H H' : Hp} {vs : List V} {xs : List α} {D : Addr}
end
/-- what a press means -/
def MeanV (H : Hp) (t : Td) (v : V) : Prop := match t with
  | .up => v = .non
  | .dn l kind what _ => ∃ M u, v = .ref M ∧ H M = some (.tup [.int (l : Int), .str kind, u]) ∧ ActV H what u
theorem MeanV.keep {H H' : Hp} {t : Td} {v : V} (h : MeanV H t v) (k : Tk H H') : MeanV H' t v := by
  cases t with
  | up => exact h
  | dn l kind what sure =>
    obtain ⟨M, u, h2, h3, h4⟩ := h
    exact ⟨M, u, h2, k _ _ h3, h4.keep k⟩
def meanD : Td → PyData
  | .up => .none
  | .dn l kind what _ => .tuple [.int (l : Int), .str kind, actD what]
theorem MeanV.dp {K : PySem.W.Frag} {H : Hp} {t : Td} {v : V} (h : MeanV H t v) : Dp K H v (meanD t) := by
  cases t with
  | up => cases h; exact .non
  | dn l kind what sure =>
    obtain ⟨M, u, rfl, h3, h4⟩ := h
    exact .tup (SqT.of h3) (.cons (.int _) (.cons (.str _) (.cons h4.dp .nil)))
def tdsM (L : List (List Actn)) (es : List Ev) (n : Nat) : List Td := (List.range n).map (runT L es)
theorem tdsM_succ {L : List (List Actn)} {es : List Ev} {n : Nat} : tdsM L es (n + 1) = tdsM L es n ++ [runT L es n] := by
  unfold tdsM
  rw [List.range_succ, List.map_append]
  rfl
theorem tdsM_len {L : List (List Actn)} {es : List Ev} {n : Nat} : (tdsM L es n).length = n := by unfold tdsM; rw [List.length_map, List.length_range]
def TdOk (n : Nat) : Td → Prop
  | .up => True
  | .dn l kind what _ => l < n ∧ (kind = ("plain" : String) ∨ kind = ("tap" : String) ∨ kind = ("hold" : String)) ∧ DoOk n what
theorem runT_ok {L : List (List Actn)} {es : List Ev} {m : Nat} (hO : LayOk L m) (hV : Valid es) (hk : ∀ e ∈ es, e.k < (m : Int)) {i : Nat} (hi : i < es.length) : TdOk L.length (runT L es i) := by
  have e := evAt_eq hi
  rcases Bool.eq_false_or_eq_true (evAt es i).d with hd | hd
  · rw [runT_dn hd]
    have k0 := (hV i _ (List.getElem?_eq_getElem hi)).1
    have k1 := hk _ (List.getElem_mem hi)
    obtain ⟨t1, t2, t3⟩ := taken_ok hO (runS L es i) (k := (evAt es i).k.toNat) (by rw [e]; omega)
    refine ⟨t1, ?_, what_do (es := es) (j := i) (n := L.length) (x := xAt L es i) t2 t3⟩
    rcases kind_or (es := es) (j := i) (x := xAt L es i) with h | ⟨_, h⟩
    · exact .inl h
    · exact .inr h
  · rw [runT_up hd]; trivial
theorem tdsM_ok {L : List (List Actn)} {es : List Ev} {m : Nat} (hO : LayOk L m) (hV : Valid es) (hk : ∀ e ∈ es, e.k < (m : Int)) : ∀ t ∈ tdsM L es es.length, TdOk L.length t := fun o ho => by
  unfold tdsM at ho
  obtain ⟨i, hi, rfl⟩ := List.mem_map.mp ho
  exact runT_ok hO hV hk (List.mem_range.mp hi)
theorem fit_mean {n : Nat} {t : Td} (h : TdOk n t) (hn : n ≤ 6) : Fit 10000 3 (meanD t) := by
  cases t with
  | up => exact (fit_none).mono (by decide) (by decide)
  | dn l kind what sure =>
    obtain ⟨h1, h2, h3⟩ := h
    refine Fit.mono (fit_tup (L := 3000) (n := 2) fun d hd => ?_) (by show 3 * 3002 + 3 ≤ 10000; decide) (Nat.le_refl _)
    simp only [List.mem_cons, List.mem_nil_iff, or_false] at hd
    rcases hd with rfl | rfl | rfl
    · exact (fit_low (by omega) (by omega)).mono (by decide) (by decide)
    · have : Fit 210 0 (.str kind) := by
        rcases h2 with rfl | rfl | rfl
        · exact fit_const "plain"
        · exact fit_const "tap"
        · exact fit_const "hold"
      exact this.mono (by decide) (by decide)
    · exact fit_act h3.act (by omega)
theorem fit_means {n : Nat} {ts : List Td} (h : ∀ t ∈ ts, TdOk n t) (hn : n ≤ 6) (hl : ts.length ≤ 400) : Fit 5000000 5 (.list (ts.map meanD)) := by
  refine Fit.mono (fit_list (L := 10000) (n := 3) fun d hd => ?_) (by rw [List.length_map]; omega) (by decide)
  obtain ⟨o, ho, rfl⟩ := List.mem_map.mp hd
  exact fit_mean (h o ho) hn
def Means (H : Hp) (D : Addr) (ts : List Td) : Prop := ∃ vs, H D = some (.lst vs) ∧ AllV MeanV H vs ts
theorem Means.same {H H' : Hp} {D : Addr} {ts : List Td} (h : Means H D ts) (s : Same H H') : Means H' D ts := by
  obtain ⟨vs, a, b⟩ := h
  exact ⟨vs, s _ _ a, b.keep fun x v z => z.keep (Tk.of s)⟩
theorem Means.dp {K : PySem.W.Frag} {H : Hp} {D : Addr} {ts : List Td} (h : Means H D ts) : Dp K H (.ref D) (.list (ts.map meanD)) := by
  obtain ⟨vs, a, b⟩ := h
  exact .lst (SqL.of a) (b.dp fun x v z => z.dp)
section
variable {P : Program} {w : World} {K : PySem.W.Frag} {mg : Str → Option Value} {base : Heap}
def spMeanings : Sp := fun vs H Q _ => ∃ (c g : Addr) (L : List (List Actn)) (m : Nat) (es : List Ev), vs = [.ref c, .ref g] ∧ Lay H c L ∧ LayOk L m ∧ Lst evV H g es ∧ Valid es ∧ es.length ≤ 400 ∧ (∀ e ∈ es, e.k < (m : Int)) ∧
  ∀ (H' : Hp) (D : Addr), Same H H' → H D = none → Means H' D (tdsM L es es.length) → Q (.ref D) H'
theorem ok_meanings (bt : Bt mg) {C : Addr} (a : At K mg "meanings" s_meanings ["layout", "record"]) (c_check_playable : Cl P w K mg base 8 "check_playable" spPlayable) (c_play : Cl P w K mg base 3 "play" (spPlay C)) : Cl P w K mg base 9 "meanings" spMeanings := by
  refine clG a sc_meanings (fun vs H Q E h => ?_) (fun f cdv A outer s H vs Q hg hr h => ?_)
  · obtain ⟨c, g, L, m, es, rfl, _⟩ := h
    rfl
  · obtain ⟨c, g, L, m, es, rfl, hL, hO, hG, hV, h4, hkm, q⟩ := h
    refine ⟨_, (pss_cons (ps_expr (pe_cl c_check_playable hg hr (by decide) (by rfl) (pa_cons (pv 0) (pa_cons (pv 1) pa_nil))))
      (pss_cons (ps_asg (pe_cl c_play hg hr (by decide) (by rfl) (pa_cons (pv 0) (pa_cons (pv 1) pa_nil))) (pg_tup rfl (pgs_cons (pg_name (i := 2) sc_meanings.nd rfl (Or.inl rfl)) (pgs_cons (pg_name (i := 3) sc_meanings.nd rfl (Or.inl rfl)) pgs_nil))))
      (pss_one (ps_ret (pe_lc (own := [("meaning", 4), ("sure", 5), ("output", 6)]) (g := (gTup K 3 (gCons (gName 4) (gCons (gName 5) (gCons (gName 6) gNil))))) (by rfl) sc_meanings.nd (pi_list (pv 3)) (blkOk_by (N := n_meanings) (sc := defScope s_meanings) (by decide +kernel)) (fun _ _ _ _ _ => (pg_tup rfl (pgs_cons (pg_name (i := 4) sc_meanings.nd rfl (Or.inl rfl)) (pgs_cons (pg_name (i := 5) sc_meanings.nd rfl (Or.inl rfl)) (pgs_cons (pg_name (i := 6) sc_meanings.nd rfl (Or.inl rfl)) pgs_nil))))) (fun _ _ _ _ _ => pts_nil) (fun _ _ _ _ _ => (pv 4))))))), ?_⟩
    refine ⟨_, rfl, _, rfl, c, g, L, m, es, rfl, hL, hO, hG, hV, h4, hkm, fun H1 s1 => ?_⟩
    refine ⟨_, rfl, _, rfl, c, g, L, m, es, rfl, hL.same s1, hO, hG.same s1, hV, h4, hkm, fun H2 T p l d e W s2 hT hP hW => ?_⟩
    obtain ⟨Ts, w1, w2, w3⟩ := hW
    have s12 := s1.trans s2
    refine ⟨T, _, rfl, SqT.of hT, rfl, _, _, rfl, _, _, rfl, rfl, ?_⟩
    refine ⟨_, rfl, W, rfl, ⟨_, SqL.of w1⟩, fun M nM => lc_it (walk_list (xs := Ts.map V.ref)) (fun j H' => Same H2 H' ∧ ∃ vs, H' M = some (.lst vs) ∧ AllV MeanV H' vs (tdsM L es j)) ⟨same_upd nM, [], upd_same, AllV.nil⟩ (fun j H' _ p => SqL.of (p.1 _ _ w1)) (fun j x Hx Hy hj p y => ?_) (fun H3 p => ?_)⟩
    · obtain ⟨sx, vs, hM, hvs⟩ := p
      obtain ⟨rfl, hx⟩ := y
      have hj' : j < Ts.length := by rw [List.length_map] at hj; exact hj
      have hTj : Ts[j]? = some Ts[j] := List.getElem?_eq_getElem hj'
      have ex : V.ref Ts[j] = x := Option.some.inj ((get_map_ref hTj).symm.trans hx)
      subst ex
      obtain ⟨mv, sv, ov, f1, f2, f3⟩ := w3 j _ hTj
      have hvl := hvs.1
      rw [tdsM_len] at hvl
      have fm : MeanV H2 (runT L es j) mv := by
        cases e : runT L es j with
        | up => rw [e] at f2; exact f2.1
        | dn l kind what sure => rw [e] at f2; exact f2.2
      refine ⟨Ts[j], _, rfl, SqT.of (sx _ _ f1), rfl, _, _, rfl, _, _, rfl, _, _, rfl, rfl, ?_⟩
      refine ⟨rfl, ⟨_, rfl, vs, hM, small1000 (by omega), Same.off sx nM off_upd, vs ++ [mv], upd_same, ?_⟩⟩
      rw [tdsM_succ]
      exact (hvs.snoc (fm.keep (Tk.of sx))).keep fun x v z => z.keep (tk_upd hM)
    · obtain ⟨sx, vs, hM, hvs⟩ := p
      have en : (Ts.map V.ref).length = es.length := by rw [List.length_map]; exact w2
      rw [en] at hvs
      exact q _ M (s12.trans sx) (none_back s12 nM) ⟨vs, hM, hvs⟩
end
end K84

set_option Elab.async false
set_option linter.all false
set_option maxRecDepth 100000
set_option maxHeartbeats 8000000
namespace K84
open PySem PySem.Spec PyProof.Rows L2 Gd Rm La Cb Pl
/-! ### two runs that agree -/
theorem dnT_zero {L : List (List Actn)} {es : List Ev} (h : 0 < es.length) : dnT L es 0 = later (evAt es 0).t (decD L es 0) := by
  show later (evAt es 0).t ((decL L es es.length).getD 0 none) = _
  rw [decL_at h]
theorem dnT_next {L : List (List Actn)} {es : List Ev} {i : Nat} (h : i + 1 < es.length) : dnT L es (i + 1) = if dnT L es i > later (evAt es (i + 1)).t (decD L es (i + 1)) then dnT L es i else later (evAt es (i + 1)).t (decD L es (i + 1)) := by
  show (if dnF es (decL L es es.length) i > later (evAt es (i + 1)).t ((decL L es es.length).getD (i + 1) none) then _ else _) = _
  rw [decL_at h]
  rfl
end K84

set_option Elab.async false
set_option linter.all false
set_option maxRecDepth 100000
set_option maxHeartbeats 8000000
namespace K84
open PySem PySem.Spec PyProof.Rows L2 Gd Rm La Cb Pl
/-! ### layouts and records that are led over -/
def spI (q : Nat) (i : Int) : Int := if i < q then i else i + 1
def spN (q : Nat) (i : Nat) : Nat := if i < q then i else i + 1
theorem spIN {q i : Nat} : spI q (i : Int) = ((spN q i : Nat) : Int) := by
  unfold spI spN
  by_cases h : i < q
  · rw [if_pos (by omega), if_pos h]
  · rw [if_neg (by omega), if_neg h]; rfl
theorem spI_inj {q : Nat} {a b : Int} : spI q a = spI q b ↔ a = b := by
  unfold spI
  constructor
  · intro h; split at h <;> split at h <;> omega
  · intro h; rw [h]
theorem spN_inj {q a b : Nat} : spN q a = spN q b ↔ a = b := by
  unfold spN
  constructor
  · intro h; split at h <;> split at h <;> omega
  · intro h; rw [h]
theorem spN_zero {q : Nat} (h : 1 ≤ q) : spN q 0 = 0 := if_pos h
theorem spI_zero {q : Nat} (h : 1 ≤ q) : spI q 0 = 0 := if_pos (by omega)
theorem spI_nat {q : Nat} {j : Int} (h : 0 ≤ j) : (spI q j).toNat = spN q j.toNat ∧ spI q j = ((spN q j.toNat : Nat) : Int) := by
  have e : spI q j = ((spN q j.toNat : Nat) : Int) := by rw [← spIN, Int.toNat_of_nonneg h]
  exact ⟨by rw [e]; rfl, e⟩
def led (q : Nat) (cm : Str → Str) (f : Int) : Actn → Actn
  | .none => .none
  | .thr => .thr
  | .code c => .code (cm c)
  | .lay w j => .lay w (spI q j)
  | .dualC c d t r => .dualC (cm c) (cm d) (t * f) r
  | .dualL c j t r => .dualL (cm c) (spI q j) (t * f) r
def evM (f s : Int) (km : Int → Int) (e : Ev) : Ev := ⟨e.t * f + s, km e.k, e.d⟩
structure Sim (L L' : List (List Actn)) (m q : Nat) (cm : Str → Str) (f : Int) (km : Int → Int) : Prop where
  q1 : 1 ≤ q
  f0 : 0 < f
  at_ : ∀ i k : Nat, i < L.length → k < m → actAt L' (spN q i) (km k).toNat = led q cm f (actAt L i k)
  lo : q < L.length → L'.length = L.length + 1
  hi : L.length ≤ q → L.length ≤ L'.length
  inj : ∀ a b : Int, 0 ≤ a → a < m → 0 ≤ b → b < m → km a = km b → a = b
theorem filt_sp {q n n' : Nat} {p p' : Nat → Bool} (lo : q < n → n' = n + 1) (hi : n ≤ q → n ≤ n') (h : ∀ i, i < n → p' (spN q i) = p i) (h0 : ∀ i', i' < n' → (∀ i, i < n → spN q i ≠ i') → p' i' = false) : (List.range n').filter p' = ((List.range n).filter p).map (spN q) := by
  have one : ∀ k, k < n → [spN q k].filter p' = ([k].filter p).map (spN q) := fun k hk => by
    have e := h k hk
    cases hp : p k with
    | true => rw [List.filter_cons_of_pos (by rw [e]; exact hp), List.filter_cons_of_pos hp]; rfl
    | false => rw [List.filter_cons_of_neg (by rw [e, hp]; decide), List.filter_cons_of_neg (by rw [hp]; decide)]; rfl
  have key : ∀ k, k ≤ n → (List.range (if q < k then k + 1 else k)).filter p' = ((List.range k).filter p).map (spN q) := fun k => by
    induction k with
    | zero => exact fun _ => by rw [if_neg (by omega)]; rfl
    | succ k ih =>
      intro hk
      have ih := ih (by omega)
      have o := one k (by omega)
      rw [List.range_succ (n := k), List.filter_append, List.map_append, ← o]
      rcases Nat.lt_trichotomy q k with z | z | z
      · rw [if_pos (by omega)]
        rw [if_pos z] at ih
        have e : spN q k = k + 1 := if_neg (by omega)
        rw [e, List.range_succ, List.filter_append, ih]
      · subst z
        rw [if_pos (by omega)]
        rw [if_neg (by omega)] at ih
        have e : spN q q = q + 1 := if_neg (by omega)
        have n0 : p' q = false := h0 q (by have := lo (by omega); omega) fun i _ => by unfold spN; split <;> omega
        rw [e, List.range_succ, List.range_succ, List.filter_append, List.filter_append, ih, List.filter_cons_of_neg (p := p') (a := q) (by rw [n0]; decide), List.filter_nil, List.append_nil]
      · rw [if_neg (by omega)]
        rw [if_neg (by omega)] at ih
        have e : spN q k = k := if_pos z
        rw [e, List.range_succ, List.filter_append, ih]
  have kn := key n (Nat.le_refl _)
  rcases Nat.lt_or_ge q n with z | z
  · rw [if_pos z] at kn
    rw [lo z]
    exact kn
  · rw [if_neg (by omega)] at kn
    obtain ⟨d, rfl⟩ : ∃ d, n' = n + d := ⟨n' - n, by have := hi z; omega⟩
    rw [List.range_add, List.filter_append, kn]
    have e : ((List.range d).map fun x => n + x).filter p' = [] := List.filter_eq_nil_iff.mpr fun a ha => by
      obtain ⟨j, hj, rfl⟩ := List.mem_map.mp ha
      have := List.mem_range.mp hj
      rw [h0 (n + j) (by omega) fun i hi' => by unfold spN; rw [if_pos (by omega)]; omega]
      decide
    rw [e, List.append_nil]
/-! ### the bound keys -/
section
variable {q : Nat} {cm : Str → Str} {f : Int} {km : Int → Int} {m : Nat}
def bdM (q : Nat) (cm : Str → Str) (f : Int) (km : Int → Int) (bd : Bd0) : Bd0 := bd.map fun p => (km p.1, led q cm f p.2)
theorem bd_any {k : Int} : ∀ {bd : Bd0}, (∀ p ∈ bd, km p.1 = km k ↔ p.1 = k) → ((bdM q cm f km bd).any fun p => decide (p.1 = km k)) = bd.any fun p => decide (p.1 = k)
  | [], _ => rfl
  | p :: r, h => by
    have ih := bd_any (bd := r) fun p hp => h p (List.mem_cons_of_mem _ hp)
    show (decide (km p.1 = km k) || (bdM q cm f km r).any _) = (decide (p.1 = k) || r.any _)
    rw [ih, decide_eq_decide.mpr (h p List.mem_cons_self)]
theorem bd_put {k : Int} {x : Actn} {bd : Bd0} (h : ∀ p ∈ bd, km p.1 = km k ↔ p.1 = k) : putB (bdM q cm f km bd) (km k) (led q cm f x) = bdM q cm f km (putB bd k x) := by
  unfold putB
  rw [bd_any h]
  split
  · unfold bdM
    rw [List.map_map, List.map_map]
    refine List.map_congr_left fun p hp => ?_
    show (if km p.1 = km k then (km p.1, led q cm f x) else (km p.1, led q cm f p.2)) = (km (if p.1 = k then (p.1, x) else p).1, led q cm f (if p.1 = k then (p.1, x) else p).2)
    by_cases z : p.1 = k
    · rw [if_pos ((h p hp).mpr z), if_pos z]
    · rw [if_neg (fun y => z ((h p hp).mp y)), if_neg z]
  · unfold bdM
    rw [List.map_append]
    rfl
theorem bd_drop {k : Int} : ∀ {bd : Bd0}, (∀ p ∈ bd, km p.1 = km k ↔ p.1 = k) → dropB (bdM q cm f km bd) (km k) = bdM q cm f km (dropB bd k)
  | [], _ => rfl
  | p :: r, h => by
    have ih := bd_drop (bd := r) fun p hp => h p (List.mem_cons_of_mem _ hp)
    have hp := h p List.mem_cons_self
    unfold dropB bdM at *
    rw [List.map_cons]
    by_cases z : p.1 = k
    · rw [List.filter_cons_of_neg (by simp [hp.mpr z]), List.filter_cons_of_neg (by simp [z])]
      exact ih
    · have z2 : ¬ km p.1 = km k := fun y => z (hp.mp y)
      rw [List.filter_cons_of_pos (by simp [z2]), List.filter_cons_of_pos (by simp [z]), List.map_cons, ih]
theorem bd_get {k : Int} : ∀ {bd : Bd0}, (∀ p ∈ bd, km p.1 = km k ↔ p.1 = k) → getB (bdM q cm f km bd) (km k) = (getB bd k).map (led q cm f)
  | [], _ => rfl
  | p :: r, h => by
    have ih := bd_get (bd := r) fun p hp => h p (List.mem_cons_of_mem _ hp)
    have hp := h p List.mem_cons_self
    unfold getB bdM at *
    rw [List.map_cons]
    by_cases z : p.1 = k
    · rw [List.find?_cons_of_pos (by simp [hp.mpr z]), List.find?_cons_of_pos (by simp [z])]
      rfl
    · have z2 : ¬ km p.1 = km k := fun y => z (hp.mp y)
      rw [List.find?_cons_of_neg (by simp [z2]), List.find?_cons_of_neg (by simp [z])]
      exact ih
end
/-! ### the states -/
structure SR (n n' m q : Nat) (cm : Str → Str) (f : Int) (km : Int → Int) (s s' : Sm) : Prop where
  lk : ∀ i, i < n → s'.lk.getD (spN q i) false = s.lk.getD i false
  lk0 : ∀ i', i' < n' → (∀ i, i < n → spN q i ≠ i') → s'.lk.getD i' false = false
  on : s'.on = spI q s.on
  on0 : 0 ≤ s.on
  on1 : s.on < n
  bd : s'.bd = bdM q cm f km s.bd
  key : ∀ p ∈ s.bd, 0 ≤ p.1 ∧ p.1 < m
  bok : ∀ p ∈ s.bd, BdOk n p.2
  l1 : s.lk.length = n
  l2 : s'.lk.length = n'
section
variable {n n' m q : Nat} {cm : Str → Str} {f : Int} {km : Int → Int} {s s' : Sm} {L L' : List (List Actn)}
theorem SR.onL_eq (h : SR n n' m q cm f km s s') (q1 : 1 ≤ q) {i : Nat} (hi : i < n) : onL s' (spN q i) = onL s i := by
  unfold onL
  have e1 : decide (spN q i = 0) = decide (i = 0) := decide_eq_decide.mpr (by have := spN_zero q1; have e := spN_inj (q := q) (a := i) (b := 0); rw [this] at e; exact e)
  have e2 : decide (s'.on = ((spN q i : Nat) : Int)) = decide (s.on = (i : Int)) := decide_eq_decide.mpr (by rw [h.on, ← spIN]; exact spI_inj)
  have e3 : (s'.bd.any fun p => isLay ((spN q i : Nat) : Int) p.2) = s.bd.any fun p => isLay (i : Int) p.2 := by
    rw [h.bd]
    unfold bdM
    rw [List.any_map]
    refine congrArg (fun g => s.bd.any g) (funext fun p => ?_)
    show isLay ((spN q i : Nat) : Int) (led q cm f p.2) = isLay (i : Int) p.2
    cases p.2 with
    | lay w j =>
      show (decide _ && decide (spI q j = ((spN q i : Nat) : Int))) = (decide _ && decide (j = (i : Int)))
      rw [← spIN, decide_eq_decide.mpr (spI_inj (q := q) (a := j) (b := (i : Int)))]
    | _ => rfl
  rw [e1, h.lk i hi, e2, e3]
theorem SR.onL_no (h : SR n n' m q cm f km s s') (q1 : 1 ≤ q) (n1 : 1 ≤ n) {i' : Nat} (hi : i' < n') (no : ∀ i, i < n → spN q i ≠ i') : onL s' i' = false := by
  unfold onL
  have e1 : decide (i' = 0) = false := decide_eq_false fun z => no 0 n1 (by rw [spN_zero q1, z])
  have e2 : decide (s'.on = (i' : Int)) = false := decide_eq_false fun z => by
    rw [h.on, (spI_nat h.on0).2] at z
    have := h.on0
    have := h.on1
    exact no s.on.toNat (by omega) (by omega)
  have e3 : (s'.bd.any fun p => isLay (i' : Int) p.2) = false := by
    rw [h.bd]
    unfold bdM
    rw [List.any_map]
    refine List.any_eq_false.mpr fun p hp => ?_
    have hb := h.bok p hp
    show ¬ isLay (i' : Int) (led q cm f p.2) = true
    cases hx : p.2 with
    | lay w j =>
      rw [hx] at hb
      obtain ⟨_, b1, b2⟩ := hb
      show ¬ (decide _ && decide (spI q j = (i' : Int))) = true
      have : decide (spI q j = (i' : Int)) = false := decide_eq_false fun z => by
        rw [(spI_nat (by omega)).2] at z
        exact no j.toNat (by omega) (by omega)
      rw [this, Bool.and_false]
      decide
    | _ => exact Bool.false_ne_true
  rw [e1, h.lk0 i' hi no, e2, e3]
  rfl
theorem isThr_led {x : Actn} : isThr (led q cm f x) = isThr x := by cases x <;> rfl
theorem isDl_led {x : Actn} : isDl (led q cm f x) = isDl x := by cases x <;> rfl
theorem rule_led {x : Actn} : ruleOf (led q cm f x) = ruleOf x := by cases x <;> rfl
theorem time_led {x : Actn} : timeOf (led q cm f x) = timeOf x * f := by cases x <;> first | rfl | exact (Int.zero_mul f).symm
theorem what_led {x : Actn} {k : Str} : whatM (led q cm f x) k = led q cm f (whatM x k) := by
  unfold whatM
  split
  · rfl
  · split
    · cases x <;> rfl
    · cases x <;> rfl
theorem SR.filt (S : Sim L L' m q cm f km) (h : SR L.length L'.length m q cm f km s s') (n1 : 1 ≤ L.length) {k : Nat} (hk : k < m) : filt L' s' (km k).toNat = (filt L s k).map (spN q) := by
  unfold Pl.filt
  refine filt_sp S.lo S.hi (fun i hi => ?_) (fun i' hi' no => ?_)
  · rw [S.at_ i k hi hk, isThr_led, h.onL_eq S.q1 hi]
  · rw [h.onL_no S.q1 n1 hi' no, Bool.and_false]
theorem SR.taken (S : Sim L L' m q cm f km) (h : SR L.length L'.length m q cm f km s s') (n1 : 1 ≤ L.length) {k : Nat} (hk : k < m) : takenL L' s' (km k).toNat = spN q (takenL L s k) := by
  unfold takenL
  rw [h.filt S n1 hk, List.getLast?_map]
  cases (Pl.filt L s k).getLast? with
  | none => exact (spN_zero S.q1).symm
  | some i => rfl
theorem SR.same (h : SR n n' m q cm f km s s') (q1 : 1 ≤ q) (n1 : 1 ≤ n) : SR n n' m q cm f km { s with on := 0 } { s' with on := 0 } := { h with on := (spI_zero q1).symm, on0 := Int.le_refl 0, on1 := by show (0 : Int) < n; omega }
theorem SR.put (h : SR n n' m q cm f km s s') (q1 : 1 ≤ q) (n1 : 1 ≤ n) (inj : ∀ a b : Int, 0 ≤ a → a < m → 0 ≤ b → b < m → km a = km b → a = b) {k : Int} (k0 : 0 ≤ k) (k1 : k < m) {x : Actn} (hx : BdOk n x) : SR n n' m q cm f km { s with on := 0, bd := putB s.bd k x } { s' with on := 0, bd := putB s'.bd (km k) (led q cm f x) } := by
  have a := h.same q1 n1
  refine { a with bd := ?_, key := fun p hp => ?_, bok := fun p hp => ?_ }
  · show putB s'.bd (km k) (led q cm f x) = _
    rw [h.bd]
    exact bd_put fun p hp => ⟨fun z => inj _ _ (h.key p hp).1 (h.key p hp).2 k0 k1 z, fun z => by rw [z]⟩
  · rcases putB_mem hp with z | z
    · exact h.key p z
    · rw [z]; exact ⟨k0, k1⟩
  · rcases putB_mem hp with z | z
    · exact h.bok p z
    · rw [z]; exact hx
theorem getD_set {l : List Bool} {i j : Nat} {b : Bool} (hj : j < l.length) : (l.set j b).getD i false = if i = j then b else l.getD i false := by
  rw [List.getD_eq_getElem?_getD, List.getElem?_set, List.getD_eq_getElem?_getD]
  by_cases z : i = j
  · subst z
    rw [if_pos rfl, if_pos hj, if_pos rfl]
    rfl
  · rw [if_neg (fun y => z y.symm), if_neg z]
theorem SR.press (h : SR n n' m q cm f km s s') (q1 : 1 ≤ q) (n1 : 1 ≤ n) (lo : q < n → n' = n + 1) (hi : n ≤ q → n ≤ n') (inj : ∀ a b : Int, 0 ≤ a → a < m → 0 ≤ b → b < m → km a = km b → a = b) {k : Int} (k0 : 0 ≤ k) (k1 : k < m) {x : Actn} (hx : DoOk n x) : SR n n' m q cm f km (press s k x) (press s' (km k) (led q cm f x)) := by
  cases x with
  | none => exact h.same q1 n1
  | code c => exact h.put q1 n1 inj k0 k1 (x := .code c) hx
  | thr => exact hx.elim
  | dualC _ _ _ _ => exact hx.elim
  | dualL _ _ _ _ => exact hx.elim
  | lay w j =>
    obtain ⟨_, j1, j2⟩ := hx
    show SR n n' m q cm f km (Pl.press s k (.lay w j)) (Pl.press s' (km k) (.lay w (spI q j)))
    rw [press_lay, press_lay]
    by_cases z : w = (("layer" : String) : Str)
    · rw [if_pos z, if_pos z]
      exact h.put q1 n1 inj k0 k1 (x := .lay w j) ⟨z, j1, by omega⟩
    · rw [if_neg z, if_neg z]
      by_cases y : w = (("lock" : String) : Str)
      · rw [if_pos y, if_pos y]
        have a := h.same q1 n1
        have e := (spI_nat (q := q) (j := j) (by omega)).1
        have bs : spN q j.toNat < n' := by
          rcases Nat.lt_or_ge q n with v | v
          · have := lo v; unfold spN; split <;> omega
          · have := hi v; unfold spN; split <;> omega
        refine { a with lk := fun i hi => ?_, lk0 := fun i' hi no => ?_, l1 := ?_, l2 := ?_ }
        · show (s'.lk.set (spI q j).toNat (!s'.lk.getD (spI q j).toNat false)).getD (spN q i) false = (s.lk.set j.toNat (!s.lk.getD j.toNat false)).getD i false
          rw [e, getD_set (by rw [h.l2]; exact bs), getD_set (by rw [h.l1]; omega), h.lk j.toNat (by omega), h.lk i hi]
          by_cases v : i = j.toNat
          · rw [if_pos v, if_pos (by rw [v])]
          · rw [if_neg v, if_neg (fun u => v (spN_inj.mp u))]
        · show (s'.lk.set (spI q j).toNat (!s'.lk.getD (spI q j).toNat false)).getD i' false = false
          rw [e, getD_set (by rw [h.l2]; exact bs), if_neg (fun u => no j.toNat (by omega) u.symm)]
          exact h.lk0 i' hi no
        · show (s.lk.set _ _).length = n
          rw [List.length_set]; exact h.l1
        · show (s'.lk.set _ _).length = n'
          rw [List.length_set]; exact h.l2
      · rw [if_neg y, if_neg y]
        exact { h with on := rfl, on0 := by show 0 ≤ j; omega, on1 := j2 }
theorem SR.release (h : SR n n' m q cm f km s s') (inj : ∀ a b : Int, 0 ≤ a → a < m → 0 ≤ b → b < m → km a = km b → a = b) {k : Int} (k0 : 0 ≤ k) (k1 : k < m) : SR n n' m q cm f km (release s k) (release s' (km k)) := by
  refine { h with bd := ?_, key := fun p hp => h.key p (dropB_mem hp), bok := fun p hp => h.bok p (dropB_mem hp) }
  show dropB s'.bd (km k) = _
  rw [h.bd]
  exact bd_drop fun p hp => ⟨fun z => inj _ _ (h.key p hp).1 (h.key p hp).2 k0 k1 z, fun z => by rw [z]⟩
end
end K84

set_option Elab.async false
set_option linter.all false
set_option maxRecDepth 100000
set_option maxHeartbeats 8000000
namespace K84
open PySem PySem.Spec PyProof.Rows L2 Gd Rm La Cb Pl
/-! ### deciding events of a record that is led over -/
section
variable {L L' : List (List Actn)} {m q : Nat} {cm : Str → Str} {f sh : Int} {km : Int → Int} {es : List Ev}
theorem ev_at {i : Nat} (h : i < es.length) : evAt (es.map (evM f sh km)) i = evM f sh km (evAt es i) := by
  unfold evAt
  rw [List.getD_eq_getElem?_getD, List.getD_eq_getElem?_getD, List.getElem?_map, List.getElem?_eq_getElem h]
  rfl
theorem dec_ev (inj : ∀ a b : Int, 0 ≤ a → a < m → 0 ≤ b → b < m → km a = km b → a = b) {own : Int} (o0 : 0 ≤ own) (o1 : own < m) {r : Str} : ∀ {es : List Ev} {inner : List Int}, (∀ e ∈ es, 0 ≤ e.k ∧ e.k < m) → (∀ k ∈ inner, 0 ≤ k ∧ k < m) → decEv (km own) r (inner.map km) (es.map (evM f sh km)) = decEv own r inner es
  | [], _, _, _ => rfl
  | e :: es, inner, he, hi => by
    obtain ⟨e0, e1⟩ := he e List.mem_cons_self
    have ih := fun l hl => dec_ev inj o0 o1 (r := r) (es := es) (inner := l) (fun x hx => he x (List.mem_cons_of_mem _ hx)) hl
    show decEv (km own) r (inner.map km) (evM f sh km e :: es.map (evM f sh km)) = _
    unfold decEv
    have c1 : ((evM f sh km e).k = km own ∨ r = ("other" : String) ∧ (evM f sh km e).d = true) ↔ (e.k = own ∨ r = ("other" : String) ∧ e.d = true) := by
      show (km e.k = km own ∨ _) ↔ _
      exact or_congr ⟨fun z => inj _ _ e0 e1 o0 o1 z, fun z => by rw [z]⟩ Iff.rfl
    have c3 : (r = (("within" : String) : Str) ∧ (evM f sh km e).k ∈ inner.map km) ↔ (r = (("within" : String) : Str) ∧ e.k ∈ inner) := by
      refine and_congr Iff.rfl ⟨fun z => ?_, fun z => List.mem_map.mpr ⟨e.k, z, rfl⟩⟩
      obtain ⟨k, hk, ek⟩ := List.mem_map.mp z
      have := hi k hk
      have := inj _ _ this.1 this.2 e0 e1 ek
      rw [← this]; exact hk
    by_cases z1 : e.k = own ∨ r = ("other" : String) ∧ e.d = true
    · rw [if_pos z1, if_pos (c1.mpr z1)]
    · rw [if_neg z1, if_neg (fun y => z1 (c1.mp y))]
      by_cases z2 : e.d = true
      · have z2' : (evM f sh km e).d = true := z2
        rw [if_pos z2, if_pos z2']
        have := ih (inner ++ [e.k]) fun k hk => by
          rcases List.mem_append.mp hk with h | h
          · exact hi k h
          · rw [List.mem_singleton.mp h]; exact ⟨e0, e1⟩
        rw [List.map_append] at this
        exact congrArg (Option.map (· + 1)) this
      · have z2' : ¬ (evM f sh km e).d = true := z2
        rw [if_neg z2, if_neg z2']
        by_cases z3 : r = (("within" : String) : Str) ∧ e.k ∈ inner
        · rw [if_pos z3, if_pos (c3.mpr z3)]
        · rw [if_neg z3, if_neg (fun y => z3 (c3.mp y)), ih inner hi]
variable (hk : ∀ e ∈ es, 0 ≤ e.k ∧ e.k < m) (inj : ∀ a b : Int, 0 ≤ a → a < m → 0 ≤ b → b < m → km a = km b → a = b) (f0 : 0 < f)
include hk inj
theorem decM_ev {i : Nat} (h : i < es.length) {r : Str} : decM (es.map (evM f sh km)) i r = decM es i r := by
  unfold decM
  have e := ev_at (f := f) (sh := sh) (km := km) h
  unfold evAt at e
  rw [e, ← List.map_drop]
  have hi : es.getD i ⟨0, 0, false⟩ ∈ es := by
    rw [List.getD_eq_getElem?_getD, List.getElem?_eq_getElem h]
    exact List.getElem_mem h
  obtain ⟨a, b⟩ := hk _ hi
  have := dec_ev (f := f) (sh := sh) inj a b (r := r) (es := es.drop (i + 1)) (inner := []) (fun e he => hk e (List.mem_of_mem_drop he)) (fun k hk => by cases hk)
  exact congrArg (Option.map (· + (i + 1))) this
include f0
theorem le_ev {a b c : Int} : (a * f + sh) + b * f ≤ c * f + sh ↔ a + b ≤ c := by
  have e : (a * f + sh) + b * f = (a + b) * f + sh := by rw [Int.add_mul]; omega
  rw [e]
  constructor
  · intro h
    have : (a + b) * f ≤ c * f := by omega
    exact Int.le_of_mul_le_mul_right this f0
  · intro h
    have := Int.mul_le_mul_of_nonneg_right h (Int.le_of_lt f0)
    omega
theorem sure_ev {i : Nat} (h : i < es.length) {x : Actn} : sureM (es.map (evM f sh km)) i (led q cm f x) = sureM es i x := by
  unfold sureM
  rw [rule_led, decM_ev hk inj h]
  cases e : decM es i (ruleOf x) with
  | none => rfl
  | some n =>
    have hn := (decM_lt e).2
    show (if (evAt (es.map (evM f sh km)) i).t + timeOf (led q cm f x) ≤ (evAt (es.map (evM f sh km)) n).t then none else some n) = if (evAt es i).t + timeOf x ≤ (evAt es n).t then none else some n
    rw [ev_at h, ev_at hn, time_led]
    have c := le_ev (es := es) (m := m) (km := km) (sh := sh) hk inj f0 (a := (evAt es i).t) (b := timeOf x) (c := (evAt es n).t)
    by_cases z : (evAt es i).t + timeOf x ≤ (evAt es n).t
    · rw [if_pos z]; exact if_pos (c.mpr z)
    · rw [if_neg z]; exact if_neg (fun y => z (c.mp y))
theorem kind_ev {i : Nat} (h : i < es.length) {x : Actn} : kindM (es.map (evM f sh km)) i (led q cm f x) = kindM es i x := by
  have e : tapM (es.map (evM f sh km)) i (sureM (es.map (evM f sh km)) i (led q cm f x)) = tapM es i (sureM es i x) := by
    rw [sure_ev hk inj f0 h]
    cases z : sureM es i x with
    | none => rfl
    | some n =>
      have hn := (sureM_lt z).2
      show decide ((evAt (es.map (evM f sh km)) n).k = (evAt (es.map (evM f sh km)) i).k) = decide ((evAt es n).k = (evAt es i).k)
      rw [ev_at h, ev_at hn]
      have a := hk _ (by rw [evAt_eq hn]; exact List.getElem_mem hn : evAt es n ∈ es)
      have b := hk _ (by rw [evAt_eq h]; exact List.getElem_mem h : evAt es i ∈ es)
      exact decide_eq_decide.mpr ⟨fun z => inj _ _ a.1 a.2 b.1 b.2 z, fun z => by show km _ = km _; rw [z]⟩
  unfold kindM
  rw [isDl_led, e]
end
/-! ### the run -/
def oled (cm : Str → Str) : Outp → Outp
  | .no => .no
  | .pr c => .pr (cm c)
  | .re c => .re (cm c)
def tled (q : Nat) (cm : Str → Str) (f : Int) : Td → Td
  | .up => .up
  | .dn l k x su => .dn (spN q l) k (led q cm f x) su
theorem isOut_led {cm : Str → Str} {o : Outp} : isOut (oled cm o) = isOut o := by cases o <;> rfl
theorem outP_led {q : Nat} {cm : Str → Str} {f : Int} {x : Actn} : outP (led q cm f x) = oled cm (outP x) := by cases x <;> rfl
theorem outR_led {q : Nat} {cm : Str → Str} {f : Int} {x : Actn} : outR (led q cm f x) = oled cm (outR x) := by cases x <;> rfl
section
variable {L L' : List (List Actn)} {m q : Nat} {cm : Str → Str} {f sh : Int} {km : Int → Int} {es : List Ev}
theorem led_run (S : Sim L L' m q cm f km) (hO : LayOk L m) (hV : Valid es) (hk : ∀ e ∈ es, e.k < (m : Int)) : ∀ i, i ≤ es.length → SR L.length L'.length m q cm f km (runS L es i) (runS L' (es.map (evM f sh km)) i) ∧
    ∀ j, j < i → xAt L' (es.map (evM f sh km)) j = led q cm f (xAt L es j) ∧ outM L' (es.map (evM f sh km)) j = oled cm (outM L es j) ∧ runT L' (es.map (evM f sh km)) j = tled q cm f (runT L es j)
  | 0, _ => by
    have n1 := hO.n1
    have z : ∀ n i : Nat, (List.replicate n false).getD i false = false := fun n i => by rw [List.getD_eq_getElem?_getD, List.getElem?_replicate]; split <;> rfl
    exact ⟨⟨fun i hi => by show (List.replicate L'.length false).getD _ false = (List.replicate L.length false).getD _ false; rw [z, z], fun i' _ _ => z _ _, (spI_zero S.q1).symm, Int.le_refl 0, by show (0 : Int) < L.length; omega, rfl, (fun p hp => by cases hp), (fun p hp => by cases hp), List.length_replicate, List.length_replicate⟩, fun j h => absurd h (Nat.not_lt_zero _)⟩
  | i + 1, hi => by
    obtain ⟨R, old⟩ := led_run S hO hV hk i (by omega)
    have n1 := hO.n1
    have hi' : i < es.length := by omega
    have hk2 : ∀ e ∈ es, 0 ≤ e.k ∧ e.k < (m : Int) := fun e he => by
      obtain ⟨j, hj⟩ := List.getElem?_of_mem he
      exact ⟨(hV j e hj).1, hk e he⟩
    have ev := ev_at (f := f) (sh := sh) (km := km) hi'
    have hm : evAt es i ∈ es := by rw [evAt_eq hi']; exact List.getElem_mem hi'
    obtain ⟨k0, k1⟩ := hk2 _ hm
    have hkn : (evAt es i).k.toNat < m := by omega
    have ek : (((evAt es i).k.toNat : Nat) : Int) = (evAt es i).k := Int.toNat_of_nonneg k0
    have tk := R.taken S n1 hkn
    rw [ek] at tk
    obtain ⟨t1, t2, t3⟩ := taken_ok hO (runS L es i) hkn
    have hx : xAt L' (es.map (evM f sh km)) i = led q cm f (xAt L es i) := by
      unfold xAt
      rw [ev]
      show actAt L' (takenL L' _ (km (evAt es i).k).toNat) (km (evAt es i).k).toNat = _
      rw [tk]
      have := S.at_ (takenL L (runS L es i) (evAt es i).k.toNat) (evAt es i).k.toNat t1 hkn
      rw [ek] at this
      exact this
    have kd := kind_ev (q := q) (cm := cm) (f := f) (sh := sh) (km := km) hk2 S.inj S.f0 hi' (x := xAt L es i)
    have su := sure_ev (q := q) (cm := cm) (f := f) (sh := sh) (km := km) hk2 S.inj S.f0 hi' (x := xAt L es i)
    have both : SR L.length L'.length m q cm f km (runS L es (i + 1)) (runS L' (es.map (evM f sh km)) (i + 1)) ∧ outM L' (es.map (evM f sh km)) i = oled cm (outM L es i) ∧ runT L' (es.map (evM f sh km)) i = tled q cm f (runT L es i) := by
      rcases Bool.eq_false_or_eq_true (evAt es i).d with hd | hd
      · have hd' : (evAt (es.map (evM f sh km)) i).d = true := by rw [ev]; exact hd
        have D := what_do (es := es) (j := i) (n := L.length) (x := xAt L es i) t2 t3
        refine ⟨?_, ?_, ?_⟩
        · rw [runS_dn hd, runS_dn hd', hx, kd, what_led, ev]
          exact R.press S.q1 n1 S.lo S.hi S.inj k0 k1 D
        · unfold outM
          rw [if_pos hd, if_pos hd', hx, kd, what_led, outP_led]
        · rw [runT_dn hd, runT_dn hd', hx, kd, what_led, isDl_led, su, ev]
          show Td.dn (takenL L' _ (km (evAt es i).k).toNat) _ _ _ = Td.dn _ _ _ _
          rw [tk]
      · have hd' : (evAt (es.map (evM f sh km)) i).d = false := by rw [ev]; exact hd
        refine ⟨?_, ?_, ?_⟩
        · rw [runS_up hd, runS_up hd', ev]
          exact R.release S.inj k0 k1
        · unfold outM
          rw [if_neg (by rw [hd']; decide), if_neg (by rw [hd]; decide), relO_eq, relO_eq, R.bd, ev]
          show outR ((getB _ (km (evAt es i).k)).getD .none) = _
          rw [bd_get fun p hp => ⟨fun z => S.inj _ _ (R.key p hp).1 (R.key p hp).2 k0 k1 z, fun z => by rw [z]⟩]
          cases getB (runS L es i).bd (evAt es i).k with
          | none => rfl
          | some x => exact outR_led
        · rw [runT_up hd, runT_up hd']
          rfl
    refine ⟨both.1, fun j hj => ?_⟩
    rcases Nat.lt_or_ge j i with z | z
    · exact old j z
    · rw [show j = i by omega]; exact ⟨hx, both.2⟩
theorem later_ev (f0 : 0 < f) {t : Int} {d : Option Int} : later (t * f + sh) (d.map fun z => z * f + sh) = later t d * f + sh := by
  cases d with
  | none => rfl
  | some d =>
    unfold later
    show (if d * f + sh > t * f + sh then d * f + sh else t * f + sh) = (if d > t then d else t) * f + sh
    have c : d * f + sh > t * f + sh ↔ d > t := by
      constructor
      · intro h
        have h : t * f < d * f := by omega
        exact Int.lt_of_mul_lt_mul_right h (Int.le_of_lt f0)
      · intro h
        have := Int.mul_lt_mul_of_pos_right h f0
        omega
    by_cases z : d > t
    · rw [if_pos z, if_pos (c.mpr z)]
    · rw [if_neg z, if_neg (fun y => z (c.mp y))]
theorem led_dec (S : Sim L L' m q cm f km) (hO : LayOk L m) (hV : Valid es) (hk : ∀ e ∈ es, e.k < (m : Int)) {i : Nat} (hi : i < es.length) : decD L' (es.map (evM f sh km)) i = (decD L es i).map fun z => z * f + sh := by
  have hx := ((led_run (sh := sh) S hO hV hk (i + 1) (by omega)).2 i (Nat.lt_succ_self _)).1
  have ev := ev_at (f := f) (sh := sh) (km := km) hi
  have hk2 : ∀ e ∈ es, 0 ≤ e.k ∧ e.k < (m : Int) := fun e he => by
    obtain ⟨j, hj⟩ := List.getElem?_of_mem he
    exact ⟨(hV j e hj).1, hk e he⟩
  by_cases hdl : (evAt es i).d = true ∧ isDl (xAt L es i) = true
  · obtain ⟨hd, hl⟩ := hdl
    rw [dec_some hd hl, dec_some (by rw [ev]; exact hd) (by rw [hx, isDl_led]; exact hl), hx, sure_ev hk2 S.inj S.f0 hi]
    cases z : sureM es i (xAt L es i) with
    | none =>
      show some ((evAt (es.map (evM f sh km)) i).t + timeOf (led q cm f (xAt L es i))) = some (((evAt es i).t + timeOf (xAt L es i)) * f + sh)
      rw [ev, time_led, Int.add_mul]
      exact congrArg some (by show (evAt es i).t * f + sh + _ = _; omega)
    | some n =>
      have hn := (sureM_lt z).2
      show some (evAt (es.map (evM f sh km)) n).t = some ((evAt es n).t * f + sh)
      rw [ev_at hn]
      rfl
  · have hor : (evAt es i).d = false ∨ isDl (xAt L es i) = false := by
      cases q1 : (evAt es i).d with
      | false => exact .inl rfl
      | true =>
        cases q2 : isDl (xAt L es i) with
        | false => exact .inr rfl
        | true => exact absurd ⟨q1, q2⟩ hdl
    rw [dec_none hor, dec_none (by rw [ev, hx, isDl_led]; exact hor)]
    rfl
theorem led_done (S : Sim L L' m q cm f km) (hO : LayOk L m) (hV : Valid es) (hk : ∀ e ∈ es, e.k < (m : Int)) : ∀ i, i < es.length → dnT L' (es.map (evM f sh km)) i = dnT L es i * f + sh
  | 0, hi => by
    rw [dnT_zero hi, dnT_zero (by rw [List.length_map]; exact hi), led_dec S hO hV hk hi, ev_at hi]
    exact later_ev S.f0
  | i + 1, hi => by
    have ih := led_done S hO hV hk i (by omega)
    rw [dnT_next hi, dnT_next (by rw [List.length_map]; exact hi), ih, led_dec S hO hV hk hi, ev_at hi]
    have lt : later (evM f sh km (evAt es (i + 1))).t ((decD L es (i + 1)).map fun z => z * f + sh) = later (evAt es (i + 1)).t (decD L es (i + 1)) * f + sh := later_ev S.f0
    rw [lt]
    generalize later (evAt es (i + 1)).t (decD L es (i + 1)) = a
    have f0 := S.f0
    have c : dnT L es i * f + sh > a * f + sh ↔ dnT L es i > a := by
      constructor
      · intro h
        have h : a * f < dnT L es i * f := by omega
        exact Int.lt_of_mul_lt_mul_right h (Int.le_of_lt f0)
      · intro h
        have := Int.mul_lt_mul_of_pos_right h f0
        omega
    by_cases z : dnT L es i > a
    · rw [if_pos z, if_pos (c.mpr z)]
    · rw [if_neg z, if_neg (fun y => z (c.mp y))]
theorem led_outsT (S : Sim L L' m q cm f km) (hO : LayOk L m) (hV : Valid es) (hk : ∀ e ∈ es, e.k < (m : Int)) : outsT L' (es.map (evM f sh km)) 0 es.length = (outsT L es 0 es.length).map fun x => (x.1 * f + sh, oled cm x.2) := by
  have R := (led_run (sh := sh) S hO hV hk es.length (Nat.le_refl _)).2
  unfold outsT
  have e1 : (List.range' 0 (es.length - 0)).filter (fun i => isOut (outM L' (es.map (evM f sh km)) i)) = (List.range' 0 (es.length - 0)).filter (fun i => isOut (outM L es i)) := by
    refine List.filter_congr fun i hi => ?_
    obtain ⟨j, hj, rfl⟩ := List.mem_range'.mp hi
    rw [(R _ (by omega)).2.1, isOut_led]
  rw [e1, List.map_map]
  refine List.map_congr_left fun i hi => ?_
  have hi := (List.mem_filter.mp hi).1
  obtain ⟨j, hj, rfl⟩ := List.mem_range'.mp hi
  show (dnT L' _ (0 + 1 * j), outM L' _ (0 + 1 * j)) = (dnT L es (0 + 1 * j) * f + sh, oled cm (outM L es (0 + 1 * j)))
  rw [(R _ (by omega)).2.1, led_done S hO hV hk _ (by omega)]
theorem led_outs (S : Sim L L' m q cm f km) (hO : LayOk L m) (hV : Valid es) (hk : ∀ e ∈ es, e.k < (m : Int)) : outsM L' (es.map (evM f sh km)) es.length = (outsM L es es.length).map (oled cm) := by
  have R := (led_run (sh := sh) S hO hV hk es.length (Nat.le_refl _)).2
  unfold outsM
  rw [List.map_map]
  exact List.map_congr_left fun i hi => (R i (List.mem_range.mp hi)).2.1
theorem led_tds (S : Sim L L' m q cm f km) (hO : LayOk L m) (hV : Valid es) (hk : ∀ e ∈ es, e.k < (m : Int)) : tdsM L' (es.map (evM f sh km)) es.length = (tdsM L es es.length).map (tled q cm f) := by
  have R := (led_run (sh := sh) S hO hV hk es.length (Nat.le_refl _)).2
  unfold tdsM
  rw [List.map_map]
  exact List.map_congr_left fun i hi => (R i (List.mem_range.mp hi)).2.2
theorem led_on (S : Sim L L' m q cm f km) (hO : LayOk L m) (hV : Valid es) (hk : ∀ e ∈ es, e.k < (m : Int)) : onLs (runS L' (es.map (evM f sh km)) es.length) L'.length = (onLs (runS L es es.length) L.length).map (spI q) := by
  have R := (led_run (sh := sh) S hO hV hk es.length (Nat.le_refl _)).1
  unfold onLs
  rw [filt_sp (q := q) (p := onL (runS L es es.length)) S.lo S.hi (fun i hi => R.onL_eq S.q1 hi) (fun i' hi' no => R.onL_no S.q1 hO.n1 hi' no), List.map_map, List.map_map]
  exact List.map_congr_left fun i _ => (spIN (q := q) (i := i)).symm
end
end K84

set_option Elab.async false
set_option linter.all false
set_option maxRecDepth 100000
set_option maxHeartbeats 8000000
namespace K84
open PySem PySem.Spec PyProof.Rows L2 Gd Rm La Cb Pl
theorem AllV.atM {α : Type} {R : Hp → α → V → Prop} {H : Hp} {vs : List V} {f : Nat → α} {n i : Nat} (h : AllV R H vs ((List.range n).map f)) (hi : i < n) : ∃ v, vs[i]? = some v ∧ R H (f i) v := by
  have hl := h.1
  rw [List.length_map, List.length_range] at hl
  have hv : vs[i]? = some vs[i] := List.getElem?_eq_getElem (by omega)
  exact ⟨_, hv, h.2 i _ _ hv (by rw [List.getElem?_map, List.getElem?_range hi]; rfl)⟩
theorem AllV.take {α : Type} {R : Hp → α → V → Prop} {H : Hp} {vs : List V} {xs : List α} (h : AllV R H vs xs) (k : Nat) : AllV R H (vs.take k) (xs.take k) := by
  refine ⟨by rw [List.length_take, List.length_take, h.1], fun i v x a b => ?_⟩
  rw [List.getElem?_take] at a b
  split at a
  · rename_i z
    rw [if_pos z] at b
    exact h.2 i v x a b
  · cases a
theorem OutsV.take {H : Hp} {vs : List V} {xs : List Outp} (h : OutsV H vs xs) (k : Nat) : OutsV H (vs.take k) (xs.take k) := by
  refine ⟨by rw [List.length_take, List.length_take, h.1], fun i v x a b => ?_⟩
  rw [List.getElem?_take] at a b
  split at a
  · rename_i z
    rw [if_pos z] at b
    exact h.2 i v x a b
  · cases a
theorem lay_of {n : Nat} : ∀ ds : List PyData, (∀ d ∈ ds, d.canLay0 = true ∧ PyData.depth d ≤ n) → PyData.canLayAll0 ds = true ∧ PyData.depthAll ds ≤ n
  | [], _ => ⟨rfl, Nat.zero_le _⟩
  | d :: ds, h => by
    obtain ⟨a, b⟩ := lay_of ds fun x hx => h x (List.mem_cons_of_mem _ hx)
    obtain ⟨c1, c2⟩ := h d List.mem_cons_self
    refine ⟨?_, ?_⟩
    · show (PyData.canLay0 d && PyData.canLayAll0 ds) = true
      rw [a, c1]
      rfl
    · show max (PyData.depth d) (PyData.depthAll ds) ≤ n
      omega
theorem shaped_list {n : Nat} (hn : n ≤ 60) {ds : List PyData} (h : ∀ d ∈ ds, d.canLay0 = true ∧ PyData.depth d ≤ n) : SeqAt.shaped (.list ds) = true ∧ (PyData.list ds).canLay0 = true := by
  obtain ⟨a, b⟩ := lay_of ds h
  refine ⟨?_, a⟩
  show (PyData.canLayAll0 ds && decide (PyData.depthAll ds + 1 ≤ 64)) = true
  rw [a, decide_eq_true (by omega)]
  rfl
theorem shaped_canlay {d : PyData} (h : SeqAt.shaped d = true) : d.canLay0 = true := (Bool.and_eq_true_iff.mp h).1
theorem out_can {o : Outp} (h : OutOk o) : (outD o).canLay0 = true ∧ PyData.depth (outD o) ≤ 5 := by
  refine ⟨shaped_canlay (out_lay h), ?_⟩
  cases o <;> (show _ ≤ 5; first | exact (by decide : (1 : Nat) ≤ 5) | exact (by decide : (0 : Nat) + 1 ≤ 5))
theorem eqVt (x : V) : V.bl (decide (x = x)) = V.bl true := by simp
section
variable {P : Program} {w : World} {K : PySem.W.Frag} {mg : Str → Option Value} {base : Heap}
end
end K84

set_option Elab.async false
set_option linter.all false
set_option maxRecDepth 100000
set_option maxHeartbeats 8000000
namespace K84
open PySem PySem.Spec PyProof.Rows L2 Gd Rm La Cb Pl
/-! ### a beginning of a record -/
section
variable {L : List (List Actn)} {es : List Ev} {c i : Nat}
theorem shaped_mean {n : Nat} {t : Td} (h : TdOk n t) : (meanD t).canLay0 = true ∧ PyData.depth (meanD t) ≤ 5 := by
  cases t with
  | up => exact ⟨rfl, by decide⟩
  | dn l kind what sure =>
    obtain ⟨h1, h2, h3⟩ := h
    have a := shaped_act h3.act
    have a1 : PyData.canLay0 (actD what) = true := by
      have a : (PyData.canLay0 (actD what) && decide (PyData.depth (actD what) ≤ 64)) = true := a
      exact (Bool.and_eq_true_iff.mp a).1
    have a2 : PyData.depth (actD what) ≤ 2 := by cases what <;> (show _ ≤ 2; first | exact Nat.zero_le _ | exact Nat.le_refl 2 | exact (by decide : (1 : Nat) ≤ 2))
    have k : PyData.canLay0 (.str kind) = true := by
      rcases h2 with rfl | rfl | rfl <;> decide +kernel
    refine ⟨?_, ?_⟩
    · show (true && (PyData.canLay0 (.str kind) && (PyData.canLay0 (actD what) && true))) = true
      rw [a1, k]
      rfl
    · show max 0 (max 0 (max (PyData.depth (actD what)) 0)) + 1 ≤ 5
      omega
end
end K84

set_option Elab.async false
set_option linter.all false
set_option maxRecDepth 100000
set_option maxHeartbeats 8000000
namespace K84
open PySem PySem.Spec PyProof.Rows L2 Gd Rm La Cb Pl
/-! ### dicts of codes and of places -/
def CodesD (H : Hp) (D : Addr) (cm : Str → Str) : Prop := ∃ kvs, H D = some (.dK kvs) ∧ ∀ c, (valV kvs (Sum.inr c)).getD (.str c) = .str (cm c)
def SpotsD (H : Hp) (S : Addr) (n q : Nat) : Prop := ∃ kvs, H S = some (.dK kvs) ∧ ∀ i : Nat, i < n → valV kvs (Sum.inl (i : Int)) = some (.int (spI q (i : Int)))
theorem CodesD.same {H H' : Hp} {D : Addr} {cm : Str → Str} (h : CodesD H D cm) (s : Same H H') : CodesD H' D cm := by
  obtain ⟨kvs, a, b⟩ := h
  exact ⟨kvs, s _ _ a, b⟩
theorem SpotsD.same {H H' : Hp} {D : Addr} {n q : Nat} (h : SpotsD H D n q) (s : Same H H') : SpotsD H' D n q := by
  obtain ⟨kvs, a, b⟩ := h
  exact ⟨kvs, s _ _ a, b⟩
theorem SpotsD.get {H : Hp} {D : Addr} {n q : Nat} (h : SpotsD H D n q) {j : Int} (h0 : 0 ≤ j) (h1 : j < n) : DGet H D (.int j) (some (.int (spI q j))) := by
  obtain ⟨kvs, a, b⟩ := h
  have e := b j.toNat (by omega)
  rw [Int.toNat_of_nonneg h0] at e
  have := DGet.k (k := Sum.inl j) a
  rw [e] at this
  exact this
theorem SpotsD.isD {H : Hp} {D : Addr} {n q : Nat} (h : SpotsD H D n q) : IsD H D := by
  obtain ⟨kvs, a, _⟩ := h
  exact .inl ⟨kvs, .inl a⟩
theorem CodesD.isD {H : Hp} {D : Addr} {cm : Str → Str} (h : CodesD H D cm) : IsD H D := by
  obtain ⟨kvs, a, _⟩ := h
  exact .inl ⟨kvs, .inl a⟩
theorem CodesD.get {H : Hp} {D : Addr} {cm : Str → Str} (h : CodesD H D cm) (c : Str) : ∃ o : Option V, DGet H D (.str c) o ∧ o.getD (.str c) = .str (cm c) := by
  obtain ⟨kvs, a, b⟩ := h
  exact ⟨_, DGet.k (k := Sum.inr c) a, b c⟩
/-- what an action leads to lies among so many layers; its time is small -/
def JOk (n : Nat) : Actn → Prop
  | .lay _ j => 0 ≤ j ∧ j < n
  | .dualL _ j t _ => (0 ≤ j ∧ j < n) ∧ 0 ≤ t ∧ t ≤ 1000000000
  | .dualC _ _ t _ => 0 ≤ t ∧ t ≤ 1000000000
  | _ => True
theorem ActOk.j {n : Nat} {i : Int} {x : Actn} (h : ActOk n i x) : JOk n x := by
  cases x with
  | lay w j => exact ⟨by have := h.2.1; omega, by have := h.2.2; omega⟩
  | dualC c d t r => exact ⟨by have := h.2.2.1.1; omega, h.2.2.1.2⟩
  | dualL c j t r => exact ⟨⟨by have := h.2.1.1; omega, by have := h.2.1.2; omega⟩, by have := h.2.2.1.1; omega, h.2.2.1.2⟩
  | _ => exact True.intro
theorem vac {P : Program} {w : World} {K : PySem.W.Frag} {mg : Str → Option Value} {base : Heap} {x : Str} {st : Stmt} {ps : List Str} (a : At K mg x st ps) : Cl P w K mg base 0 x (fun _ _ _ _ => False) := by
  obtain ⟨f, fd, F, hm, b⟩ := a.ex
  exact ⟨f, fd, ps, ⟨fun _ _ _ _ h => h.elim, fun _ _ _ _ _ _ _ _ _ _ _ _ _ h => h.elim⟩, hm, F.kp, b⟩
theorem strF {a b : Str} (h : a ≠ b) : V.bl (decide (V.str a = V.str b)) = V.bl false := congrArg V.bl (decide_eq_false fun z => h (V.str.inj z))
section
variable {P : Program} {w : World} {K : PySem.W.Frag} {mg : Str → Option Value} {base : Heap}
def spLed0 : Sp := fun vs H Q _ => ∃ (v : V) (D S : Addr) (q n : Nat) (cm : Str → Str) (f : Int) (x : Actn), vs = [v, .ref D, .ref S, .int f] ∧ ActV H x v ∧ CodesD H D cm ∧ SpotsD H S n q ∧ JOk n x ∧ isDl x = false ∧ (∀ w j, x = .lay w j → w ∈ layWords) ∧
  ∀ (H' : Hp) (u : V), Same H H' → ActV H' (led q cm f x) u → Q u H'
theorem ok__law_led0 (bt : Bt mg) (a : At K mg "_law_led" s__law_led ["_law_action_here", "_law_codes", "_law_spots", "_law_factor"]) : Cl P w K mg base 1 "_law_led" spLed0 := by
  have c__law_led := vac (P := P) (w := w) (base := base) a
  refine clG a sc__law_led (fun vs H Q E h => ?_) (fun ff cdv A0 outer s H vs Q hg hr h => ?_)
  · obtain ⟨v, D, S, q, n, cm, f, x, rfl, _⟩ := h
    rfl
  · obtain ⟨v, D, S, q, n, cm, f, x, rfl, hv, hD, hS, hj, hdl, hw, k⟩ := h
    refine ⟨_, (pss_cons (ps_if (pt_val (pe_callB call_isi (by rfl) bt.m_isinstance (by decide +kernel) (pa_cons (pv 0) (pa_cons (pe_bltn (v := .ty "str") (by rfl) bt.m_str (by decide +kernel) rfl) pa_nil)))) (pss_one (ps_ret (pv 0))) pss_nil)
      (pss_cons (ps_if (pt_cmpR op_eq (pe_ix ix_tup (pv 0) pe_int (fun _ _ => rfl)) pe_str (nomark _)) (pss_one (ps_ret (pe_tup (pa_cons pe_str (pa_cons (pe_dget2 (hu_of hr) (pv 1) (pe_ix ix_tup (pv 0) pe_int (fun _ _ => rfl)) (pe_ix ix_tup (pv 0) pe_int (fun _ _ => rfl)) ⟨rfl, rfl, rfl, rfl⟩) pa_nil))))) pss_nil)
      (pss_cons (ps_if (pt_cmpR op_eq (pe_callB call_len_seq (by rfl) bt.m_len (by decide +kernel) (pa_cons (pv 0) pa_nil)) pe_int (nomark _)) (pss_one (ps_ret (pe_tup (pa_cons (pe_ix ix_tup (pv 0) pe_int (fun _ _ => rfl)) (pa_cons (pe_dget (hu_of hr) (pv 2) (pe_ix ix_tup (pv 0) pe_int (fun _ _ => rfl)) (fun _ _ => rfl)) pa_nil))))) pss_nil)
      (pss_cons (ps_asg (pv 0) (pg_tup rfl (pgs_cons (pg_name (i := 4) sc__law_led.nd rfl (Or.inl rfl)) (pgs_cons (pg_name (i := 5) sc__law_led.nd rfl (Or.inl rfl)) (pgs_cons (pg_name (i := 6) sc__law_led.nd rfl (Or.inl rfl)) (pgs_cons (pg_name (i := 7) sc__law_led.nd rfl (Or.inl rfl)) (pgs_cons (pg_name (i := 8) sc__law_led.nd rfl (Or.inl rfl)) pgs_nil)))))))
      (pss_cons (ps_set (i := 9) sc__law_led.nd rfl (Or.inl rfl) (pe_cl c__law_led hg hr (by decide) (by rfl) (pa_cons (pv 6) (pa_cons (pv 1) (pa_cons (pv 2) (pa_cons (pv 3) pa_nil))))))
      (pss_one (ps_ret (pe_tup (pa_cons (pv 4) (pa_cons (pe_dget2 (hu_of hr) (pv 1) (pv 5) (pv 5) ⟨rfl, rfl, rfl, rfl⟩) (pa_cons (pv 9) (pa_cons (pe_op op_mulW (pv 7) (pv 3)) (pa_cons (pv 8) pa_nil))))))))))))), ?_⟩
    cases x with
    | none =>
      have hv : v = .str "none" := hv
      subst hv
      exact ⟨_, rfl, _, _, _, _, true, rfl, .ty "str", .base (.str _), kit_ty (by decide +kernel), _, rfl, iteT ⟨_, rfl, k _ _ (Same.refl _) rfl⟩⟩
    | thr =>
      have hv : v = .str "through" := hv
      subst hv
      exact ⟨_, rfl, _, _, _, _, true, rfl, .ty "str", .base (.str _), kit_ty (by decide +kernel), _, rfl, iteT ⟨_, rfl, k _ _ (Same.refl _) rfl⟩⟩
    | code c =>
      obtain ⟨T, rfl, hT⟩ := hv
      obtain ⟨o, g1, g2⟩ := hD.get c
      refine ⟨_, rfl, _, _, _, _, false, rfl, .ty "str", .base (.tup hT), kit_ty (by decide +kernel), _, rfl, iteF ?_⟩
      refine ⟨_, rfl, T, _, 0, _, rfl, rfl, SqT.of hT, atI_nat (j := 0) rfl, rfl, true, eqVt _, iteT ?_⟩
      refine ⟨_, rfl, D, rfl, hD.isD, _, rfl, T, _, 1, _, rfl, rfl, SqT.of hT, atI_nat (j := 1) rfl, _, rfl, T, _, 1, _, rfl, rfl, SqT.of hT, atI_nat (j := 1) rfl, o, g1, ?_⟩
      rw [g2]
      exact ⟨(by show 2 ≤ sizeLine; decide), fun p np => k _ _ (same_upd np) ⟨p, rfl, upd_same⟩⟩
    | lay wd j =>
      obtain ⟨T, rfl, hT⟩ := hv
      have hne : wd ≠ (("code" : String) : Str) := by
        have := hw wd j rfl
        unfold layWords at this
        simp only [List.mem_cons, List.mem_nil_iff, or_false] at this
        rcases this with rfl | rfl | rfl <;> decide +kernel
      refine ⟨_, rfl, _, _, _, _, false, rfl, .ty "str", .base (.tup hT), kit_ty (by decide +kernel), _, rfl, iteF ?_⟩
      refine ⟨_, rfl, T, _, 0, _, rfl, rfl, SqT.of hT, atI_nat (j := 0) rfl, rfl, false, strF hne, iteF ?_⟩
      refine ⟨_, rfl, T, _, rfl, .inr (SqT.of hT), rfl, true, rfl, iteT ?_⟩
      refine ⟨_, rfl, T, _, 0, _, rfl, rfl, SqT.of hT, atI_nat (j := 0) rfl, _, rfl, _, rfl, T, _, 1, _, rfl, rfl, SqT.of hT, atI_nat (j := 1) rfl, S, _, rfl, hS.get hj.1 hj.2, ?_⟩
      exact ⟨(by show 2 ≤ sizeLine; decide), fun p np => k _ _ (same_upd np) ⟨p, rfl, upd_same⟩⟩
    | dualC _ _ _ _ => cases hdl
    | dualL _ _ _ _ => cases hdl
def spLed : Sp := fun vs H Q _ => ∃ (v : V) (D S : Addr) (q n : Nat) (cm : Str → Str) (f : Int) (x : Actn) (i : Int), vs = [v, .ref D, .ref S, .int f] ∧ ActV H x v ∧ CodesD H D cm ∧ SpotsD H S n q ∧ ActOk n i x ∧ 0 ≤ f ∧ f ≤ 100 ∧
  ∀ (H' : Hp) (u : V), Same H H' → ActV H' (led q cm f x) u → Q u H'
theorem ok__law_led (bt : Bt mg) (a : At K mg "_law_led" s__law_led ["_law_action_here", "_law_codes", "_law_spots", "_law_factor"]) (c__law_led : Cl P w K mg base 1 "_law_led" spLed0) : Cl P w K mg base 2 "_law_led" spLed := by
  refine clG a sc__law_led (fun vs H Q E h => ?_) (fun ff cdv A0 outer s H vs Q hg hr h => ?_)
  · obtain ⟨v, D, S, q, n, cm, f, x, i, rfl, _⟩ := h
    rfl
  · obtain ⟨v, D, S, q, n, cm, f, x, i, rfl, hv, hD, hS, hok, f0, f1, k⟩ := h
    refine ⟨_, (pss_cons (ps_if (pt_val (pe_callB call_isi (by rfl) bt.m_isinstance (by decide +kernel) (pa_cons (pv 0) (pa_cons (pe_bltn (v := .ty "str") (by rfl) bt.m_str (by decide +kernel) rfl) pa_nil)))) (pss_one (ps_ret (pv 0))) pss_nil)
      (pss_cons (ps_if (pt_cmpR op_eq (pe_ix ix_tup (pv 0) pe_int (fun _ _ => rfl)) pe_str (nomark _)) (pss_one (ps_ret (pe_tup (pa_cons pe_str (pa_cons (pe_dget2 (hu_of hr) (pv 1) (pe_ix ix_tup (pv 0) pe_int (fun _ _ => rfl)) (pe_ix ix_tup (pv 0) pe_int (fun _ _ => rfl)) ⟨rfl, rfl, rfl, rfl⟩) pa_nil))))) pss_nil)
      (pss_cons (ps_if (pt_cmpR op_eq (pe_callB call_len_seq (by rfl) bt.m_len (by decide +kernel) (pa_cons (pv 0) pa_nil)) pe_int (nomark _)) (pss_one (ps_ret (pe_tup (pa_cons (pe_ix ix_tup (pv 0) pe_int (fun _ _ => rfl)) (pa_cons (pe_dget (hu_of hr) (pv 2) (pe_ix ix_tup (pv 0) pe_int (fun _ _ => rfl)) (fun _ _ => rfl)) pa_nil))))) pss_nil)
      (pss_cons (ps_asg (pv 0) (pg_tup rfl (pgs_cons (pg_name (i := 4) sc__law_led.nd rfl (Or.inl rfl)) (pgs_cons (pg_name (i := 5) sc__law_led.nd rfl (Or.inl rfl)) (pgs_cons (pg_name (i := 6) sc__law_led.nd rfl (Or.inl rfl)) (pgs_cons (pg_name (i := 7) sc__law_led.nd rfl (Or.inl rfl)) (pgs_cons (pg_name (i := 8) sc__law_led.nd rfl (Or.inl rfl)) pgs_nil)))))))
      (pss_cons (ps_set (i := 9) sc__law_led.nd rfl (Or.inl rfl) (pe_cl c__law_led hg hr (by decide) (by rfl) (pa_cons (pv 6) (pa_cons (pv 1) (pa_cons (pv 2) (pa_cons (pv 3) pa_nil))))))
      (pss_one (ps_ret (pe_tup (pa_cons (pv 4) (pa_cons (pe_dget2 (hu_of hr) (pv 1) (pv 5) (pv 5) ⟨rfl, rfl, rfl, rfl⟩) (pa_cons (pv 9) (pa_cons (pe_op op_mulW (pv 7) (pv 3)) (pa_cons (pv 8) pa_nil))))))))))))), ?_⟩
    have hj := ActOk.j hok
    cases x with
    | none =>
      have hv : v = .str "none" := hv
      subst hv
      exact ⟨_, rfl, _, _, _, _, true, rfl, .ty "str", .base (.str _), kit_ty (by decide +kernel), _, rfl, iteT ⟨_, rfl, k _ _ (Same.refl _) rfl⟩⟩
    | thr =>
      have hv : v = .str "through" := hv
      subst hv
      exact ⟨_, rfl, _, _, _, _, true, rfl, .ty "str", .base (.str _), kit_ty (by decide +kernel), _, rfl, iteT ⟨_, rfl, k _ _ (Same.refl _) rfl⟩⟩
    | code c =>
      obtain ⟨T, rfl, hT⟩ := hv
      obtain ⟨o, g1, g2⟩ := hD.get c
      refine ⟨_, rfl, _, _, _, _, false, rfl, .ty "str", .base (.tup hT), kit_ty (by decide +kernel), _, rfl, iteF ?_⟩
      refine ⟨_, rfl, T, _, 0, _, rfl, rfl, SqT.of hT, atI_nat (j := 0) rfl, rfl, true, eqVt _, iteT ?_⟩
      refine ⟨_, rfl, D, rfl, hD.isD, _, rfl, T, _, 1, _, rfl, rfl, SqT.of hT, atI_nat (j := 1) rfl, _, rfl, T, _, 1, _, rfl, rfl, SqT.of hT, atI_nat (j := 1) rfl, o, g1, ?_⟩
      rw [g2]
      exact ⟨(by show 2 ≤ sizeLine; decide), fun p np => k _ _ (same_upd np) ⟨p, rfl, upd_same⟩⟩
    | lay wd j =>
      obtain ⟨T, rfl, hT⟩ := hv
      have hne : wd ≠ (("code" : String) : Str) := by
        have := hok.1
        unfold layWords at this
        simp only [List.mem_cons, List.mem_nil_iff, or_false] at this
        rcases this with rfl | rfl | rfl <;> decide +kernel
      refine ⟨_, rfl, _, _, _, _, false, rfl, .ty "str", .base (.tup hT), kit_ty (by decide +kernel), _, rfl, iteF ?_⟩
      refine ⟨_, rfl, T, _, 0, _, rfl, rfl, SqT.of hT, atI_nat (j := 0) rfl, rfl, false, strF hne, iteF ?_⟩
      refine ⟨_, rfl, T, _, rfl, .inr (SqT.of hT), rfl, true, rfl, iteT ?_⟩
      refine ⟨_, rfl, T, _, 0, _, rfl, rfl, SqT.of hT, atI_nat (j := 0) rfl, _, rfl, _, rfl, T, _, 1, _, rfl, rfl, SqT.of hT, atI_nat (j := 1) rfl, S, _, rfl, hS.get hj.1 hj.2, ?_⟩
      exact ⟨(by show 2 ≤ sizeLine; decide), fun p np => k _ _ (same_upd np) ⟨p, rfl, upd_same⟩⟩
    | dualC c d t r =>
      obtain ⟨T, T2, rfl, hT, hT2⟩ := hv
      refine ⟨_, rfl, _, _, _, _, false, rfl, .ty "str", .base (.tup hT), kit_ty (by decide +kernel), _, rfl, iteF ?_⟩
      refine ⟨_, rfl, T, _, 0, _, rfl, rfl, SqT.of hT, atI_nat (j := 0) rfl, rfl, false, strF (by decide +kernel), iteF ?_⟩
      refine ⟨_, rfl, T, _, rfl, .inr (SqT.of hT), rfl, false, rfl, iteF ?_⟩
      refine ⟨_, rfl, T, _, rfl, SqT.of hT, rfl, _, _, rfl, _, _, rfl, _, _, rfl, _, _, rfl, _, _, rfl, rfl, ?_⟩
      refine ⟨_, rfl, _, rfl, _, rfl, _, rfl, .ref T2, D, S, q, n, cm, f, .code d, rfl, ⟨T2, rfl, hT2⟩, hD, hS, True.intro, rfl, (fun _ _ z => by cases z), fun H1 u s1 hu => ?_⟩
      obtain ⟨U, rfl, hU⟩ := hu
      obtain ⟨o, g1, g2⟩ := (hD.same s1).get c
      refine ⟨_, rfl, _, rfl, D, rfl, (hD.same s1).isD, _, rfl, _, rfl, o, g1, ?_⟩
      rw [g2]
      have hj2 : 0 ≤ t ∧ t ≤ 1000000000 := hj
      refine ⟨_, rfl, _, rfl, _, rfl, _, _, rfl, rfl, wide_mul (a := 40) (b := 40) (by omega) (by omega) (by decide) (by decide) (by decide), _, rfl, (by show 5 ≤ sizeLine; decide), fun p np => k _ _ (s1.trans (same_upd np)) ⟨p, U, rfl, upd_same, (same_upd np) _ _ hU⟩⟩
    | dualL c j t r =>
      obtain ⟨T, T2, rfl, hT, hT2⟩ := hv
      refine ⟨_, rfl, _, _, _, _, false, rfl, .ty "str", .base (.tup hT), kit_ty (by decide +kernel), _, rfl, iteF ?_⟩
      refine ⟨_, rfl, T, _, 0, _, rfl, rfl, SqT.of hT, atI_nat (j := 0) rfl, rfl, false, strF (by decide +kernel), iteF ?_⟩
      refine ⟨_, rfl, T, _, rfl, .inr (SqT.of hT), rfl, false, rfl, iteF ?_⟩
      refine ⟨_, rfl, T, _, rfl, SqT.of hT, rfl, _, _, rfl, _, _, rfl, _, _, rfl, _, _, rfl, _, _, rfl, rfl, ?_⟩
      refine ⟨_, rfl, _, rfl, _, rfl, _, rfl, .ref T2, D, S, q, n, cm, f, .lay "layer" j, rfl, ⟨T2, rfl, hT2⟩, hD, hS, hj.1, rfl, (fun w j z => by cases z; decide +kernel), fun H1 u s1 hu => ?_⟩
      obtain ⟨U, rfl, hU⟩ := hu
      obtain ⟨o, g1, g2⟩ := (hD.same s1).get c
      refine ⟨_, rfl, _, rfl, D, rfl, (hD.same s1).isD, _, rfl, _, rfl, o, g1, ?_⟩
      rw [g2]
      have hj2 := hj.2
      refine ⟨_, rfl, _, rfl, _, rfl, _, _, rfl, rfl, wide_mul (a := 40) (b := 40) (by omega) (by omega) (by decide) (by decide) (by decide), _, rfl, (by show 5 ≤ sizeLine; decide), fun p np => k _ _ (s1.trans (same_upd np)) ⟨p, U, rfl, upd_same, (same_upd np) _ _ hU⟩⟩
/-! ### all that is told -/
structure All5 (H : Hp) (D : Addr) (os : List Outp) (ts : List Td) (ons : List Int) (xs : List (Int × Outp)) (ds : List Int) : Prop where
  ex : ∃ a b c d e, H D = some (.lst [.ref a, .ref b, .ref c, .ref d, .ref e]) ∧ Outs H a os ∧ Means H b ts ∧ H c = some (.lst (ons.map V.int)) ∧ Trips H d xs ∧ H e = some (.lst (ds.map V.int))
def allD (os : List Outp) (ts : List Td) (ons : List Int) (xs : List (Int × Outp)) (ds : List Int) : PyData := .list [.list (os.map outD), .list (ts.map meanD), .list (ons.map PyData.int), .list (xs.map tripD), .list (ds.map PyData.int)]
theorem All5.same {H H' : Hp} {D : Addr} {os : List Outp} {ts : List Td} {ons : List Int} {xs : List (Int × Outp)} {ds : List Int} (h : All5 H D os ts ons xs ds) (s : Same H H') : All5 H' D os ts ons xs ds := by
  obtain ⟨a, b, c, d, e, h1, h2, h3, h4, h5, h6⟩ := h.ex
  exact ⟨a, b, c, d, e, s _ _ h1, h2.same s, h3.same s, s _ _ h4, h5.same s, s _ _ h6⟩
theorem All5.dp {H : Hp} {D : Addr} {os : List Outp} {ts : List Td} {ons : List Int} {xs : List (Int × Outp)} {ds : List Int} (h : All5 H D os ts ons xs ds) : Dp K H (.ref D) (allD os ts ons xs ds) := by
  obtain ⟨a, b, c, d, e, h1, h2, h3, h4, h5, h6⟩ := h.ex
  exact .lst (SqL.of h1) (.cons h2.dp (.cons h3.dp (.cons (.lst (SqL.of h4) (dpInts _)) (.cons h5.dp (.cons (.lst (SqL.of h6) (dpInts _)) .nil)))))
theorem all_shaped {n : Nat} {os : List Outp} {ts : List Td} {ons : List Int} {xs : List (Int × Outp)} {ds : List Int} (h1 : ∀ o ∈ os, OutOk o) (h2 : ∀ t ∈ ts, TdOk n t) (h3 : ∀ x ∈ xs, OutOk x.2) : SeqAt.shaped (allD os ts ons xs ds) = true ∧ (allD os ts ons xs ds).canLay0 = true := by
  have L : ∀ {k : Nat} {es : List PyData}, (∀ d ∈ es, d.canLay0 = true ∧ PyData.depth d ≤ k) → k ≤ 9 → (PyData.list es).canLay0 = true ∧ PyData.depth (.list es) ≤ 10 := fun {k es} h hk => by
    obtain ⟨a, b⟩ := lay_of es h
    refine ⟨a, ?_⟩
    show PyData.depthAll es + 1 ≤ 10
    omega
  have I : ∀ ns : List Int, (PyData.list (ns.map PyData.int)).canLay0 = true ∧ PyData.depth (.list (ns.map PyData.int)) ≤ 10 := fun ns => L (k := 0) (fun d hd => by
    obtain ⟨i, _, rfl⟩ := List.mem_map.mp hd
    exact ⟨rfl, Nat.le_refl _⟩) (by decide)
  refine shaped_list (n := 10) (by decide) fun d hd => ?_
  simp only [List.mem_cons, List.mem_nil_iff, or_false] at hd
  rcases hd with rfl | rfl | rfl | rfl | rfl
  · exact L (k := 5) (fun d hd => by obtain ⟨o, ho, rfl⟩ := List.mem_map.mp hd; exact out_can (h1 o ho)) (by decide)
  · exact L (k := 5) (fun d hd => by obtain ⟨o, ho, rfl⟩ := List.mem_map.mp hd; exact shaped_mean (h2 o ho)) (by decide)
  · exact I ons
  · obtain ⟨a, b⟩ := trips_lay h3
    refine ⟨a, ?_⟩
    show PyData.depthAll _ + 1 ≤ 10
    omega
  · exact I ds
def AllOf (H : Hp) (D : Addr) (L : List (List Actn)) (es : List Ev) : Prop := All5 H D (outsM L es es.length) (tdsM L es es.length) (onLs (runS L es es.length) L.length) (outsT L es 0 es.length) (doneM L es)
/-- the parts of what is told are new -/
def Fresh5 (H0 H : Hp) (D : Addr) : Prop := ∀ (vs : List V) (x : Addr), H D = some (.lst vs) → V.ref x ∈ vs → H0 x = none
def spAll : Sp := fun vs H Q _ => ∃ (c g : Addr) (L : List (List Actn)) (m : Nat) (es : List Ev), vs = [.ref c, .ref g] ∧ Lay H c L ∧ LayOk L m ∧ Lst evV H g es ∧ Valid es ∧ es.length ≤ 400 ∧ (∀ e ∈ es, e.k < (m : Int)) ∧
  ∀ (H' : Hp) (D : Addr), Same H H' → H D = none → AllOf H' D L es → Fresh5 H H' D → Q (.ref D) H'
theorem ok__law_all (bt : Bt mg) {C : Addr} (a : At K mg "_law_all" s__law_all ["_law_layout_here", "_law_record_here"]) (c_played : Cl P w K mg base 9 "played" spPlayed) (c_meanings : Cl P w K mg base 9 "meanings" spMeanings) (c_layers_on : Cl P w K mg base 9 "layers_on" (spLayersOn C)) (c_outputs : Cl P w K mg base 9 "outputs" spOutputs) (c_done_ticks : Cl P w K mg base 9 "done_ticks" spTicks) : Cl P w K mg base 10 "_law_all" spAll := by
  refine clG a sc__law_all (fun vs H Q E h => ?_) (fun ff cdv A0 outer s H vs Q hg hr h => ?_)
  · obtain ⟨c, g, L, m, es, rfl, _⟩ := h
    rfl
  · obtain ⟨c, g, L, m, es, rfl, hL, hO, hG, hV, h4, hkm, q⟩ := h
    refine ⟨_, (pss_cons (ps_set (i := 2) sc__law_all.nd rfl (Or.inl rfl) (pe_lst (pa_cons (pe_cl c_played hg hr (by decide) (by rfl) (pa_cons (pv 0) (pa_cons (pv 1) pa_nil))) (pa_cons (pe_cl c_meanings hg hr (by decide) (by rfl) (pa_cons (pv 0) (pa_cons (pv 1) pa_nil))) (pa_cons (pe_cl c_layers_on hg hr (by decide) (by rfl) (pa_cons (pv 0) (pa_cons (pv 1) pa_nil))) pa_nil)))))
      (pss_one (ps_ret (pe_op op_cat (pv 2) (pe_lst (pa_cons (pe_cl c_outputs hg hr (by decide) (by rfl) (pa_cons (pv 0) (pa_cons (pv 1) pa_nil))) (pa_cons (pe_cl c_done_ticks hg hr (by decide) (by rfl) (pa_cons (pv 0) (pa_cons (pv 1) pa_nil))) pa_nil))))))), ?_⟩
    refine ⟨_, rfl, _, rfl, c, g, L, m, es, rfl, hL, hO, hG, hV, h4, hkm, fun H1 P1 s1 n1 h1 => ?_⟩
    refine ⟨_, rfl, _, rfl, c, g, L, m, es, rfl, hL.same s1, hO, hG.same s1, hV, h4, hkm, fun H2 P2 s2 n2 h2 => ?_⟩
    have s02 := s1.trans s2
    refine ⟨_, rfl, _, rfl, c, g, L, m, es, rfl, hL.same s02, hO, hG.same s02, hV, h4, hkm, fun H3 P3 s3 n3 h3 => ⟨(by show 3 ≤ sizeLine; decide), fun T nT => ?_⟩⟩
    have kT := same_upd (o := .lst [.ref P1, .ref P2, .ref P3]) nT
    have s03 := (s02.trans s3).trans kT
    have hT := upd_same (H := H3) (a := T) (o := .lst [.ref P1, .ref P2, .ref P3])
    have g1 := h1.same ((s2.trans s3).trans kT)
    have g2 := h2.same (s3.trans kT)
    have g3 := kT _ _ h3
    generalize upd H3 T (.lst [.ref P1, .ref P2, .ref P3]) = H4 at s03 hT g1 g2 g3 ⊢
    refine ⟨_, rfl, _, rfl, _, rfl, c, g, L, m, es, rfl, hL.same s03, hO, hG.same s03, hV, h4, hkm, fun H5 P5 s5 n5 h5 => ?_⟩
    have s05 := s03.trans s5
    refine ⟨_, rfl, _, rfl, c, g, L, m, es, rfl, hL.same s05, hO, hG.same s05, hV, h4, hkm, fun H6 P6 s6 n6 h6 => ⟨(by show 2 ≤ sizeLine; decide), fun U nU => ?_⟩⟩
    have kU := same_upd (o := .lst [.ref P5, .ref P6]) nU
    have s46 := (s5.trans s6).trans kU
    refine ⟨T, U, _, _, rfl, rfl, s46 _ _ hT, upd_same, (by show 3 + 2 ≤ sizeLine; decide), fun D nD => ?_⟩
    have kD := same_upd (o := .lst ([.ref P1, .ref P2, .ref P3] ++ [.ref P5, .ref P6])) nD
    have s4 := s46.trans kD
    refine q _ D (s03.trans s4) (none_back (s03.trans s46) nD) ⟨P1, P2, P3, P5, P6, upd_same, g1.same s4, g2.same s4, s4 _ _ g3, h5.same ((s6.trans kU).trans kD), (kU.trans kD) _ _ h6⟩ fun vs x hv hx => ?_
    rw [upd_same] at hv
    have hv := HO.lst.inj (Option.some.inj hv)
    rw [← hv] at hx
    have hx : V.ref x ∈ [V.ref P1, .ref P2, .ref P3, .ref P5, .ref P6] := hx
    simp only [List.mem_cons, List.mem_nil_iff, or_false, V.ref.injEq] at hx
    rcases hx with rfl | rfl | rfl | rfl | rfl
    · exact n1
    · exact none_back s1 n2
    · exact none_back s02 n3
    · exact none_back s03 n5
    · exact none_back s05 n6
end
end K84

set_option Elab.async false
set_option linter.all false
set_option maxRecDepth 100000
set_option maxHeartbeats 8000000
namespace K84
open PySem PySem.Spec PyProof.Rows L2 Gd Rm La Cb Pl
theorem tk_off {H H' : Hp} {R : Addr} {ys : List V} (o : Off R H H') (h : H R = some (.lst ys)) : Tk H H' := fun b xs hb => o _ _ hb (by
  intro z
  rw [z, h] at hb
  cases hb)
theorem led_one {n q : Nat} {cm : Str → Str} {f : Int} {x : Actn} (h : DoOk n x) : led q cm f x = led q cm 1 x := by
  cases x with
  | dualC _ _ _ _ => exact h.elim
  | dualL _ _ _ _ => exact h.elim
  | _ => rfl
theorem tled_one {n q : Nat} {cm : Str → Str} {f : Int} {t : Td} (h : TdOk n t) : tled q cm f t = tled q cm 1 t := by
  cases t with
  | up => rfl
  | dn l k x su => exact congrArg (fun z => Td.dn (spN q l) k z su) (led_one h.2.2)
theorem take_map {α β : Type} {g : α → β} {xs : List α} {j : Nat} (h : j < xs.length) : (xs.take (j + 1)).map g = (xs.take j).map g ++ [g xs[j]] := by
  rw [List.take_add_one, List.getElem?_eq_getElem h, List.map_append]
  rfl
theorem Outs.updF {H : Hp} {M F : Addr} {os : List Outp} {ys zs : List V} (h : Outs H M os) (hF : H F = some (.lst ys)) (n : M ≠ F) : Outs (upd H F (.lst zs)) M os := by
  obtain ⟨vs, a, b⟩ := h
  exact ⟨vs, by rw [upd_ne n]; exact a, b.keep (tk_upd hF)⟩
theorem Means.updF {H : Hp} {M F : Addr} {ts : List Td} {ys zs : List V} (h : Means H M ts) (hF : H F = some (.lst ys)) (n : M ≠ F) : Means (upd H F (.lst zs)) M ts := by
  obtain ⟨vs, a, b⟩ := h
  exact ⟨vs, by rw [upd_ne n]; exact a, b.keep fun x v z => z.keep (tk_upd hF)⟩
theorem Trips.updF {H : Hp} {M F : Addr} {xs : List (Int × Outp)} {ys zs : List V} (h : Trips H M xs) (hF : H F = some (.lst ys)) (n : M ≠ F) : Trips (upd H F (.lst zs)) M xs := by
  obtain ⟨vs, a, b⟩ := h
  exact ⟨vs, by rw [upd_ne n]; exact a, b.keep fun x v z => z.keep (tk_upd hF)⟩
structure DueOk (n : Nat) (os : List Outp) (ts : List Td) (ons : List Int) (xs : List (Int × Outp)) (ds : List Int) : Prop where
  fo : ∀ o ∈ os, OutOk o
  ft : ∀ t ∈ ts, TdOk n t
  fn : ∀ i ∈ ons, 0 ≤ i ∧ i < n
  fx : ∀ x ∈ xs, isOut x.2 = true ∧ x.1.natAbs < 2 ^ 100
  fd : ∀ d ∈ ds, d.natAbs < 2 ^ 100
  l1 : os.length ≤ 400
  l2 : ts.length ≤ 400
  l3 : ons.length ≤ 400
  l4 : xs.length ≤ 400
  l5 : ds.length ≤ 400
section
variable {P : Program} {w : World} {K : PySem.W.Frag} {mg : Str → Option Value} {base : Heap}
def spDueL : Sp := fun vs H Q _ => ∃ (Tl D S : Addr) (q n : Nat) (cm : Str → Str) (f sh : Int) (os : List Outp) (ts : List Td) (ons : List Int) (xs : List (Int × Outp)) (ds : List Int), vs = [.ref Tl, .ref D, .ref S, .int f, .int sh] ∧ All5 H Tl os ts ons xs ds ∧ CodesD H D cm ∧ SpotsD H S n q ∧ DueOk n os ts ons xs ds ∧ f.natAbs < 2 ^ 40 ∧
  ∀ (H' : Hp) (D' : Addr), Same H H' → H D' = none → All5 H' D' (os.map (oled cm)) (ts.map (tled q cm 1)) (ons.map (spI q)) (xs.map fun x => (x.1 * f + sh, oled cm x.2)) (ds.map fun z => z * f + sh) → Q (.ref D') H'
theorem ok__law_due (bt : Bt mg) (a : At K mg "_law_due" s__law_due ["_law_told", "_law_codes", "_law_spots", "_law_factor", "_law_more"]) (c__law_led : Cl P w K mg base 2 "_law_led" spLed) : Cl P w K mg base 3 "_law_due" spDueL := by
  refine clG a sc__law_due (fun vs H Q E h => ?_) (fun ff cdv A0 outer s H vs Q hg hr h => ?_)
  · obtain ⟨Tl, D, S, q, n, cm, f, sh, os, ts, ons, xs, ds, rfl, _⟩ := h
    rfl
  · obtain ⟨Tl, D, S, q, n, cm, f, sh, os, ts, ons, xs, ds, rfl, hA, hD, hS, ok, hf, k⟩ := h
    refine ⟨_, (pss_cons (ps_asg (pv 0) (pg_lst rfl (pgs_cons (pg_name (i := 5) sc__law_due.nd rfl (Or.inl rfl)) (pgs_cons (pg_name (i := 6) sc__law_due.nd rfl (Or.inl rfl)) (pgs_cons (pg_name (i := 7) sc__law_due.nd rfl (Or.inl rfl)) (pgs_cons (pg_name (i := 8) sc__law_due.nd rfl (Or.inl rfl)) (pgs_cons (pg_name (i := 9) sc__law_due.nd rfl (Or.inl rfl)) pgs_nil)))))))
      (pss_cons (ps_set (i := 10) sc__law_due.nd rfl (Or.inl rfl) (pe_lst (pa_cons (pe_lc (own := [("_law_one", 12)]) (g := (gName 12)) (by rfl) sc__law_due.nd (pi_list (pv 5)) (blkOk_by (N := n__law_due) (sc := defScope s__law_due) (by decide +kernel)) (fun _ _ _ _ _ => (pg_name (i := 12) sc__law_due.nd rfl (Or.inl rfl))) (fun _ _ _ _ _ => pts_nil) (fun _ _ _ _ _ => (pe_ifExp (pt_cmpR (r := rNeD K) (op_neD hr.units) (pv 12) (pe_tup pa_nil) (nomark _)) (pe_tup (pa_cons (pe_ix (r := rIxT K) ix_tup (pv 12) pe_int (fun _ _ => rfl)) (pa_cons (pe_dget2 (hu_of hr) (pv 1) (pe_ix (r := rIxT K) ix_tup (pv 12) pe_int (fun _ _ => rfl)) (pe_ix (r := rIxT K) ix_tup (pv 12) pe_int (fun _ _ => rfl)) ⟨rfl, rfl, rfl, rfl⟩) pa_nil))) (pe_tup pa_nil)))) (pa_cons (pe_lst pa_nil) pa_nil))))
      (pss_cons (ps_for PassesOwn.never rfl (pi_list (pv 6)) (pg_name (i := 11) sc__law_due.nd rfl (Or.inl rfl)) (pss_one (ps_expr (pe_bm PySem.F.plainAttrs_list PySem.F.slot_list_append PySem.F.type_list_append mt_append (pe_ix ix_list (pv 10) pe_int (fun _ _ => rfl)) (pa_cons (pe_ifExp (pt_cmpR op_isN (pv 11) pe_non (nomark _)) (pv 11) (pe_tup (pa_cons (pe_dget (hu_of hr) (pv 2) (pe_ix ix_tup (pv 11) pe_int (fun _ _ => rfl)) (fun _ _ => rfl)) (pa_cons (pe_ix ix_tup (pv 11) pe_int (fun _ _ => rfl)) (pa_cons (pe_cl c__law_led hg hr (by decide) (by rfl) (pa_cons (pe_ix ix_tup (pv 11) pe_int (fun _ _ => rfl)) (pa_cons (pv 1) (pa_cons (pv 2) (pa_cons pe_int pa_nil))))) pa_nil))))) pa_nil)))))
      (pss_cons (ps_expr (pe_bm PySem.F.plainAttrs_list PySem.F.slot_list_append PySem.F.type_list_append mt_append (pv 10) (pa_cons (pe_lc (own := [("_law_layer", 13)]) (g := (gName 13)) (by rfl) sc__law_due.nd (pi_list (pv 7)) (blkOk_by (N := n__law_due) (sc := defScope s__law_due) (by decide +kernel)) (fun _ _ _ _ _ => (pg_name (i := 13) sc__law_due.nd rfl (Or.inl rfl))) (fun _ _ _ _ _ => pts_nil) (fun _ _ _ _ _ => (pe_dget (hu_of hr) (pv 2) (pv 13) (fun _ _ => rfl)))) pa_nil)))
      (pss_cons (ps_expr (pe_bm PySem.F.plainAttrs_list PySem.F.slot_list_append PySem.F.type_list_append mt_append (pv 10) (pa_cons (pe_lc (own := [("_law_tick", 14), ("_law_word", 15), ("_law_code_here", 16)]) (g := (gTup K 3 (gCons (gName 14) (gCons (gName 15) (gCons (gName 16) gNil))))) (by rfl) sc__law_due.nd (pi_list (pv 8)) (blkOk_by (N := n__law_due) (sc := defScope s__law_due) (by decide +kernel)) (fun _ _ _ _ _ => (pg_tup rfl (pgs_cons (pg_name (i := 14) sc__law_due.nd rfl (Or.inl rfl)) (pgs_cons (pg_name (i := 15) sc__law_due.nd rfl (Or.inl rfl)) (pgs_cons (pg_name (i := 16) sc__law_due.nd rfl (Or.inl rfl)) pgs_nil))))) (fun _ _ _ _ _ => pts_nil) (fun _ _ _ _ _ => (pe_tup (pa_cons (pe_op op_add (pe_op op_mulW (pv 14) (pv 3)) (pv 4)) (pa_cons (pv 15) (pa_cons (pe_dget2 (hu_of hr) (pv 1) (pv 16) (pv 16) ⟨rfl, rfl, rfl, rfl⟩) pa_nil)))))) pa_nil)))
      (pss_one (ps_ret (pe_op op_cat (pv 10) (pe_lst (pa_cons (pe_lc (own := [("_law_tick", 14)]) (g := (gName 14)) (by rfl) sc__law_due.nd (pi_list (pv 9)) (blkOk_by (N := n__law_due) (sc := defScope s__law_due) (by decide +kernel)) (fun _ _ _ _ _ => (pg_name (i := 14) sc__law_due.nd rfl (Or.inl rfl))) (fun _ _ _ _ _ => pts_nil) (fun _ _ _ _ _ => (pe_op op_add (pe_op op_mulW (pv 14) (pv 3)) (pv 4)))) pa_nil)))))))))), ?_⟩
    obtain ⟨a1, a2, a3, a4, a5, t0, ⟨us, t1, u1⟩, ⟨ws, t2, u2⟩, t3, ⟨zs, t4, u4⟩, t5⟩ := hA.ex
    have ul := u1.1
    have l1 := ok.l1
    have l2 := ok.l2
    have l4 := ok.l4
    have wl := u2.1
    have zl := u4.1
    refine ⟨_, rfl, Tl, _, rfl, SqL.of t0, rfl, _, _, rfl, _, _, rfl, _, _, rfl, _, _, rfl, _, _, rfl, rfl, ?_⟩
    -- the results
    refine ⟨_, rfl, a1, rfl, ⟨_, SqL.of t1⟩, fun M nM => lc_it (walk_list (xs := us)) (fun j H' => Same H H' ∧ Outs H' M ((os.take j).map (oled cm))) ⟨same_upd nM, [], upd_same, OutsV.nil⟩ (fun j H' _ p => SqL.of (p.1 _ _ t1)) (fun j x Hx Hy hj p y => ?_) (fun H1 p => ?_)⟩
    · obtain ⟨sx, vs, hM, hvs⟩ := p
      obtain ⟨rfl, hx⟩ := y
      have hj' : j < os.length := by omega
      have hov := (u1.2 j x _ hx (List.getElem?_eq_getElem hj')).keep (Tk.of sx)
      have oko := ok.fo _ (List.getElem_mem hj')
      rw [take_map hj']
      generalize os[j] = o at hov oko ⊢
      have hvl : vs.length ≤ 400 := by rw [hvs.1, List.length_map, List.length_take]; omega
      obtain ⟨W, rfl, hW⟩ := id hov
      refine ⟨rfl, _, rfl, Nat.zero_le _, fun Z nZ => ?_⟩
      have kZ := same_upd (o := .tup []) nZ
      refine ⟨_, _, (hov.keep (Tk.of kZ)).dp, .tup (SqT.of upd_same) .nil, out_lay oko, by decide +kernel, isOut o, by rw [eqv_out, Bool.not_not], ?_⟩
      have hW2 := kZ _ _ hW
      have hM2 := kZ _ _ hM
      have s2 := sx.trans kZ
      have hvs2 := hvs.keep (Tk.of kZ)
      have hD2 := hD.same s2
      generalize upd Hy Z (.tup []) = H2 at hW2 hM2 s2 hvs2 hD2 ⊢
      have fin : ∀ p, H2 p = none → ∃ acc, upd H2 p (.tup (outL (oled cm o))) M = some (.lst acc) ∧ acc.length < sizeLine ∧ Same H (upd (upd H2 p (.tup (outL (oled cm o)))) M (.lst (acc ++ [.ref p]))) ∧ Outs (upd (upd H2 p (.tup (outL (oled cm o)))) M (.lst (acc ++ [.ref p]))) M ((os.take j).map (oled cm) ++ [oled cm o]) := fun p np => by
        have kp := same_upd (o := .tup (outL (oled cm o))) np
        have hM3 := kp _ _ hM2
        refine ⟨vs, hM3, small1000 (by omega), Same.off (s2.trans kp) nM off_upd, _, upd_same, ?_⟩
        exact ((hvs2.keep (Tk.of kp)).snoc (v := .ref p) ⟨p, rfl, upd_same⟩).keep (tk_upd hM3)
      cases o with
      | no => exact iteF ⟨Nat.zero_le _, fun p np => fin p np⟩
      | pr c =>
        obtain ⟨od, g1, g2⟩ := hD2.get c
        refine iteT ⟨_, rfl, W, _, 0, _, rfl, rfl, SqT.of hW2, atI_nat (j := 0) rfl, _, rfl, D, rfl, hD2.isD, _, rfl, W, _, 1, _, rfl, rfl, SqT.of hW2, atI_nat (j := 1) rfl, _, rfl, W, _, 1, _, rfl, rfl, SqT.of hW2, atI_nat (j := 1) rfl, od, g1, ?_⟩
        rw [g2]
        exact ⟨(by show 2 ≤ sizeLine; decide), fun p np => fin p np⟩
      | re c =>
        obtain ⟨od, g1, g2⟩ := hD2.get c
        refine iteT ⟨_, rfl, W, _, 0, _, rfl, rfl, SqT.of hW2, atI_nat (j := 0) rfl, _, rfl, D, rfl, hD2.isD, _, rfl, W, _, 1, _, rfl, rfl, SqT.of hW2, atI_nat (j := 1) rfl, _, rfl, W, _, 1, _, rfl, rfl, SqT.of hW2, atI_nat (j := 1) rfl, od, g1, ?_⟩
        rw [g2]
        exact ⟨(by show 2 ≤ sizeLine; decide), fun p np => fin p np⟩
    obtain ⟨s1, hO1⟩ := p
    rw [List.take_of_length_le (by omega)] at hO1
    refine ⟨Nat.zero_le _, fun R nR => ⟨(by show 2 ≤ sizeLine; decide), fun F nF => ?_⟩⟩
    have kR := same_upd (o := .lst []) nR
    have kF := same_upd (o := .lst [.ref M, .ref R]) nF
    have s2 := s1.trans (kR.trans kF)
    have hO2 := hO1.same (kR.trans kF)
    have hR := kF _ _ (upd_same (H := H1) (a := R) (o := .lst []))
    have hF := upd_same (H := upd H1 R (.lst [])) (a := F) (o := .lst [.ref M, .ref R])
    have nR0 : H R = none := none_back s1 nR
    have nF0 : H F = none := none_back (s1.trans kR) nF
    have FR : F ≠ R := fun z => by rw [z, upd_same] at nF; cases nF
    have MR : M ≠ R := by
      obtain ⟨vs', hM', _⟩ := hO1
      exact ne_of_none hM' nR
    have MF : M ≠ F := by
      obtain ⟨vs', hM', _⟩ := hO1
      exact ne_of_none (kR _ _ hM') nF
    generalize upd (upd H1 R (.lst [])) F (.lst [.ref M, .ref R]) = H2 at s2 hO2 hR hF ⊢
    -- the meanings
    refine ⟨_, rfl, a2, rfl, ⟨_, SqL.of (s2 _ _ t2)⟩, for_it (walk_list (xs := ws)) (fun j σ H' => (∃ y11 y12 y13 y14 y15 y16, σ = [some (.ref Tl), some (.ref D), some (.ref S), some (.int f), some (.int sh), some (.ref a1), some (.ref a2), some (.ref a3), some (.ref a4), some (.ref a5), some (.ref F), y11, y12, y13, y14, y15, y16]) ∧ Off R H2 H' ∧ ∃ vs, H' R = some (.lst vs) ∧ AllV MeanV H' vs ((ts.take j).map (tled q cm 1)))
      ⟨⟨_, _, _, _, _, _, rfl⟩, Off.refl _, [], hR, AllV.nil⟩ (fun j σ H' _ p => SqL.of (p.2.1 _ _ (s2 _ _ t2) (ne_of_none t2 nR0))) (fun j x σ Hx Hy hj p y => ?_) (fun σ H3 p => ?_)⟩
    · obtain ⟨⟨y11, y12, y13, y14, y15, y16, rfl⟩, ox, vs, hRx, hvs⟩ := p
      obtain ⟨rfl, hx⟩ := y
      have hj' : j < ts.length := by omega
      have tkx := (Tk.of s2).trans (tk_off ox hR)
      have sx : Same H Hy := Same.off s2 nR0 ox
      have hmv := (u2.2 j x _ hx (List.getElem?_eq_getElem hj')).keep tkx
      have okt := ok.ft _ (List.getElem_mem hj')
      rw [take_map hj']
      generalize ts[j] = t at hmv okt ⊢
      have hvl : vs.length ≤ 400 := by rw [hvs.1, List.length_map, List.length_take]; omega
      have hFx := ox _ _ hF FR
      refine ⟨_, rfl, F, _, 1, .ref R, rfl, rfl, SqL.of hFx, atI_nat (j := 1) rfl, .inl ⟨rfl, _, SqL.of hRx⟩, ?_⟩
      cases t with
      | up =>
        have hmv : x = .non := hmv
        subst hmv
        refine ⟨_, rfl, rfl, true, rfl, iteT ⟨_, rfl, R, vs, .non, rfl, rfl, hRx, small1000 (by omega), ⟨_, _, _, _, _, _, rfl⟩, ox.trans off_upd, _, upd_same, ?_⟩⟩
        exact AllV.keep (hvs.snoc (show MeanV Hy (tled q cm 1 .up) .non from rfl)) fun x v z => z.keep (tk_upd hRx)
      | dn l kd what su =>
        obtain ⟨W, u, rfl, hW, hu⟩ := hmv
        obtain ⟨o1, o2, o3⟩ := okt
        have hSx := hS.same sx
        have hDx := hD.same sx
        refine ⟨_, rfl, rfl, false, rfl, iteF ⟨_, rfl, _, rfl, W, _, 0, _, rfl, rfl, SqT.of hW, atI_nat (j := 0) rfl, S, _, rfl, hSx.get (j := (l : Int)) (by omega) (by omega), _, rfl, W, _, 1, _, rfl, rfl, SqT.of hW, atI_nat (j := 1) rfl, ?_⟩⟩
        refine ⟨_, rfl, W, _, 2, _, rfl, rfl, SqT.of hW, atI_nat (j := 2) rfl, _, rfl, _, rfl, u, D, S, q, n, cm, 1, what, 0, rfl, hu, hDx, hSx, o3.act, by decide, by decide, fun H4 u4 s4 hu4 => ⟨(by show 3 ≤ sizeLine; decide), fun p np => ?_⟩⟩
        have kp := same_upd (o := .tup [.int (spI q (l : Int)), .str kd, u4]) np
        have s5 := s4.trans kp
        have hR5 := s5 _ _ hRx
        refine ⟨R, vs, .ref p, rfl, rfl, hR5, small1000 (by omega), ⟨_, _, _, _, _, _, rfl⟩, (ox.sameTrans s5).trans off_upd, _, upd_same, ?_⟩
        refine AllV.keep ?_ fun x v z => z.keep (tk_upd hR5)
        refine (hvs.keep fun x v z => z.keep (Tk.of s5)).snoc ?_
        exact ⟨p, u4, rfl, by rw [upd_same, spIN], hu4.keep (Tk.of kp)⟩
    obtain ⟨⟨y11, y12, y13, y14, y15, y16, rfl⟩, ox, vs, hRx, hvs⟩ := p
    rw [List.take_of_length_le (by omega)] at hvs
    have s3 : Same H H3 := Same.off s2 nR0 ox
    have hO3 : Outs H3 M (os.map (oled cm)) := by
      obtain ⟨vs', hM', h2⟩ := hO2
      exact ⟨vs', ox _ _ hM' MR, h2.keep (tk_off ox hR)⟩
    have hM3 : Means H3 R (ts.map (tled q cm 1)) := ⟨vs, hRx, hvs⟩
    have hF3 := ox _ _ hF FR
    clear ox hRx hvs hO2 hO1 hR hF s2 s1 kR kF nR
    -- the layers
    refine ⟨_, rfl, .inl ⟨rfl, _, SqL.of hF3⟩, ?_⟩
    refine ⟨_, rfl, a3, rfl, ⟨_, SqL.of (s3 _ _ t3)⟩, fun N nN => lc_it (walk_list (xs := ons.map V.int)) (fun j H' => Same H3 H' ∧ H' N = some (.lst (((ons.take j).map (spI q)).map V.int))) ⟨same_upd nN, upd_same⟩ (fun j H' _ p => SqL.of (p.1 _ _ (s3 _ _ t3))) (fun j x Hx Hy hj p y => ?_) (fun H4 p => ?_)⟩
    · obtain ⟨sx, hN⟩ := p
      obtain ⟨rfl, hx⟩ := y
      have hj' : j < ons.length := by rw [List.length_map] at hj; exact hj
      have ex : V.int ons[j] = x := by
        rw [List.getElem?_map, List.getElem?_eq_getElem hj'] at hx
        exact Option.some.inj hx
      subst ex
      have ho := ok.fn _ (List.getElem_mem hj')
      have l3 := ok.l3
      rw [take_map hj']
      refine ⟨rfl, _, rfl, _, rfl, S, _, rfl, ((hS.same s3).same sx).get ho.1 ho.2, _, hN, small1000 (by rw [List.length_map, List.length_map, List.length_take]; omega), Same.off sx nN off_upd, ?_⟩
      rw [upd_same, List.map_append]
      rfl
    obtain ⟨s34, hN4⟩ := p
    rw [List.take_of_length_le (by rw [List.length_map]; omega)] at hN4
    have hF4 := s34 _ _ hF3
    have NF : N ≠ F := fun z => by rw [z, hF3] at nN; cases nN
    refine ⟨F, _, .ref N, rfl, rfl, hF4, (by show 2 < sizeLine; decide), ?_⟩
    have s4 := s3.trans s34
    have s5 : Same H (upd H4 F (.lst ([.ref M, .ref R] ++ [.ref N]))) := Same.off s4 nF0 off_upd
    have hF5 := upd_same (H := H4) (a := F) (o := .lst ([.ref M, .ref R] ++ [.ref N]))
    have hO5 := (hO3.same s34).updF (zs := [.ref M, .ref R] ++ [.ref N]) hF4 MF
    have hM5 := (hM3.same s34).updF (zs := [.ref M, .ref R] ++ [.ref N]) hF4 FR.symm
    have hN5 : upd H4 F (.lst ([.ref M, .ref R] ++ [.ref N])) N = some (.lst ((ons.map (spI q)).map V.int)) := by rw [upd_ne NF]; exact hN4
    generalize upd H4 F (.lst ([.ref M, .ref R] ++ [.ref N])) = H5 at s5 hF5 hO5 hM5 hN5 ⊢
    -- what came
    refine ⟨_, rfl, .inl ⟨rfl, _, SqL.of hF5⟩, ?_⟩
    refine ⟨_, rfl, a4, rfl, ⟨_, SqL.of (s5 _ _ t4)⟩, fun B nB => lc_it (walk_list (xs := zs)) (fun j H' => Same H5 H' ∧ Trips H' B ((xs.take j).map fun x => (x.1 * f + sh, oled cm x.2))) ⟨same_upd nB, [], upd_same, AllV.nil⟩ (fun j H' _ p => SqL.of (p.1 _ _ (s5 _ _ t4))) (fun j x Hx Hy hj p y => ?_) (fun H6 p => ?_)⟩
    · obtain ⟨sx, vs, hB, hvs⟩ := p
      obtain ⟨rfl, hx⟩ := y
      have hj' : j < xs.length := by omega
      have sy := s5.trans sx
      have hxv := (u4.2 j x _ hx (List.getElem?_eq_getElem hj')).keep (Tk.of sy)
      obtain ⟨ko1, ko2⟩ := ok.fx _ (List.getElem_mem hj')
      have l4 := ok.l4
      rw [take_map hj']
      have hvl : vs.length ≤ 400 := by rw [hvs.1, List.length_map, List.length_take]; omega
      generalize xs[j] = x0 at hxv ko1 ko2 ⊢
      obtain ⟨tk, o⟩ := x0
      obtain ⟨W, rfl, hW⟩ := hxv
      have hDy := hD.same sy
      have fin : ∀ p, Hy p = none → ∃ acc, upd Hy p (.tup (.int (tk * f + sh) :: outL (oled cm o))) B = some (.lst acc) ∧ acc.length < sizeLine ∧ Same H5 (upd (upd Hy p (.tup (.int (tk * f + sh) :: outL (oled cm o)))) B (.lst (acc ++ [.ref p]))) ∧ Trips (upd (upd Hy p (.tup (.int (tk * f + sh) :: outL (oled cm o)))) B (.lst (acc ++ [.ref p]))) B ((xs.take j).map (fun x => (x.1 * f + sh, oled cm x.2)) ++ [(tk * f + sh, oled cm o)]) := fun p np => by
        have kp := same_upd (o := .tup (.int (tk * f + sh) :: outL (oled cm o))) np
        have hB3 := kp _ _ hB
        refine ⟨vs, hB3, small1000 (by omega), Same.off (sx.trans kp) nB off_upd, _, upd_same, ?_⟩
        exact AllV.keep ((hvs.keep fun x v z => z.keep (Tk.of kp)).snoc (v := .ref p) ⟨p, rfl, upd_same⟩) fun x v z => z.keep (tk_upd hB3)
      cases o with
      | no => cases ko1
      | pr c =>
        obtain ⟨od, g1, g2⟩ := hDy.get c
        refine ⟨W, _, rfl, SqT.of hW, rfl, _, _, rfl, _, _, rfl, _, _, rfl, rfl, rfl, _, rfl, _, rfl, _, _, rfl, rfl, wide_mul (a := 100) (b := 40) ko2 hf (by decide) (by decide) (by decide), _, rfl, _, _, rfl, rfl, _, rfl, _, rfl, D, rfl, hDy.isD, _, rfl, _, rfl, od, g1, ?_⟩
        rw [g2]
        exact ⟨(by show 3 ≤ sizeLine; decide), fun p np => fin p np⟩
      | re c =>
        obtain ⟨od, g1, g2⟩ := hDy.get c
        refine ⟨W, _, rfl, SqT.of hW, rfl, _, _, rfl, _, _, rfl, _, _, rfl, rfl, rfl, _, rfl, _, rfl, _, _, rfl, rfl, wide_mul (a := 100) (b := 40) ko2 hf (by decide) (by decide) (by decide), _, rfl, _, _, rfl, rfl, _, rfl, _, rfl, D, rfl, hDy.isD, _, rfl, _, rfl, od, g1, ?_⟩
        rw [g2]
        exact ⟨(by show 3 ≤ sizeLine; decide), fun p np => fin p np⟩
    obtain ⟨s56, hB6⟩ := p
    rw [List.take_of_length_le (by omega)] at hB6
    have hF6 := s56 _ _ hF5
    have BF : B ≠ F := fun z => by rw [z, hF5] at nB; cases nB
    have hF6 : H6 F = some (.lst [.ref M, .ref R, .ref N]) := hF6
    refine ⟨F, _, .ref B, rfl, rfl, hF6, (by show 3 < sizeLine; decide), ?_⟩
    have s7 : Same H (upd H6 F (.lst ([.ref M, .ref R, .ref N] ++ [.ref B]))) := Same.off (s5.trans s56) nF0 off_upd
    have hF7 := upd_same (H := H6) (a := F) (o := .lst ([.ref M, .ref R, .ref N] ++ [.ref B]))
    have hO7 := (hO5.same s56).updF (zs := [.ref M, .ref R, .ref N] ++ [.ref B]) hF6 MF
    have hM7 := (hM5.same s56).updF (zs := [.ref M, .ref R, .ref N] ++ [.ref B]) hF6 FR.symm
    have hN7 : upd H6 F (.lst ([.ref M, .ref R, .ref N] ++ [.ref B])) N = some (.lst ((ons.map (spI q)).map V.int)) := by rw [upd_ne NF]; exact s56 _ _ hN5
    have hB7 := hB6.updF (zs := [.ref M, .ref R, .ref N] ++ [.ref B]) hF6 BF
    generalize upd H6 F (.lst ([.ref M, .ref R, .ref N] ++ [.ref B])) = H7 at s7 hF7 hO7 hM7 hN7 hB7 ⊢
    -- the ticks
    refine ⟨_, rfl, _, rfl, a5, rfl, ⟨_, SqL.of (s7 _ _ t5)⟩, fun Z nZ => lc_it (walk_list (xs := ds.map V.int)) (fun j H' => Same H7 H' ∧ H' Z = some (.lst (((ds.take j).map fun z => z * f + sh).map V.int))) ⟨same_upd nZ, upd_same⟩ (fun j H' _ p => SqL.of (p.1 _ _ (s7 _ _ t5))) (fun j x Hx Hy hj p y => ?_) (fun H8 p => ?_)⟩
    · obtain ⟨sx, hZ⟩ := p
      obtain ⟨rfl, hx⟩ := y
      have hj' : j < ds.length := by rw [List.length_map] at hj; exact hj
      have ex : V.int ds[j] = x := by
        rw [List.getElem?_map, List.getElem?_eq_getElem hj'] at hx
        exact Option.some.inj hx
      subst ex
      have l5 := ok.l5
      have hd := ok.fd _ (List.getElem_mem hj')
      rw [take_map hj']
      refine ⟨rfl, _, rfl, _, rfl, _, _, rfl, rfl, wide_mul (a := 100) (b := 40) hd hf (by decide) (by decide) (by decide), _, rfl, _, _, rfl, rfl, _, hZ, small1000 (by rw [List.length_map, List.length_map, List.length_take]; omega), Same.off sx nZ off_upd, ?_⟩
      rw [upd_same, List.map_append]
      rfl
    obtain ⟨s78, hZ8⟩ := p
    rw [List.take_of_length_le (by rw [List.length_map]; omega)] at hZ8
    refine ⟨(by show 1 ≤ sizeLine; decide), fun Y nY => ?_⟩
    have kY := same_upd (o := .lst [.ref Z]) nY
    have hF8 := kY _ _ (s78 _ _ hF7)
    refine ⟨F, Y, _, _, rfl, rfl, hF8, upd_same, (by show 4 + 1 ≤ sizeLine; decide), fun D' nD => ?_⟩
    have kD := same_upd (o := .lst (([.ref M, .ref R, .ref N] ++ [.ref B]) ++ [.ref Z])) nD
    have s8 := (s78.trans kY).trans kD
    exact k _ D' (s7.trans s8) (none_back (s7.trans (s78.trans kY)) nD) ⟨M, R, N, B, Z, upd_same, hO7.same s8, hM7.same s8, s8 _ _ hN7, hB7.same s8, (kY.trans kD) _ _ hZ8⟩
end
end K84

set_option Elab.async false
set_option linter.all false
set_option maxRecDepth 100000
set_option maxHeartbeats 8000000
namespace K84
open PySem PySem.Spec PyProof.Rows L2 Gd Rm La Cb Pl
/-! ### the layout that is led over -/
def insL (q : Nat) (cm : Str → Str) (f : Int) (m : Nat) (L : List (List Actn)) : Nat → List (List Actn)
  | 0 => []
  | j + 1 => (insL q cm f m L j ++ if j = q then [List.replicate m Actn.thr] else []) ++ [(L.getD j []).map (led q cm f)]
section
variable {q : Nat} {cm : Str → Str} {f sh : Int} {m : Nat} {L : List (List Actn)}
theorem ins_len : ∀ j, (insL q cm f m L j).length = if q < j then j + 1 else j
  | 0 => by rw [if_neg (by omega)]; rfl
  | j + 1 => by
    have ih := ins_len j
    show ((insL q cm f m L j ++ if j = q then [List.replicate m Actn.thr] else []) ++ [(L.getD j []).map (led q cm f)]).length = _
    rw [List.length_append, List.length_append, ih]
    rcases Nat.lt_trichotomy q j with z | z | z
    · rw [if_pos z, if_neg (by omega), if_pos (by omega)]; rfl
    · rw [if_neg (by omega), if_pos z.symm, if_pos (by omega)]; rfl
    · rw [if_neg (by omega), if_neg (by omega), if_neg (by omega)]; rfl
theorem ins_at : ∀ j i, i < j → (insL q cm f m L j)[spN q i]? = some ((L.getD i []).map (led q cm f))
  | 0, i, h => absurd h (Nat.not_lt_zero _)
  | j + 1, i, h => by
    have l := ins_len (q := q) (cm := cm) (f := f) (m := m) (L := L) j
    show ((insL q cm f m L j ++ if j = q then [List.replicate m Actn.thr] else []) ++ [(L.getD j []).map (led q cm f)])[spN q i]? = _
    rcases Nat.lt_or_ge i j with z | z
    · have ih := ins_at j i z
      have hl := (List.getElem?_eq_some_iff.mp ih).1
      rw [List.append_assoc, List.getElem?_append_left hl]
      exact ih
    · have e : i = j := by omega
      subst e
      have hl : (insL q cm f m L i ++ if i = q then [List.replicate m Actn.thr] else []).length = spN q i := by
        rw [List.length_append, l]
        unfold spN
        rcases Nat.lt_trichotomy q i with z | z | z
        · rw [if_pos z, if_neg (by omega), if_neg (by omega)]; rfl
        · rw [if_neg (by omega), if_pos z.symm, if_neg (by omega)]; rfl
        · rw [if_neg (by omega), if_neg (by omega), if_pos z]; rfl
      rw [List.getElem?_append_right (by omega), hl, Nat.sub_self]
      rfl
theorem ins_mem : ∀ j i' row, (insL q cm f m L j)[i']? = some row → (∃ i, i < j ∧ i' = spN q i ∧ row = (L.getD i []).map (led q cm f)) ∨ (i' = q ∧ row = List.replicate m .thr)
  | 0, i', row, h => by simp [insL] at h
  | j + 1, i', row, h => by
    have l := ins_len (q := q) (cm := cm) (f := f) (m := m) (L := L) j
    have h : ((insL q cm f m L j ++ if j = q then [List.replicate m Actn.thr] else []) ++ [(L.getD j []).map (led q cm f)])[i']? = some row := h
    rcases Nat.lt_or_ge i' (insL q cm f m L j).length with z | z
    · rw [List.append_assoc, List.getElem?_append_left z] at h
      rcases ins_mem j i' row h with ⟨i, a, b, c⟩ | y
      · exact .inl ⟨i, by omega, b, c⟩
      · exact .inr y
    · rw [List.append_assoc, List.getElem?_append_right z] at h
      rcases Nat.lt_trichotomy q j with y | y | y
      · rw [if_neg (by omega), List.nil_append] at h
        rw [if_pos y] at l
        have e : i' - (insL q cm f m L j).length = 0 := by
          have := (List.getElem?_eq_some_iff.mp h).1
          have h2 : ([(L.getD j []).map (led q cm f)] : List (List Actn)).length = 1 := rfl
          omega
        rw [e] at h
        refine .inl ⟨j, Nat.lt_succ_self _, ?_, (Option.some.inj h).symm⟩
        unfold spN
        rw [if_neg (by omega)]
        omega
      · rw [if_pos y.symm] at h
        rw [if_neg (by omega)] at l
        have hlt := (List.getElem?_eq_some_iff.mp h).1
        have h2 : ([List.replicate m Actn.thr] ++ [(L.getD j []).map (led q cm f)] : List (List Actn)).length = 2 := rfl
        rcases (show i' - (insL q cm f m L j).length = 0 ∨ i' - (insL q cm f m L j).length = 1 by omega) with e | e
        · rw [e] at h
          exact .inr ⟨by omega, (Option.some.inj h).symm⟩
        · rw [e] at h
          refine .inl ⟨j, Nat.lt_succ_self _, ?_, (Option.some.inj h).symm⟩
          unfold spN
          rw [if_neg (by omega)]
          omega
      · rw [if_neg (by omega), List.nil_append] at h
        rw [if_neg (by omega)] at l
        have e : i' - (insL q cm f m L j).length = 0 := by
          have := (List.getElem?_eq_some_iff.mp h).1
          have h2 : ([(L.getD j []).map (led q cm f)] : List (List Actn)).length = 1 := rfl
          omega
        rw [e] at h
        refine .inl ⟨j, Nat.lt_succ_self _, ?_, (Option.some.inj h).symm⟩
        unfold spN
        rw [if_pos y]
        omega
theorem ok_led {n n' : Nat} (q1 : 1 ≤ q) (hn : if q < n then n' = n + 1 else n ≤ n') (hcm : ∀ c, CodeOk c → CodeOk (cm c)) (f1 : 1 ≤ f) {i : Nat} {x : Actn} (h : ActOk n i x) (ht : timeOf x * f ≤ 1000000000) : ActOk n' (spN q i) (led q cm f x) := by
  have J : ∀ j : Int, 1 ≤ j → j ≤ n - 1 → 1 ≤ spI q j ∧ spI q j ≤ n' - 1 := fun j h1 h2 => by
    unfold spI
    split at hn <;> split <;> omega
  have T : ∀ t : Int, 1 ≤ t → t * f ≤ 1000000000 → 1 ≤ t * f ∧ t * f ≤ 1000000000 := fun t h1 h2 => by
    refine ⟨?_, h2⟩
    have : 1 * f ≤ t * f := Int.mul_le_mul_of_nonneg_right h1 (by omega)
    omega
  cases x with
  | none => exact True.intro
  | thr =>
    have h : (0 : Int) < i := h
    show (0 : Int) < (spN q i : Nat)
    unfold spN
    split <;> omega
  | code c => exact hcm c h
  | lay w j => exact ⟨h.1, J j h.2.1 h.2.2⟩
  | dualC c d t r => exact ⟨hcm c h.1, hcm d h.2.1, T t h.2.2.1.1 ht, h.2.2.2⟩
  | dualL c j t r => exact ⟨hcm c h.1, J j h.2.1.1 h.2.1.2, T t h.2.2.1.1 ht, h.2.2.2⟩
theorem ins_lay (hO : LayOk L m) (q1 : 1 ≤ q) (n5 : L.length ≤ 5) (hcm : ∀ c, CodeOk c → CodeOk (cm c)) (f1 : 1 ≤ f) (ht : ∀ row ∈ L, ∀ x ∈ row, timeOf x * f ≤ 1000000000) : LayOk (insL q cm f m L L.length) m ∧ Sim L (insL q cm f m L L.length) m q cm f id := by
  have l := ins_len (q := q) (cm := cm) (f := f) (m := m) (L := L) L.length
  have n1 := hO.n1
  have hn : if q < L.length then (insL q cm f m L L.length).length = L.length + 1 else L.length ≤ (insL q cm f m L L.length).length := by
    rw [l]; split
    · rfl
    · exact Nat.le_refl _
  have row_of : ∀ i, i < L.length → L.getD i [] ∈ L ∧ L[i]? = some (L.getD i []) := fun i hi => by
    rw [List.getD_eq_getElem?_getD, List.getElem?_eq_getElem hi]
    exact ⟨List.getElem_mem hi, rfl⟩
  refine ⟨⟨by rw [l]; split <;> omega, by rw [l]; split <;> omega, hO.m1, hO.m16, fun row hr => ?_, fun i' row h x hx => ?_⟩, ⟨q1, by omega, fun i k hi hk => ?_, fun h => by rw [l, if_pos h], fun h => by rw [l, if_neg (by omega)]; exact Nat.le_refl _, fun a b _ _ _ _ z => z⟩⟩
  · obtain ⟨i', hi'⟩ := List.getElem?_of_mem hr
    rcases ins_mem _ _ _ hi' with ⟨i, a, _, rfl⟩ | ⟨_, rfl⟩
    · rw [List.length_map]; exact hO.len _ (row_of i a).1
    · rw [List.length_replicate]
  · rcases ins_mem _ _ _ h with ⟨i, a, rfl, rfl⟩ | ⟨rfl, rfl⟩
    · obtain ⟨y, hy, rfl⟩ := List.mem_map.mp hx
      obtain ⟨r1, r2⟩ := row_of i a
      exact ok_led q1 hn hcm f1 (hO.ok i _ r2 y hy) (ht _ r1 y hy)
    · rw [List.eq_of_mem_replicate hx]
      show (0 : Int) < (i' : Nat)
      omega
  · have e := ins_at (q := q) (cm := cm) (f := f) (m := m) (L := L) L.length i hi
    unfold actAt
    rw [List.getD_eq_getElem?_getD (l := insL q cm f m L L.length), e]
    show ((L.getD i []).map (led q cm f)).getD k .none = led q cm f ((L.getD i []).getD k .none)
    generalize L.getD i [] = row
    rw [List.getD_eq_getElem?_getD, List.getD_eq_getElem?_getD, List.getElem?_map]
    cases row[k]? <;> rfl
/-- ticks in other measures -/
theorem ev_held {es : List Ev} : heldB (es.map (evM f sh id)) = heldB es := by
  unfold heldB
  rw [List.foldl_map]
  rfl
theorem ev_valid (f0 : 0 < f) {es : List Ev} (h : Valid es) : Valid (es.map (evM f sh id)) := fun i e x => by
  rw [List.getElem?_map] at x
  cases y : es[i]? with
  | none => rw [y] at x; cases x
  | some e0 =>
    rw [y] at x
    have x : evM f sh id e0 = e := Option.some.inj x
    subst x
    obtain ⟨a, b, c⟩ := h i e0 y
    refine ⟨a, ?_, fun j e' hj z => ?_⟩
    · rw [← List.map_take, ev_held]
      exact b
    · rw [List.getElem?_map] at z
      cases y2 : es[j]? with
      | none => rw [y2] at z; cases z
      | some g' =>
        rw [y2] at z
        have z : evM f sh id g' = e' := Option.some.inj z
        subst z
        have := Int.mul_le_mul_of_nonneg_right (c j g' hj y2) (Int.le_of_lt f0)
        show g'.t * f + sh ≤ e0.t * f + sh
        omega
end
/-! ### how great the ticks are -/
theorem time0 {n i : Int} {x : Actn} (h : ActOk n i x) : 0 ≤ timeOf x ∧ timeOf x ≤ 1000000000 := by
  cases x with
  | dualC c d t r => exact ⟨by have := h.2.2.1.1; show 0 ≤ t; omega, h.2.2.1.2⟩
  | dualL c j t r => exact ⟨by have := h.2.2.1.1; show 0 ≤ t; omega, h.2.2.1.2⟩
  | _ => exact ⟨Int.le_refl 0, (by decide : (0 : Int) ≤ 1000000000)⟩
theorem dn_low {L : List (List Actn)} {es : List Ev} {m : Nat} {B : Int} (hO : LayOk L m) (hV : Valid es) (hk : ∀ e ∈ es, e.k < (m : Int)) (hB : ∀ e ∈ es, -B ≤ e.t ∧ e.t ≤ B) : ∀ i, i < es.length → -B ≤ dnT L es i ∧ dnT L es i ≤ B + 1000000000 := fun i => by
  induction i using Nat.strongRecOn with
  | ind i ih =>
    intro hi
    have hm : evAt es i ∈ es := by rw [evAt_eq hi]; exact List.getElem_mem hi
    have b := hB _ hm
    have g := (dnT_ge (L := L) (es := es) hi).1
    refine ⟨by omega, dnT_le hi (fun j hj => (ih j hj (by omega)).2) (by omega) fun z hz => ?_⟩
    by_cases hdl : (evAt es i).d = true ∧ isDl (xAt L es i) = true
    · obtain ⟨hd, hl⟩ := hdl
      rw [dec_some hd hl] at hz
      have k0 := (hV i _ (List.getElem?_eq_getElem hi)).1
      have k1 := hk _ (List.getElem_mem hi)
      obtain ⟨_, t2, _⟩ := taken_ok hO (runS L es i) (k := (evAt es i).k.toNat) (by rw [evAt_eq hi]; omega)
      have tl := (time0 t2).2
      have tl : timeOf (xAt L es i) ≤ 1000000000 := tl
      cases hs : sureM es i (xAt L es i) with
      | none =>
        rw [hs] at hz
        have := Option.some.inj hz
        omega
      | some n =>
        rw [hs] at hz
        have hn := (sureM_lt hs).2
        have := hB (evAt es n) (by rw [evAt_eq hn]; exact List.getElem_mem hn)
        have := Option.some.inj hz
        omega
    · have hor : (evAt es i).d = false ∨ isDl (xAt L es i) = false := by
        cases q1 : (evAt es i).d with
        | false => exact .inl rfl
        | true =>
          cases q2 : isDl (xAt L es i) with
          | false => exact .inr rfl
          | true => exact absurd ⟨q1, q2⟩ hdl
      rw [dec_none hor] at hz
      cases hz
theorem doneM_eq {L : List (List Actn)} {es : List Ev} : doneM L es = (List.range es.length).map (dnT L es) := rfl
theorem due_ok {L : List (List Actn)} {es : List Ev} {m : Nat} (hO : LayOk L m) (hV : Valid es) (hk : ∀ e ∈ es, e.k < (m : Int)) (hl : es.length ≤ 400) (hB : ∀ e ∈ es, -(10 ^ 21) ≤ e.t ∧ e.t ≤ 10 ^ 21) : DueOk L.length (outsM L es es.length) (tdsM L es es.length) (onLs (runS L es es.length) L.length) (outsT L es 0 es.length) (doneM L es) := by
  have p20 : (10 : Int) ^ 21 = 1000000000000000000000 := by decide
  have p100 : (2 : Nat) ^ 100 = 1267650600228229401496703205376 := by decide
  have dl := dn_low (L := L) (B := 10 ^ 21) hO hV hk hB
  refine ⟨outsM_ok hO hV hk, tdsM_ok hO hV hk, fun i hi => ?_, fun x hx => ?_, fun d hd => ?_, by rw [outsM_len]; exact hl, by rw [tdsM_len]; exact hl, ?_, ?_, by rw [doneM_eq, List.length_map, List.length_range]; exact hl⟩
  · unfold onLs at hi
    obtain ⟨j, hj, rfl⟩ := List.mem_map.mp hi
    have := List.mem_range.mp (List.mem_filter.mp hj).1
    omega
  · unfold outsT at hx
    obtain ⟨i, hi, rfl⟩ := List.mem_map.mp hx
    obtain ⟨h1, h2⟩ := List.mem_filter.mp hi
    obtain ⟨j, hj, rfl⟩ := List.mem_range'.mp h1
    refine ⟨h2, ?_⟩
    have := dl (0 + 1 * j) (by omega)
    show (dnT L es (0 + 1 * j)).natAbs < 2 ^ 100
    omega
  · rw [doneM_eq] at hd
    obtain ⟨i, hi, rfl⟩ := List.mem_map.mp hd
    have := dl i (List.mem_range.mp hi)
    omega
  · unfold onLs
    rw [List.length_map]
    have := hO.n6
    exact Nat.le_trans (List.length_filter_le ..) (by rw [List.length_range]; omega)
  · exact Nat.le_trans outsT_len (by omega)
/-- all that is told is led over -/
theorem all_led {H : Hp} {D : Addr} {L L' : List (List Actn)} {es : List Ev} {m q : Nat} {cm : Str → Str} {f sh : Int} {km : Int → Int} (S : Sim L L' m q cm f km) (hO : LayOk L m) (hV : Valid es) (hk : ∀ e ∈ es, e.k < (m : Int)) (h : AllOf H D L' (es.map (evM f sh km))) :
    All5 H D ((outsM L es es.length).map (oled cm)) ((tdsM L es es.length).map (tled q cm 1)) ((onLs (runS L es es.length) L.length).map (spI q)) ((outsT L es 0 es.length).map fun x => (x.1 * f + sh, oled cm x.2)) ((doneM L es).map fun z => z * f + sh) := by
  unfold AllOf at h
  have el : (es.map (evM f sh km)).length = es.length := List.length_map ..
  have e5 : doneM L' (es.map (evM f sh km)) = (doneM L es).map fun z => z * f + sh := by
    rw [doneM_eq, doneM_eq, el, List.map_map]
    exact List.map_congr_left fun i hi => led_done S hO hV hk i (List.mem_range.mp hi)
  have e2 : (tdsM L es es.length).map (tled q cm f) = (tdsM L es es.length).map (tled q cm 1) := List.map_congr_left fun t ht => tled_one (tdsM_ok hO hV hk t ht)
  rw [e5, el, led_outs S hO hV hk, led_tds S hO hV hk, led_on S hO hV hk, led_outsT S hO hV hk, e2] at h
  exact h
end K84

set_option Elab.async false
set_option linter.all false
set_option maxRecDepth 100000
set_option maxHeartbeats 8000000
namespace K84
open PySem PySem.Spec PyProof.Rows L2 Gd Rm La Cb Pl
/-- a layout being made at D -/
def GL (H : Hp) (D : Addr) (L : List (List Actn)) : Prop := ∃ rs : List Addr, H D = some (.lst (rs.map V.ref)) ∧ Rows H rs L ∧ ∀ x ∈ rs, x ≠ D
theorem GL.lay {H : Hp} {D : Addr} {L : List (List Actn)} (h : GL H D L) : Lay H D L := by
  obtain ⟨rs, a, b, _⟩ := h
  exact ⟨rs, a, b⟩
theorem GL.same {H H' : Hp} {D : Addr} {L : List (List Actn)} (h : GL H D L) (s : Same H H') : GL H' D L := by
  obtain ⟨rs, a, b, c⟩ := h
  exact ⟨rs, s _ _ a, b.same s, c⟩
theorem GL.push {H : Hp} {D M : Addr} {L : List (List Actn)} {row : List Actn} (h : GL H D L) (hr : Row H M row) (n : M ≠ D) : ∃ acc : List V, H D = some (.lst acc) ∧ acc.length = L.length ∧ GL (upd H D (.lst (acc ++ [.ref M]))) D (L ++ [row]) := by
  obtain ⟨rs, a, b, c⟩ := h
  refine ⟨rs.map V.ref, a, by rw [List.length_map]; exact b.1, rs ++ [M], by rw [upd_same, List.map_append]; rfl, ?_, fun x hx => ?_⟩
  · exact Rows.snoc ⟨b.1, fun i r' row' u v => row_upd (b.2 i r' row' u v) a (c r' (List.mem_of_getElem? u))⟩ (row_upd hr a n)
  · rcases List.mem_append.mp hx with z | z
    · exact c x z
    · rw [List.mem_singleton.mp z]; exact n
theorem flat_thr {n : Nat} : (List.replicate ((n : Nat) : Int).toNat [V.str "through"]).flatten = List.replicate n (V.str "through") := by
  rw [Int.toNat_natCast]
  induction n with
  | zero => rfl
  | succ m ih => rw [List.replicate_succ, List.flatten_cons, ih, List.replicate_succ]; rfl
theorem acts_thr {H : Hp} : ∀ n : Nat, Acts H (List.replicate n (V.str "through")) (List.replicate n Actn.thr) := fun n => by
  refine ⟨by rw [List.length_replicate, List.length_replicate], fun i v x a b => ?_⟩
  rw [List.getElem?_replicate] at a b
  split at a
  · rename_i h
    rw [if_pos h] at b
    have a := Option.some.inj a
    have b := Option.some.inj b
    subst a b
    rfl
  · cases a
theorem ins_small {q : Nat} {cm : Str → Str} {f : Int} {m : Nat} {L : List (List Actn)} (h : L.length ≤ 5) {j : Nat} (hj : j ≤ L.length) : (insL q cm f m L j).length ≤ 6 := by
  rw [ins_len]; split <;> omega
section
variable {P : Program} {w : World} {K : PySem.W.Frag} {mg : Str → Option Value} {base : Heap}
def spSame : Sp := fun vs H Q _ => ∃ (c g D S Tl : Addr) (q : Nat) (cm : Str → Str) (f sh : Int) (L : List (List Actn)) (m : Nat) (es : List Ev), vs = [.ref c, .ref g, .ref D, .ref S, .int f, .int sh, .ref Tl] ∧ Lay H c L ∧ LayOk L m ∧ Lst evV H g es ∧ Valid es ∧ es.length ≤ 200 ∧ (∀ e ∈ es, e.k < (m : Int)) ∧ CodesD H D cm ∧ SpotsD H S L.length q ∧ AllOf H Tl L es ∧
  1 ≤ q ∧ L.length ≤ 5 ∧ 1 ≤ f ∧ f ≤ 100 ∧ (∀ row ∈ L, ∀ x ∈ row, timeOf x * f ≤ 1000000000) ∧ (∀ c, CodeOk c → CodeOk (cm c)) ∧ (∀ e ∈ es, -(10 ^ 21) ≤ e.t ∧ e.t ≤ 10 ^ 21) ∧ ∀ H', Same H H' → Q (.bl true) H'
theorem ok__law_same (bt : Bt mg) (a : At K mg "_law_same" s__law_same ["_law_layout_here", "_law_record_here", "_law_codes", "_law_spots", "_law_factor", "_law_more", "_law_told"]) (c__law_led : Cl P w K mg base 2 "_law_led" spLed) (c__law_all : Cl P w K mg base 10 "_law_all" spAll) (c__law_due : Cl P w K mg base 3 "_law_due" spDueL) : Cl P w K mg base 11 "_law_same" spSame := by
  refine clG a sc__law_same (fun vs H Q E h => ?_) (fun ff cdv A0 outer s H vs Q hg hr h => ?_)
  · obtain ⟨c, g, D, S, Tl, q, cm, f, sh, L, m, es, rfl, _⟩ := h
    rfl
  · obtain ⟨c, g, D, S, Tl, q, cm, f, sh, L, m, es, rfl, hL, hO, hG, hV, h2, hkm, hD, hS, hA, q1, n5, f1, f2, ht, hcm, hB, k⟩ := h
    refine ⟨_, (pss_cons (ps_set (i := 7) sc__law_same.nd rfl (Or.inl rfl) (pe_lst pa_nil))
      (pss_cons (ps_for PassesOwn.never rfl (pi_enum (by rfl) bt.m_enumerate (pa_cons (pv 0) pa_nil)) (pg_tup rfl (pgs_cons (pg_name (i := 8) sc__law_same.nd rfl (Or.inl rfl)) (pgs_cons (pg_name (i := 9) sc__law_same.nd rfl (Or.inl rfl)) pgs_nil))) (C8.pss_cut (ps_if (pt_cmpR op_gt (pe_dget (hu_of hr) (pv 3) (pv 8) (fun _ _ => rfl)) (pe_callB call_len_seq (by rfl) bt.m_len (by decide +kernel) (pa_cons (pv 7) pa_nil)) (nomark _)) (pss_one (ps_expr (pe_bm PySem.F.plainAttrs_list PySem.F.slot_list_append PySem.F.type_list_append mt_append (pv 7) (pa_cons (pe_op op_rep (pe_lst (pa_cons pe_str pa_nil)) (pe_callB call_len_seq (by rfl) bt.m_len (by decide +kernel) (pa_cons (pv 9) pa_nil))) pa_nil)))) pss_nil)
      (pss_one (ps_expr (pe_bm PySem.F.plainAttrs_list PySem.F.slot_list_append PySem.F.type_list_append mt_append (pv 7) (pa_cons (pe_lc (own := [("_law_action_here", 13)]) (g := (gName 13)) (by rfl) sc__law_same.nd (pi_list (pv 9)) (blkOk_by (N := n__law_same) (sc := defScope s__law_same) (by decide +kernel)) (fun _ _ _ _ _ => (pg_name (i := 13) sc__law_same.nd rfl (Or.inl rfl))) (fun _ _ _ _ _ => pts_nil) (fun _ _ _ _ _ => (pe_cl c__law_led hg hr (by decide) (by rfl) (pa_cons (pv 13) (pa_cons (pv 2) (pa_cons (pv 3) (pa_cons (pv 4) pa_nil))))))) pa_nil))))))
      (pss_cons (ps_setLc (i := 1) (own := [("_law_tick", 10), ("_law_key", 11), ("_law_way", 12)]) (g := (gTup K 3 (gCons (gName 10) (gCons (gName 11) (gCons (gName 12) gNil))))) (by rfl) sc__law_same.nd rfl rfl (sw_true rfl rfl rfl (by decide +kernel)) (pi_list (pv 1)) (blkOk_by (N := n__law_same) (sc := defScope s__law_same) (by decide +kernel)) (fun _ _ _ _ _ => (pg_tup rfl (pgs_cons (pg_name (i := 10) sc__law_same.nd rfl (Or.inl rfl)) (pgs_cons (pg_name (i := 11) sc__law_same.nd rfl (Or.inl rfl)) (pgs_cons (pg_name (i := 12) sc__law_same.nd rfl (Or.inl rfl)) pgs_nil))))) (fun _ _ _ _ _ => pts_nil) (fun _ _ _ _ _ => (pe_tup (pa_cons (pe_op op_add (pe_op op_mulW (pv 10) (pv 4)) (pv 5)) (pa_cons (pv 11) (pa_cons (pv 12) pa_nil))))))
      (pss_one (ps_ret (pe_cmpR (op_eqD hr.units) (pe_cl c__law_all hg hr (by decide) (by rfl) (pa_cons (pv 7) (pa_cons (pv 1) pa_nil))) (pe_cl c__law_due hg hr (by decide) (by rfl) (pa_cons (pv 6) (pa_cons (pv 2) (pa_cons (pv 3) (pa_cons (pv 4) (pa_cons (pv 5) pa_nil)))))) (nomark _))))))), ?_⟩
    obtain ⟨rs, hc, hR⟩ := hL
    have hrl := hR.1
    refine ⟨Nat.zero_le _, fun R nR => ?_⟩
    have kR := same_upd (o := .lst []) nR
    have hc0 := kR _ _ hc
    have cR : c ≠ R := ne_of_none hc nR
    have g0 : GL (upd H R (.lst [])) R (insL q cm f m L 0) := ⟨[], upd_same, ⟨rfl, fun i r row a b => by simp at a⟩, fun x hx => by simp at hx⟩
    generalize upd H R (.lst []) = H0 at kR hc0 g0 ⊢
    refine ⟨_, rfl, c, _, rfl, SqL.of hc0, for_it (walk_enum (xs := rs.map V.ref)) (fun j σ H' => (∃ y8 y9 y10 y11 y12 y13, σ = [some (.ref c), some (.ref g), some (.ref D), some (.ref S), some (.int f), some (.int sh), some (.ref Tl), some (.ref R), y8, y9, y10, y11, y12, y13]) ∧ Same H H' ∧ GL H' R (insL q cm f m L j))
      ⟨⟨_, _, _, _, _, _, rfl⟩, kR, g0⟩ (fun j σ H' _ p => SqL.of (p.2.1 _ _ hc)) (fun j x σ Hx Hy hj p y => ?_) (fun σ H1 p => ?_)⟩
    · obtain ⟨⟨y8, y9, y10, y11, y12, y13, rfl⟩, sx, gx⟩ := p
      obtain ⟨T, u, v, rfl, nT, rfl, e1, e2⟩ := y
      have hj' : j < L.length := by rw [List.length_map] at hj; omega
      obtain ⟨r, hr0, hrow⟩ := hR.at_ hj'
      have ev : v = .ref r := Option.some.inj (e2.symm.trans (get_map_ref hr0))
      subst ev
      have eu : u = .int (j : Nat) := (Option.some.inj e1).symm
      subst eu
      have kT := same_upd (o := .tup [.int (j : Nat), .ref r]) nT
      have s1 := sx.trans kT
      have g1 := gx.same kT
      have hrow1 := hrow.same s1
      have hT1 := upd_same (H := Hx) (a := T) (o := .tup [.int (j : Nat), .ref r])
      generalize upd Hx T (.tup [.int (j : Nat), .ref r]) = H1 at s1 g1 hrow1 hT1 ⊢
      refine ⟨T, _, rfl, SqT.of hT1, rfl, _, _, rfl, _, _, rfl, rfl, ?_⟩
      have hm : L[j].length = m := hO.len _ (List.getElem_mem hj')
      have m16 := hO.m16
      have il := ins_len (q := q) (cm := cm) (f := f) (m := m) (L := L) j
      have is6 := ins_small (q := q) (cm := cm) (f := f) (m := m) n5 (Nat.le_of_lt hj')
      obtain ⟨ws, hw, hws⟩ := id hrow1
      have hwl := hws.1
      refine ⟨fun σ' H' => σ' = [some (.ref c), some (.ref g), some (.ref D), some (.ref S), some (.int f), some (.int sh), some (.ref Tl), some (.ref R), some (.int (j : Nat)), some (.ref r), y10, y11, y12, y13] ∧ Same H H' ∧ GL H' R (insL q cm f m L j ++ if j = q then [List.replicate m .thr] else []), ?_, ?_⟩
      · obtain ⟨rs1, hR1, hRR, hne⟩ := id g1
        refine ⟨_, rfl, _, rfl, S, _, rfl, (hS.same s1).get (j := (j : Int)) (by omega) (by omega), _, rfl, R, _, rfl, .inl (SqL.of hR1), _, _, rfl, rfl, _, rfl, ite2 (fun z => ?_) (fun z => ?_)⟩
        · have z : ((rs1.map V.ref).length : Int) < spI q (j : Int) := of_decide_eq_true z
          rw [List.length_map, hRR.1, il, spIN] at z
          have e : j = q := by
            unfold spN at z
            split at z <;> split at z <;> omega
          rw [if_pos e]
          refine ⟨_, rfl, .inl ⟨rfl, _, SqL.of hR1⟩, (by show 1 ≤ sizeLine; decide), fun X nX => ⟨_, rfl, r, _, rfl, .inl (SqL.of ((same_upd nX) _ _ hw)), X, _, _, rfl, rfl, upd_same, ?_, ?_, ?_, fun Y nY => ?_⟩⟩
          · omega
          · omega
          · rw [hwl, hm, Int.toNat_natCast, sizeLine_eq]; show 1 * m ≤ _; omega
          rw [hwl, hm, flat_thr]
          have kX := same_upd (o := .lst [.str "through"]) nX
          have kY := same_upd (o := .lst (List.replicate m (V.str "through"))) nY
          have g2 := g1.same (kX.trans kY)
          obtain ⟨acc, a1, a2, a3⟩ := g2.push (M := Y) (row := List.replicate m .thr) ⟨_, upd_same, acts_thr m⟩ (fun q0 => by
            have := kX _ _ hR1
            rw [← q0, nY] at this
            cases this)
          exact ⟨R, acc, .ref Y, rfl, rfl, a1, small1000 (by omega), rfl, Same.off ((s1.trans kX).trans kY) nR off_upd, a3⟩
        · have z : ¬ ((rs1.map V.ref).length : Int) < spI q (j : Int) := fun y => z (decide_eq_true y)
          rw [List.length_map, hRR.1, il, spIN] at z
          have e : ¬ j = q := fun e => by
            unfold spN at z
            rw [if_neg (by omega), if_neg (by omega)] at z
            omega
          rw [if_neg e, List.append_nil]
          exact ⟨rfl, s1, g1⟩
      · rintro σ' H2 ⟨rfl, s2, g2⟩
        have hrow2 := hrow.same s2
        obtain ⟨ws, hw, hws⟩ := id hrow2
        have hwl := hws.1
        obtain ⟨rs2, hR2, hRR2, hne2⟩ := id g2
        refine ⟨_, rfl, .inl ⟨rfl, _, SqL.of hR2⟩, ?_⟩
        refine ⟨_, rfl, r, rfl, ⟨_, SqL.of hw⟩, fun M nM => lc_it (walk_list (xs := ws)) (fun i H' => Same H2 H' ∧ ∃ vs, H' M = some (.lst vs) ∧ Acts H' vs ((L[j].take i).map (led q cm f))) ⟨same_upd nM, [], upd_same, Acts.nil⟩ (fun i H' _ p => SqL.of (p.1 _ _ hw)) (fun i x Hx Hy hi p y => ?_) (fun H3 p => ?_)⟩
        · obtain ⟨sy, vs, hM, hvs⟩ := p
          obtain ⟨rfl, hx⟩ := y
          have hi' : i < L[j].length := by omega
          obtain ⟨v, hv, hav⟩ := (hws.keep (Tk.of sy)).at_ hi'
          have ex : v = x := Option.some.inj (hv.symm.trans hx)
          subst ex
          have s3 := s2.trans sy
          have okx := hO.ok j _ (List.getElem?_eq_getElem hj') _ (List.getElem_mem hi')
          have hvl : vs.length ≤ 16 := by rw [hvs.1, List.length_map, List.length_take]; omega
          rw [take_map hi']
          refine ⟨rfl, _, rfl, _, rfl, _, rfl, _, rfl, v, D, S, q, L.length, cm, f, L[j][i], (j : Int), rfl, hav, hD.same s3, hS.same s3, okx, by omega, f2, fun H4 u4 s4 hu4 => ⟨vs, s4 _ _ hM, small1000 (by omega), Same.off (sy.trans s4) nM off_upd, vs ++ [u4], upd_same, ?_⟩⟩
          exact ((hvs.keep (Tk.of s4)).snoc hu4).keep (tk_upd (s4 _ _ hM))
        · obtain ⟨sy, vs, hM, hvs⟩ := p
          rw [List.take_of_length_le (by omega)] at hvs
          have g3 := g2.same sy
          have MR : M ≠ R := fun z => by rw [z, hR2] at nM; cases nM
          obtain ⟨acc, a1, a2, a3⟩ := g3.push ⟨vs, hM, hvs⟩ MR
          have al : acc.length ≤ 6 := by
            rw [a2, List.length_append, il]
            split <;> split <;> simp <;> omega
          refine ⟨R, acc, .ref M, rfl, rfl, a1, small1000 (by omega), ⟨_, _, _, _, _, _, rfl⟩, Same.off (s2.trans sy) nR off_upd, ?_⟩
          have eg : L.getD j [] = L[j] := by rw [List.getD_eq_getElem?_getD, List.getElem?_eq_getElem hj']; rfl
          show GL _ R ((insL q cm f m L j ++ if j = q then [List.replicate m .thr] else []) ++ [(L.getD j []).map (led q cm f)])
          rw [eg]
          exact a3
    · obtain ⟨⟨y8, y9, y10, y11, y12, y13, rfl⟩, s1, g1⟩ := p
      rw [List.length_map, hrl] at g1
      -- the record
      obtain ⟨as, hg0, hT⟩ := hG.same s1
      refine ⟨_, rfl, g, rfl, ⟨_, SqL.of hg0⟩, fun M nM => lc_it (walk_list (xs := as.map V.ref)) (fun i H' => Same H1 H' ∧ Lst evV H' M ((es.take i).map (evM f sh id))) ⟨same_upd nM, [], upd_same, Tups.nil⟩ (fun i H' _ p => SqL.of (p.1 _ _ hg0)) (fun i x Hx Hy hi p y => ?_) (fun H2 p => ?_)⟩
      · obtain ⟨sx, bs, hM, hTb⟩ := p
        obtain ⟨rfl, hx⟩ := y
        have hi' : i < es.length := by rw [List.length_map] at hi; rw [← hT.1]; exact hi
        obtain ⟨b, hb, hbt⟩ := hT.at_ hi'
        have ex : V.ref b = x := Option.some.inj ((get_map_ref hb).symm.trans hx)
        subst ex
        have bl := hTb.1
        rw [List.length_map, List.length_take] at bl
        have tb := hB _ (List.getElem_mem hi')
        have p20 : (10 : Int) ^ 21 = 1000000000000000000000 := by decide
        have p100 : (2 : Nat) ^ 100 = 1267650600228229401496703205376 := by decide
        have p40 : (2 : Nat) ^ 40 = 1099511627776 := by decide
        rw [take_map hi']
        refine ⟨b, _, rfl, SqT.of (sx _ _ hbt), rfl, _, _, rfl, _, _, rfl, _, _, rfl, rfl, rfl, _, rfl, _, rfl, _, _, rfl, rfl, wide_mul (a := 100) (b := 40) (by omega) (by omega) (by decide) (by decide) (by decide), _, rfl, _, _, rfl, rfl, _, rfl, _, rfl, (by show 3 ≤ sizeLine; decide), fun p np => ?_⟩
        have kp := same_upd (o := .tup (evV (evM f sh id es[i]))) np
        have hM2 := kp _ _ hM
        refine ⟨_, hM2, small1000 (by rw [List.length_map]; omega), Same.off (sx.trans kp) nM off_upd, bs ++ [p], by rw [upd_same, List.map_append]; rfl, ?_⟩
        have t1 := (hTb.same kp).snoc (a := p) (e := evM f sh id es[i]) upd_same
        exact ⟨t1.1, fun i a e u v => (tk_upd hM2) _ _ (t1.2 i a e u v)⟩
      obtain ⟨s12, hM⟩ := p
      rw [show (as.map V.ref).length = es.length by rw [List.length_map]; exact hT.1, List.take_length] at hM
      have s2 := s1.trans s12
      have g2 := g1.same s12
      obtain ⟨hO', hSim⟩ := ins_lay hO q1 n5 hcm f1 ht
      have hV' := ev_valid (f := f) (sh := sh) (by omega) hV
      have hk' : ∀ e ∈ es.map (evM f sh id), e.k < (m : Int) := fun e he => by
        obtain ⟨e', he', rfl⟩ := List.mem_map.mp he
        exact hkm e' he'
      refine ⟨_, rfl, _, rfl, R, M, insL q cm f m L L.length, m, es.map (evM f sh id), rfl, g2.lay, hO', hM, hV', by rw [List.length_map]; omega, hk', fun H3 D3 s3 n3 hA3 _ => ?_⟩
      have s03 := s2.trans s3
      have dok := due_ok hO hV hkm (by omega) hB
      refine ⟨_, rfl, _, rfl, _, rfl, _, rfl, _, rfl, Tl, D, S, q, L.length, cm, f, sh, _, _, _, _, _, rfl, hA.same s03, hD.same s03, hS.same s03, dok, by omega, fun H4 D4 s4 n4 hA4 => ?_⟩
      have hA5 := (all_led hSim hO hV hkm hA3).same s4
      have okO := outsM_ok hO' hV' hk'
      rw [show (es.map (evM f sh id)).length = es.length from List.length_map .., led_outs hSim hO hV hkm] at okO
      have okT := tdsM_ok hO' hV' hk'
      rw [show (es.map (evM f sh id)).length = es.length from List.length_map .., led_tds hSim hO hV hkm, show (tdsM L es es.length).map (tled q cm f) = (tdsM L es es.length).map (tled q cm 1) from List.map_congr_left fun t ht => tled_one (tdsM_ok hO hV hkm t ht)] at okT
      have okX := outsT_ok (L := insL q cm f m L L.length) hO' hV' hk' (f := 0) (Nat.le_refl _)
      rw [show (es.map (evM f sh id)).length = es.length from List.length_map .., led_outsT hSim hO hV hkm] at okX
      obtain ⟨shp, can⟩ := all_shaped (ons := (onLs (runS L es es.length) L.length).map (spI q)) (ds := (doneM L es).map fun z => z * f + sh) okO okT okX
      refine ⟨_, _, hA5.dp, hA4.dp, shp, shp, ?_⟩
      rw [SeqAt.eqv_refl _ can]
      exact k _ (s03.trans s4)
end
end K84

set_option Elab.async false
set_option linter.all false
set_option maxRecDepth 100000
set_option maxHeartbeats 8000000
namespace K84
open PySem PySem.Spec PyProof.Rows L2 Gd Rm La Cb Pl
/-! ### led over to itself -/
theorem spI_id {j : Int} (h : j < 1000) : spI 1000 j = j := if_pos h
theorem spN_id {j : Nat} (h : j < 1000) : spN 1000 j = j := if_pos h
theorem led_id {n : Nat} {i : Int} {x : Actn} (hn : n ≤ 6) (h : ActOk n i x) : led 1000 id 1 x = x := by
  cases x with
  | none => rfl
  | thr => rfl
  | code c => rfl
  | lay w j => exact congrArg (Actn.lay w) (spI_id (by have := h.2.2; omega))
  | dualC c d t r =>
    show Actn.dualC c d (t * 1) r = _
    rw [Int.mul_one]
  | dualL c j t r =>
    show Actn.dualL c (spI 1000 j) (t * 1) r = _
    rw [Int.mul_one, spI_id (by have := h.2.1.2; omega)]
theorem map_self {α : Type} {g : α → α} {xs : List α} (h : ∀ x ∈ xs, g x = x) : xs.map g = xs := by
  have : xs.map g = xs.map id := List.map_congr_left fun x hx => h x hx
  rw [this, List.map_id]
theorem all_id {H : Hp} {D : Addr} {L L' : List (List Actn)} {es : List Ev} {m : Nat} {km : Int → Int} (S : Sim L L' m 1000 id 1 km) (hO : LayOk L m) (hV : Valid es) (hk : ∀ e ∈ es, e.k < (m : Int)) (h : AllOf H D L' (es.map (evM 1 0 km))) : AllOf H D L es := by
  have a := all_led S hO hV hk h
  have n6 := hO.n6
  rw [map_self (xs := outsM L es es.length) (fun o _ => by cases o <;> rfl), map_self (xs := tdsM L es es.length) (fun t ht => by
      have ok := tdsM_ok hO hV hk t ht
      cases t with
      | up => rfl
      | dn l kd x su =>
        obtain ⟨o1, _, o3⟩ := ok
        show Td.dn (spN 1000 l) kd (led 1000 id 1 x) su = _
        rw [spN_id (by omega), led_id n6 o3.act]),
    map_self (xs := onLs (runS L es es.length) L.length) (fun i hi => by
      unfold onLs at hi
      obtain ⟨j, hj, rfl⟩ := List.mem_map.mp hi
      have := List.mem_range.mp (List.mem_filter.mp hj).1
      exact spI_id (by omega)),
    map_self (xs := outsT L es 0 es.length) (fun x _ => by
      obtain ⟨t, o⟩ := x
      show (t * 1 + 0, oled id o) = (t, o)
      rw [Int.mul_one, Int.add_zero]
      cases o <;> rfl), map_self (xs := doneM L es) (fun z _ => by rw [Int.mul_one, Int.add_zero])] at a
  exact a
theorem ev_id {es : List Ev} : es.map (evM 1 0 id) = es := map_self fun e _ => by
  show (⟨e.t * 1 + 0, e.k, e.d⟩ : Ev) = e
  rw [Int.mul_one, Int.add_zero]
/-! ### keys in another order -/
def perm (m : Nat) (os : List Int) (k : Int) : Int := if 0 ≤ k ∧ k < m then (os.idxOf k : Int) else k
structure Perm (m : Nat) (os : List Int) : Prop where
  nd : os.Nodup
  len : os.length = m
  mem : ∀ k, k ∈ os ↔ 0 ≤ k ∧ k < m
section
variable {m : Nat} {os : List Int} {L : List (List Actn)}
theorem Perm.idx (h : Perm m os) {k : Int} (h0 : 0 ≤ k) (h1 : k < m) : os.idxOf k < m ∧ os[os.idxOf k]? = some k := by
  have hm := (h.mem k).mpr ⟨h0, h1⟩
  have hl := List.idxOf_lt_length_of_mem hm
  refine ⟨by rw [← h.len]; exact hl, ?_⟩
  rw [List.getElem?_eq_getElem hl, List.getElem_idxOf hl]
theorem Perm.at_ (h : Perm m os) {k : Int} (h0 : 0 ≤ k) (h1 : k < m) : perm m os k = (os.idxOf k : Int) := if_pos ⟨h0, h1⟩
theorem Perm.inj (h : Perm m os) : ∀ a b, perm m os a = perm m os b → a = b := fun a b z => by
  unfold perm at z
  by_cases ha : 0 ≤ a ∧ a < m
  · rw [if_pos ha] at z
    obtain ⟨a1, a2⟩ := h.idx ha.1 ha.2
    by_cases hb : 0 ≤ b ∧ b < m
    · rw [if_pos hb] at z
      obtain ⟨b1, b2⟩ := h.idx hb.1 hb.2
      have e : os.idxOf a = os.idxOf b := by omega
      rw [e, b2] at a2
      exact (Option.some.inj a2).symm
    · rw [if_neg hb] at z
      exact absurd ⟨by omega, by omega⟩ hb
  · rw [if_neg ha] at z
    by_cases hb : 0 ≤ b ∧ b < m
    · rw [if_pos hb] at z
      obtain ⟨b1, b2⟩ := h.idx hb.1 hb.2
      exact absurd ⟨by omega, by omega⟩ ha
    · rw [if_neg hb] at z
      exact z
def rowP (os : List Int) (row : List Actn) : List Actn := os.map fun k => row.getD k.toNat .none
theorem getD_row {row : List Actn} {k : Nat} (h : k < row.length) : row.getD k .none = row[k] := by
  rw [List.getD_eq_getElem?_getD, List.getElem?_eq_getElem h]
  rfl
theorem lay_getD {i k : Nat} {g : List Actn → List Actn} (hi : i < L.length) : actAt (L.map g) i k = (g (L.getD i [])).getD k .none := by
  unfold actAt
  rw [List.getD_eq_getElem?_getD (l := L.map g), List.getElem?_map, List.getElem?_eq_getElem hi, List.getD_eq_getElem?_getD (l := L), List.getElem?_eq_getElem hi]
  rfl
theorem getD_mem {i : Nat} (hi : i < L.length) : L.getD i [] ∈ L ∧ L[i]? = some (L.getD i []) := by
  rw [List.getD_eq_getElem?_getD, List.getElem?_eq_getElem hi]
  exact ⟨List.getElem_mem hi, rfl⟩
theorem perm_lay (h : Perm m os) (hO : LayOk L m) : LayOk (L.map (rowP os)) m ∧ Sim L (L.map (rowP os)) m 1000 id 1 (perm m os) := by
  have n1 := hO.n1
  have n6 := hO.n6
  have m1 := hO.m1
  refine ⟨⟨by rw [List.length_map]; exact n1, by rw [List.length_map]; exact n6, hO.m1, hO.m16, fun row hr => ?_, fun i row hi x hx => ?_⟩, ⟨by decide, by decide, fun i k hi hk => ?_, fun z => by omega, fun _ => by rw [List.length_map]; exact Nat.le_refl _, fun a b _ _ _ _ z => h.inj a b z⟩⟩
  · obtain ⟨r, _, rfl⟩ := List.mem_map.mp hr
    unfold rowP
    rw [List.length_map, h.len]
  · rw [List.getElem?_map] at hi
    cases z : L[i]? with
    | none => rw [z] at hi; cases hi
    | some r =>
      rw [z] at hi
      have hi : rowP os r = row := Option.some.inj hi
      subst hi
      obtain ⟨k, hk, rfl⟩ := List.mem_map.mp hx
      obtain ⟨k0, k1⟩ := (h.mem k).mp hk
      have rl := hO.len r (List.mem_of_getElem? z)
      rw [List.length_map, getD_row (by omega)]
      exact hO.ok i r z _ (List.getElem_mem _)
  · rw [spN_id (by omega), lay_getD hi]
    have hk0 : (0 : Int) ≤ (k : Int) := by omega
    have hk1 : (k : Int) < m := by omega
    obtain ⟨i1, i2⟩ := h.idx hk0 hk1
    rw [h.at_ hk0 hk1, Int.toNat_natCast]
    unfold rowP
    rw [List.getD_eq_getElem?_getD, List.getElem?_map, i2]
    show (L.getD i []).getD (k : Int).toNat .none = led 1000 id 1 (actAt L i k)
    rw [Int.toNat_natCast]
    obtain ⟨r1, r2⟩ := getD_mem hi
    have rl := hO.len _ r1
    have hx := hO.ok i _ r2 ((L.getD i []).getD k .none) (by rw [getD_row (by omega)]; exact List.getElem_mem _)
    exact (led_id n6 hx).symm
theorem perm_valid (h : Perm m os) {es : List Ev} (hV : Valid es) (hk : ∀ e ∈ es, e.k < (m : Int)) : Valid (es.map (evM 1 0 (perm m os))) ∧ ∀ e ∈ es.map (evM 1 0 (perm m os)), e.k < (m : Int) := by
  have e : es.map (evM 1 0 (perm m os)) = es.map fun e => ⟨e.t, perm m os e.k, e.d⟩ := List.map_congr_left fun e _ => by
    show (⟨e.t * 1 + 0, perm m os e.k, e.d⟩ : Ev) = _
    rw [Int.mul_one, Int.add_zero]
  have b : ∀ e ∈ es, 0 ≤ perm m os e.k ∧ perm m os e.k < m := fun e he => by
    obtain ⟨i, hi⟩ := List.getElem?_of_mem he
    have h0 := (hV i e hi).1
    obtain ⟨i1, _⟩ := h.idx h0 (hk e he)
    rw [h.at_ h0 (hk e he)]
    omega
  rw [e]
  refine ⟨Valid.rekey h.inj hV fun e he => (b e he).1, fun e he => ?_⟩
  obtain ⟨e', he', rfl⟩ := List.mem_map.mp he
  exact (b e' he').2
/-! ### one more key, one more layer -/
theorem ok_wide {n : Nat} {i : Int} {x : Actn} (h : ActOk n i x) : ActOk ((n + 1 : Nat) : Int) i x := by
  cases x with
  | none => exact True.intro
  | thr => exact h
  | code c => exact h
  | lay w j => exact ⟨h.1, h.2.1, by have := h.2.2; omega⟩
  | dualC c d t r => exact h
  | dualL c j t r => exact ⟨h.1, ⟨h.2.1.1, by have := h.2.1.2; omega⟩, h.2.2.1, h.2.2.2⟩
theorem wide_lay {L' : List (List Actn)} (hO : LayOk L m) (m15 : m + 1 ≤ 16) (hl : L'.length = L.length) (h : ∀ i row, L'[i]? = some row → ∃ x, row = L.getD i [] ++ [x] ∧ ActOk L.length i x) : LayOk L' (m + 1) ∧ Sim L L' m 1000 id 1 id := by
  have n1 := hO.n1
  have n6 := hO.n6
  have m1 := hO.m1
  refine ⟨⟨by omega, by omega, by omega, m15, fun row hr => ?_, fun i row hi x hx => ?_⟩, ⟨by decide, by decide, fun i k hi hk => ?_, fun z => by omega, fun _ => by omega, fun a b _ _ _ _ z => z⟩⟩
  · obtain ⟨i, hi⟩ := List.getElem?_of_mem hr
    obtain ⟨x, rfl, _⟩ := h i row hi
    have hil : i < L.length := by rw [← hl]; exact (List.getElem?_eq_some_iff.mp hi).1
    rw [List.length_append, hO.len _ (getD_mem hil).1]
    rfl
  · obtain ⟨y, rfl, hy⟩ := h i row hi
    have hil : i < L.length := by rw [← hl]; exact (List.getElem?_eq_some_iff.mp hi).1
    rw [hl]
    rcases List.mem_append.mp hx with z | z
    · exact hO.ok i _ (getD_mem hil).2 x z
    · rw [List.mem_singleton.mp z]; exact hy
  · rw [spN_id (by omega)]
    have hi2 : i < L'.length := by omega
    obtain ⟨y, e, _⟩ := h i _ (List.getElem?_eq_getElem hi2)
    obtain ⟨r1, r2⟩ := getD_mem hi
    have rl := hO.len _ r1
    unfold actAt
    rw [List.getD_eq_getElem?_getD (l := L'), List.getElem?_eq_getElem hi2, e]
    show (L.getD i [] ++ [y]).getD ((k : Int)).toNat .none = led 1000 id 1 ((L.getD i []).getD k .none)
    rw [Int.toNat_natCast, List.getD_eq_getElem?_getD, List.getElem?_append_left (by omega), ← List.getD_eq_getElem?_getD]
    have hx := hO.ok i _ r2 ((L.getD i []).getD k .none) (by rw [getD_row (by omega)]; exact List.getElem_mem _)
    exact (led_id n6 hx).symm
theorem top_lay {top : List Actn} (hO : LayOk L m) (n5 : L.length ≤ 5) (hl : top.length = m) (h : ∀ x ∈ top, ActOk ((L.length + 1 : Nat) : Int) L.length x) : LayOk (L ++ [top]) m ∧ Sim L (L ++ [top]) m 1000 id 1 id := by
  have n1 := hO.n1
  have ll : (L ++ [top]).length = L.length + 1 := by rw [List.length_append]; rfl
  refine ⟨⟨by omega, by omega, hO.m1, hO.m16, fun row hr => ?_, fun i row hi x hx => ?_⟩, ⟨by decide, by decide, fun i k hi hk => ?_, fun z => by omega, fun _ => by omega, fun a b _ _ _ _ z => z⟩⟩
  · rcases List.mem_append.mp hr with z | z
    · exact hO.len _ z
    · rw [List.mem_singleton.mp z]; exact hl
  · rw [ll]
    rcases Nat.lt_or_ge i L.length with z | z
    · rw [List.getElem?_append_left z] at hi
      exact ok_wide (hO.ok i row hi x hx)
    · have hil := (List.getElem?_eq_some_iff.mp hi).1
      rw [List.getElem?_append_right z, show i - L.length = 0 by omega] at hi
      have e : top = row := Option.some.inj hi
      subst e
      rw [show i = L.length by omega]
      exact h x hx
  · rw [spN_id (by omega)]
    obtain ⟨r1, r2⟩ := getD_mem hi
    have rl := hO.len _ r1
    unfold actAt
    rw [List.getD_eq_getElem?_getD (l := L ++ [top]), List.getElem?_append_left hi, r2]
    show (L.getD i []).getD ((k : Int)).toNat .none = led 1000 id 1 ((L.getD i []).getD k .none)
    rw [Int.toNat_natCast]
    have hx := hO.ok i _ r2 ((L.getD i []).getD k .none) (by rw [getD_row (by omega)]; exact List.getElem_mem _)
    exact (led_id hO.n6 hx).symm
end
end K84

set_option Elab.async false
set_option linter.all false
set_option maxRecDepth 100000
set_option maxHeartbeats 8000000
namespace K84
open PySem PySem.Spec PyProof.Rows L2 Gd Rm La Cb Pl
theorem eraseMap {α β : Type} (f : α → β) : ∀ (ns : List α) (j : Nat), (ns.map f).eraseIdx j = (ns.eraseIdx j).map f
  | [], j => by simp
  | n :: ns, 0 => rfl
  | n :: ns, j + 1 => by
    show f n :: (ns.map f).eraseIdx j = f n :: (ns.eraseIdx j).map f
    rw [eraseMap f ns j]
def nI (n : Nat) : List Int := (List.range n).map fun k : Nat => (k : Int)
theorem rgV_nI (n : Nat) : rgV 0 (n : Int) = (nI n).map V.int := by
  unfold rgV nI
  rw [List.map_map, show ((n : Int) - 0).toNat = n by omega]
  refine List.map_congr_left fun k _ => ?_
  show V.int (0 + (k : Int)) = V.int (k : Int)
  rw [Int.zero_add]
theorem nI_nd (n : Nat) : (nI n).Nodup := by
  unfold nI
  rw [List.Nodup, List.pairwise_map]
  exact List.nodup_range.imp fun h e => h (by omega)
theorem nI_mem {n : Nat} {k : Int} : k ∈ nI n ↔ 0 ≤ k ∧ k < n := by
  unfold nI
  rw [List.mem_map]
  constructor
  · rintro ⟨j, hj, rfl⟩
    have := List.mem_range.mp hj
    omega
  · rintro ⟨h1, h2⟩
    exact ⟨k.toNat, List.mem_range.mpr (by omega), by omega⟩
theorem nI_len (n : Nat) : (nI n).length = n := by unfold nI; rw [List.length_map, List.length_range]
theorem er_perm : ∀ (ls : List Int) (j : Nat) (h : j < ls.length), (ls[j] :: ls.eraseIdx j).Perm ls
  | x :: xs, 0, _ => List.Perm.refl _
  | x :: xs, j + 1, h => by
    show (xs[j]'(Nat.lt_of_succ_lt_succ h) :: x :: xs.eraseIdx j).Perm (x :: xs)
    exact (List.Perm.swap ..).trans (List.Perm.cons x (er_perm xs j (Nat.lt_of_succ_lt_succ h)))
theorem perm_step {os ls : List Int} {j : Nat} (h : j < ls.length) : ((os ++ [ls[j]]) ++ ls.eraseIdx j).Perm (os ++ ls) := by
  rw [List.append_assoc]
  exact List.Perm.append_left os (er_perm ls j h)
theorem perm_of {m : Nat} {os : List Int} (h : os.Perm (nI m)) : Perm m os := ⟨h.nodup_iff.mpr (nI_nd m), by rw [h.length_eq]; exact nI_len m, fun k => by rw [h.mem_iff]; exact nI_mem⟩
theorem eqV_selfI (a : Int) : eqV (.int a) (.int a) = true := by show (a == a) = true; simp
theorem eqV_neI {a b : Int} (h : a ≠ b) : eqV (.int a) (.int b) = false := by show (a == b) = false; simpa using h
/-- a layout whose lists are not the reel's -/
def GR (H : Hp) (r D : Addr) (L : List (List Actn)) : Prop := ∃ rs : List Addr, H D = some (.lst (rs.map V.ref)) ∧ Rows H rs L ∧ ∀ x ∈ rs, x ≠ D ∧ x ≠ r
theorem GR.lay {H : Hp} {r D : Addr} {L : List (List Actn)} (h : GR H r D L) : Lay H D L := by
  obtain ⟨rs, a, b, _⟩ := h
  exact ⟨rs, a, b⟩
theorem GR.same {H H' : Hp} {r D : Addr} {L : List (List Actn)} (h : GR H r D L) (s : Same H H') : GR H' r D L := by
  obtain ⟨rs, a, b, c⟩ := h
  exact ⟨rs, s _ _ a, b.same s, c⟩
theorem GR.off {H H' : Hp} {r D : Addr} {L : List (List Actn)} {k : Nat} (h : GR H r D L) (o : Off r H H') (R : Reel H r k) (n : D ≠ r) : GR H' r D L := by
  obtain ⟨rs, a, b, c⟩ := h
  exact ⟨rs, o _ _ a n, ⟨b.1, fun i x row u v => row_off (b.2 i x row u v) (c x (List.mem_of_getElem? u)).2 o (R.tk o)⟩, c⟩
theorem GR.push {H : Hp} {r D M : Addr} {L : List (List Actn)} {row : List Actn} (h : GR H r D L) (hr : Row H M row) (n : M ≠ D) (nr : M ≠ r) : ∃ acc : List V, H D = some (.lst acc) ∧ acc.length = L.length ∧ GR (upd H D (.lst (acc ++ [.ref M]))) r D (L ++ [row]) := by
  obtain ⟨rs, a, b, c⟩ := h
  refine ⟨rs.map V.ref, a, by rw [List.length_map]; exact b.1, rs ++ [M], by rw [upd_same, List.map_append]; rfl, ?_, fun x hx => ?_⟩
  · exact Rows.snoc ⟨b.1, fun i r' row' u v => row_upd (b.2 i r' row' u v) a (c r' (List.mem_of_getElem? u)).1⟩ (row_upd hr a n)
  · rcases List.mem_append.mp hx with z | z
    · exact c x z
    · rw [List.mem_singleton.mp z]; exact ⟨n, nr⟩
theorem all_ok {L : List (List Actn)} {es : List Ev} {m : Nat} (hO : LayOk L m) (hV : Valid es) (hk : ∀ e ∈ es, e.k < (m : Int)) : SeqAt.shaped (allD (outsM L es es.length) (tdsM L es es.length) (onLs (runS L es es.length) L.length) (outsT L es 0 es.length) (doneM L es)) = true ∧ (allD (outsM L es es.length) (tdsM L es es.length) (onLs (runS L es es.length) L.length) (outsT L es 0 es.length) (doneM L es)).canLay0 = true :=
  all_shaped (outsM_ok hO hV hk) (tdsM_ok hO hV hk) (outsT_ok hO hV hk (Nat.le_refl _))
section
variable {P : Program} {w : World} {K : PySem.W.Frag} {mg : Str → Option Value} {base : Heap}
def spKeysR : Sp := fun vs H Q _ => ∃ (r c g Tl : Addr) (k : Nat) (L : List (List Actn)) (m : Nat) (es : List Ev), vs = [.ref r, .ref c, .ref g, .ref Tl] ∧ Reel H r k ∧ k + 5000 < most ∧ (∀ H', Off r H H' → Lay H' c L ∧ Lst evV H' g es ∧ AllOf H' Tl L es) ∧ LayOk L m ∧ m + 1 ≤ 16 ∧ L.length ≤ 5 ∧ Valid es ∧ es.length ≤ 200 ∧ (∀ e ∈ es, e.k < (m : Int)) ∧
  ∀ H', Off r H H' → Reel H' r (k + 4000) → Q (.bl true) H'
theorem ok__law_keys_right (bt : Bt mg) (a : At K mg "_law_keys_right" s__law_keys_right ["_law_reel_here", "_law_layout_here", "_law_record_here", "_law_told"]) (c__law_spin : Cl P w K mg base 1 "_law_spin" spSpin) (c__law_action : Cl P w K mg base 3 "_law_action" spLAct) (c__law_all : Cl P w K mg base 10 "_law_all" spAll) : Cl P w K mg base 11 "_law_keys_right" spKeysR := by
  refine clG a sc__law_keys_right (fun vs H Q E h => ?_) (fun ff cdv A0 outer s H vs Q hg hr h => ?_)
  · obtain ⟨r, c, g, Tl, k, L, m, es, rfl, _⟩ := h
    rfl
  · obtain ⟨r, c, g, Tl, k, L, m, es, rfl, hR, hk, hKeep, hO, m15, n5, hV, h2, hkm, q⟩ := h
    refine ⟨_, (pss_cons (ps_asg (pe_tup (pa_cons (pe_callB call_len_seq (by rfl) bt.m_len (by decide +kernel) (pa_cons (pe_ix ix_list (pv 1) pe_int (fun _ _ => rfl)) pa_nil)) (pa_cons (pe_listRg rfl (by rfl) bt.m_list (prg_1 (by rfl) bt.m_range (pe_callB call_len_seq (by rfl) bt.m_len (by decide +kernel) (pa_cons (pe_ix ix_list (pv 1) pe_int (fun _ _ => rfl)) pa_nil)))) (pa_cons (pe_lst pa_nil) pa_nil)))) (pg_tup rfl (pgs_cons (pg_name (i := 4) sc__law_keys_right.nd rfl (Or.inl rfl)) (pgs_cons (pg_name (i := 5) sc__law_keys_right.nd rfl (Or.inl rfl)) (pgs_cons (pg_name (i := 6) sc__law_keys_right.nd rfl (Or.inr rfl)) pgs_nil)))))
      (pss_cons (ps_while PassesOwn.never (pt_cmpR (op_neD hr.units) (pv 5) (pe_lst pa_nil) (nomark _)) (pss_one (ps_expr (pe_bm PySem.F.plainAttrs_list PySem.F.slot_list_append PySem.F.type_list_append mt_append (pv 6) (pa_cons (pe_bm PySem.F.plainAttrs_list PySem.F.slot_list_pop PySem.F.type_list_pop mt_popAt (pv 5) (pa_cons (pe_cl c__law_spin hg hr (by decide) (by rfl) (pa_cons (pv 0) (pa_cons (pe_callB call_len_seq (by rfl) bt.m_len (by decide +kernel) (pa_cons (pv 5) pa_nil)) pa_nil))) pa_nil)) pa_nil)))))
      (pss_cons (ps_setLc (i := 7) (own := [("_law_row", 10)]) (g := (gName 10)) (by rfl) sc__law_keys_right.nd rfl rfl (sw_true rfl rfl rfl (by decide +kernel)) (pi_list (pv 1)) (blkOk_by (N := n__law_keys_right) (sc := defScope s__law_keys_right) (by decide +kernel)) (fun _ _ _ _ _ => (pg_name (i := 10) sc__law_keys_right.nd rfl (Or.inr rfl))) (fun _ _ _ _ _ => pts_nil) (fun _ _ _ _ _ => (by exact (pe_lc (wi := iList K (tVar 6)) (own := [("_law_key", 12)]) (g := (gName 12)) (by rfl) sc__law_keys_right.nd (pi_list (pv 6)) (blkOk_by (N := n__law_keys_right) (by unfold blkC; rfl)) (fun _ _ _ _ _ => (pg_name (i := 12) sc__law_keys_right.nd rfl (Or.inl rfl))) (fun _ _ _ _ _ => pts_nil) (fun _ _ _ _ _ => (pe_ix (r := rIxL K) ix_list (pv 10) (pv 12) (fun _ _ => rfl)))))))
      (pss_cons (ps_setLc (i := 8) (own := [("_law_tick", 11), ("_law_key", 12), ("_law_way", 13)]) (g := (gTup K 3 (gCons (gName 11) (gCons (gName 12) (gCons (gName 13) gNil))))) (by rfl) sc__law_keys_right.nd rfl rfl (sw_true rfl rfl rfl (by decide +kernel)) (pi_list (pv 2)) (blkOk_by (N := n__law_keys_right) (sc := defScope s__law_keys_right) (by decide +kernel)) (fun _ _ _ _ _ => (pg_tup rfl (pgs_cons (pg_name (i := 11) sc__law_keys_right.nd rfl (Or.inl rfl)) (pgs_cons (pg_name (i := 12) sc__law_keys_right.nd rfl (Or.inl rfl)) (pgs_cons (pg_name (i := 13) sc__law_keys_right.nd rfl (Or.inl rfl)) pgs_nil))))) (fun _ _ _ _ _ => pts_nil) (fun _ _ _ _ _ => (pe_tup (pa_cons (pv 11) (pa_cons (pe_bmB (K0 := K) (r := rIndex K) rfl PySem.F.plainAttrs_list PySem.F.slot_list_index PySem.F.type_list_index mt_index (pv 6) (pa_cons (pv 12) pa_nil)) (pa_cons (pv 13) pa_nil))))))
      (pss_cons (ps_if (pt_cmpR (op_neD hr.units) (pe_cl c__law_all hg hr (by decide) (by rfl) (pa_cons (pv 7) (pa_cons (pv 8) pa_nil))) (pv 3) (nomark _)) (pss_one (ps_ret pe_bl)) pss_nil)
      (pss_cons (ps_setLc (i := 7) (own := [("_law_layer", 14), ("_law_row", 10)]) (g := (gTup K 2 (gCons (gName 14) (gCons (gName 10) gNil)))) (by rfl) sc__law_keys_right.nd rfl rfl (sw_true rfl rfl rfl (by decide +kernel)) (pi_enum (by rfl) bt.m_enumerate (pa_cons (pv 1) pa_nil)) (blkOk_by (N := n__law_keys_right) (sc := defScope s__law_keys_right) (by decide +kernel)) (fun _ _ _ _ _ => (pg_tup rfl (pgs_cons (pg_name (i := 14) sc__law_keys_right.nd rfl (Or.inl rfl)) (pgs_cons (pg_name (i := 10) sc__law_keys_right.nd rfl (Or.inl rfl)) pgs_nil)))) (fun _ _ _ _ _ => pts_nil) (fun _ _ _ _ _ => (pe_op op_cat (pv 10) (pe_lst (pa_cons (pe_cl c__law_action hg hr (by decide) (by rfl) (pa_cons (pv 0) (pa_cons (pv 14) (pa_cons (pe_callB (r := rLenB K) call_len_seq (by rfl) bt.m_len (by decide +kernel) (pa_cons (pv 1) pa_nil)) (pa_cons pe_int pa_nil))))) pa_nil)))))
      (pss_cons (ps_setLc (i := 9) (own := [("_law_key", 12)]) (g := (gName 12)) (by rfl) sc__law_keys_right.nd rfl rfl (sw_true rfl rfl rfl (by decide +kernel)) (pi_range1 (by rfl) bt.m_range (pa_cons (pv 4) pa_nil)) (blkOk_by (N := n__law_keys_right) (sc := defScope s__law_keys_right) (by decide +kernel)) (fun _ _ _ _ _ => (pg_name (i := 12) sc__law_keys_right.nd rfl (Or.inl rfl))) (fun _ _ _ _ _ => pts_nil) (fun _ _ _ _ _ => (pe_cl c__law_action hg hr (by decide) (by rfl) (pa_cons (pv 0) (pa_cons (pe_callB (r := rLenB K) call_len_seq (by rfl) bt.m_len (by decide +kernel) (pa_cons (pv 1) pa_nil)) (pa_cons (pe_op op_add (pe_callB (r := rLenB K) call_len_seq (by rfl) bt.m_len (by decide +kernel) (pa_cons (pv 1) pa_nil)) pe_int) (pa_cons pe_int pa_nil)))))))
      (pss_one (ps_ret (pe_and (pe_cmpR (op_eqD hr.units) (pe_cl c__law_all hg hr (by decide) (by rfl) (pa_cons (pv 7) (pa_cons (pv 2) pa_nil))) (pv 3) (nomark _)) (pe_one (pe_cmpR (op_eqD hr.units) (pe_cl c__law_all hg hr (by decide) (by rfl) (pa_cons (pe_op op_cat (pv 1) (pe_lst (pa_cons (pv 9) pa_nil))) (pa_cons (pv 2) pa_nil))) (pv 3) (nomark _))))))))))))), ?_⟩
    have hk : k + 5000 < 1000000000 := hk
    have n1 := hO.n1
    have m1 := hO.m1
    have m16 := hO.m16
    obtain ⟨⟨rs, hc, hRows⟩, _, _⟩ := hKeep H (Off.refl _)
    have hrl := hRows.1
    obtain ⟨r0, hr0, ⟨ws, hw, hws⟩⟩ := hRows.at_ (i := 0) (by omega)
    have hwm : ws.length = m := by rw [hws.1]; exact hO.len _ (List.getElem_mem _)
    refine ⟨_, rfl, c, _, 0, .ref r0, rfl, rfl, SqL.of hc, atI_nat (j := 0) (get_map_ref hr0), r0, _, rfl, .inl (SqL.of hw), ?_⟩
    refine ⟨_, rfl, c, _, 0, .ref r0, rfl, rfl, SqL.of hc, atI_nat (j := 0) (get_map_ref hr0), r0, _, rfl, .inl (SqL.of hw), _, rfl, RgOk.of_le (by decide) (by omega) (by decide) (by omega), fun B nB => ⟨Nat.zero_le _, fun O nO => ⟨(by show 3 ≤ sizeLine; decide), fun T nT => ⟨T, _, rfl, SqT.of upd_same, rfl, _, _, rfl, _, _, rfl, _, _, rfl, rfl, ?_⟩⟩⟩⟩
    rw [hwm] at nO nT ⊢
    rw [rgV_nI] at nO nT ⊢
    have kB := same_upd (o := .lst ((nI m).map V.int)) nB
    have kO := same_upd (o := .lst []) nO
    have kT := same_upd (o := .tup [.int (m : Int), .ref B, .ref O]) nT
    have s0 := (kB.trans kO).trans kT
    have hB0 := (kO.trans kT) _ _ (upd_same (H := H) (a := B) (o := .lst ((nI m).map V.int)))
    have hO0 := kT _ _ (upd_same (H := upd H B (.lst ((nI m).map V.int))) (a := O) (o := .lst []))
    have nO0 : H O = none := none_back kB nO
    have OB : O ≠ B := fun z => by rw [z, upd_same] at nO; cases nO
    have Br : B ≠ r := hR.new nB
    have Or : O ≠ r := hR.new nO0
    have R0 := hR.same s0
    generalize upd (upd (upd H B (.lst ((nI m).map V.int))) O (.lst [])) T (.tup [.int (m : Int), .ref B, .ref O]) = H0 at s0 hB0 hO0 R0 ⊢
    clear kB kO kT nT nO
    have p40 : (10 : Int) ^ 40 > 1000 := by decide
    -- the order
    refine ⟨fun n σ H' => ∃ (ls os : List Int), n = ls.length ∧ (∃ y7 y8 y9 y10 y11 y12 y13 y14, σ = [some (.ref r), some (.ref c), some (.ref g), some (.ref Tl), some (.int (m : Int)), some (.ref B), some (.ref O), y7, y8, y9, y10, y11, y12, y13, y14]) ∧ Off r H H' ∧ Reel H' r (k + os.length) ∧ H' B = some (.lst (ls.map V.int)) ∧ H' O = some (.lst (os.map V.int)) ∧ (os ++ ls).Perm (nI m),
      ⟨m, nI m, [], (nI_len m).symm, ⟨_, _, _, _, _, _, _, _, rfl⟩, Off.of s0, R0, hB0, hO0, List.Perm.refl _⟩, fun n σ H1 z => ?_⟩
    obtain ⟨ls, os, rfl, ⟨y7, y8, y9, y10, y11, y12, y13, y14, rfl⟩, o1, R1, hB1, hO1, pm⟩ := z
    have pl := pm.length_eq
    rw [List.length_append, nI_len] at pl
    refine ⟨_, rfl, Nat.zero_le _, fun Z nZ => ?_⟩
    have kZ := same_upd (o := .lst []) nZ
    refine ⟨_, _, .lst (SqL.of (kZ _ _ hB1)) (dpInts ls), .lst (SqL.of upd_same) .nil, shaped_ints ls, shaped_nil, _, rfl, ?_⟩
    rw [eqv_nil]
    have o2 := o1.sameTrans kZ
    have R2 := R1.same kZ
    have hB2 := kZ _ _ hB1
    have hO2 := kZ _ _ hO1
    generalize upd H1 Z (.lst []) = H2 at o2 R2 hB2 hO2 ⊢
    clear kZ nZ hB1 hO1 R1 o1
    cases hls : ls with
    | cons l0 lr =>
      have lpos : 0 < ls.length := by rw [hls]; exact Nat.succ_pos _
      refine iteT ⟨fun σ' H' => ∃ n' < (l0 :: lr).length, ∃ (ls os : List Int), n' = ls.length ∧ (∃ y7 y8 y9 y10 y11 y12 y13 y14, σ' = [some (.ref r), some (.ref c), some (.ref g), some (.ref Tl), some (.int (m : Int)), some (.ref B), some (.ref O), y7, y8, y9, y10, y11, y12, y13, y14]) ∧ Off r H H' ∧ Reel H' r (k + os.length) ∧ H' B = some (.lst (ls.map V.int)) ∧ H' O = some (.lst (os.map V.int)) ∧ (os ++ ls).Perm (nI m), fun _ _ h => h, ?_⟩
      refine ⟨_, rfl, .inl ⟨rfl, _, SqL.of hO2⟩, _, rfl, .inl ⟨rfl, _, SqL.of hB2⟩, ?_⟩
      refine ⟨_, rfl, _, rfl, B, _, rfl, .inl (SqL.of hB2), r, _, k + os.length, rfl, by rw [List.length_map]; omega, by rw [List.length_map]; omega, by show _ < 1000000000; omega, R2, fun e H9 e0 e1 R9 o9 => ?_⟩
      rw [List.length_map] at e1
      have hB9 := o9 _ _ hB2 Br
      have hO9 := o9 _ _ hO2 Or
      obtain ⟨ej, rfl⟩ := Int.eq_ofNat_of_zero_le e0
      have hej : ej < ls.length := by omega
      have hix := seqIndex_of (k := (ej : Int)) (n := (ls.map V.int).length) (by omega) (by rw [List.length_map]; omega)
      rw [Int.toNat_natCast] at hix
      have gx : ls[ej]? = some ls[ej] := List.getElem?_eq_getElem hej
      refine ⟨B, _, _, ej, .int ls[ej], rfl, rfl, hB9, by omega, by omega, hix, get_map_int gx, ?_⟩
      rw [eraseMap]
      have hO10 : upd H9 B (.lst ((ls.eraseIdx ej).map V.int)) O = some (.lst (os.map V.int)) := by rw [upd_ne OB]; exact hO9
      refine ⟨O, _, .int ls[ej], rfl, rfl, hO10, small1000 (by rw [List.length_map]; omega), (ls.eraseIdx ej).length, by rw [← hls, List.length_eraseIdx, if_pos hej]; omega, ls.eraseIdx ej, os ++ [ls[ej]], rfl, ⟨_, _, _, _, _, _, _, _, rfl⟩, (((o2.trans o9).new nB).new nO0), ?_, ?_, by rw [upd_same, List.map_append]; rfl, (perm_step hej).trans pm⟩
      · rw [List.length_append]
        exact ((R9.upd Br).upd Or).mono (by show _ ≤ k + (os.length + 1); omega)
      · rw [upd_ne OB.symm, upd_same]
    | nil =>
      refine iteF ?_
      subst hls
      rw [List.append_nil] at pm
      have pp := perm_of pm
      have hol := pp.len
      clear hB2 pl
      -- the layout with the keys in this order
      obtain ⟨hL2, hG2, _⟩ := hKeep H2 o2
      obtain ⟨rs, hc2, hRows2⟩ := id hL2
      have hrl2 := hRows2.1
      refine ⟨_, rfl, c, rfl, ⟨_, SqL.of hc2⟩, fun D nD => lc_it (walk_list (xs := rs.map V.ref)) (fun i H' => Same H2 H' ∧ GR H' r D ((L.take i).map (rowP os))) ⟨same_upd nD, [], upd_same, ⟨rfl, fun i r row a b => by simp at a⟩, fun x hx => by simp at hx⟩ (fun i H' _ p => SqL.of (p.1 _ _ hc2)) (fun i x Hx Hy hi p y => ?_) (fun H3 p => ?_)⟩
      · obtain ⟨sx, gx⟩ := p
        obtain ⟨rfl, hx⟩ := y
        have hi' : i < L.length := by rw [List.length_map] at hi; omega
        obtain ⟨ri, hri, hrow⟩ := hRows2.at_ hi'
        have ex : V.ref ri = x := Option.some.inj ((get_map_ref hri).symm.trans hx)
        subst ex
        obtain ⟨ws, hw, hws⟩ := hrow.same sx
        have hwl : ws.length = m := by rw [hws.1]; exact hO.len _ (List.getElem_mem hi')
        have hOx := sx _ _ hO2
        refine ⟨rfl, _, rfl, O, rfl, ⟨_, SqL.of hOx⟩, fun M nM => lc_it (walk_list (xs := os.map V.int)) (fun j H' => Same Hy H' ∧ ∃ vs, H' M = some (.lst vs) ∧ Acts H' vs ((os.take j).map fun k => L[i].getD k.toNat .none)) ⟨same_upd nM, [], upd_same, Acts.nil⟩ (fun j H' _ p => SqL.of (p.1 _ _ hOx)) (fun j x Hz Hv hj p y => ?_) (fun H4 p => ?_)⟩
        · obtain ⟨sy, vs, hM, hvs⟩ := p
          obtain ⟨rfl, hx⟩ := y
          have hj' : j < os.length := by rw [List.length_map] at hj; exact hj
          have ex : V.int os[j] = x := Option.some.inj ((get_map_int (List.getElem?_eq_getElem hj')).symm.trans hx)
          subst ex
          obtain ⟨k0, k1⟩ := (pp.mem os[j]).mp (List.getElem_mem hj')
          have ll : L[i].length = m := hO.len _ (List.getElem_mem hi')
          obtain ⟨v, hv, hav⟩ := (hws.keep (Tk.of sy)).at_ (i := os[j].toNat) (by omega)
          have hvl : vs.length ≤ 16 := by rw [hvs.1, List.length_map, List.length_take]; omega
          rw [take_map hj', getD_row (by omega)]
          have hat : atI ws os[j] = some v := by
            have := atI_nat (xs := ws) (j := os[j].toNat) hv
            rw [Int.toNat_of_nonneg k0] at this
            exact this
          refine ⟨rfl, _, rfl, _, rfl, ri, _, _, v, rfl, rfl, SqL.of (sy _ _ hw), hat, vs, hM, small1000 (by omega), Same.off sy nM off_upd, vs ++ [v], upd_same, ?_⟩
          exact (hvs.snoc hav).keep (tk_upd hM)
        · obtain ⟨sy, vs, hM, hvs⟩ := p
          rw [List.take_of_length_le (by rw [List.length_map]; omega)] at hvs
          obtain ⟨rsD, hDx, _, _⟩ := id gx
          have MD : M ≠ D := fun z => by rw [z, hDx] at nM; cases nM
          have Mr : M ≠ r := (R2.same sx).new nM
          obtain ⟨acc, a1, a2, a3⟩ := (gx.same sy).push (M := M) (row := rowP os L[i]) ⟨vs, hM, hvs⟩ MD Mr
          refine ⟨acc, a1, small1000 (by rw [a2, List.length_map, List.length_take]; omega), Same.off (sx.trans sy) nD off_upd, ?_⟩
          rw [take_map hi']
          exact a3
      obtain ⟨s23, gD⟩ := p
      rw [show (rs.map V.ref).length = L.length by rw [List.length_map]; exact hrl2, List.take_length] at gD
      have o3 := o2.sameTrans s23
      have R3 := R2.same s23
      have hO3 := s23 _ _ hO2
      -- the record with the keys in this order
      obtain ⟨as, hg3, hT⟩ := hG2.same s23
      refine ⟨_, rfl, g, rfl, ⟨_, SqL.of hg3⟩, fun M nM => lc_it (walk_list (xs := as.map V.ref)) (fun i H' => Same H3 H' ∧ Lst evV H' M ((es.take i).map (evM 1 0 (perm m os)))) ⟨same_upd nM, [], upd_same, Tups.nil⟩ (fun i H' _ p => SqL.of (p.1 _ _ hg3)) (fun i x Hx Hy hi p y => ?_) (fun H4 p => ?_)⟩
      · obtain ⟨sx, bs, hM, hTb⟩ := p
        obtain ⟨rfl, hx⟩ := y
        have hi' : i < es.length := by rw [List.length_map] at hi; rw [← hT.1]; exact hi
        obtain ⟨b, hb, hbt⟩ := hT.at_ hi'
        have ex : V.ref b = x := Option.some.inj ((get_map_ref hb).symm.trans hx)
        subst ex
        have bl := hTb.1
        rw [List.length_map, List.length_take] at bl
        have k0 := (hV i _ (List.getElem?_eq_getElem hi')).1
        have k1 := hkm _ (List.getElem_mem hi')
        obtain ⟨i1, i2⟩ := pp.idx k0 k1
        have hev : evV (evM 1 0 (perm m os) es[i]) = [.int es[i].t, .int (os.idxOf es[i].k : Int), .str (wayS es[i].d)] := by
          show [V.int (es[i].t * 1 + 0), V.int (perm m os es[i].k), V.str (wayS es[i].d)] = _
          rw [Int.mul_one, Int.add_zero, pp.at_ k0 k1]
        rw [take_map hi']
        refine ⟨b, _, rfl, SqT.of (sx _ _ hbt), rfl, _, _, rfl, _, _, rfl, _, _, rfl, rfl, rfl, _, rfl, _, rfl, ?_⟩
        refine ⟨.inl ⟨rfl, _, SqL.of (sx _ _ hO3)⟩, _, rfl, O, _, .int es[i].k, os.idxOf es[i].k, .int es[i].k, rfl, rfl, SqL.of (sx _ _ hO3), rfl, flat_ints os, get_map_int i2, eqV_selfI _, fun m' z' hm hz => ?_, _, rfl, (by show 3 ≤ sizeLine; decide), fun p np => ?_⟩
        · rw [List.getElem?_map] at hz
          cases hq : os[m']? with
          | none => rw [hq] at hz; cases hz
          | some y =>
            rw [hq] at hz
            have hz : V.int y = z' := Option.some.inj hz
            subst hz
            refine eqV_neI fun e => ?_
            exact first_ix pp.nd i2 m' hm (by rw [hq, e])
        · have kp := same_upd (o := .tup [.int es[i].t, .int (os.idxOf es[i].k : Int), .str (wayS es[i].d)]) np
          have hM2 := kp _ _ hM
          refine ⟨_, hM2, small1000 (by rw [List.length_map]; omega), Same.off (sx.trans kp) nM off_upd, bs ++ [p], by rw [upd_same, List.map_append]; rfl, ?_⟩
          have t1 := (hTb.same kp).snoc (a := p) (e := evM 1 0 (perm m os) es[i]) (by rw [upd_same, hev])
          exact ⟨t1.1, fun i a e u v => (tk_upd hM2) _ _ (t1.2 i a e u v)⟩
      obtain ⟨s34, hM⟩ := p
      rw [show (as.map V.ref).length = es.length by rw [List.length_map]; exact hT.1, List.take_length] at hM
      obtain ⟨hO', hSim⟩ := perm_lay pp hO
      obtain ⟨hV', hk'⟩ := perm_valid pp hV hkm
      refine ⟨_, rfl, _, rfl, D, M, L.map (rowP os), m, es.map (evM 1 0 (perm m os)), rfl, (gD.same s34).lay, hO', hM, hV', by rw [List.length_map]; omega, hk', fun H5 D5 s5 n5' hA5 _ => ?_⟩
      have hA5 := all_id hSim hO hV hkm hA5
      have o5 := (o3.sameTrans s34).sameTrans s5
      have R5 := (R3.same s34).same s5
      obtain ⟨shp, can⟩ := all_ok hO hV hkm
      obtain ⟨hL5, hG5, hT5⟩ := hKeep H5 o5
      refine ⟨_, rfl, _, _, hA5.dp, hT5.dp, shp, shp, false, congrArg V.bl (by rw [SeqAt.eqv_refl _ can]; rfl), iteF ?_⟩
      clear hA5 hT5 hM s34 hT hg3 gD hO3 R3 o3 s23 hc2 hRows2 hrl2 hL2 hG2 hO2 R2 o2
      -- one more key
      obtain ⟨rs, hc5, hRows5⟩ := id hL5
      have hrl5 := hRows5.1
      have cr : c ≠ r := fun z => by
        obtain ⟨⟨rs', h', hR'⟩, _, _⟩ := hKeep (upd H r (.lst [])) off_upd
        rw [z, upd_same] at h'
        have e := congrArg List.length (HO.lst.inj (Option.some.inj h'))
        rw [List.length_map, hR'.1] at e
        have e : 0 = L.length := e
        omega
      have rowAt : ∀ {H' : Hp}, Off r H5 H' → ∀ i (hi : i < L.length) (ri : Addr), rs[i]? = some ri → Row H' ri L[i] := fun {H'} o i hi ri hri => by
        obtain ⟨⟨rs', h', hR'⟩, _, _⟩ := hKeep H' (o5.trans o)
        rw [o _ _ hc5 cr] at h'
        have e : rs.map V.ref = rs'.map V.ref := HO.lst.inj (Option.some.inj h')
        refine hR'.2 i ri _ ?_ (List.getElem?_eq_getElem hi)
        have e2 := get_map_ref hri
        rw [e, List.getElem?_map] at e2
        cases hq : rs'[i]? with
        | none => rw [hq] at e2; cases e2
        | some y => rw [hq] at e2; exact congrArg some (V.ref.inj (Option.some.inj e2))
      have hrm : (rs.map V.ref).length = L.length := by rw [List.length_map]; exact hrl5
      refine ⟨_, rfl, c, _, rfl, SqL.of hc5, fun D nD => lc_it (walk_enum (xs := rs.map V.ref)) (fun i H' => Off r H5 H' ∧ Reel H' r (k + os.length + 100 * i) ∧ ∃ L', GR H' r D L' ∧ L'.length = i ∧ ∀ i' row, L'[i']? = some row → ∃ x, row = L.getD i' [] ++ [x] ∧ ActOk L.length i' x) ⟨Off.of (same_upd nD), R5.same (same_upd nD), [], ⟨[], upd_same, ⟨rfl, fun i r row a b => by simp at a⟩, fun x hx => by simp at hx⟩, rfl, fun i' row h => by simp at h⟩ (fun i H' _ p => SqL.of (p.1 _ _ hc5 cr)) (fun i x Hx Hy hi p y => ?_) (fun H6 p => ?_)⟩
      · obtain ⟨ox, Rx, L', gx, hl', hx'⟩ := p
        obtain ⟨T, u, v, rfl, nT, rfl, e1, e2⟩ := y
        have hi' : i < L.length := by rw [hrm] at hi; exact hi
        have hil : i < rs.length := by omega
        have hri : rs[i]? = some rs[i] := List.getElem?_eq_getElem hil
        have ev : v = .ref rs[i] := Option.some.inj (e2.symm.trans (get_map_ref hri))
        subst ev
        have eu : u = .int (i : Nat) := (Option.some.inj e1).symm
        subst eu
        have kT := same_upd (o := .tup [.int (i : Nat), .ref rs[i]]) nT
        have oy := ox.sameTrans kT
        have Ry := Rx.same kT
        have gy := gx.same kT
        have hT1 := upd_same (H := Hx) (a := T) (o := .tup [.int (i : Nat), .ref rs[i]])
        generalize upd Hx T (.tup [.int (i : Nat), .ref rs[i]]) = H7 at oy Ry gy hT1 ⊢
        have Dr : D ≠ r := by
          have := R5.new nD
          exact this
        refine ⟨T, _, rfl, SqT.of hT1, rfl, _, _, rfl, _, _, rfl, rfl, rfl, ?_⟩
        refine ⟨_, rfl, _, rfl, _, rfl, _, rfl, c, _, rfl, .inl (SqL.of (oy _ _ hc5 cr)), r, _, _, _, 9, rfl, Ry, by show _ < 1000000000; omega, by omega, by rw [hrm]; omega, by rw [hrm]; omega, by decide, by decide, fun H8 v8 x8 o8 R8 hv8 ok8 tg8 => ⟨(by show 1 ≤ sizeLine; decide), fun X nX => ?_⟩⟩
        rw [hrm] at ok8
        have kX := same_upd (o := .lst [v8]) nX
        have oz := (oy.trans o8).sameTrans kX
        obtain ⟨ws, hw, hws⟩ := rowAt oz i hi' rs[i] hri
        have hwl : ws.length = m := by rw [hws.1]; exact hO.len _ (List.getElem_mem hi')
        refine ⟨rs[i], X, _, _, rfl, rfl, hw, upd_same, by rw [sizeLine_eq]; show ws.length + 1 ≤ _; omega, fun U nU => ?_⟩
        have kU := same_upd (o := .lst (ws ++ [v8])) nU
        have g8 := ((gy.off o8 Ry Dr).same kX).same kU
        have R9 := (R8.same kX).same kU
        have o9 := oz.sameTrans kU
        obtain ⟨rsD, hD8, _, _⟩ := id ((gy.off o8 Ry Dr).same kX)
        have UD : U ≠ D := fun z => by rw [z, hD8] at nU; cases nU
        have Ur : U ≠ r := (R8.same kX).new nU
        have hrow : Row (upd (upd H8 X (.lst [v8])) U (.lst (ws ++ [v8]))) U (L[i] ++ [x8]) := ⟨_, upd_same, (hws.keep (Tk.of kU)).snoc (hv8.keep (Tk.of (kX.trans kU)))⟩
        obtain ⟨acc, a1, a2, a3⟩ := g8.push hrow UD Ur
        have nD0 : H5 D = none := nD
        refine ⟨acc, a1, small1000 (by rw [a2, hl']; omega), o9.new nD0, ((R9.upd Dr)).mono (by omega), L' ++ [L[i] ++ [x8]], a3, by rw [List.length_append, hl']; rfl, fun i' row h => ?_⟩
        rcases Nat.lt_or_ge i' L'.length with z | z
        · rw [List.getElem?_append_left z] at h
          exact hx' i' row h
        · have hlt := (List.getElem?_eq_some_iff.mp h).1
          rw [List.length_append] at hlt
          have hlt : i' < L'.length + 1 := hlt
          have ei : i' = i := by omega
          subst ei
          rw [List.getElem?_append_right z, hl', Nat.sub_self] at h
          refine ⟨x8, ?_, ok8⟩
          rw [← Option.some.inj h, List.getD_eq_getElem?_getD, List.getElem?_eq_getElem hi']
          rfl
      obtain ⟨o56, R6, L', g6, hl', hx'⟩ := p
      rw [hrm] at hl' R6
      have Dr : D ≠ r := R5.new nD
      -- one more layer
      have o6 := o5.trans o56
      refine ⟨_, rfl, (m : Int), rfl, by omega, by omega, fun M nM => lc_it walk_range (fun j H' => Off r H6 H' ∧ Reel H' r (k + os.length + 100 * L.length + 100 * j) ∧ ∃ vs xs, H' M = some (.lst vs) ∧ Acts H' vs xs ∧ xs.length = j ∧ ∀ x ∈ xs, ActOk ((L.length + 1 : Nat) : Int) L.length x) ⟨Off.of (same_upd nM), R6.same (same_upd nM), [], [], upd_same, Acts.nil, rfl, fun x hx => by simp at hx⟩ (fun _ _ _ _ => True.intro) (fun j x Hx Hy hj p y => ?_) (fun H7 p => ?_)⟩
      · obtain ⟨ox, Rx, vs, xs, hM, hvs, hxl, hxo⟩ := p
        obtain ⟨rfl, hx⟩ := y
        have hj : j < m := by omega
        have Mr : M ≠ r := R6.new nM
        have hcx := ox _ _ (o56 _ _ hc5 cr) cr
        refine ⟨rfl, _, rfl, _, rfl, c, _, rfl, .inl (SqL.of hcx), _, rfl, c, _, rfl, .inl (SqL.of hcx), _, _, rfl, rfl, r, _, _, _, 9, rfl, Rx, by show _ < 1000000000; omega, by rw [hrm]; omega, by rw [hrm]; omega, by rw [hrm]; omega, by decide, by decide, fun H8 v8 x8 o8 R8 hv8 ok8 tg8 => ?_⟩
        rw [hrm] at ok8
        have hM8 := o8 _ _ hM Mr
        have hvl := hvs.1
        refine ⟨vs, hM8, small1000 (by omega), (ox.trans o8).new nM, (R8.upd Mr).mono (by omega), vs ++ [v8], xs ++ [x8], upd_same, ?_, by rw [List.length_append, hxl]; rfl, fun x hx => ?_⟩
        · exact ((hvs.keep (Rx.tk o8)).snoc hv8).keep (tk_upd hM8)
        · rcases List.mem_append.mp hx with z | z
          · exact hxo x z
          · rw [List.mem_singleton.mp z]; exact ok8
      obtain ⟨o67, R7, vs, top, hM7, hvs, hxl, hxo⟩ := p
      rw [Int.toNat_natCast] at R7 hxl
      have o7 := o6.trans o67
      have g7 := g6.off o67 R6 Dr
      obtain ⟨hL7, hG7, hT7⟩ := hKeep H7 o7
      obtain ⟨hOw, hSw⟩ := wide_lay hO m15 hl' hx'
      have hkw : ∀ e ∈ es, e.k < ((m + 1 : Nat) : Int) := fun e he => by have := hkm e he; omega
      refine ⟨_, rfl, _, rfl, D, g, L', m + 1, es, rfl, g7.lay, hOw, hG7, hV, by omega, hkw, fun H8 D8 s8 n8 hA8 _ => ?_⟩
      have hA8 : AllOf H8 D8 L es := all_id hSw hO hV hkm (by rw [ev_id]; exact hA8)
      have o8 := o7.sameTrans s8
      have R8 := R7.same s8
      obtain ⟨hL8, hG8, hT8⟩ := hKeep H8 o8
      refine ⟨_, rfl, _, _, hA8.dp, hT8.dp, shp, shp, true, congrArg V.bl (SeqAt.eqv_refl _ can), iteT ?_⟩
      obtain ⟨rs8, hc8, hRows8⟩ := id hL8
      have hM8 := s8 _ _ hM7
      refine ⟨_, rfl, _, rfl, (by show 1 ≤ sizeLine; decide), fun X nX => ?_⟩
      have kX := same_upd (o := .lst [.ref M]) nX
      refine ⟨c, X, _, _, rfl, rfl, kX _ _ hc8, upd_same, by rw [sizeLine_eq, List.length_map, hRows8.1]; show L.length + 1 ≤ _; omega, fun U nU => ?_⟩
      have kU := same_upd (o := .lst (rs8.map V.ref ++ [.ref M])) nU
      have s10 := kX.trans kU
      have o10 := o8.sameTrans s10
      obtain ⟨_, hG10, _⟩ := hKeep _ o10
      obtain ⟨hOt, hSt⟩ := top_lay hO n5 hxl hxo
      have hLt : Lay (upd (upd H8 X (.lst [.ref M])) U (.lst (rs8.map V.ref ++ [.ref M]))) U (L ++ [top]) := ⟨rs8 ++ [M], by rw [upd_same, List.map_append]; rfl, Rows.snoc (hRows8.same s10) ⟨vs, s10 _ _ hM8, hvs.keep (Tk.of (s8.trans s10))⟩⟩
      refine ⟨_, rfl, U, g, L ++ [top], m, es, rfl, hLt, hOt, hG10, hV, by omega, hkm, fun H11 D11 s11 n11 hA11 _ => ?_⟩
      have hA11 : AllOf H11 D11 L es := all_id hSt hO hV hkm (by rw [ev_id]; exact hA11)
      have o11 := o10.sameTrans s11
      obtain ⟨_, _, hT11⟩ := hKeep H11 o11
      refine ⟨_, rfl, _, _, hA11.dp, hT11.dp, shp, shp, ?_⟩
      rw [SeqAt.eqv_refl _ can]
      exact q _ o11 (((R8.same s10).same s11).mono (by omega))
end
end K84

set_option Elab.async false
set_option linter.all false
set_option maxRecDepth 100000
set_option maxHeartbeats 8000000
namespace K84
open PySem PySem.Spec PyProof.Rows L2 Gd Rm La Cb Pl
theorem args4 {r : Addr} {a b n m g : Int} (h1 : a = n) (h2 : b = m) : [V.ref r, .int a, .int b, .int g] = [V.ref r, .int n, .int m, .int g] := by rw [h1, h2]
theorem Lst.offR {H H' : Hp} {r p : Addr} {es : List Ev} {k : Nat} (h : Lst evV H p es) (o : Off r H H') (R : Reel H r k) (n : p ≠ r) : Lst evV H' p es := by
  obtain ⟨as, a, b⟩ := h
  exact ⟨as, o _ _ a n, b.1, fun i x e u v => (R.tk o) _ _ (b.2 i x e u v)⟩
theorem All5.off {H H' : Hp} {r D : Addr} {k : Nat} {os : List Outp} {ts : List Td} {ons : List Int} {xs : List (Int × Outp)} {ds : List Int} (h : All5 H D os ts ons xs ds) (o : Off r H H') (R : Reel H r k) (n : D ≠ r) (hn : ∀ vs x, H D = some (.lst vs) → V.ref x ∈ vs → x ≠ r) : All5 H' D os ts ons xs ds := by
  obtain ⟨a, b, c, d, e, h1, h2, h3, h4, h5, h6⟩ := h.ex
  have t := R.tk o
  have na := hn _ a h1 (by simp)
  have nb := hn _ b h1 (by simp)
  have nc := hn _ c h1 (by simp)
  have nd := hn _ d h1 (by simp)
  have ne := hn _ e h1 (by simp)
  obtain ⟨v2, p2, q2⟩ := h2
  obtain ⟨v3, p3, q3⟩ := h3
  obtain ⟨v5, p5, q5⟩ := h5
  exact ⟨a, b, c, d, e, o _ _ h1 n, ⟨v2, o _ _ p2 na, q2.keep t⟩, ⟨v3, o _ _ p3 nb, q3.keep fun x v z => z.keep t⟩, o _ _ h4 nc, ⟨v5, o _ _ p5 nd, q5.keep fun x v z => z.keep t⟩, o _ _ h6 ne⟩
/-! ### dicts of the law -/
def cmp (k v : Str) (g : Str → Str) : Str → Str := fun c => if c = k then v else g c
theorem cmp_put {kvs : List (Key × V)} {k v : Str} {g : Str → Str} (h : ∀ c, (valV kvs (Sum.inr c)).getD (.str c) = .str (g c)) (c : Str) : (valV (putK kvs (Sum.inr k) (.str v)) (Sum.inr c)).getD (.str c) = .str (cmp k v g c) := by
  rw [valV_put]
  unfold cmp
  by_cases z : c = k
  · rw [if_pos (by rw [z]), if_pos z]
    rfl
  · rw [if_neg (fun e => z (Sum.inr.inj e)), if_neg z]
    exact h c
theorem cmp_ok {k v : Str} {g : Str → Str} (hv : CodeOk v) (h : ∀ c, CodeOk c → CodeOk (g c)) (c : Str) (hc : CodeOk c) : CodeOk (cmp k v g c) := by
  unfold cmp
  split
  · exact hv
  · exact h c hc
def lawKv : List (Key × V) := [(Sum.inr "a", .str "b"), (Sum.inr "b", .str "a"), (Sum.inr "x", .str "press"), (Sum.inr "1", .str "zz"), (Sum.inr "none", .str "0"), (Sum.inr "through", .str "0"), (Sum.inr "esc", .str "esc2")]
def lawCm : Str → Str := cmp "esc" "esc2" (cmp "through" "0" (cmp "none" "0" (cmp "1" "zz" (cmp "x" "press" (cmp "b" "a" (cmp "a" "b" id))))))
theorem lawCm_at (c : Str) : (valV (mergeK [] lawKv) (Sum.inr c)).getD (.str c) = .str (lawCm c) := by
  have h0 : ∀ c : Str, (valV ([] : List (Key × V)) (Sum.inr c)).getD (.str c) = .str (id c) := fun c => rfl
  have h1 := cmp_put (k := "a") (v := "b") h0
  have h2 := cmp_put (k := "b") (v := "a") h1
  have h3 := cmp_put (k := "x") (v := "press") h2
  have h4 := cmp_put (k := "1") (v := "zz") h3
  have h5 := cmp_put (k := "none") (v := "0") h4
  have h6 := cmp_put (k := "through") (v := "0") h5
  have h7 := cmp_put (k := "esc") (v := "esc2") h6
  have e : mergeK [] lawKv = putK (putK (putK (putK (putK (putK (putK ([]) (Sum.inr ("a" : Str)) (.str "b")) (Sum.inr ("b" : Str)) (.str "a")) (Sum.inr ("x" : Str)) (.str "press")) (Sum.inr ("1" : Str)) (.str "zz")) (Sum.inr ("none" : Str)) (.str "0")) (Sum.inr ("through" : Str)) (.str "0")) (Sum.inr ("esc" : Str)) (.str "esc2") := rfl
  rw [e]
  exact h7 c
theorem lawCm_ok : ∀ c, CodeOk c → CodeOk (lawCm c) := by
  have d : ∀ s ∈ (["esc2", "0", "zz", "press", "a", "b"] : List Str), CodeOk s := by unfold CodeOk; decide +kernel
  exact cmp_ok (d _ (by simp)) (cmp_ok (d _ (by simp)) (cmp_ok (d _ (by simp)) (cmp_ok (d _ (by simp)) (cmp_ok (d _ (by simp)) (cmp_ok (d _ (by simp)) (cmp_ok (d _ (by simp)) fun c h => h))))))
def spotKv (g : Int → Int) (n : Nat) : List (Key × V) := (List.range n).map fun i : Nat => ((Sum.inl (i : Int) : Key), V.int (g (i : Int)))
theorem spot_at {g : Int → Int} : ∀ {n i : Nat}, i < n → valV (mergeK [] (spotKv g n)) (Sum.inl (i : Int)) = some (.int (g (i : Int)))
  | 0, i, h => absurd h (Nat.not_lt_zero _)
  | n + 1, i, h => by
    have e : mergeK [] (spotKv g (n + 1)) = putK (mergeK [] (spotKv g n)) (Sum.inl (n : Int)) (.int (g (n : Int))) := by
      unfold spotKv mergeK
      rw [List.range_succ, List.map_append, List.foldl_append]
      rfl
    rw [e, valV_put]
    by_cases z : i = n
    · rw [z, if_pos rfl]
    · rw [if_neg (fun y => z (by have := Sum.inl.inj y; omega))]
      exact spot_at (by omega)
def pairV (g : Int → Int) (i : Nat) : List V := [.int (i : Int), .int (g (i : Int))]
theorem tups_pairs {K : PySem.W.Frag} {H : Hp} {g : Int → Int} : ∀ {as : List Addr} {xs : List Nat}, Tups H (pairV g) as xs → Paired (fun p (kv : Key × V) => SqT K H p [kV kv.1, kv.2]) as (xs.map fun i : Nat => ((Sum.inl (i : Int) : Key), V.int (g (i : Int))))
  | [], [], _ => .nil
  | [], _ :: _, h => by have := h.1; simp at this
  | _ :: _, [], h => by have := h.1; simp at this
  | a :: as, x :: xs, h => .cons (SqT.of (h.2 0 a x rfl rfl)) (tups_pairs ⟨by have := h.1; simpa using this, fun i u y p q => h.2 (i + 1) u y (by simpa using p) (by simpa using q)⟩)
section
variable {P : Program} {w : World} {K : PySem.W.Frag} {mg : Str → Option Value} {base : Heap}
def spLaw (K : PySem.W.Frag) : Sp := fun vs H Q _ => ∃ (a : Addr) (ns : List Int), vs = [.ref a] ∧ SqL K H a (ns.map V.int) ∧ ns.length ≤ 63 ∧ ∀ H', Q (.bl true) H'
theorem ok_law {f : Addr} {fd : FuncData} (bt : Bt mg) (a : Fun K "law" "law" s_law f fd) (c__law_reel : Cl P w K mg base 1 "_law_reel" (spReel K)) (c__law_spin : Cl P w K mg base 1 "_law_spin" spSpin)
    (c__law_layout : Cl P w K mg base 4 "_law_layout" spLLay) (c__law_record : Cl P w K mg base 2 "_law_record" spRec) (c__law_all : Cl P w K mg base 10 "_law_all" spAll) (c__law_same : Cl P w K mg base 11 "_law_same" spSame) (c__law_keys_right : Cl P w K mg base 11 "_law_keys_right" spKeysR) : FnG P w K mg base 13 f fd ["_law_script"] (spLaw K) := by
  refine fnG a sc_law (fun vs H Q E h => ?_) (fun cdv A outer s H vs Q hg hr h => ?_)
  · obtain ⟨a, e, rfl, _⟩ := h
    rfl
  · obtain ⟨sc, ns, rfl, hS, hl, q⟩ := h
    refine ⟨_, (pss_cons (ps_for PassesOwn.never rfl (pi_range1 (by rfl) bt.m_range (pa_cons (pe_callB (call_max2 rfl) (by rfl) bt.m_max (by decide +kernel) (pa_cons pe_int (pa_cons (pe_callB (call_min2 rfl) (by rfl) bt.m_min (by decide +kernel) (pa_cons pe_int (pa_cons (pe_callB call_len_seq (by rfl) bt.m_len (by decide +kernel) (pa_cons (pv 0) pa_nil)) pa_nil))) pa_nil))) pa_nil)) (pg_name (i := 1) sc_law.nd rfl (Or.inl rfl)) (pss_cons (ps_set (i := 2) sc_law.nd rfl (Or.inl rfl) (pe_cl c__law_reel hg hr (by decide) (by rfl) (pa_cons (pv 0) (pa_cons (pv 1) pa_nil))))
      (pss_one (ps_for PassesOwn.never rfl (pi_range1 (by rfl) bt.m_range (pa_cons pe_int pa_nil)) (pg_name (i := 3) sc_law.nd rfl (Or.inl rfl)) (pss_cons (ps_par (i := 4) (j := 5) rfl sc_law.nd rfl rfl (by decide) rfl rfl (pa_cons (pe_op op_add pe_int (pe_cl c__law_spin hg hr (by decide) (by rfl) (pa_cons (pv 2) (pa_cons pe_int pa_nil)))) (pa_cons (pe_op op_add pe_int (pe_cl c__law_spin hg hr (by decide) (by rfl) (pa_cons (pv 2) (pa_cons pe_int pa_nil)))) pa_nil)) (by rfl))
      (pss_cons (ps_set (i := 6) sc_law.nd rfl (Or.inl rfl) (pe_cl c__law_layout hg hr (by decide) (by rfl) (pa_cons (pv 2) (pa_cons (pv 4) (pa_cons (pv 5) (pa_cons (pe_ix ix_list (pe_lst (pa_cons pe_int (pa_cons (pe_op op_powW pe_int pe_int) pa_nil))) (pe_op op_mod (pv 3) pe_int) (fun _ _ => rfl)) pa_nil))))))
      (pss_cons (ps_set (i := 7) sc_law.nd rfl (Or.inr rfl) (pe_cl c__law_record hg hr (by decide) (by rfl) (pa_cons (pv 2) (pa_cons (pv 5) (pa_cons (pe_cl c__law_spin hg hr (by decide) (by rfl) (pa_cons (pv 2) (pa_cons pe_int pa_nil))) (pa_cons (pe_lst (pa_cons pe_int (pa_cons pe_int (pa_cons pe_int (pa_cons pe_int (pa_cons (pe_ix ix_list (pe_lst (pa_cons pe_int (pa_cons (pe_op op_powW pe_int pe_int) pa_nil))) (pe_op op_mod (pv 3) pe_int) (fun _ _ => rfl)) pa_nil)))))) pa_nil))))))
      (pss_cons (ps_set (i := 7) sc_law.nd rfl (Or.inr rfl) (pe_lc (own := [("_law_tick", 15), ("_law_key", 16), ("_law_way", 17)]) (g := (gTup K 3 (gCons (gName 15) (gCons (gName 16) (gCons (gName 17) gNil))))) (by rfl) sc_law.nd (pi_list (pv 7)) (blkOk_by (N := n_law) (sc := defScope s_law) (by decide +kernel)) (fun _ _ _ _ _ => (pg_tup rfl (pgs_cons (pg_name (i := 15) sc_law.nd rfl (Or.inl rfl)) (pgs_cons (pg_name (i := 16) sc_law.nd rfl (Or.inl rfl)) (pgs_cons (pg_name (i := 17) sc_law.nd rfl (Or.inl rfl)) pgs_nil))))) (fun _ _ _ _ _ => pts_nil) (fun _ _ _ _ _ => (pe_tup (pa_cons (pe_op op_sub (pv 15) (pe_ix (r := rIxT K) ix_tup (pe_ix (r := rIxL K) ix_list (pv 7) pe_int (fun _ _ => rfl)) pe_int (fun _ _ => rfl))) (pa_cons (pv 16) (pa_cons (pv 17) pa_nil)))))))
      (pss_cons (ps_par (i := 8) (j := 9) rfl sc_law.nd rfl rfl (by decide) rfl rfl (pa_cons (pe_cl c__law_all hg hr (by decide) (by rfl) (pa_cons (pv 6) (pa_cons (pv 7) pa_nil))) (pa_cons (pe_callTy (call_dictP rfl) (by rfl) bt.m_dict (by decide +kernel) (pa_cons (pe_lc (own := [("_law_layer", 18)]) (g := (gName 18)) (by rfl) sc_law.nd (pi_range1 (by rfl) bt.m_range (pa_cons (pv 4) pa_nil)) (blkOk_by (N := n_law) (sc := defScope s_law) (by decide +kernel)) (fun _ _ _ _ _ => (pg_name (i := 18) sc_law.nd rfl (Or.inl rfl))) (fun _ _ _ _ _ => pts_nil) (fun _ _ _ _ _ => (pe_tup (pa_cons (pv 18) (pa_cons (pv 18) pa_nil))))) pa_nil)) pa_nil)) (by rfl))
      (pss_cons (ps_par (i := 10) (j := 11) rfl sc_law.nd rfl rfl (by decide) rfl rfl (pa_cons (pe_op op_add pe_int (pe_cl c__law_spin hg hr (by decide) (by rfl) (pa_cons (pv 2) (pa_cons pe_int pa_nil)))) (pa_cons (pe_op op_sub (pe_cl c__law_spin hg hr (by decide) (by rfl) (pa_cons (pv 2) (pa_cons (pe_op op_powW pe_int pe_int) pa_nil))) (pe_op op_powW pe_int pe_int)) pa_nil)) (by rfl))
      (pss_cons (ps_set (i := 12) sc_law.nd rfl (Or.inl rfl) (pe_disp (pps_cons pe_str pe_str (pps_cons pe_str pe_str (pps_cons pe_str pe_str (pps_cons pe_str pe_str (pps_cons pe_str pe_str (pps_cons pe_str pe_str (pps_cons pe_str pe_str pps_nil))))))) (by rfl) (by rfl) (List.cons_ne_nil _ _) (by decide)))
      (pss_cons (ps_if (pt_not (pt_val (pe_cl c__law_same hg hr (by decide) (by rfl) (pa_cons (pv 6) (pa_cons (pv 7) (pa_cons pe_dnewK (pa_cons (pv 9) (pa_cons (pv 10) (pa_cons pe_int (pa_cons (pv 8) pa_nil)))))))))) (pss_one (ps_ret pe_bl)) pss_nil)
      (pss_cons (ps_if (pt_not (pt_val (pe_cl c__law_same hg hr (by decide) (by rfl) (pa_cons (pv 6) (pa_cons (pv 7) (pa_cons (pv 12) (pa_cons (pv 9) (pa_cons pe_int (pa_cons (pv 11) (pa_cons (pv 8) pa_nil)))))))))) (pss_one (ps_ret pe_bl)) pss_nil)
      (pss_cons (ps_if (pt_not (pt_val (pe_cl c__law_keys_right hg hr (by decide) (by rfl) (pa_cons (pv 2) (pa_cons (pv 6) (pa_cons (pv 7) (pa_cons (pv 8) pa_nil))))))) (pss_one (ps_ret pe_bl)) pss_nil)
      (pss_cons (ps_set (i := 13) sc_law.nd rfl (Or.inr rfl) (pe_op op_add pe_int (pe_cl c__law_spin hg hr (by decide) (by rfl) (pa_cons (pv 2) (pa_cons (pv 4) pa_nil)))))
      (pss_cons (ps_set (i := 14) sc_law.nd rfl (Or.inl rfl) (pe_callTy (call_dictP rfl) (by rfl) bt.m_dict (by decide +kernel) (pa_cons (pe_lc (own := [("_law_layer", 18)]) (g := (gName 18)) (by rfl) sc_law.nd (pi_range1 (by rfl) bt.m_range (pa_cons (pv 4) pa_nil)) (blkOk_by (N := n_law) (sc := defScope s_law) (by decide +kernel)) (fun _ _ _ _ _ => (pg_name (i := 18) sc_law.nd rfl (Or.inl rfl))) (fun _ _ _ _ _ => pts_nil) (fun _ _ _ _ _ => (pe_tup (pa_cons (pv 18) (pa_cons (pe_op op_add (pv 18) (pe_callTy call_int1 (by rfl) bt.m_int (by decide +kernel) (pa_cons (pe_cmpR op_ge (pv 18) (pv 13) (nomark _)) pa_nil))) pa_nil))))) pa_nil)))
      (pss_one (ps_if (pt_not (pt_val (pe_cl c__law_same hg hr (by decide) (by rfl) (pa_cons (pv 6) (pa_cons (pv 7) (pa_cons (pv 12) (pa_cons (pv 14) (pa_cons (pv 10) (pa_cons (pv 11) (pa_cons (pv 8) pa_nil)))))))))) (pss_one (ps_ret pe_bl)) pss_nil))))))))))))))))))
      (pss_one (ps_ret pe_bl))), ?_⟩
    refine ⟨_, rfl, sc, _, rfl, .inl hS, _, _, rfl, ?_⟩
    refine ⟨1, _, rfl, _, rfl, ?_, ?_, ?_⟩
    · (repeat' split) <;> omega
    · (repeat' split) <;> omega
    refine for_it walk_range (fun i σ H' => Same H H' ∧ ∃ y1 y2 y3 y4 y5 y6 y7 y8 y9 y10 y11 y12 y13 y14 y15 y16 y17 y18, σ = [some (.ref sc), y1, y2, y3, y4, y5, y6, y7, y8, y9, y10, y11, y12, y13, y14, y15, y16, y17, y18]) ⟨Same.refl _, _, _, _, _, _, _, _, _, _, _, _, _, _, _, _, _, _, _, rfl⟩ (fun _ _ _ _ _ => True.intro) (fun i x σ Hx H1 hi p y => ?_) (fun σ H1 p => q _)
    obtain ⟨s1, y1, y2, y3, y4, y5, y6, y7, y8, y9, y10, y11, y12, y13, y14, y15, y16, y17, y18, rfl⟩ := p
    obtain ⟨rfl, hx⟩ := y
    have hx : x = .int (0 + (i : Int)) := hx
    have e0 : (0 : Int) + (i : Int) = ((i : Nat) : Int) := Int.zero_add _
    rw [e0] at hx
    subst hx
    have hi4 : i < 60 := by
      refine Nat.lt_of_lt_of_le hi ?_
      (repeat' split) <;> omega
    have hS1 : SqL K H1 sc (ns.map V.int) := s1.seq hS
    refine ⟨_, rfl, _, rfl, sc, ns, i, rfl, hS1, hl, by omega, fun r H2 s2 nr R2 => ?_⟩
    refine ⟨4, rfl, by decide, by decide, for_it walk_range (fun t σ H' => Off r H2 H' ∧ Reel H' r (30000 * t) ∧ ∃ y3 y4 y5 y6 y7 y8 y9 y10 y11 y12 y13 y14 y15 y16 y17 y18, σ = [some (.ref sc), some (.int (i : Int)), some (.ref r), y3, y4, y5, y6, y7, y8, y9, y10, y11, y12, y13, y14, y15, y16, y17, y18]) ⟨Off.refl _, R2, _, _, _, _, _, _, _, _, _, _, _, _, _, _, _, _, rfl⟩ (fun _ _ _ _ _ => True.intro) (fun t x σ Hx H3 ht p y => ?_) (fun σ H3 p => ?_)⟩
    · obtain ⟨o3, R3, y3, y4, y5, y6, y7, y8, y9, y10, y11, y12, y13, y14, y15, y16, y17, y18, rfl⟩ := p
      obtain ⟨rfl, hx⟩ := y
      subst hx
      have ht : t < 4 := ht
      obtain ⟨_, _, _, hr2, _⟩ := id R2
      refine ⟨_, rfl, r, 5, 30000 * t, rfl, by decide, by decide, by show _ < 1000000000; omega, R3, fun d1 H4 d10 d11 R4 o4 => ⟨_, _, rfl, rfl, ?_⟩⟩
      refine ⟨_, rfl, r, 6, 30000 * t + 1, rfl, by decide, by decide, by show _ < 1000000000; omega, R4, fun d2 H5 d20 d21 R5 o5 => ⟨_, _, rfl, rfl, _, _, rfl, ?_⟩⟩
      have o25 : Off r H2 H5 := (o3.trans o4).trans o5
      obtain ⟨nk, hnk⟩ : ∃ nk : Nat, 1 + d1 = (nk : Int) := ⟨(1 + d1).toNat, by omega⟩
      obtain ⟨mk, hmk⟩ : ∃ mk : Nat, 1 + d2 = (mk : Int) := ⟨(1 + d2).toNat, by omega⟩
      have hb2 : (0 + (t : Int)) % 2 = 0 ∨ (0 + (t : Int)) % 2 = 1 := by omega
      refine ⟨_, rfl, _, rfl, _, rfl, _, _, rfl, rfl, powW (n := 40) (k := 8) (by decide) (by decide), (by show 2 ≤ sizeLine; decide), fun M3 n3 => ?_⟩
      have k3 := same_upd (o := .lst ([6, 10 ^ 8].map V.int)) n3
      obtain ⟨lo, hlo, hm3⟩ := getI (ns := [6, 10 ^ 8]) (d := (0 + (t : Int)) % 2) (by omega) (by show _ < (2 : Int); omega)
      have hlob : 6 ≤ lo ∧ lo ≤ 100000000 := by
        have := List.mem_of_getElem? hm3
        simp only [List.mem_cons, List.mem_nil_iff, or_false] at this
        omega
      have R5' := R5.same k3
      have o25' := o25.sameTrans k3
      refine ⟨_, rfl, _, _, rfl, rfl, (by show (0 : Int) < 2; decide), M3, _, _, .int lo, rfl, rfl, SqL.of upd_same, hlo, ?_⟩
      refine ⟨r, 30000 * t + 1 + 1, nk, mk, lo, args4 hnk hmk, R5', by show _ < 1000000000; omega, by omega, by omega, by omega, by omega, by omega, by omega, fun H6 c L o6 nc R6 fl hO hLn hTm => ?_⟩
      have o26 : Off r H2 H6 := o25'.trans o6
      obtain ⟨rs, hc, hRows, _, hrs⟩ := fl
      have cr : c ≠ r := R5'.new nc
      have rr : ∀ x ∈ rs, x ≠ r := fun x hx => R5'.new (hrs x hx).1
      have lay : ∀ {H' : Hp} {k : Nat}, Off r H6 H' → Reel H6 r k → Lay H' c L := fun {H' k} o R => ⟨rs, o _ _ hc cr, hRows.1, fun i x row a b => row_off (hRows.2 i x row a b) (rr x (List.mem_of_getElem? a)) o (R.tk o)⟩
      -- the record
      refine ⟨_, rfl, _, rfl, _, rfl, r, 25, _, rfl, by decide, by decide, by show _ < 1000000000; omega, R6, fun sz H7 z0 z1 R7 o7 => ?_⟩
      obtain ⟨sn, hsn⟩ : ∃ sn : Nat, sz = (sn : Int) := ⟨sz.toNat, by omega⟩
      subst hsn
      refine ⟨_, _, rfl, rfl, powW (n := 40) (k := 8) (by decide) (by decide), (by show 2 ≤ sizeLine; decide), fun M4 n4 => ?_⟩
      have k4 := same_upd (o := .lst ([5, 10 ^ 8].map V.int)) n4
      obtain ⟨a4, ha4, hm4⟩ := getI (ns := [5, 10 ^ 8]) (d := (0 + (t : Int)) % 2) (by omega) (by show _ < (2 : Int); omega)
      have ha4b : 5 ≤ a4 ∧ a4 ≤ 100000000 := by
        have := List.mem_of_getElem? hm4
        simp only [List.mem_cons, List.mem_nil_iff, or_false] at this
        omega
      refine ⟨_, rfl, _, _, rfl, rfl, (by show (0 : Int) < 2; decide), M4, _, _, .int a4, rfl, rfl, SqL.of upd_same, ha4, (by show 5 ≤ sizeLine; decide), fun G nG => ?_⟩
      have kG := same_upd (o := .lst ([0, 1, 2, 6, a4].map V.int)) nG
      have gl : ∀ x ∈ ([0, 1, 2, 6, a4] : List Int), 0 ≤ x ∧ x ≤ 10 ^ 10 := fun x hx => by
        simp only [List.mem_cons, List.mem_nil_iff, or_false] at hx
        omega
      have nG7 : H7 G = none := none_back k4 nG
      refine ⟨r, G, _, sn, 1 + d2, [0, 1, 2, 6, a4], rfl, (R7.same k4).same kG, by show _ < 1000000000; omega, by omega, by omega, by omega, upd_same, R7.new nG7, (by show 0 < 5; decide), (by show 5 ≤ 10; decide), gl, fun H8 p es0 o8 np R8 hL8 ok8 => ?_⟩
      have o78 : Off r H7 H8 := ((Off.of k4).sameTrans kG).trans o8
      have o68 : Off r H6 H8 := o7.trans o78
      have o28 := o26.trans o68
      have np7 : H7 p = none := none_back (k4.trans kG) np
      have pr : p ≠ r := R7.new np7
      clear R7 kG k4 o8 nG n4 np np7 nG7 o7 o78
      -- moved
      have R6' := R6
      obtain ⟨as, hp8, hT⟩ := id hL8
      have hal : (as.map V.ref).length = es0.length := by rw [List.length_map]; exact hT.1
      have hl0 := ok8.len
      refine ⟨_, rfl, p, rfl, ⟨_, SqL.of hp8⟩, fun g ng => lc_it (walk_list (xs := as.map V.ref)) (fun i H' => Same H8 H' ∧ Lst evV H' g ((es0.take i).map (evM 1 (-(es0.getD 0 ⟨0, 0, false⟩).t) id))) ⟨same_upd ng, [], upd_same, Tups.nil⟩ (fun i H' _ p => SqL.of (p.1 _ _ hp8)) (fun i x Hx Hy hi p y => ?_) (fun H9 p => ?_)⟩
      · obtain ⟨sx, bs, hM, hTb⟩ := p
        obtain ⟨rfl, hx⟩ := y
        have hi' : i < es0.length := by omega
        obtain ⟨b, hb, hbt⟩ := hT.at_ hi'
        obtain ⟨b0, hb0, hbt0⟩ := hT.at_ (i := 0) (by omega)
        have ex : V.ref b = x := Option.some.inj ((get_map_ref hb).symm.trans hx)
        subst ex
        have bl := hTb.1
        rw [List.length_map, List.length_take] at bl
        have e0 : es0.getD 0 ⟨0, 0, false⟩ = es0[0] := by rw [List.getD_eq_getElem?_getD, List.getElem?_eq_getElem (show 0 < es0.length by omega)]; rfl
        have hev : evV (evM 1 (-(es0.getD 0 ⟨0, 0, false⟩).t) id es0[i]) = [.int (es0[i].t - es0[0].t), .int es0[i].k, .str (wayS es0[i].d)] := by
          rw [e0]
          have e1 : es0[i].t * (1 : Int) + -es0[0].t = es0[i].t - es0[0].t := by rw [Int.mul_one]; rfl
          show [V.int (es0[i].t * (1 : Int) + -es0[0].t), V.int es0[i].k, V.str (wayS es0[i].d)] = _
          rw [e1]
        rw [take_map hi']
        refine ⟨b, _, rfl, SqT.of (sx _ _ hbt), rfl, _, _, rfl, _, _, rfl, _, _, rfl, rfl, rfl, _, rfl, _, rfl, p, _, 0, .ref b0, rfl, rfl, SqL.of (sx _ _ hp8), atI_nat (j := 0) (get_map_ref hb0), b0, _, 0, _, rfl, rfl, SqT.of (sx _ _ hbt0), atI_nat (j := 0) rfl, _, _, rfl, rfl, _, rfl, _, rfl, (by show 3 ≤ sizeLine; decide), fun p2 np2 => ?_⟩
        have kp := same_upd (o := .tup [.int (es0[i].t - es0[0].t), .int es0[i].k, .str (wayS es0[i].d)]) np2
        have hM2 := kp _ _ hM
        refine ⟨_, hM2, small1000 (by rw [List.length_map]; omega), Same.off (sx.trans kp) ng off_upd, bs ++ [p2], by rw [upd_same, List.map_append]; rfl, ?_⟩
        have t1 := (hTb.same kp).snoc (a := p2) (e := evM 1 (-(es0.getD 0 ⟨0, 0, false⟩).t) id es0[i]) (by rw [upd_same, hev])
        exact ⟨t1.1, fun i a e u v => (tk_upd hM2) _ _ (t1.2 i a e u v)⟩
      obtain ⟨s89, hL9⟩ := p
      rw [hal, List.take_length] at hL9
      have gr : g ≠ r := R8.new ng
      have R9 := R8.same s89
      have o69 := o68.sameTrans s89
      have o29 := o28.sameTrans s89
      have p20 : (10 : Int) ^ 20 = 100000000000000000000 := by decide
      have p21 : (10 : Int) ^ 21 = 1000000000000000000000 := by decide
      have hV9 := ev_valid (f := 1) (sh := -(es0.getD 0 ⟨0, 0, false⟩).t) (by decide) ok8.valid
      have b0 : -(10 ^ 20) < (es0.getD 0 ⟨0, 0, false⟩).t ∧ (es0.getD 0 ⟨0, 0, false⟩).t < 10 ^ 20 := by
        rw [List.getD_eq_getElem?_getD]
        cases hz : es0[0]? with
        | none => exact ⟨by decide, by decide⟩
        | some e => exact ok8.tick e (List.mem_of_getElem? hz)
      have hB9 : ∀ e ∈ es0.map (evM 1 (-(es0.getD 0 ⟨0, 0, false⟩).t) id), -(10 ^ 21) ≤ e.t ∧ e.t ≤ 10 ^ 21 := fun e he => by
        obtain ⟨e', he', rfl⟩ := List.mem_map.mp he
        have := ok8.tick e' he'
        show -(10 ^ 21) ≤ e'.t * 1 + -(es0.getD 0 ⟨0, 0, false⟩).t ∧ e'.t * 1 + -(es0.getD 0 ⟨0, 0, false⟩).t ≤ 10 ^ 21
        omega
      have hk9 : ∀ e ∈ es0.map (evM 1 (-(es0.getD 0 ⟨0, 0, false⟩).t) id), e.k < (mk : Int) := fun e he => by
        obtain ⟨e', he', rfl⟩ := List.mem_map.mp he
        have := (ok8.key e' he').2
        show e'.k < _
        omega
      have hl9 : (es0.map (evM 1 (-(es0.getD 0 ⟨0, 0, false⟩).t) id)).length ≤ 200 := by rw [List.length_map]; omega
      generalize es0.map (evM 1 (-(es0.getD 0 ⟨0, 0, false⟩).t) id) = es at hL9 hV9 hB9 hk9 hl9
      clear ok8 hT hal hl0 b0 hL8 hp8 s89 o68 o28 R8 ng
      -- what is told
      refine ⟨_, rfl, _, rfl, c, g, L, mk, es, rfl, lay o69 R6, hO, hL9, hV9, by omega, hk9, fun H10 Tl s9a nTl hA hF => ?_⟩
      have R10 := R9.same s9a
      have Tr : Tl ≠ r := R9.new nTl
      have o6a := o69.sameTrans s9a
      have o2a := o29.sameTrans s9a
      have keep : ∀ H', Off r H10 H' → Lay H' c L ∧ Lst evV H' g es ∧ AllOf H' Tl L es := fun H' o => ⟨lay (o6a.trans o) R6, Lst.offR (hL9.same s9a) o R10 gr, All5.off hA o R10 Tr fun vs x hv hx => R9.new (hF vs x hv hx)⟩
      clear hL9 hA hF lay
      -- the plain places
      have n5 : L.length ≤ 5 := by omega
      refine ⟨_, rfl, 1 + d1, rfl, by omega, by omega, fun M nM => lc_it walk_range (fun j H' => Same H10 H' ∧ ∃ ps : List Addr, H' M = some (.lst (ps.map V.ref)) ∧ Tups H' (pairV id) ps (List.range j)) ⟨same_upd nM, [], upd_same, Tups.nil⟩ (fun _ _ _ _ => True.intro) (fun j x Hx Hy hj p y => ?_) (fun H11 p => ?_)⟩
      · obtain ⟨sx, ps, hM, hTp⟩ := p
        obtain ⟨rfl, hx⟩ := y
        have hx : x = .int ((j : Nat) : Int) := hx.trans (congrArg V.int (Int.zero_add _))
        subst hx
        have pl := hTp.1
        rw [List.length_range] at pl
        refine ⟨rfl, _, rfl, _, rfl, (by show 2 ≤ sizeLine; decide), fun p2 np2 => ?_⟩
        have kp := same_upd (o := .tup [.int (j : Int), .int (j : Int)]) np2
        have hM2 := kp _ _ hM
        refine ⟨_, hM2, small1000 (by rw [List.length_map]; omega), Same.off (sx.trans kp) nM off_upd, ps ++ [p2], by rw [upd_same, List.map_append]; rfl, ?_⟩
        rw [List.range_succ]
        have t1 := (hTp.same kp).snoc (a := p2) (e := j) upd_same
        exact ⟨t1.1, fun i a e u v => (tk_upd hM2) _ _ (t1.2 i a e u v)⟩
      obtain ⟨sab, ps, hM, hTp⟩ := p
      have en : (1 + d1).toNat = L.length := by omega
      rw [en] at hTp
      refine ⟨M, ps, spotKv id L.length, rfl, SqL.of hM, tups_pairs hTp, fun D nD => ⟨_, _, rfl, ?_⟩⟩
      have kD := same_upd (o := .dK (mergeK [] (spotKv id L.length))) nD
      have oD : Off r H10 (upd H11 D (.dK (mergeK [] (spotKv id L.length)))) := Off.of (sab.trans kD)
      have RD := (R10.same sab).same kD
      have Dr : D ≠ r := (R10.same sab).new nD
      have hD : upd H11 D (.dK (mergeK [] (spotKv id L.length))) D = some (.dK (mergeK [] (spotKv id L.length))) := upd_same
      generalize upd H11 D (.dK (mergeK [] (spotKv id L.length))) = H12 at oD RD hD ⊢
      clear kD nD sab hM hTp
      have plain : ∀ {H'}, Off r H12 H' → SpotsD H' D L.length 1000 := fun o => ⟨_, o _ _ hD Dr, fun i hi => by
        rw [spot_at hi, spI_id (by omega)]
        rfl⟩
      -- the measures
      refine ⟨_, rfl, r, 9, _, rfl, by decide, by decide, by show _ < 1000000000; omega, RD, fun dF H13 f0 f1 R13 o13 => ⟨_, _, rfl, rfl, ?_⟩⟩
      refine ⟨_, rfl, _, _, rfl, rfl, powW (n := 60) (k := 14) (by decide) (by decide), r, 10 ^ 14, _, rfl, by decide, by decide, by show _ < 1000000000; omega, R13, fun dM H14 m0 m1 R14 o14 => ⟨_, _, rfl, rfl, powW (n := 60) (k := 13) (by decide) (by decide), _, _, rfl, rfl, _, _, rfl, ?_⟩⟩
      have f1 : dF < 9 := f1
      have oE : Off r H12 H14 := o13.trans o14
      have oE2 : Off r H10 H14 := oD.trans oE
      have hS14 := plain oE
      clear RD R13 o13 o14
      have kq : 30000 * t + 1 + 1 + 10000 + 1 + 2000 + 2 < 1000000000 := by omega
      -- the codes
      refine fun Cd nCd => ⟨upd_same, lawKv, rfl, (by show 7 ≤ 15; decide), ?_⟩
      have kC : Same H14 (upd (upd H14 Cd (.dK [])) Cd (.dK (mergeK [] lawKv))) := Same.off (same_upd nCd) nCd off_upd
      have hC : upd (upd H14 Cd (.dK [])) Cd (.dK (mergeK [] lawKv)) Cd = some (.dK (mergeK [] lawKv)) := upd_same
      have Cr : Cd ≠ r := R14.new nCd
      have R15 := R14.same kC
      have o15 := oE2.sameTrans kC
      generalize upd (upd H14 Cd (.dK [])) Cd (.dK (mergeK [] lawKv)) = H15 at kC hC R15 o15 ⊢
      have codes : ∀ {H'}, Off r H15 H' → CodesD H' Cd lawCm := fun o => ⟨_, o _ _ hC Cr, lawCm_at⟩
      have hS15 := hS14.same kC
      have tm : ∀ f : Int, 1 ≤ f → f ≤ 10 → ∀ row ∈ L, ∀ x ∈ row, timeOf x * f ≤ 1000000000 := fun f h1 h2 row hr x hx => by
        have ht := hTm row hr x hx
        obtain ⟨i', hi'⟩ := List.getElem?_of_mem hr
        have h0 := (time0 (hO.ok i' row hi' x hx)).1
        have : timeOf x * f ≤ 100000000 * 10 := Int.mul_le_mul (by omega) h2 (by omega) (by decide)
        omega
      -- other measures
      refine ⟨_, rfl, _, rfl, fun E nE => ?_⟩
      have kE := same_upd (o := .dK []) nE
      have oEe := o15.sameTrans kE
      obtain ⟨k1, k2, k3⟩ := keep _ oEe
      refine ⟨_, rfl, _, rfl, _, rfl, c, g, E, D, Tl, 1000, id, 2 + dF, 0, L, mk, es, rfl, k1, hO, k2, hV9, hl9, hk9, ⟨[], upd_same, fun c => rfl⟩, hS15.same kE, k3, by decide, n5, by omega, by omega, tm _ (by omega) (by omega), fun c h => h, hB9, fun H16 s16 => ⟨_, rfl, iteF ?_⟩⟩
      have s5 := kE.trans s16
      have o16 := o15.sameTrans s5
      have R16 := R15.same s5
      have hS16 := hS15.same s5
      have oC16 : Off r H15 H16 := Off.of s5
      clear k1 k2 k3 oEe kE nE s16
      -- other codes
      obtain ⟨k1, k2, k3⟩ := keep _ o16
      refine ⟨_, rfl, _, rfl, _, rfl, _, rfl, _, rfl, _, rfl, c, g, Cd, D, Tl, 1000, lawCm, 1, _, L, mk, es, rfl, k1, hO, k2, hV9, hl9, hk9, codes oC16, hS16, k3, by decide, n5, by decide, by decide, tm _ (by decide) (by decide), lawCm_ok, hB9, fun H17 s17 => ⟨_, rfl, iteF ?_⟩⟩
      have o17 := o16.sameTrans s17
      have R17 := R16.same s17
      have oC17 := oC16.sameTrans s17
      clear k1 k2 k3
      -- other keys
      refine ⟨_, rfl, _, rfl, _, rfl, _, rfl, r, c, g, Tl, 30000 * t + 1 + 1 + 10000 + 1 + 2000 + 2, L, mk, es, rfl, R17.mono (by omega), by show _ < 1000000000; omega, fun H' o => keep H' (o17.trans o), hO, by omega, n5, hV9, hl9, hk9, fun H18 o18 R18 => ⟨_, rfl, iteF ?_⟩⟩
      have o18' := o17.trans o18
      have oC18 := oC17.trans o18
      -- another place
      refine ⟨_, rfl, _, rfl, r, 1 + d1, _, rfl, by omega, small40 (by omega), by show _ < 1000000000; omega, R18, fun dS H19 s0 s1' R19 o19 => ⟨_, _, rfl, rfl, ?_⟩⟩
      have o19' := o18'.trans o19
      have oC19 := oC18.trans o19
      refine ⟨_, rfl, 1 + d1, rfl, by omega, by omega, fun M nM => lc_it walk_range (fun j H' => Same H19 H' ∧ ∃ ps : List Addr, H' M = some (.lst (ps.map V.ref)) ∧ Tups H' (pairV (spI (1 + dS).toNat)) ps (List.range j)) ⟨same_upd nM, [], upd_same, Tups.nil⟩ (fun _ _ _ _ => True.intro) (fun j x Hx Hy hj p y => ?_) (fun H20 p => ?_)⟩
      · obtain ⟨sx, ps, hM, hTp⟩ := p
        obtain ⟨rfl, hx⟩ := y
        have hx : x = .int ((j : Nat) : Int) := hx.trans (congrArg V.int (Int.zero_add _))
        subst hx
        have pl := hTp.1
        rw [List.length_range] at pl
        have hev : pairV (spI (1 + dS).toNat) j = [.int (j : Int), .int ((j : Int) + if decide (1 + dS ≤ (j : Int)) = true then 1 else 0)] := by
          unfold pairV spI
          by_cases z : 1 + dS ≤ (j : Int)
          · rw [if_neg (by omega), decide_eq_true z, if_pos rfl]
          · rw [if_pos (by omega), decide_eq_false z, if_neg (by decide), Int.add_zero]
        refine ⟨rfl, _, rfl, _, rfl, _, rfl, _, rfl, _, _, rfl, rfl, .inr ⟨decide (1 + dS ≤ (j : Int)), rfl, _, _, rfl, rfl, (by show 2 ≤ sizeLine; decide), fun p2 np2 => ?_⟩⟩
        have kp := same_upd (o := .tup [.int (j : Int), .int ((j : Int) + if decide (1 + dS ≤ (j : Int)) = true then 1 else 0)]) np2
        have hM2 := kp _ _ hM
        refine ⟨_, hM2, small1000 (by rw [List.length_map]; omega), Same.off (sx.trans kp) nM off_upd, ps ++ [p2], by rw [upd_same, List.map_append]; rfl, ?_⟩
        rw [List.range_succ]
        have t1 := (hTp.same kp).snoc (a := p2) (e := j) (by rw [upd_same, hev])
        exact ⟨t1.1, fun i a e u v => (tk_upd hM2) _ _ (t1.2 i a e u v)⟩
      obtain ⟨s20, ps, hM, hTp⟩ := p
      rw [en] at hTp
      refine ⟨M, ps, spotKv (spI (1 + dS).toNat) L.length, rfl, SqL.of hM, tups_pairs hTp, fun D2 nD2 => ?_⟩
      have kD2 := same_upd (o := .dK (mergeK [] (spotKv (spI (1 + dS).toNat) L.length))) nD2
      have hD2 : upd H20 D2 (.dK (mergeK [] (spotKv (spI (1 + dS).toNat) L.length))) D2 = some (.dK (mergeK [] (spotKv (spI (1 + dS).toNat) L.length))) := upd_same
      have s21 := s20.trans kD2
      have o21 := o19'.sameTrans s21
      have oC21 := oC19.sameTrans s21
      have R21 := R19.same s21
      generalize upd H20 D2 (.dK (mergeK [] (spotKv (spI (1 + dS).toNat) L.length))) = H21 at hD2 o21 oC21 R21 ⊢
      obtain ⟨k1, k2, k3⟩ := keep _ o21
      refine ⟨_, rfl, _, rfl, _, rfl, _, rfl, _, rfl, _, rfl, _, rfl, c, g, Cd, D2, Tl, (1 + dS).toNat, lawCm, 2 + dF, _, L, mk, es, rfl, k1, hO, k2, hV9, hl9, hk9, codes oC21, ⟨_, hD2, fun i hi => spot_at hi⟩, k3, by omega, n5, by omega, by omega, tm _ (by omega) (by omega), lawCm_ok, hB9, fun H22 s22 => ⟨_, rfl, iteF ?_⟩⟩
      have oz := o21.sameTrans s22
      exact ⟨o2a.trans oz, (R21.same s22).mono (by omega), _, _, _, _, _, _, _, _, _, _, _, _, _, _, _, _, rfl⟩
    · obtain ⟨o3, R3, y3, y4, y5, y6, y7, y8, y9, y10, y11, y12, y13, y14, y15, y16, y17, y18, rfl⟩ := p
      exact ⟨s1.trans (fun b u hb => o3 _ _ (s2 _ _ hb) (ne_of_none hb nr)), _, _, _, _, _, _, _, _, _, _, _, _, _, _, _, _, _, _, rfl⟩
end
end K84

set_option Elab.async false
set_option linter.all false
set_option maxRecDepth 100000
set_option maxHeartbeats 8000000
namespace K84
open PySem PySem.Spec PyProof.Rows L2 Gd Rm
theorem at_mk {K : PySem.W.Frag} {h : Heap} {mg : Str → Option Value} {x : Str} {st : Stmt} {ps : List Str} {f : Addr} {od an : Option Addr} {sl : Array (Option Value)} {oc kV dc pm cd ct : Value} (X : K.In h) (G : h.Ns mainGlobals mg)
    (a : PySem.W.nsIn K mainGlobals x = some (some (.ref f))) (l : K.lookup f = some ⟨oc, od, .func (PySem.W.fnOf x x (defArgs st) (defBody st) (defScope st) .none kV dc pm an cd ct), sl⟩) (c : PySem.W.codeIn K cd x = true) (k : PySem.W.keepIn K (.ref f) = true)
    (hb : ∀ (kV doc pm : Value) (an : Option Addr) (cdv ct : Value) (us : List Value), us.length = ps.length → bindArgs (PySem.W.fnOf x x (defArgs st) (defBody st) (defScope st) .none kV doc pm an cdv ct) ⟨us, []⟩ = pure (ps.zip us)) : At K mg x st ps :=
  ⟨_, _, fun_mk l c k, PySem.W.mg_of X G a, (fun_mk l c k).binds hb⟩
theorem all_mk {l : PySem.W.OpenLaw} {w : World} {K : PySem.W.Frag} {h : Heap} {mg : Str → Option Value} {fa : Addr} (X : K.In h) (G : h.Ns mainGlobals mg) (hfa : mg "law" = some (.ref fa))
    {f0 : Addr} {od0 an0 : Option Addr} {sl0 : Array (Option Value)} {oc0 kV0 dc0 pm0 cd0 ct0 : Value}
    {f1 : Addr} {od1 an1 : Option Addr} {sl1 : Array (Option Value)} {oc1 kV1 dc1 pm1 cd1 ct1 : Value}
    {f2 : Addr} {od2 an2 : Option Addr} {sl2 : Array (Option Value)} {oc2 kV2 dc2 pm2 cd2 ct2 : Value}
    {f3 : Addr} {od3 an3 : Option Addr} {sl3 : Array (Option Value)} {oc3 kV3 dc3 pm3 cd3 ct3 : Value}
    {f4 : Addr} {od4 an4 : Option Addr} {sl4 : Array (Option Value)} {oc4 kV4 dc4 pm4 cd4 ct4 : Value}
    {f5 : Addr} {od5 an5 : Option Addr} {sl5 : Array (Option Value)} {oc5 kV5 dc5 pm5 cd5 ct5 : Value}
    {f6 : Addr} {od6 an6 : Option Addr} {sl6 : Array (Option Value)} {oc6 kV6 dc6 pm6 cd6 ct6 : Value}
    {f7 : Addr} {od7 an7 : Option Addr} {sl7 : Array (Option Value)} {oc7 kV7 dc7 pm7 cd7 ct7 : Value}
    {f8 : Addr} {od8 an8 : Option Addr} {sl8 : Array (Option Value)} {oc8 kV8 dc8 pm8 cd8 ct8 : Value}
    {f9 : Addr} {od9 an9 : Option Addr} {sl9 : Array (Option Value)} {oc9 kV9 dc9 pm9 cd9 ct9 : Value}
    {f10 : Addr} {od10 an10 : Option Addr} {sl10 : Array (Option Value)} {oc10 kV10 dc10 pm10 cd10 ct10 : Value}
    {f11 : Addr} {od11 an11 : Option Addr} {sl11 : Array (Option Value)} {oc11 kV11 dc11 pm11 cd11 ct11 : Value}
    {f12 : Addr} {od12 an12 : Option Addr} {sl12 : Array (Option Value)} {oc12 kV12 dc12 pm12 cd12 ct12 : Value}
    {f13 : Addr} {od13 an13 : Option Addr} {sl13 : Array (Option Value)} {oc13 kV13 dc13 pm13 cd13 ct13 : Value}
    {f14 : Addr} {od14 an14 : Option Addr} {sl14 : Array (Option Value)} {oc14 kV14 dc14 pm14 cd14 ct14 : Value}
    {f15 : Addr} {od15 an15 : Option Addr} {sl15 : Array (Option Value)} {oc15 kV15 dc15 pm15 cd15 ct15 : Value}
    {f16 : Addr} {od16 an16 : Option Addr} {sl16 : Array (Option Value)} {oc16 kV16 dc16 pm16 cd16 ct16 : Value}
    {T16 : Addr} {td16 : Option Addr} {ts16 : Array (Option Value)} {tn16 : Nat}
    {f17 : Addr} {od17 an17 : Option Addr} {sl17 : Array (Option Value)} {oc17 kV17 dc17 pm17 cd17 ct17 : Value}
    {f18 : Addr} {od18 an18 : Option Addr} {sl18 : Array (Option Value)} {oc18 kV18 dc18 pm18 cd18 ct18 : Value}
    {f19 : Addr} {od19 an19 : Option Addr} {sl19 : Array (Option Value)} {oc19 kV19 dc19 pm19 cd19 ct19 : Value}
    {f20 : Addr} {od20 an20 : Option Addr} {sl20 : Array (Option Value)} {oc20 kV20 dc20 pm20 cd20 ct20 : Value}
    {f21 : Addr} {od21 an21 : Option Addr} {sl21 : Array (Option Value)} {oc21 kV21 dc21 pm21 cd21 ct21 : Value}
    {f22 : Addr} {od22 an22 : Option Addr} {sl22 : Array (Option Value)} {oc22 kV22 dc22 pm22 cd22 ct22 : Value}
    {f23 : Addr} {od23 an23 : Option Addr} {sl23 : Array (Option Value)} {oc23 kV23 dc23 pm23 cd23 ct23 : Value}
    {f24 : Addr} {od24 an24 : Option Addr} {sl24 : Array (Option Value)} {oc24 kV24 dc24 pm24 cd24 ct24 : Value}
    {f25 : Addr} {od25 an25 : Option Addr} {sl25 : Array (Option Value)} {oc25 kV25 dc25 pm25 cd25 ct25 : Value}
    {f26 : Addr} {od26 an26 : Option Addr} {sl26 : Array (Option Value)} {oc26 kV26 dc26 pm26 cd26 ct26 : Value}
    {f27 : Addr} {od27 an27 : Option Addr} {sl27 : Array (Option Value)} {oc27 kV27 dc27 pm27 cd27 ct27 : Value}
    {f28 : Addr} {od28 an28 : Option Addr} {sl28 : Array (Option Value)} {oc28 kV28 dc28 pm28 cd28 ct28 : Value}
    {f29 : Addr} {od29 an29 : Option Addr} {sl29 : Array (Option Value)} {oc29 kV29 dc29 pm29 cd29 ct29 : Value}
    {f30 : Addr} {od30 an30 : Option Addr} {sl30 : Array (Option Value)} {oc30 kV30 dc30 pm30 cd30 ct30 : Value}
    {f31 : Addr} {od31 an31 : Option Addr} {sl31 : Array (Option Value)} {oc31 kV31 dc31 pm31 cd31 ct31 : Value}
    {f32 : Addr} {od32 an32 : Option Addr} {sl32 : Array (Option Value)} {oc32 kV32 dc32 pm32 cd32 ct32 : Value}
    {f33 : Addr} {od33 an33 : Option Addr} {sl33 : Array (Option Value)} {oc33 kV33 dc33 pm33 cd33 ct33 : Value}
    {f34 : Addr} {od34 an34 : Option Addr} {sl34 : Array (Option Value)} {oc34 kV34 dc34 pm34 cd34 ct34 : Value}
    {f35 : Addr} {od35 an35 : Option Addr} {sl35 : Array (Option Value)} {oc35 kV35 dc35 pm35 cd35 ct35 : Value}
    {f36 : Addr} {od36 an36 : Option Addr} {sl36 : Array (Option Value)} {oc36 kV36 dc36 pm36 cd36 ct36 : Value}
    {f37 : Addr} {od37 an37 : Option Addr} {sl37 : Array (Option Value)} {oc37 kV37 dc37 pm37 cd37 ct37 : Value}
    {f38 : Addr} {od38 an38 : Option Addr} {sl38 : Array (Option Value)} {oc38 kV38 dc38 pm38 cd38 ct38 : Value}
    {f39 : Addr} {od39 an39 : Option Addr} {sl39 : Array (Option Value)} {oc39 kV39 dc39 pm39 cd39 ct39 : Value}
    {f40 : Addr} {od40 an40 : Option Addr} {sl40 : Array (Option Value)} {oc40 kV40 dc40 pm40 cd40 ct40 : Value}
    {f41 : Addr} {od41 an41 : Option Addr} {sl41 : Array (Option Value)} {oc41 kV41 dc41 pm41 cd41 ct41 : Value}
    {f42 : Addr} {od42 an42 : Option Addr} {sl42 : Array (Option Value)} {oc42 kV42 dc42 pm42 cd42 ct42 : Value}
    {f43 : Addr} {od43 an43 : Option Addr} {sl43 : Array (Option Value)} {oc43 kV43 dc43 pm43 cd43 ct43 : Value}
    {f44 : Addr} {od44 an44 : Option Addr} {sl44 : Array (Option Value)} {oc44 kV44 dc44 pm44 cd44 ct44 : Value}
    {tk0 : Tok}
    {tk1 : Tok}
    {tk2 : Tok}
    {g3 : Addr} {gs3 : Array (Option Value)} {gn3 : Nat} {tk3_0 tk3_1 tk3_2 : Tok}
    {g4 : Addr} {gs4 : Array (Option Value)} {gn4 : Nat} {tk4_0 tk4_1 tk4_2 : Tok}
    {tk5 : Tok}
    {tk6 : Tok}
    {tk7 : Tok}
    {tk8 : Tok}
    {C : Addr}
    {mf0 : Addr} {mod0 man0 : Option Addr} {msl0 : Array (Option Value)} {moc0 mkV0 mdc0 mpm0 mcd0 mct0 : Value}
    {mf1 : Addr} {mod1 man1 : Option Addr} {msl1 : Array (Option Value)} {moc1 mkV1 mdc1 mpm1 mcd1 mct1 : Value}
    {mf2 : Addr} {mod2 man2 : Option Addr} {msl2 : Array (Option Value)} {moc2 mkV2 mdc2 mpm2 mcd2 mct2 : Value}
    {mf3 : Addr} {mod3 man3 : Option Addr} {msl3 : Array (Option Value)} {moc3 mkV3 mdc3 mpm3 mcd3 mct3 : Value}
    {mf4 : Addr} {mod4 man4 : Option Addr} {msl4 : Array (Option Value)} {moc4 mkV4 mdc4 mpm4 mcd4 mct4 : Value}
    {mf5 : Addr} {mod5 man5 : Option Addr} {msl5 : Array (Option Value)} {moc5 mkV5 mdc5 mpm5 mcd5 mct5 : Value}
    {C1 : Addr}
    {q1mf0 : Addr} {q1mod0 q1man0 : Option Addr} {q1msl0 : Array (Option Value)} {q1moc0 q1mkV0 q1mdc0 q1mpm0 q1mcd0 q1mct0 : Value}
    {q1mf1 : Addr} {q1mod1 q1man1 : Option Addr} {q1msl1 : Array (Option Value)} {q1moc1 q1mkV1 q1mdc1 q1mpm1 q1mcd1 q1mct1 : Value}
    {q1mf2 : Addr} {q1mod2 q1man2 : Option Addr} {q1msl2 : Array (Option Value)} {q1moc2 q1mkV2 q1mdc2 q1mpm2 q1mcd2 q1mct2 : Value}
    {q1mf3 : Addr} {q1mod3 q1man3 : Option Addr} {q1msl3 : Array (Option Value)} {q1moc3 q1mkV3 q1mdc3 q1mpm3 q1mcd3 q1mct3 : Value}
    {q1mf4 : Addr} {q1mod4 q1man4 : Option Addr} {q1msl4 : Array (Option Value)} {q1moc4 q1mkV4 q1mdc4 q1mpm4 q1mcd4 q1mct4 : Value}
    {q1mf5 : Addr} {q1mod5 q1man5 : Option Addr} {q1msl5 : Array (Option Value)} {q1moc5 q1mkV5 q1mdc5 q1mpm5 q1mcd5 q1mct5 : Value}
    (a0 : PySem.W.nsIn K mainGlobals "is_an_integer" = some (some (.ref f0))) (l0 : K.lookup f0 = some ⟨oc0, od0, .func (PySem.W.fnOf "is_an_integer" "is_an_integer" (defArgs s_is_an_integer) (defBody s_is_an_integer) (defScope s_is_an_integer) .none kV0 dc0 pm0 an0 cd0 ct0), sl0⟩) (c0 : PySem.W.codeIn K cd0 "is_an_integer" = true) (k0 : PySem.W.keepIn K (.ref f0) = true)
    (a1 : PySem.W.nsIn K mainGlobals "is_between" = some (some (.ref f1))) (l1 : K.lookup f1 = some ⟨oc1, od1, .func (PySem.W.fnOf "is_between" "is_between" (defArgs s_is_between) (defBody s_is_between) (defScope s_is_between) .none kV1 dc1 pm1 an1 cd1 ct1), sl1⟩) (c1 : PySem.W.codeIn K cd1 "is_between" = true) (k1 : PySem.W.keepIn K (.ref f1) = true)
    (a2 : PySem.W.nsIn K mainGlobals "is_code" = some (some (.ref f2))) (l2 : K.lookup f2 = some ⟨oc2, od2, .func (PySem.W.fnOf "is_code" "is_code" (defArgs s_is_code) (defBody s_is_code) (defScope s_is_code) .none kV2 dc2 pm2 an2 cd2 ct2), sl2⟩) (c2 : PySem.W.codeIn K cd2 "is_code" = true) (k2 : PySem.W.keepIn K (.ref f2) = true)
    (a3 : PySem.W.nsIn K mainGlobals "is_code_action" = some (some (.ref f3))) (l3 : K.lookup f3 = some ⟨oc3, od3, .func (PySem.W.fnOf "is_code_action" "is_code_action" (defArgs s_is_code_action) (defBody s_is_code_action) (defScope s_is_code_action) .none kV3 dc3 pm3 an3 cd3 ct3), sl3⟩) (c3 : PySem.W.codeIn K cd3 "is_code_action" = true) (k3 : PySem.W.keepIn K (.ref f3) = true)
    (a4 : PySem.W.nsIn K mainGlobals "is_layer_action" = some (some (.ref f4))) (l4 : K.lookup f4 = some ⟨oc4, od4, .func (PySem.W.fnOf "is_layer_action" "is_layer_action" (defArgs s_is_layer_action) (defBody s_is_layer_action) (defScope s_is_layer_action) .none kV4 dc4 pm4 an4 cd4 ct4), sl4⟩) (c4 : PySem.W.codeIn K cd4 "is_layer_action" = true) (k4 : PySem.W.keepIn K (.ref f4) = true)
    (a5 : PySem.W.nsIn K mainGlobals "is_hold" = some (some (.ref f5))) (l5 : K.lookup f5 = some ⟨oc5, od5, .func (PySem.W.fnOf "is_hold" "is_hold" (defArgs s_is_hold) (defBody s_is_hold) (defScope s_is_hold) .none kV5 dc5 pm5 an5 cd5 ct5), sl5⟩) (c5 : PySem.W.codeIn K cd5 "is_hold" = true) (k5 : PySem.W.keepIn K (.ref f5) = true)
    (a6 : PySem.W.nsIn K mainGlobals "is_dual_action" = some (some (.ref f6))) (l6 : K.lookup f6 = some ⟨oc6, od6, .func (PySem.W.fnOf "is_dual_action" "is_dual_action" (defArgs s_is_dual_action) (defBody s_is_dual_action) (defScope s_is_dual_action) .none kV6 dc6 pm6 an6 cd6 ct6), sl6⟩) (c6 : PySem.W.codeIn K cd6 "is_dual_action" = true) (k6 : PySem.W.keepIn K (.ref f6) = true)
    (a7 : PySem.W.nsIn K mainGlobals "can_stand" = some (some (.ref f7))) (l7 : K.lookup f7 = some ⟨oc7, od7, .func (PySem.W.fnOf "can_stand" "can_stand" (defArgs s_can_stand) (defBody s_can_stand) (defScope s_can_stand) .none kV7 dc7 pm7 an7 cd7 ct7), sl7⟩) (c7 : PySem.W.codeIn K cd7 "can_stand" = true) (k7 : PySem.W.keepIn K (.ref f7) = true)
    (a8 : PySem.W.nsIn K mainGlobals "has_layout_form" = some (some (.ref f8))) (l8 : K.lookup f8 = some ⟨oc8, od8, .func (PySem.W.fnOf "has_layout_form" "has_layout_form" (defArgs s_has_layout_form) (defBody s_has_layout_form) (defScope s_has_layout_form) .none kV8 dc8 pm8 an8 cd8 ct8), sl8⟩) (c8 : PySem.W.codeIn K cd8 "has_layout_form" = true) (k8 : PySem.W.keepIn K (.ref f8) = true)
    (a9 : PySem.W.nsIn K mainGlobals "check_layout" = some (some (.ref f9))) (l9 : K.lookup f9 = some ⟨oc9, od9, .func (PySem.W.fnOf "check_layout" "check_layout" (defArgs s_check_layout) (defBody s_check_layout) (defScope s_check_layout) .none kV9 dc9 pm9 an9 cd9 ct9), sl9⟩) (c9 : PySem.W.codeIn K cd9 "check_layout" = true) (k9 : PySem.W.keepIn K (.ref f9) = true)
    (a10 : PySem.W.nsIn K mainGlobals "is_step" = some (some (.ref f10))) (l10 : K.lookup f10 = some ⟨oc10, od10, .func (PySem.W.fnOf "is_step" "is_step" (defArgs s_is_step) (defBody s_is_step) (defScope s_is_step) .none kV10 dc10 pm10 an10 cd10 ct10), sl10⟩) (c10 : PySem.W.codeIn K cd10 "is_step" = true) (k10 : PySem.W.keepIn K (.ref f10) = true)
    (a11 : PySem.W.nsIn K mainGlobals "is_event" = some (some (.ref f11))) (l11 : K.lookup f11 = some ⟨oc11, od11, .func (PySem.W.fnOf "is_event" "is_event" (defArgs s_is_event) (defBody s_is_event) (defScope s_is_event) .none kV11 dc11 pm11 an11 cd11 ct11), sl11⟩) (c11 : PySem.W.codeIn K cd11 "is_event" = true) (k11 : PySem.W.keepIn K (.ref f11) = true)
    (a12 : PySem.W.nsIn K mainGlobals "is_short_list" = some (some (.ref f12))) (l12 : K.lookup f12 = some ⟨oc12, od12, .func (PySem.W.fnOf "is_short_list" "is_short_list" (defArgs s_is_short_list) (defBody s_is_short_list) (defScope s_is_short_list) .none kV12 dc12 pm12 an12 cd12 ct12), sl12⟩) (c12 : PySem.W.codeIn K cd12 "is_short_list" = true) (k12 : PySem.W.keepIn K (.ref f12) = true)
    (a13 : PySem.W.nsIn K mainGlobals "takes_turn" = some (some (.ref f13))) (l13 : K.lookup f13 = some ⟨oc13, od13, .func (PySem.W.fnOf "takes_turn" "takes_turn" (defArgs s_takes_turn) (defBody s_takes_turn) (defScope s_takes_turn) .none kV13 dc13 pm13 an13 cd13 ct13), sl13⟩) (c13 : PySem.W.codeIn K cd13 "takes_turn" = true) (k13 : PySem.W.keepIn K (.ref f13) = true)
    (a14 : PySem.W.nsIn K mainGlobals "is_below" = some (some (.ref f14))) (l14 : K.lookup f14 = some ⟨oc14, od14, .func (PySem.W.fnOf "is_below" "is_below" (defArgs s_is_below) (defBody s_is_below) (defScope s_is_below) .none kV14 dc14 pm14 an14 cd14 ct14), sl14⟩) (c14 : PySem.W.codeIn K cd14 "is_below" = true) (k14 : PySem.W.keepIn K (.ref f14) = true)
    (a15 : PySem.W.nsIn K mainGlobals "can_follow" = some (some (.ref f15))) (l15 : K.lookup f15 = some ⟨oc15, od15, .func (PySem.W.fnOf "can_follow" "can_follow" (defArgs s_can_follow) (defBody s_can_follow) (defScope s_can_follow) .none kV15 dc15 pm15 an15 cd15 ct15), sl15⟩) (c15 : PySem.W.codeIn K cd15 "can_follow" = true) (k15 : PySem.W.keepIn K (.ref f15) = true)
    (a16 : PySem.W.nsIn K mainGlobals "check_record" = some (some (.ref f16))) (l16 : K.lookup f16 = some ⟨oc16, od16, .func (PySem.W.fnOf "check_record" "check_record" (defArgs s_check_record) (defBody s_check_record) (defScope s_check_record) (.ref T16) kV16 dc16 pm16 an16 cd16 ct16), sl16⟩) (c16 : PySem.W.codeIn K cd16 "check_record" = true) (k16 : PySem.W.keepIn K (.ref f16) = true) (u_16 : K.lookup T16 = some ⟨.type "tuple", td16, .seq #[.none] tn16, ts16⟩)
    (a17 : PySem.W.nsIn K mainGlobals "is_dual" = some (some (.ref f17))) (l17 : K.lookup f17 = some ⟨oc17, od17, .func (PySem.W.fnOf "is_dual" "is_dual" (defArgs s_is_dual) (defBody s_is_dual) (defScope s_is_dual) .none kV17 dc17 pm17 an17 cd17 ct17), sl17⟩) (c17 : PySem.W.codeIn K cd17 "is_dual" = true) (k17 : PySem.W.keepIn K (.ref f17) = true)
    (a18 : PySem.W.nsIn K mainGlobals "deciding_event" = some (some (.ref f18))) (l18 : K.lookup f18 = some ⟨oc18, od18, .func (PySem.W.fnOf "deciding_event" "deciding_event" (defArgs s_deciding_event) (defBody s_deciding_event) (defScope s_deciding_event) .none kV18 dc18 pm18 an18 cd18 ct18), sl18⟩) (c18 : PySem.W.codeIn K cd18 "deciding_event" = true) (k18 : PySem.W.keepIn K (.ref f18) = true)
    (a19 : PySem.W.nsIn K mainGlobals "sure_event" = some (some (.ref f19))) (l19 : K.lookup f19 = some ⟨oc19, od19, .func (PySem.W.fnOf "sure_event" "sure_event" (defArgs s_sure_event) (defBody s_sure_event) (defScope s_sure_event) .none kV19 dc19 pm19 an19 cd19 ct19), sl19⟩) (c19 : PySem.W.codeIn K cd19 "sure_event" = true) (k19 : PySem.W.keepIn K (.ref f19) = true)
    (a20 : PySem.W.nsIn K mainGlobals "dual_kind" = some (some (.ref f20))) (l20 : K.lookup f20 = some ⟨oc20, od20, .func (PySem.W.fnOf "dual_kind" "dual_kind" (defArgs s_dual_kind) (defBody s_dual_kind) (defScope s_dual_kind) .none kV20 dc20 pm20 an20 cd20 ct20), sl20⟩) (c20 : PySem.W.codeIn K cd20 "dual_kind" = true) (k20 : PySem.W.keepIn K (.ref f20) = true)
    (a21 : PySem.W.nsIn K mainGlobals "what_is_done" = some (some (.ref f21))) (l21 : K.lookup f21 = some ⟨oc21, od21, .func (PySem.W.fnOf "what_is_done" "what_is_done" (defArgs s_what_is_done) (defBody s_what_is_done) (defScope s_what_is_done) .none kV21 dc21 pm21 an21 cd21 ct21), sl21⟩) (c21 : PySem.W.codeIn K cd21 "what_is_done" = true) (k21 : PySem.W.keepIn K (.ref f21) = true)
    (a22 : PySem.W.nsIn K mainGlobals "play" = some (some (.ref f22))) (l22 : K.lookup f22 = some ⟨oc22, od22, .func (PySem.W.fnOf "play" "play" (defArgs s_play) (defBody s_play) (defScope s_play) .none kV22 dc22 pm22 an22 cd22 ct22), sl22⟩) (c22 : PySem.W.codeIn K cd22 "play" = true) (k22 : PySem.W.keepIn K (.ref f22) = true)
    (a23 : PySem.W.nsIn K mainGlobals "check_playable" = some (some (.ref f23))) (l23 : K.lookup f23 = some ⟨oc23, od23, .func (PySem.W.fnOf "check_playable" "check_playable" (defArgs s_check_playable) (defBody s_check_playable) (defScope s_check_playable) .none kV23 dc23 pm23 an23 cd23 ct23), sl23⟩) (c23 : PySem.W.codeIn K cd23 "check_playable" = true) (k23 : PySem.W.keepIn K (.ref f23) = true)
    (a24 : PySem.W.nsIn K mainGlobals "played" = some (some (.ref f24))) (l24 : K.lookup f24 = some ⟨oc24, od24, .func (PySem.W.fnOf "played" "played" (defArgs s_played) (defBody s_played) (defScope s_played) .none kV24 dc24 pm24 an24 cd24 ct24), sl24⟩) (c24 : PySem.W.codeIn K cd24 "played" = true) (k24 : PySem.W.keepIn K (.ref f24) = true)
    (a25 : PySem.W.nsIn K mainGlobals "meanings" = some (some (.ref f25))) (l25 : K.lookup f25 = some ⟨oc25, od25, .func (PySem.W.fnOf "meanings" "meanings" (defArgs s_meanings) (defBody s_meanings) (defScope s_meanings) .none kV25 dc25 pm25 an25 cd25 ct25), sl25⟩) (c25 : PySem.W.codeIn K cd25 "meanings" = true) (k25 : PySem.W.keepIn K (.ref f25) = true)
    (a26 : PySem.W.nsIn K mainGlobals "layers_on" = some (some (.ref f26))) (l26 : K.lookup f26 = some ⟨oc26, od26, .func (PySem.W.fnOf "layers_on" "layers_on" (defArgs s_layers_on) (defBody s_layers_on) (defScope s_layers_on) .none kV26 dc26 pm26 an26 cd26 ct26), sl26⟩) (c26 : PySem.W.codeIn K cd26 "layers_on" = true) (k26 : PySem.W.keepIn K (.ref f26) = true)
    (a27 : PySem.W.nsIn K mainGlobals "decisions" = some (some (.ref f27))) (l27 : K.lookup f27 = some ⟨oc27, od27, .func (PySem.W.fnOf "decisions" "decisions" (defArgs s_decisions) (defBody s_decisions) (defScope s_decisions) .none kV27 dc27 pm27 an27 cd27 ct27), sl27⟩) (c27 : PySem.W.codeIn K cd27 "decisions" = true) (k27 : PySem.W.keepIn K (.ref f27) = true)
    (a28 : PySem.W.nsIn K mainGlobals "done_by" = some (some (.ref f28))) (l28 : K.lookup f28 = some ⟨oc28, od28, .func (PySem.W.fnOf "done_by" "done_by" (defArgs s_done_by) (defBody s_done_by) (defScope s_done_by) .none kV28 dc28 pm28 an28 cd28 ct28), sl28⟩) (c28 : PySem.W.codeIn K cd28 "done_by" = true) (k28 : PySem.W.keepIn K (.ref f28) = true)
    (a29 : PySem.W.nsIn K mainGlobals "done_ticks" = some (some (.ref f29))) (l29 : K.lookup f29 = some ⟨oc29, od29, .func (PySem.W.fnOf "done_ticks" "done_ticks" (defArgs s_done_ticks) (defBody s_done_ticks) (defScope s_done_ticks) .none kV29 dc29 pm29 an29 cd29 ct29), sl29⟩) (c29 : PySem.W.codeIn K cd29 "done_ticks" = true) (k29 : PySem.W.keepIn K (.ref f29) = true)
    (a30 : PySem.W.nsIn K mainGlobals "come_all" = some (some (.ref f30))) (l30 : K.lookup f30 = some ⟨oc30, od30, .func (PySem.W.fnOf "come_all" "come_all" (defArgs s_come_all) (defBody s_come_all) (defScope s_come_all) .none kV30 dc30 pm30 an30 cd30 ct30), sl30⟩) (c30 : PySem.W.codeIn K cd30 "come_all" = true) (k30 : PySem.W.keepIn K (.ref f30) = true)
    (a31 : PySem.W.nsIn K mainGlobals "run_out" = some (some (.ref f31))) (l31 : K.lookup f31 = some ⟨oc31, od31, .func (PySem.W.fnOf "run_out" "run_out" (defArgs s_run_out) (defBody s_run_out) (defScope s_run_out) .none kV31 dc31 pm31 an31 cd31 ct31), sl31⟩) (c31 : PySem.W.codeIn K cd31 "run_out" = true) (k31 : PySem.W.keepIn K (.ref f31) = true)
    (a32 : PySem.W.nsIn K mainGlobals "outputs" = some (some (.ref f32))) (l32 : K.lookup f32 = some ⟨oc32, od32, .func (PySem.W.fnOf "outputs" "outputs" (defArgs s_outputs) (defBody s_outputs) (defScope s_outputs) .none kV32 dc32 pm32 an32 cd32 ct32), sl32⟩) (c32 : PySem.W.codeIn K cd32 "outputs" = true) (k32 : PySem.W.keepIn K (.ref f32) = true)
    (a33 : PySem.W.nsIn K mainGlobals "_law_reel" = some (some (.ref f33))) (l33 : K.lookup f33 = some ⟨oc33, od33, .func (PySem.W.fnOf "_law_reel" "_law_reel" (defArgs s__law_reel) (defBody s__law_reel) (defScope s__law_reel) .none kV33 dc33 pm33 an33 cd33 ct33), sl33⟩) (c33 : PySem.W.codeIn K cd33 "_law_reel" = true) (k33 : PySem.W.keepIn K (.ref f33) = true)
    (a34 : PySem.W.nsIn K mainGlobals "_law_spin" = some (some (.ref f34))) (l34 : K.lookup f34 = some ⟨oc34, od34, .func (PySem.W.fnOf "_law_spin" "_law_spin" (defArgs s__law_spin) (defBody s__law_spin) (defScope s__law_spin) .none kV34 dc34 pm34 an34 cd34 ct34), sl34⟩) (c34 : PySem.W.codeIn K cd34 "_law_spin" = true) (k34 : PySem.W.keepIn K (.ref f34) = true)
    (a35 : PySem.W.nsIn K mainGlobals "_law_code" = some (some (.ref f35))) (l35 : K.lookup f35 = some ⟨oc35, od35, .func (PySem.W.fnOf "_law_code" "_law_code" (defArgs s__law_code) (defBody s__law_code) (defScope s__law_code) .none kV35 dc35 pm35 an35 cd35 ct35), sl35⟩) (c35 : PySem.W.codeIn K cd35 "_law_code" = true) (k35 : PySem.W.keepIn K (.ref f35) = true)
    (a36 : PySem.W.nsIn K mainGlobals "_law_action" = some (some (.ref f36))) (l36 : K.lookup f36 = some ⟨oc36, od36, .func (PySem.W.fnOf "_law_action" "_law_action" (defArgs s__law_action) (defBody s__law_action) (defScope s__law_action) .none kV36 dc36 pm36 an36 cd36 ct36), sl36⟩) (c36 : PySem.W.codeIn K cd36 "_law_action" = true) (k36 : PySem.W.keepIn K (.ref f36) = true)
    (a37 : PySem.W.nsIn K mainGlobals "_law_layout" = some (some (.ref f37))) (l37 : K.lookup f37 = some ⟨oc37, od37, .func (PySem.W.fnOf "_law_layout" "_law_layout" (defArgs s__law_layout) (defBody s__law_layout) (defScope s__law_layout) .none kV37 dc37 pm37 an37 cd37 ct37), sl37⟩) (c37 : PySem.W.codeIn K cd37 "_law_layout" = true) (k37 : PySem.W.keepIn K (.ref f37) = true)
    (a38 : PySem.W.nsIn K mainGlobals "_law_record" = some (some (.ref f38))) (l38 : K.lookup f38 = some ⟨oc38, od38, .func (PySem.W.fnOf "_law_record" "_law_record" (defArgs s__law_record) (defBody s__law_record) (defScope s__law_record) .none kV38 dc38 pm38 an38 cd38 ct38), sl38⟩) (c38 : PySem.W.codeIn K cd38 "_law_record" = true) (k38 : PySem.W.keepIn K (.ref f38) = true)
    (a39 : PySem.W.nsIn K mainGlobals "_law_led" = some (some (.ref f39))) (l39 : K.lookup f39 = some ⟨oc39, od39, .func (PySem.W.fnOf "_law_led" "_law_led" (defArgs s__law_led) (defBody s__law_led) (defScope s__law_led) .none kV39 dc39 pm39 an39 cd39 ct39), sl39⟩) (c39 : PySem.W.codeIn K cd39 "_law_led" = true) (k39 : PySem.W.keepIn K (.ref f39) = true)
    (a40 : PySem.W.nsIn K mainGlobals "_law_all" = some (some (.ref f40))) (l40 : K.lookup f40 = some ⟨oc40, od40, .func (PySem.W.fnOf "_law_all" "_law_all" (defArgs s__law_all) (defBody s__law_all) (defScope s__law_all) .none kV40 dc40 pm40 an40 cd40 ct40), sl40⟩) (c40 : PySem.W.codeIn K cd40 "_law_all" = true) (k40 : PySem.W.keepIn K (.ref f40) = true)
    (a41 : PySem.W.nsIn K mainGlobals "_law_due" = some (some (.ref f41))) (l41 : K.lookup f41 = some ⟨oc41, od41, .func (PySem.W.fnOf "_law_due" "_law_due" (defArgs s__law_due) (defBody s__law_due) (defScope s__law_due) .none kV41 dc41 pm41 an41 cd41 ct41), sl41⟩) (c41 : PySem.W.codeIn K cd41 "_law_due" = true) (k41 : PySem.W.keepIn K (.ref f41) = true)
    (a42 : PySem.W.nsIn K mainGlobals "_law_same" = some (some (.ref f42))) (l42 : K.lookup f42 = some ⟨oc42, od42, .func (PySem.W.fnOf "_law_same" "_law_same" (defArgs s__law_same) (defBody s__law_same) (defScope s__law_same) .none kV42 dc42 pm42 an42 cd42 ct42), sl42⟩) (c42 : PySem.W.codeIn K cd42 "_law_same" = true) (k42 : PySem.W.keepIn K (.ref f42) = true)
    (a43 : PySem.W.nsIn K mainGlobals "_law_keys_right" = some (some (.ref f43))) (l43 : K.lookup f43 = some ⟨oc43, od43, .func (PySem.W.fnOf "_law_keys_right" "_law_keys_right" (defArgs s__law_keys_right) (defBody s__law_keys_right) (defScope s__law_keys_right) .none kV43 dc43 pm43 an43 cd43 ct43), sl43⟩) (c43 : PySem.W.codeIn K cd43 "_law_keys_right" = true) (k43 : PySem.W.keepIn K (.ref f43) = true)
    (a44 : PySem.W.nsIn K mainGlobals "law" = some (some (.ref f44))) (l44 : K.lookup f44 = some ⟨oc44, od44, .func (PySem.W.fnOf "law" "law" (defArgs s_law) (defBody s_law) (defScope s_law) .none kV44 dc44 pm44 an44 cd44 ct44), sl44⟩) (c44 : PySem.W.codeIn K cd44 "law" = true) (k44 : PySem.W.keepIn K (.ref f44) = true)
    (v0 : PySem.W.nsIn K mainGlobals "MOST_SIGNS" = some (some (.int 8 tk0)))
    (v1 : PySem.W.nsIn K mainGlobals "CODE_SIGNS" = some (some (.str "abcdefghijklmnopqrstuvwxyz0123456789" tk1)))
    (v2 : PySem.W.nsIn K mainGlobals "GREATEST_TIME" = some (some (.int 1000000000 tk2)))
    (v3 : PySem.W.nsIn K mainGlobals "RULES" = some (some (.ref g3))) (u3 : K.lookup g3 = some ⟨.type "tuple", none, .seq #[.str "time" tk3_0, .str "other" tk3_1, .str "within" tk3_2] gn3, gs3⟩)
    (v4 : PySem.W.nsIn K mainGlobals "LAYER_WORDS" = some (some (.ref g4))) (u4 : K.lookup g4 = some ⟨.type "tuple", none, .seq #[.str "layer" tk4_0, .str "lock" tk4_1, .str "once" tk4_2] gn4, gs4⟩)
    (v5 : PySem.W.nsIn K mainGlobals "MOST_LAYERS" = some (some (.int 6 tk5)))
    (v6 : PySem.W.nsIn K mainGlobals "MOST_KEYS" = some (some (.int 16 tk6)))
    (v7 : PySem.W.nsIn K mainGlobals "MOST_EVENTS" = some (some (.int 400 tk7)))
    (v8 : PySem.W.nsIn K mainGlobals "NO_LAYER" = some (some (.int 0 tk8)))
    (z0 : PySem.W.nsIn K mainGlobals "len" = some none)
    (z1 : PySem.W.nsIn K mainGlobals "abs" = some none)
    (z2 : PySem.W.nsIn K mainGlobals "max" = some none)
    (z3 : PySem.W.nsIn K mainGlobals "min" = some none)
    (z4 : PySem.W.nsIn K mainGlobals "sum" = some none)
    (z5 : PySem.W.nsIn K mainGlobals "repr" = some none)
    (z6 : PySem.W.nsIn K mainGlobals "isinstance" = some none)
    (z7 : PySem.W.nsIn K mainGlobals "all" = some none)
    (z8 : PySem.W.nsIn K mainGlobals "list" = some none)
    (z9 : PySem.W.nsIn K mainGlobals "tuple" = some none)
    (z10 : PySem.W.nsIn K mainGlobals "int" = some none)
    (z11 : PySem.W.nsIn K mainGlobals "bool" = some none)
    (z12 : PySem.W.nsIn K mainGlobals "str" = some none)
    (z13 : PySem.W.nsIn K mainGlobals "range" = some none)
    (z14 : PySem.W.nsIn K mainGlobals "enumerate" = some none)
    (z15 : PySem.W.nsIn K mainGlobals "sorted" = some none)
    (z16 : PySem.W.nsIn K mainGlobals "zip" = some none)
    (z17 : PySem.W.nsIn K mainGlobals "set" = some none)
    (z18 : PySem.W.nsIn K mainGlobals "dict" = some none)
    (aC : PySem.W.nsIn K mainGlobals "Player" = some (some (.ref C)))
    (ma0 : PySem.W.findIn K (.ref C) "__init__" = some (some (.ref mf0))) (mi0 : PySem.W.isFn K (.ref mf0) = true) (ml0 : K.lookup mf0 = some ⟨moc0, mod0, .func (PySem.W.fnOf "__init__" "Player.__init__" (defArgs s_Player_init) (defBody s_Player_init) (defScope s_Player_init) .none mkV0 mdc0 mpm0 man0 mcd0 mct0), msl0⟩) (mc0 : PySem.W.codeIn K mcd0 "Player.__init__" = true) (mk0 : PySem.W.keepIn K (.ref mf0) = true)
    (ma1 : PySem.W.findIn K (.ref C) "is_on" = some (some (.ref mf1))) (mi1 : PySem.W.isFn K (.ref mf1) = true) (ml1 : K.lookup mf1 = some ⟨moc1, mod1, .func (PySem.W.fnOf "is_on" "Player.is_on" (defArgs s_is_on) (defBody s_is_on) (defScope s_is_on) .none mkV1 mdc1 mpm1 man1 mcd1 mct1), msl1⟩) (mc1 : PySem.W.codeIn K mcd1 "Player.is_on" = true) (mk1 : PySem.W.keepIn K (.ref mf1) = true)
    (ma2 : PySem.W.findIn K (.ref C) "taken" = some (some (.ref mf2))) (mi2 : PySem.W.isFn K (.ref mf2) = true) (ml2 : K.lookup mf2 = some ⟨moc2, mod2, .func (PySem.W.fnOf "taken" "Player.taken" (defArgs s_taken) (defBody s_taken) (defScope s_taken) .none mkV2 mdc2 mpm2 man2 mcd2 mct2), msl2⟩) (mc2 : PySem.W.codeIn K mcd2 "Player.taken" = true) (mk2 : PySem.W.keepIn K (.ref mf2) = true)
    (ma3 : PySem.W.findIn K (.ref C) "press" = some (some (.ref mf3))) (mi3 : PySem.W.isFn K (.ref mf3) = true) (ml3 : K.lookup mf3 = some ⟨moc3, mod3, .func (PySem.W.fnOf "press" "Player.press" (defArgs s_press) (defBody s_press) (defScope s_press) .none mkV3 mdc3 mpm3 man3 mcd3 mct3), msl3⟩) (mc3 : PySem.W.codeIn K mcd3 "Player.press" = true) (mk3 : PySem.W.keepIn K (.ref mf3) = true)
    (ma4 : PySem.W.findIn K (.ref C) "release" = some (some (.ref mf4))) (mi4 : PySem.W.isFn K (.ref mf4) = true) (ml4 : K.lookup mf4 = some ⟨moc4, mod4, .func (PySem.W.fnOf "release" "Player.release" (defArgs s_release) (defBody s_release) (defScope s_release) .none mkV4 mdc4 mpm4 man4 mcd4 mct4), msl4⟩) (mc4 : PySem.W.codeIn K mcd4 "Player.release" = true) (mk4 : PySem.W.keepIn K (.ref mf4) = true)
    (ma5 : PySem.W.findIn K (.ref C) "on_layers" = some (some (.ref mf5))) (mi5 : PySem.W.isFn K (.ref mf5) = true) (ml5 : K.lookup mf5 = some ⟨moc5, mod5, .func (PySem.W.fnOf "on_layers" "Player.on_layers" (defArgs s_on_layers) (defBody s_on_layers) (defScope s_on_layers) .none mkV5 mdc5 mpm5 man5 mcd5 mct5), msl5⟩) (mc5 : PySem.W.codeIn K mcd5 "Player.on_layers" = true) (mk5 : PySem.W.keepIn K (.ref mf5) = true)
    (pg : PySem.W.plainGet K C Str.empty = true) (hd : PySem.W.hasDictIn K C = true) (po : PySem.W.plainOver K C = true) (sa : PySem.W.findIn K (.ref C) "__setattr__" = some (some (.builtin "object.__setattr__"))) (mkC : PySem.W.makesIn K C = true) (kc : PySem.W.keepIn K (.ref C) = true)
    (nn0 : PySem.W.findIn K (.ref C) "layout" = some none)
    (nn1 : PySem.W.findIn K (.ref C) "locked" = some none)
    (nn2 : PySem.W.findIn K (.ref C) "once" = some none)
    (nn3 : PySem.W.findIn K (.ref C) "bound" = some none)
    (nn4 : PySem.W.findIn K (.ref C) "pressed" = some none)
    (aC1 : PySem.W.nsIn K mainGlobals "Row" = some (some (.ref C1)))
    (q1ma0 : PySem.W.findIn K (.ref C1) "__init__" = some (some (.ref q1mf0))) (q1mi0 : PySem.W.isFn K (.ref q1mf0) = true) (q1ml0 : K.lookup q1mf0 = some ⟨q1moc0, q1mod0, .func (PySem.W.fnOf "__init__" "Row.__init__" (defArgs s_Row_init) (defBody s_Row_init) (defScope s_Row_init) .none q1mkV0 q1mdc0 q1mpm0 q1man0 q1mcd0 q1mct0), q1msl0⟩) (q1mc0 : PySem.W.codeIn K q1mcd0 "Row.__init__" = true) (q1mk0 : PySem.W.keepIn K (.ref q1mf0) = true)
    (q1ma1 : PySem.W.findIn K (.ref C1) "due" = some (some (.ref q1mf1))) (q1mi1 : PySem.W.isFn K (.ref q1mf1) = true) (q1ml1 : K.lookup q1mf1 = some ⟨q1moc1, q1mod1, .func (PySem.W.fnOf "due" "Row.due" (defArgs s_due) (defBody s_due) (defScope s_due) .none q1mkV1 q1mdc1 q1mpm1 q1man1 q1mcd1 q1mct1), q1msl1⟩) (q1mc1 : PySem.W.codeIn K q1mcd1 "Row.due" = true) (q1mk1 : PySem.W.keepIn K (.ref q1mf1) = true)
    (q1ma2 : PySem.W.findIn K (.ref C1) "clock" = some (some (.ref q1mf2))) (q1mi2 : PySem.W.isFn K (.ref q1mf2) = true) (q1ml2 : K.lookup q1mf2 = some ⟨q1moc2, q1mod2, .func (PySem.W.fnOf "clock" "Row.clock" (defArgs s_clock) (defBody s_clock) (defScope s_clock) .none q1mkV2 q1mdc2 q1mpm2 q1man2 q1mcd2 q1mct2), q1msl2⟩) (q1mc2 : PySem.W.codeIn K q1mcd2 "Row.clock" = true) (q1mk2 : PySem.W.keepIn K (.ref q1mf2) = true)
    (q1ma3 : PySem.W.findIn K (.ref C1) "come" = some (some (.ref q1mf3))) (q1mi3 : PySem.W.isFn K (.ref q1mf3) = true) (q1ml3 : K.lookup q1mf3 = some ⟨q1moc3, q1mod3, .func (PySem.W.fnOf "come" "Row.come" (defArgs s_come) (defBody s_come) (defScope s_come) .none q1mkV3 q1mdc3 q1mpm3 q1man3 q1mcd3 q1mct3), q1msl3⟩) (q1mc3 : PySem.W.codeIn K q1mcd3 "Row.come" = true) (q1mk3 : PySem.W.keepIn K (.ref q1mf3) = true)
    (q1ma4 : PySem.W.findIn K (.ref C1) "let_out" = some (some (.ref q1mf4))) (q1mi4 : PySem.W.isFn K (.ref q1mf4) = true) (q1ml4 : K.lookup q1mf4 = some ⟨q1moc4, q1mod4, .func (PySem.W.fnOf "let_out" "Row.let_out" (defArgs s_let_out) (defBody s_let_out) (defScope s_let_out) .none q1mkV4 q1mdc4 q1mpm4 q1man4 q1mcd4 q1mct4), q1msl4⟩) (q1mc4 : PySem.W.codeIn K q1mcd4 "Row.let_out" = true) (q1mk4 : PySem.W.keepIn K (.ref q1mf4) = true)
    (q1ma5 : PySem.W.findIn K (.ref C1) "front_means" = some (some (.ref q1mf5))) (q1mi5 : PySem.W.isFn K (.ref q1mf5) = true) (q1ml5 : K.lookup q1mf5 = some ⟨q1moc5, q1mod5, .func (PySem.W.fnOf "front_means" "Row.front_means" (defArgs s_front_means) (defBody s_front_means) (defScope s_front_means) .none q1mkV5 q1mdc5 q1mpm5 q1man5 q1mcd5 q1mct5), q1msl5⟩) (q1mc5 : PySem.W.codeIn K q1mcd5 "Row.front_means" = true) (q1mk5 : PySem.W.keepIn K (.ref q1mf5) = true)
    (q1pg : PySem.W.plainGet K C1 Str.empty = true) (q1hd : PySem.W.hasDictIn K C1 = true) (q1po : PySem.W.plainOver K C1 = true) (q1sa : PySem.W.findIn K (.ref C1) "__setattr__" = some (some (.builtin "object.__setattr__"))) (q1mkC : PySem.W.makesIn K C1 = true) (q1kc : PySem.W.keepIn K (.ref C1) = true)
    (q1nn0 : PySem.W.findIn K (.ref C1) "player" = some none)
    (q1nn1 : PySem.W.findIn K (.ref C1) "events" = some none) :
    ∃ fd : FuncData, (∀ (s : Shared) (u : Value), BindsTo s fd ⟨[u], []⟩ [("_law_script", u)]) ∧ ∀ base : Heap, K.In base → base.Ns mainGlobals mg → FnG l.prog w K mg base 13 fa fd ["_law_script"] (spLaw K) := by
  have e := hfa.symm.trans (PySem.W.mg_of X G a44)
  cases e
  have A_is_an_integer : At K mg "is_an_integer" s_is_an_integer ["value"] := at_mk X G a0 l0 c0 k0 fun _ _ _ _ _ _ us hl => match us, hl with | [_], _ => rfl
  have A_is_between : At K mg "is_between" s_is_between ["value", "low", "high"] := at_mk X G a1 l1 c1 k1 fun _ _ _ _ _ _ us hl => match us, hl with | [_, _, _], _ => rfl
  have A_is_code : At K mg "is_code" s_is_code ["value"] := at_mk X G a2 l2 c2 k2 fun _ _ _ _ _ _ us hl => match us, hl with | [_], _ => rfl
  have A_is_code_action : At K mg "is_code_action" s_is_code_action ["action"] := at_mk X G a3 l3 c3 k3 fun _ _ _ _ _ _ us hl => match us, hl with | [_], _ => rfl
  have A_is_layer_action : At K mg "is_layer_action" s_is_layer_action ["action", "words", "layer_count"] := at_mk X G a4 l4 c4 k4 fun _ _ _ _ _ _ us hl => match us, hl with | [_, _, _], _ => rfl
  have A_is_hold : At K mg "is_hold" s_is_hold ["value", "layer_count"] := at_mk X G a5 l5 c5 k5 fun _ _ _ _ _ _ us hl => match us, hl with | [_, _], _ => rfl
  have A_is_dual_action : At K mg "is_dual_action" s_is_dual_action ["action", "layer_count"] := at_mk X G a6 l6 c6 k6 fun _ _ _ _ _ _ us hl => match us, hl with | [_, _], _ => rfl
  have A_can_stand : At K mg "can_stand" s_can_stand ["action", "layer", "layer_count"] := at_mk X G a7 l7 c7 k7 fun _ _ _ _ _ _ us hl => match us, hl with | [_, _, _], _ => rfl
  have A_has_layout_form : At K mg "has_layout_form" s_has_layout_form ["value"] := at_mk X G a8 l8 c8 k8 fun _ _ _ _ _ _ us hl => match us, hl with | [_], _ => rfl
  have A_check_layout : At K mg "check_layout" s_check_layout ["value"] := at_mk X G a9 l9 c9 k9 fun _ _ _ _ _ _ us hl => match us, hl with | [_], _ => rfl
  have A_is_step : At K mg "is_step" s_is_step ["value"] := at_mk X G a10 l10 c10 k10 fun _ _ _ _ _ _ us hl => match us, hl with | [_], _ => rfl
  have A_is_event : At K mg "is_event" s_is_event ["value"] := at_mk X G a11 l11 c11 k11 fun _ _ _ _ _ _ us hl => match us, hl with | [_], _ => rfl
  have A_is_short_list : At K mg "is_short_list" s_is_short_list ["value"] := at_mk X G a12 l12 c12 k12 fun _ _ _ _ _ _ us hl => match us, hl with | [_], _ => rfl
  have A_takes_turn : At K mg "takes_turn" s_takes_turn ["held", "key", "way"] := at_mk X G a13 l13 c13 k13 fun _ _ _ _ _ _ us hl => match us, hl with | [_, _, _], _ => rfl
  have A_is_below : At K mg "is_below" s_is_below ["key", "many"] := at_mk X G a14 l14 c14 k14 fun _ _ _ _ _ _ us hl => match us, hl with | [_, _], _ => rfl
  have A_can_follow : At K mg "can_follow" s_can_follow ["event", "last", "held"] := at_mk X G a15 l15 c15 k15 fun _ _ _ _ _ _ us hl => match us, hl with | [_, _, _], _ => rfl
  have A_check_record : AtX K mg "check_record" s_check_record ["value", "many"] [] := atX_all X G a16 l16 c16 k16 u_16 fun _ _ _ _ _ _ _ us its hl hi => match us, its, hl, hi with | [_, _], [_], _, _ => ⟨_, rfl, rfl⟩
  have A_is_dual : At K mg "is_dual" s_is_dual ["action"] := at_mk X G a17 l17 c17 k17 fun _ _ _ _ _ _ us hl => match us, hl with | [_], _ => rfl
  have A_deciding_event : At K mg "deciding_event" s_deciding_event ["record", "at", "rule"] := at_mk X G a18 l18 c18 k18 fun _ _ _ _ _ _ us hl => match us, hl with | [_, _, _], _ => rfl
  have A_sure_event : At K mg "sure_event" s_sure_event ["record", "at", "dual"] := at_mk X G a19 l19 c19 k19 fun _ _ _ _ _ _ us hl => match us, hl with | [_, _, _], _ => rfl
  have A_dual_kind : At K mg "dual_kind" s_dual_kind ["record", "at", "sure"] := at_mk X G a20 l20 c20 k20 fun _ _ _ _ _ _ us hl => match us, hl with | [_, _, _], _ => rfl
  have A_what_is_done : At K mg "what_is_done" s_what_is_done ["action", "kind"] := at_mk X G a21 l21 c21 k21 fun _ _ _ _ _ _ us hl => match us, hl with | [_, _], _ => rfl
  have A_play : At K mg "play" s_play ["layout", "record"] := at_mk X G a22 l22 c22 k22 fun _ _ _ _ _ _ us hl => match us, hl with | [_, _], _ => rfl
  have A_check_playable : At K mg "check_playable" s_check_playable ["layout", "record"] := at_mk X G a23 l23 c23 k23 fun _ _ _ _ _ _ us hl => match us, hl with | [_, _], _ => rfl
  have A_played : At K mg "played" s_played ["layout", "record"] := at_mk X G a24 l24 c24 k24 fun _ _ _ _ _ _ us hl => match us, hl with | [_, _], _ => rfl
  have A_meanings : At K mg "meanings" s_meanings ["layout", "record"] := at_mk X G a25 l25 c25 k25 fun _ _ _ _ _ _ us hl => match us, hl with | [_, _], _ => rfl
  have A_layers_on : At K mg "layers_on" s_layers_on ["layout", "record"] := at_mk X G a26 l26 c26 k26 fun _ _ _ _ _ _ us hl => match us, hl with | [_, _], _ => rfl
  have A_decisions : At K mg "decisions" s_decisions ["layout", "record"] := at_mk X G a27 l27 c27 k27 fun _ _ _ _ _ _ us hl => match us, hl with | [_, _], _ => rfl
  have A_done_by : At K mg "done_by" s_done_by ["record", "decided"] := at_mk X G a28 l28 c28 k28 fun _ _ _ _ _ _ us hl => match us, hl with | [_, _], _ => rfl
  have A_done_ticks : At K mg "done_ticks" s_done_ticks ["layout", "record"] := at_mk X G a29 l29 c29 k29 fun _ _ _ _ _ _ us hl => match us, hl with | [_, _], _ => rfl
  have A_come_all : At K mg "come_all" s_come_all ["machine", "events"] := at_mk X G a30 l30 c30 k30 fun _ _ _ _ _ _ us hl => match us, hl with | [_, _], _ => rfl
  have A_run_out : At K mg "run_out" s_run_out ["machine"] := at_mk X G a31 l31 c31 k31 fun _ _ _ _ _ _ us hl => match us, hl with | [_], _ => rfl
  have A_outputs : At K mg "outputs" s_outputs ["layout", "record"] := at_mk X G a32 l32 c32 k32 fun _ _ _ _ _ _ us hl => match us, hl with | [_, _], _ => rfl
  have A__law_reel : At K mg "_law_reel" s__law_reel ["_law_script", "_law_index"] := at_mk X G a33 l33 c33 k33 fun _ _ _ _ _ _ us hl => match us, hl with | [_, _], _ => rfl
  have A__law_spin : At K mg "_law_spin" s__law_spin ["_law_reel_here", "_law_size"] := at_mk X G a34 l34 c34 k34 fun _ _ _ _ _ _ us hl => match us, hl with | [_, _], _ => rfl
  have A__law_code : At K mg "_law_code" s__law_code ["_law_reel_here"] := at_mk X G a35 l35 c35 k35 fun _ _ _ _ _ _ us hl => match us, hl with | [_], _ => rfl
  have A__law_action : At K mg "_law_action" s__law_action ["_law_reel_here", "_law_layer", "_law_layers", "_law_longest"] := at_mk X G a36 l36 c36 k36 fun _ _ _ _ _ _ us hl => match us, hl with | [_, _, _, _], _ => rfl
  have A__law_layout : At K mg "_law_layout" s__law_layout ["_law_reel_here", "_law_layers", "_law_keys", "_law_longest"] := at_mk X G a37 l37 c37 k37 fun _ _ _ _ _ _ us hl => match us, hl with | [_, _, _, _], _ => rfl
  have A__law_record : At K mg "_law_record" s__law_record ["_law_reel_here", "_law_keys", "_law_size", "_law_gaps"] := at_mk X G a38 l38 c38 k38 fun _ _ _ _ _ _ us hl => match us, hl with | [_, _, _, _], _ => rfl
  have A__law_led : At K mg "_law_led" s__law_led ["_law_action_here", "_law_codes", "_law_spots", "_law_factor"] := at_mk X G a39 l39 c39 k39 fun _ _ _ _ _ _ us hl => match us, hl with | [_, _, _, _], _ => rfl
  have A__law_all : At K mg "_law_all" s__law_all ["_law_layout_here", "_law_record_here"] := at_mk X G a40 l40 c40 k40 fun _ _ _ _ _ _ us hl => match us, hl with | [_, _], _ => rfl
  have A__law_due : At K mg "_law_due" s__law_due ["_law_told", "_law_codes", "_law_spots", "_law_factor", "_law_more"] := at_mk X G a41 l41 c41 k41 fun _ _ _ _ _ _ us hl => match us, hl with | [_, _, _, _, _], _ => rfl
  have A__law_same : At K mg "_law_same" s__law_same ["_law_layout_here", "_law_record_here", "_law_codes", "_law_spots", "_law_factor", "_law_more", "_law_told"] := at_mk X G a42 l42 c42 k42 fun _ _ _ _ _ _ us hl => match us, hl with | [_, _, _, _, _, _, _], _ => rfl
  have A__law_keys_right : At K mg "_law_keys_right" s__law_keys_right ["_law_reel_here", "_law_layout_here", "_law_record_here", "_law_told"] := at_mk X G a43 l43 c43 k43 fun _ _ _ _ _ _ us hl => match us, hl with | [_, _, _, _], _ => rfl
  have A_law : At K mg "law" s_law ["_law_script"] := at_mk X G a44 l44 c44 k44 fun _ _ _ _ _ _ us hl => match us, hl with | [_], _ => rfl
  have m_MOST_SIGNS := PySem.W.mg_of X G v0
  have m_CODE_SIGNS := PySem.W.mg_of X G v1
  have m_GREATEST_TIME := PySem.W.mg_of X G v2
  have m_RULES := PySem.W.mg_of X G v3
  have t_RULES : ∀ H, SqT K H g3 ((["time", "other", "within"] : List Str).map V.str) := fun H => .inr ⟨_, _, _, u3, rfl, rfl, (by show 3 ≤ sizeLine; decide), .cons ⟨_, rfl⟩ (.cons ⟨_, rfl⟩ (.cons ⟨_, rfl⟩ (.nil)))⟩
  have n_RULES : ∃ o : Obj, K.lookup g3 = some o ∧ o.cls = .type "tuple" ∧ o.dict = none := ⟨_, u3, rfl, rfl⟩
  have m_LAYER_WORDS := PySem.W.mg_of X G v4
  have t_LAYER_WORDS : ∀ H, SqT K H g4 ((["layer", "lock", "once"] : List Str).map V.str) := fun H => .inr ⟨_, _, _, u4, rfl, rfl, (by show 3 ≤ sizeLine; decide), .cons ⟨_, rfl⟩ (.cons ⟨_, rfl⟩ (.cons ⟨_, rfl⟩ (.nil)))⟩
  have n_LAYER_WORDS : ∃ o : Obj, K.lookup g4 = some o ∧ o.cls = .type "tuple" ∧ o.dict = none := ⟨_, u4, rfl, rfl⟩
  have m_MOST_LAYERS := PySem.W.mg_of X G v5
  have m_MOST_KEYS := PySem.W.mg_of X G v6
  have m_MOST_EVENTS := PySem.W.mg_of X G v7
  have m_NO_LAYER := PySem.W.mg_of X G v8
  have bt : Bt mg := ⟨PySem.W.mg_none_of X G z0, PySem.W.mg_none_of X G z1, PySem.W.mg_none_of X G z2, PySem.W.mg_none_of X G z3, PySem.W.mg_none_of X G z4, PySem.W.mg_none_of X G z5, PySem.W.mg_none_of X G z6, PySem.W.mg_none_of X G z7, PySem.W.mg_none_of X G z8, PySem.W.mg_none_of X G z9, PySem.W.mg_none_of X G z10, PySem.W.mg_none_of X G z11, PySem.W.mg_none_of X G z12, PySem.W.mg_none_of X G z13, PySem.W.mg_none_of X G z14, PySem.W.mg_none_of X G z15, PySem.W.mg_none_of X G z16, PySem.W.mg_none_of X G z17, PySem.W.mg_none_of X G z18⟩
  have cp : Cp K C := ⟨⟨pg, hd, po, sa⟩, nn0, nn1, nn2, nn3, nn4⟩
  have A_Player : AtI K mg C "Player" "Player.__init__" s_Player_init ["self", "layout"] := ⟨⟨_, _, fun_mk ml0 mc0 mk0, ⟨mkC, ma0, mi0, kc⟩, PySem.W.mg_of X G aC, (fun_mk ml0 mc0 mk0).binds (ps := ["self", "layout"]) fun _ _ _ _ _ _ us hl => match us, hl with | [_, _], _ => rfl⟩⟩
  have A_is_on : AtM K C "is_on" "Player.is_on" s_is_on ["self", "layer"] := ⟨⟨_, _, fun_mk ml1 mc1 mk1, ⟨ma1, mi1, mk1⟩, (fun_mk ml1 mc1 mk1).binds (ps := ["self", "layer"]) fun _ _ _ _ _ _ us hl => match us, hl with | [_, _], _ => rfl⟩⟩
  have A_taken : AtM K C "taken" "Player.taken" s_taken ["self", "key"] := ⟨⟨_, _, fun_mk ml2 mc2 mk2, ⟨ma2, mi2, mk2⟩, (fun_mk ml2 mc2 mk2).binds (ps := ["self", "key"]) fun _ _ _ _ _ _ us hl => match us, hl with | [_, _], _ => rfl⟩⟩
  have A_press : AtM K C "press" "Player.press" s_press ["self", "key", "what"] := ⟨⟨_, _, fun_mk ml3 mc3 mk3, ⟨ma3, mi3, mk3⟩, (fun_mk ml3 mc3 mk3).binds (ps := ["self", "key", "what"]) fun _ _ _ _ _ _ us hl => match us, hl with | [_, _, _], _ => rfl⟩⟩
  have A_release : AtM K C "release" "Player.release" s_release ["self", "key"] := ⟨⟨_, _, fun_mk ml4 mc4 mk4, ⟨ma4, mi4, mk4⟩, (fun_mk ml4 mc4 mk4).binds (ps := ["self", "key"]) fun _ _ _ _ _ _ us hl => match us, hl with | [_, _], _ => rfl⟩⟩
  have A_on_layers : AtM K C "on_layers" "Player.on_layers" s_on_layers ["self"] := ⟨⟨_, _, fun_mk ml5 mc5 mk5, ⟨ma5, mi5, mk5⟩, (fun_mk ml5 mc5 mk5).binds (ps := ["self"]) fun _ _ _ _ _ _ us hl => match us, hl with | [_], _ => rfl⟩⟩
  have cp1 : Rp K C1 := ⟨⟨q1pg, q1hd, q1po, q1sa⟩, q1nn0, q1nn1⟩
  have A_Row : AtI K mg C1 "Row" "Row.__init__" s_Row_init ["self", "layout"] := ⟨⟨_, _, fun_mk q1ml0 q1mc0 q1mk0, ⟨q1mkC, q1ma0, q1mi0, q1kc⟩, PySem.W.mg_of X G aC1, (fun_mk q1ml0 q1mc0 q1mk0).binds (ps := ["self", "layout"]) fun _ _ _ _ _ _ us hl => match us, hl with | [_, _], _ => rfl⟩⟩
  have A_due : AtM K C1 "due" "Row.due" s_due ["self"] := ⟨⟨_, _, fun_mk q1ml1 q1mc1 q1mk1, ⟨q1ma1, q1mi1, q1mk1⟩, (fun_mk q1ml1 q1mc1 q1mk1).binds (ps := ["self"]) fun _ _ _ _ _ _ us hl => match us, hl with | [_], _ => rfl⟩⟩
  have A_clock : AtM K C1 "clock" "Row.clock" s_clock ["self", "tick"] := ⟨⟨_, _, fun_mk q1ml2 q1mc2 q1mk2, ⟨q1ma2, q1mi2, q1mk2⟩, (fun_mk q1ml2 q1mc2 q1mk2).binds (ps := ["self", "tick"]) fun _ _ _ _ _ _ us hl => match us, hl with | [_, _], _ => rfl⟩⟩
  have A_come : AtM K C1 "come" "Row.come" s_come ["self", "event"] := ⟨⟨_, _, fun_mk q1ml3 q1mc3 q1mk3, ⟨q1ma3, q1mi3, q1mk3⟩, (fun_mk q1ml3 q1mc3 q1mk3).binds (ps := ["self", "event"]) fun _ _ _ _ _ _ us hl => match us, hl with | [_, _], _ => rfl⟩⟩
  have A_let_out : AtM K C1 "let_out" "Row.let_out" s_let_out ["self", "now"] := ⟨⟨_, _, fun_mk q1ml4 q1mc4 q1mk4, ⟨q1ma4, q1mi4, q1mk4⟩, (fun_mk q1ml4 q1mc4 q1mk4).binds (ps := ["self", "now"]) fun _ _ _ _ _ _ us hl => match us, hl with | [_, _], _ => rfl⟩⟩
  have A_front_means : AtM K C1 "front_means" "Row.front_means" s_front_means ["self", "now"] := ⟨⟨_, _, fun_mk q1ml5 q1mc5 q1mk5, ⟨q1ma5, q1mi5, q1mk5⟩, (fun_mk q1ml5 q1mc5 q1mk5).binds (ps := ["self", "now"]) fun _ _ _ _ _ _ us hl => match us, hl with | [_, _], _ => rfl⟩⟩
  refine ⟨PySem.W.fnOf "law" "law" (defArgs s_law) (defBody s_law) (defScope s_law) .none kV44 dc44 pm44 an44 cd44 ct44, fun s u => .of_eq rfl, fun base _ _ => ?_⟩
  have C1 := ok_is_an_integer (P := l.prog) (w := w) (base := base) bt A_is_an_integer
  have C2 := ok_is_between bt A_is_between C1
  have C3 := ok_is_code (P := l.prog) (w := w) (base := base) bt m_MOST_SIGNS m_CODE_SIGNS A_is_code
  have C4 := ok_is_code_action bt A_is_code_action C3
  have C5 := ok_is_layer_action bt A_is_layer_action C2
  have C6 := ok_is_hold bt A_is_hold C4 C5
  have C7 := ok_is_dual_action bt m_GREATEST_TIME m_RULES t_RULES A_is_dual_action C3 C6 C2
  have C8 := ok_can_stand bt m_LAYER_WORDS t_LAYER_WORDS A_can_stand C4 C5 C7
  have C9 := ok_has_layout_form (P := l.prog) (w := w) (base := base) bt m_MOST_LAYERS m_MOST_KEYS A_has_layout_form
  have C10 := ok_check_layout bt A_check_layout C9 C8
  have E3 := ok_is_step bt A_is_step C1
  have E4 := ok_is_event bt A_is_event C1 E3
  have E5 := ok_is_short_list (P := l.prog) (w := w) (base := base) bt _ m_MOST_EVENTS A_is_short_list
  have E6 := ok_takes_turn (P := l.prog) (w := w) (base := base) A_takes_turn
  have E7 := ok_is_below (P := l.prog) (w := w) (base := base) A_is_below
  have E8 := ok_can_follow A_can_follow E6
  have E9 := ok_check_record bt A_check_record E5 E4 E8 E7
  have P1 := ok_Player_init (P := l.prog) (w := w) (base := base) bt cp m_NO_LAYER A_Player
  have P2 := ok_is_on (P := l.prog) (w := w) (mg := mg) (base := base) bt cp A_is_on
  have P3 := ok_taken bt cp A_taken P2
  have P4 := ok_press (P := l.prog) (w := w) (base := base) bt cp m_NO_LAYER A_press
  have P5 := ok_release (P := l.prog) (w := w) (base := base) bt cp m_NO_LAYER A_release
  have Q1 := ok_is_dual (P := l.prog) (w := w) (base := base) bt A_is_dual
  have Q2 := ok_deciding_event (P := l.prog) (w := w) (base := base) bt A_deciding_event
  have Q3 := ok_sure_event bt A_sure_event Q2
  have Q4 := ok_dual_kind (P := l.prog) (w := w) (base := base) bt A_dual_kind
  have Q5 := ok_what_is_done (P := l.prog) (w := w) (base := base) A_what_is_done
  have Q6 := ok_play bt cp A_play P1 P5 P3 P4 Q1 Q3 Q4 Q5
  have Q7 := ok_check_playable bt A_check_playable C10 E9
  have S1 := ok_on_layers bt cp A_on_layers P2
  have S2 := ok_layers_on bt cp A_layers_on Q7 Q6 S1
  have S3 := ok_played bt A_played Q7 Q6
  have S4 := ok_meanings bt A_meanings Q7 Q6
  have Q8 := ok_decisions bt A_decisions Q6
  have Q9 := ok_done_by (P := l.prog) (w := w) (base := base) bt A_done_by
  have Q10 := ok_done_ticks (C := C) bt A_done_ticks Q7 Q9 Q8
  have I1 := ok_Row_init bt cp cp1 A_Row P1
  have I2 := ok_due bt cp cp1 A_due P3
  have I3 := ok_front_means bt cp cp1 A_front_means P3 Q1 Q3 Q4 Q5
  have I4 := ok_let_out bt cp cp1 A_let_out P5 P4 I3
  have I5 := ok_clock bt cp1 A_clock I2 I4
  have I6 := ok_come bt cp1 A_come I4
  have I7 := ok_come_all bt cp1 A_come_all I5 I6
  have I8 := ok_run_out bt cp1 A_run_out I2 I5
  have I9 := ok_outputs bt cp cp1 A_outputs Q7 I1 I7 I8
  have D1 := ok__law_spin (P := l.prog) (w := w) (base := base) A__law_spin
  have D2 := ok__law_reel (P := l.prog) (w := w) (base := base) bt A__law_reel
  have D4 := ok__law_code bt A__law_code D1
  have D6 := ok__law_action bt A__law_action D1 D4
  have D7 := ok__law_layout bt A__law_layout D6
  have D9 := ok__law_record bt A__law_record D1
  have G1 := ok__law_led0 (P := l.prog) (w := w) (base := base) bt A__law_led
  have G2 := ok__law_led bt A__law_led G1
  have G3 := ok__law_all (C := C) bt A__law_all S3 S4 S2 I9 Q10
  have G4 := ok__law_due bt A__law_due G2
  have G5 := ok__law_same bt A__law_same G2 G3 G4
  have G6 := ok__law_keys_right bt A__law_keys_right D1 D6 G3
  exact ok_law bt (fun_mk l44 c44 k44) D2 D1 D7 D9 G3 G5 G6
end K84
open PySem PySem.W PyProof.Rows
set_option maxHeartbeats 0 in
theorem PySem.Challenge.cw_holdtap_k84_whole_what_does_not_matter_holds : PySem.Challenge.rw_holdtap_k84_whole_what_does_not_matter.Holds := by
  w_on; o_law; k_head; (case hw => w_witness2)
  k_fill
  refine Gd.walkG (l := PySem.Challenge.rw_holdtap_k84_whole_what_does_not_matter) (n := 63) (k := 13) (x := "_law_script") (sp := fun K => K84.spLaw K) rfl (by decide) rfl ⟨rfl, by decide, by decide⟩ (fun w h Y => PySem.W.kIn_of Y) ?F (fun _ _ a ns hl hS => ⟨a, ns, rfl, hS, hl, fun _ => rfl⟩)
  case F =>
    intro w mg fa h KX G hmg
    refine' K84.all_mk KX G hmg ?a0 ?l0 ?c0 ?k0 ?a1 ?l1 ?c1 ?k1 ?a2 ?l2 ?c2 ?k2 ?a3 ?l3 ?c3 ?k3 ?a4 ?l4 ?c4 ?k4 ?a5 ?l5 ?c5 ?k5 ?a6 ?l6 ?c6 ?k6 ?a7 ?l7 ?c7 ?k7 ?a8 ?l8 ?c8 ?k8 ?a9 ?l9 ?c9 ?k9 ?a10 ?l10 ?c10 ?k10 ?a11 ?l11 ?c11 ?k11 ?a12 ?l12 ?c12 ?k12 ?a13 ?l13 ?c13 ?k13 ?a14 ?l14 ?c14 ?k14 ?a15 ?l15 ?c15 ?k15 ?a16 ?l16 ?c16 ?k16 ?u_16 ?a17 ?l17 ?c17 ?k17 ?a18 ?l18 ?c18 ?k18 ?a19 ?l19 ?c19 ?k19 ?a20 ?l20 ?c20 ?k20 ?a21 ?l21 ?c21 ?k21 ?a22 ?l22 ?c22 ?k22 ?a23 ?l23 ?c23 ?k23 ?a24 ?l24 ?c24 ?k24 ?a25 ?l25 ?c25 ?k25 ?a26 ?l26 ?c26 ?k26 ?a27 ?l27 ?c27 ?k27 ?a28 ?l28 ?c28 ?k28 ?a29 ?l29 ?c29 ?k29 ?a30 ?l30 ?c30 ?k30 ?a31 ?l31 ?c31 ?k31 ?a32 ?l32 ?c32 ?k32 ?a33 ?l33 ?c33 ?k33 ?a34 ?l34 ?c34 ?k34 ?a35 ?l35 ?c35 ?k35 ?a36 ?l36 ?c36 ?k36 ?a37 ?l37 ?c37 ?k37 ?a38 ?l38 ?c38 ?k38 ?a39 ?l39 ?c39 ?k39 ?a40 ?l40 ?c40 ?k40 ?a41 ?l41 ?c41 ?k41 ?a42 ?l42 ?c42 ?k42 ?a43 ?l43 ?c43 ?k43 ?a44 ?l44 ?c44 ?k44 ?v0 ?v1 ?v2 ?v3 ?u3 ?v4 ?u4 ?v5 ?v6 ?v7 ?v8 ?z0 ?z1 ?z2 ?z3 ?z4 ?z5 ?z6 ?z7 ?z8 ?z9 ?z10 ?z11 ?z12 ?z13 ?z14 ?z15 ?z16 ?z17 ?z18 ?aC ?ma0 ?mi0 ?ml0 ?mc0 ?mk0 ?ma1 ?mi1 ?ml1 ?mc1 ?mk1 ?ma2 ?mi2 ?ml2 ?mc2 ?mk2 ?ma3 ?mi3 ?ml3 ?mc3 ?mk3 ?ma4 ?mi4 ?ml4 ?mc4 ?mk4 ?ma5 ?mi5 ?ml5 ?mc5 ?mk5 ?pg ?hd ?po ?sa ?mkC ?kc ?nn0 ?nn1 ?nn2 ?nn3 ?nn4 ?aC1 ?q1ma0 ?q1mi0 ?q1ml0 ?q1mc0 ?q1mk0 ?q1ma1 ?q1mi1 ?q1ml1 ?q1mc1 ?q1mk1 ?q1ma2 ?q1mi2 ?q1ml2 ?q1mc2 ?q1mk2 ?q1ma3 ?q1mi3 ?q1ml3 ?q1mc3 ?q1mk3 ?q1ma4 ?q1mi4 ?q1ml4 ?q1mc4 ?q1mk4 ?q1ma5 ?q1mi5 ?q1ml5 ?q1mc5 ?q1mk5 ?q1pg ?q1hd ?q1po ?q1sa ?q1mkC ?q1kc ?q1nn0 ?q1nn1
    (case a0 => k_is); (case l0 => k_is); (case c0 => k_is); (case k0 => k_is); (case a1 => k_is); (case l1 => k_is); (case c1 => k_is); (case k1 => k_is); (case a2 => k_is); (case l2 => k_is); (case c2 => k_is); (case k2 => k_is); (case a3 => k_is); (case l3 => k_is); (case c3 => k_is); (case k3 => k_is); (case a4 => k_is); (case l4 => k_is); (case c4 => k_is); (case k4 => k_is); (case a5 => k_is); (case l5 => k_is); (case c5 => k_is); (case k5 => k_is); (case a6 => k_is); (case l6 => k_is); (case c6 => k_is); (case k6 => k_is); (case a7 => k_is); (case l7 => k_is); (case c7 => k_is); (case k7 => k_is); (case a8 => k_is); (case l8 => k_is); (case c8 => k_is); (case k8 => k_is); (case a9 => k_is); (case l9 => k_is); (case c9 => k_is); (case k9 => k_is); (case a10 => k_is); (case l10 => k_is); (case c10 => k_is); (case k10 => k_is); (case a11 => k_is); (case l11 => k_is); (case c11 => k_is); (case k11 => k_is); (case a12 => k_is); (case l12 => k_is); (case c12 => k_is); (case k12 => k_is); (case a13 => k_is); (case l13 => k_is); (case c13 => k_is); (case k13 => k_is); (case a14 => k_is); (case l14 => k_is); (case c14 => k_is); (case k14 => k_is); (case a15 => k_is); (case l15 => k_is); (case c15 => k_is); (case k15 => k_is); (case a16 => k_is); (case l16 => k_is); (case c16 => k_is); (case k16 => k_is); (case u_16 => k_is); (case a17 => k_is); (case l17 => k_is); (case c17 => k_is); (case k17 => k_is); (case a18 => k_is); (case l18 => k_is); (case c18 => k_is); (case k18 => k_is); (case a19 => k_is); (case l19 => k_is); (case c19 => k_is); (case k19 => k_is); (case a20 => k_is); (case l20 => k_is); (case c20 => k_is); (case k20 => k_is); (case a21 => k_is); (case l21 => k_is); (case c21 => k_is); (case k21 => k_is); (case a22 => k_is); (case l22 => k_is); (case c22 => k_is); (case k22 => k_is); (case a23 => k_is); (case l23 => k_is); (case c23 => k_is); (case k23 => k_is); (case a24 => k_is); (case l24 => k_is); (case c24 => k_is); (case k24 => k_is); (case a25 => k_is); (case l25 => k_is); (case c25 => k_is); (case k25 => k_is); (case a26 => k_is); (case l26 => k_is); (case c26 => k_is); (case k26 => k_is); (case a27 => k_is); (case l27 => k_is); (case c27 => k_is); (case k27 => k_is); (case a28 => k_is); (case l28 => k_is); (case c28 => k_is); (case k28 => k_is); (case a29 => k_is); (case l29 => k_is); (case c29 => k_is); (case k29 => k_is); (case a30 => k_is); (case l30 => k_is); (case c30 => k_is); (case k30 => k_is); (case a31 => k_is); (case l31 => k_is); (case c31 => k_is); (case k31 => k_is); (case a32 => k_is); (case l32 => k_is); (case c32 => k_is); (case k32 => k_is); (case a33 => k_is); (case l33 => k_is); (case c33 => k_is); (case k33 => k_is); (case a34 => k_is); (case l34 => k_is); (case c34 => k_is); (case k34 => k_is); (case a35 => k_is); (case l35 => k_is); (case c35 => k_is); (case k35 => k_is); (case a36 => k_is); (case l36 => k_is); (case c36 => k_is); (case k36 => k_is); (case a37 => k_is); (case l37 => k_is); (case c37 => k_is); (case k37 => k_is); (case a38 => k_is); (case l38 => k_is); (case c38 => k_is); (case k38 => k_is); (case a39 => k_is); (case l39 => k_is); (case c39 => k_is); (case k39 => k_is); (case a40 => k_is); (case l40 => k_is); (case c40 => k_is); (case k40 => k_is); (case a41 => k_is); (case l41 => k_is); (case c41 => k_is); (case k41 => k_is); (case a42 => k_is); (case l42 => k_is); (case c42 => k_is); (case k42 => k_is); (case a43 => k_is); (case l43 => k_is); (case c43 => k_is); (case k43 => k_is); (case a44 => k_is); (case l44 => k_is); (case c44 => k_is); (case k44 => k_is); (case v0 => k_is); (case v1 => k_is); (case v2 => k_is); (case v3 => k_is); (case u3 => k_is); (case v4 => k_is); (case u4 => k_is); (case v5 => k_is); (case v6 => k_is); (case v7 => k_is); (case v8 => k_is); (case z0 => k_is); (case z1 => k_is); (case z2 => k_is); (case z3 => k_is); (case z4 => k_is); (case z5 => k_is); (case z6 => k_is); (case z7 => k_is); (case z8 => k_is); (case z9 => k_is); (case z10 => k_is); (case z11 => k_is); (case z12 => k_is); (case z13 => k_is); (case z14 => k_is); (case z15 => k_is); (case z16 => k_is); (case z17 => k_is); (case z18 => k_is); (case aC => k_is); (case ma0 => k_is); (case mi0 => k_is); (case ml0 => k_is); (case mc0 => k_is); (case mk0 => k_is); (case ma1 => k_is); (case mi1 => k_is); (case ml1 => k_is); (case mc1 => k_is); (case mk1 => k_is); (case ma2 => k_is); (case mi2 => k_is); (case ml2 => k_is); (case mc2 => k_is); (case mk2 => k_is); (case ma3 => k_is); (case mi3 => k_is); (case ml3 => k_is); (case mc3 => k_is); (case mk3 => k_is); (case ma4 => k_is); (case mi4 => k_is); (case ml4 => k_is); (case mc4 => k_is); (case mk4 => k_is); (case ma5 => k_is); (case mi5 => k_is); (case ml5 => k_is); (case mc5 => k_is); (case mk5 => k_is); (case pg => k_is); (case hd => k_is); (case po => k_is); (case sa => k_is); (case mkC => k_is); (case kc => k_is); (case nn0 => k_is); (case nn1 => k_is); (case nn2 => k_is); (case nn3 => k_is); (case nn4 => k_is); (case aC1 => k_is); (case q1ma0 => k_is); (case q1mi0 => k_is); (case q1ml0 => k_is); (case q1mc0 => k_is); (case q1mk0 => k_is); (case q1ma1 => k_is); (case q1mi1 => k_is); (case q1ml1 => k_is); (case q1mc1 => k_is); (case q1mk1 => k_is); (case q1ma2 => k_is); (case q1mi2 => k_is); (case q1ml2 => k_is); (case q1mc2 => k_is); (case q1mk2 => k_is); (case q1ma3 => k_is); (case q1mi3 => k_is); (case q1ml3 => k_is); (case q1mc3 => k_is); (case q1mk3 => k_is); (case q1ma4 => k_is); (case q1mi4 => k_is); (case q1ml4 => k_is); (case q1mc4 => k_is); (case q1mk4 => k_is); (case q1ma5 => k_is); (case q1mi5 => k_is); (case q1ml5 => k_is); (case q1mc5 => k_is); (case q1mk5 => k_is); (case q1pg => k_is); (case q1hd => k_is); (case q1po => k_is); (case q1sa => k_is); (case q1mkC => k_is); (case q1kc => k_is); (case q1nn0 => k_is); (case q1nn1 => k_is)

