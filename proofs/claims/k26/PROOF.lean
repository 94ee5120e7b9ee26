import PyProof.Rows.All
import Wide.All
import OpenK.AllK
import Wide.FinOn
import HandS.ForMost
import HandS.Walk
import HandS.Wide
import HandS.Style
import HandS.More
import HandS.SetFor
import HandS.SortInts
import HandS.IsInst
import HandS.Codes
import PyProof.ReprRoads
import HandS.Defaults
import HandS.Deep
import HandS.Strs
import HandS.Conv
import HandS.Exc
import PySem.Challenge.RW_holdtap_k26_layouts_with_own_keys
set_option Elab.async false
set_option linter.all false
set_option maxRecDepth 100000
set_option maxHeartbeats 4000000
/-! A layer over the hand layer in which a def knows that no display is being shown (A.guards): repr needs it. -/
namespace Gd
open PySem PySem.Spec PyProof.Rows L2

/-- what a def promises where no guard stands -/
structure FnG (P : Program) (w : World) (K : PySem.W.Frag) (mg : Str → Option Value) (base : Heap)
    (k : Nat) (f : Addr) (fd : FuncData) (ps : List Str) (sp : Sp) : Prop where
  len : ∀ vs H Q E, sp vs H Q E → vs.length = ps.length
  go : ∀ (A : Around) (outer : List Env) (s : Shared) (H : Hp) (args : Args) (us : List Value) (vs : List V) (Q : VK),
    A.guards = some [] → Room k A → Env0 P w K mg base A outer s H → BindsTo s fd args (ps.zip us) →
    Vals vs us → sp vs H Q E0 →
    codeAny (model P w) A (.call (.ref f) args) (CR CX0 outer P w H s Q E0) s

theorem deep_guards {A : Around} {e : Env} (h : A.guards = some []) : (A.deeper e).guards = some [] := h

section
variable {P : Program} {w : World} {K : PySem.W.Frag} {mg : Str → Option Value} {base : Heap}
theorem fnG {x qual : Str} {st : Stmt} {f : Addr} {fd : FuncData} {N ps : List Str} {k : Nat} {sp : Sp}
    (F : Fun K x qual st f fd) (S : FnScope N ps (defScope st))
    (len : ∀ vs H Q E, sp vs H Q E → vs.length = ps.length)
    (hb : ∀ (cdv : Value) (A : Around) (outer : List Env) (s : Shared) (H : Hp) (vs : List V) (Q : VK),
      A.guards = some [] → Room k (A.deeper (envOfC qual (defScope st) s.heap.objs.size f cdv)) → sp vs H Q E0 →
      ∃ t, PSs (cxOf CX0 P w K mg base N qual (defScope st) f cdv A outer s H E0).nox (defBody st) t ∧
        t { nx := fun _ H' => Q .non H', rt := Q } (start N vs) H) :
    FnG P w K mg base (k + 1) f fd ps sp := by
  obtain ⟨oc, od, kV, doc, pm, an, cdv, ct, osl, rfl, lk, hcd⟩ := F.ex
  refine ⟨len, fun A outer s H args us vs Q hg hr e0 bt rv hsp => ?_⟩
  have kin : K.In s.heap := e0.mod.kin.keeps (fun b o e => (e0.bs b o e).1)
  have nol : s.heap.NoLimit := e0.mod.nolimit.keeps (fun b o e => (e0.bs b o e).1)
  have pk : ((ps.zip us).all fun y => (defScope st).names.lookup y.1 == some NameKind.local ||
      (defScope st).names.lookup y.1 == some NameKind.cell) = true := by
    rw [List.all_eq_true]
    rintro ⟨n, v⟩ hm
    have hp := S.par n (List.of_mem_zip hm).1
    rcases hp with e | e <;> simp [e]
  refine Att.call_fn kin nol lk hcd hr.depth bt pk (fun s1 ic => ?_) S.co S.gen S.kind
  obtain ⟨t, ht, hq⟩ := hb cdv A outer s H vs Q hg (hr.deeper _) hsp
  have J := inv_start (CX := CX0) (E := E0) (P := P) (w := w) (mg := mg) (base := base) S hr.hd e0 (len _ _ _ _ hsp) rv ic
  have J' := J.wish (fun _ _ => False)
  refine wpAny_mono (ht.run [] s1 (start N vs) H _ J' hq) (fun fl s' sp' => ?_) (fun _ _ z => z.elim)
  match fl, sp' with
  | .next, ⟨σ', H', L, q⟩ => exact ⟨.non, H', L.os, L.bare, L.base, L.hok, rfl, q⟩
  | .ret u, ⟨v, σ', H', L, rr, q⟩ => exact ⟨v, H', L.os, L.bare, L.base, L.hok, rr, q⟩
  | .brk, ⟨_, _, _, q⟩ => exact False.elim q
  | .cont, ⟨_, _, _, q⟩ => exact False.elim q
end

/-- a def that may be called by its name -/
structure Cl (P : Program) (w : World) (K : PySem.W.Frag) (mg : Str → Option Value) (base : Heap) (k : Nat) (x : Str) (sp : Sp) : Prop where
  ex : ∃ (f : Addr) (fd : FuncData) (ps : List Str), FnG P w K mg base k f fd ps sp ∧ mg x = some (.ref f) ∧
    PySem.W.keepIn K (.ref f) = true ∧ Binds K fd ps []
/-- where a def stands: its text, its name in the module -/
structure At (K : PySem.W.Frag) (mg : Str → Option Value) (x : Str) (st : Stmt) (ps : List Str) : Prop where
  ex : ∃ (f : Addr) (fd : FuncData), Fun K x x st f fd ∧ mg x = some (.ref f) ∧ Binds K fd ps []
section
variable {P : Program} {w : World} {K : PySem.W.Frag} {mg : Str → Option Value} {base : Heap}
theorem clG {x : Str} {st : Stmt} {N ps : List Str} {k : Nat} {sp : Sp} (a : At K mg x st ps) (S : FnScope N ps (defScope st))
    (len : ∀ vs H Q E, sp vs H Q E → vs.length = ps.length)
    (hb : ∀ (f : Addr) (cdv : Value) (A : Around) (outer : List Env) (s : Shared) (H : Hp) (vs : List V) (Q : VK),
      A.guards = some [] → Room k (A.deeper (envOfC x (defScope st) s.heap.objs.size f cdv)) → sp vs H Q E0 →
      ∃ t, PSs (cxOf CX0 P w K mg base N x (defScope st) f cdv A outer s H E0).nox (defBody st) t ∧
        t { nx := fun _ H' => Q .non H', rt := Q } (start N vs) H) : Cl P w K mg base (k + 1) x sp := by
  obtain ⟨f, fd, F, hm, b⟩ := a.ex
  exact ⟨f, fd, ps, fnG F S len (hb f), hm, F.kp, b⟩
theorem Cl.imp {x : Str} {k : Nat} {sp sp' : Sp} (c : Cl P w K mg base k x sp) (h : ∀ vs H Q E, sp' vs H Q E → sp vs H Q E) :
    Cl P w K mg base k x sp' := by
  obtain ⟨f, fd, ps, F, hm, kp, b⟩ := c.ex
  exact ⟨f, fd, ps, ⟨fun vs H Q E z => F.len vs H Q E (h _ _ _ _ z), fun A o s H as us vs Q g r e bt rv z => F.go A o s H as us vs Q g r e bt rv (h _ _ _ _ z)⟩, hm, kp, b⟩
end
section
variable {X : Cx} {k j : Nat} {x : Str} {sp : Sp} {p pos : Pos} {e : Expr} {es : List Expr} {t : TA}
theorem run_cl {f : Addr} {fd : FuncData} {ps : List Str} {pins : List (Addr × Obj)} {σ : L2.St} {H : Hp} {s : Shared} {Q : VK} {us : List Value} {vs : List V}
    (F : FnG X.prog X.w X.K X.mg X.base k f fd ps sp) (hg : X.A.guards = some []) (hr : Room k X.A) (b : Binds X.K fd ps [])
    (I : Inv X pins σ H s) (rv : Vals vs us) (h : sp vs H Q E0) : wpAny (model X.prog X.w) X.A (call (.ref f) us) (EP X pins σ Q) X.xe s := by
  have hl : us.length = ps.length := rv.length.symm.trans (F.len _ _ _ _ h)
  have bt := b s us I.kIn (by simpa using hl)
  rw [List.append_nil] at bt
  refine wpAny_call (codeAny_mono (F.go X.A X.stack s H ⟨us, []⟩ us vs Q hg hr I.env0 bt rv h) (fun r s' hq => ?_))
  match r, hq with
  | .ok (.ret u), hq => exact I.after hq
  | .ok .next, hq => exact False.elim hq
  | .ok .brk, hq => exact False.elim hq
  | .ok .cont, hq => exact False.elim hq
  | .error _, hq => exact False.elim hq
/-- f(e, ..) -/
theorem pe_cl (c : Cl X.prog X.w X.K X.mg X.base k x sp) (hg : X.A.guards = some []) (hr : Room j X.A) (hk : k ≤ j) (gl : Gl X x) (ha : PA X (e :: es) t)
    (hd : (x == ("__debug__" : Str)) = false := by decide)
    (he : starEach (e :: es) X.env = (false, eval e X.env) :: starEach es X.env := by rfl)
    (hp : (backTo pos (starEach es X.env)).any (·.1) = false := by rfl) :
    PE X (.Call (.Name x p) (e :: es) [] pos) (tCall sp [] E0 t) := by
  obtain ⟨f, fd, ps, F, hm, kp, b⟩ := c.ex
  refine ⟨fun pins s σ H Q I h => wpAny_Call_Name_kw (ld_glob I gl hm (PySem.W.callWith_K (h₀ := X.base) I.ok.mod.kin kp ?_ he hp) hd)⟩
  refine thn (ha.run pos pins s σ H _ I h) (fun us s1 z => ?_)
  obtain ⟨vs, H1, I1, rv, q⟩ := z
  exact ⟨I1.kIn, run_cl F hg (hr.mono hk) b I1 rv (by simpa using q)⟩
/-- f() -/
theorem pe_cl0 (c : Cl X.prog X.w X.K X.mg X.base k x sp) (hg : X.A.guards = some []) (hr : Room j X.A) (hk : k ≤ j) (gl : Gl X x)
    (hd : (x == ("__debug__" : Str)) = false := by decide) :
    PE X (.Call (.Name x p) [] [] pos) (tCall sp [] E0 tNil) := by
  obtain ⟨f, fd, ps, F, hm, kp, b⟩ := c.ex
  refine ⟨fun pins s σ H Q I h => wpAny_Call_Name_kw (ld_glob I gl hm (PySem.W.callWith_K0 I.kIn kp ?_) hd)⟩
  exact run_cl (us := []) F hg (hr.mono hk) b I .nil h
end

/-! ### rules that lack: a great power, repr of data -/
def CPowW (i j : Int) : Prop := 0 ≤ j ∧ (Builtin.Int.intBits i : Int) * j ≤ 2 ^ 27
theorem op_powW {X : Cx} : OpR X (binaryOp .Pow) (rI CPowW fun i j => .int (i ^ j.toNat)) := opI fun _ _ _ _ _ _ _ hc q => pow_int hc.1 hc.2 q
theorem bits_le {i : Int} {n : Nat} (h : i.natAbs < 2 ^ n) : Builtin.Int.intBits i ≤ n := by
  unfold Builtin.Int.intBits
  split
  · exact Nat.zero_le _
  · rename_i hz
    have h0 : i.natAbs ≠ 0 := by
      intro z
      apply hz
      have : i = 0 := Int.natAbs_eq_zero.mp z
      simp [this]
    have := (Nat.log2_lt h0).mpr h
    omega
theorem powW {i : Int} {n k : Nat} (h : i.natAbs < 2 ^ n) (hs : n * k ≤ 2 ^ 27) : CPowW i (k : Int) := by
  refine ⟨by omega, ?_⟩
  have b := bits_le h
  have m : Builtin.Int.intBits i * k ≤ 2 ^ 27 := Nat.le_trans (Nat.mul_le_mul_right k b) hs
  exact_mod_cast m

/-- repr(x), x a list or a tuple of data -/
def rRep (K : PySem.W.Frag) : List V → Hp → VK → Prop := fun xs H Q => ∃ (a : Addr) (d : PyData), xs = [.ref a] ∧ Dp K H (.ref a) d ∧
  d.showable = true ∧ d.depth ≤ 50 ∧ d.shown.length ≤ sizeLine ∧ Q (.str d.shown) H
mutual
theorem dp_nodict {K : PySem.W.Frag} {H : Hp} : ∀ (d : PyData) (v : V), Dp K H v d → d.hasDict = false
  | .none, _, _ => rfl
  | .bool _, _, _ => rfl
  | .int _, _, _ => rfl
  | .str _, _, _ => rfl
  | .list ds, _, h => by
    cases h with
    | lst _ ha => exact dps_nodict ds _ ha
  | .tuple ds, _, h => by
    cases h with
    | tup _ ha => exact dps_nodict ds _ ha
  | .dict _, _, h => by cases h
theorem dps_nodict {K : PySem.W.Frag} {H : Hp} : ∀ (ds : List PyData) (vs : List V), DpAll K H vs ds → PyData.hasDictAll ds = false
  | [], _, _ => rfl
  | d :: ds, _, h => by
    cases h with
    | cons h1 h2 =>
      show (d.hasDict || PyData.hasDictAll ds) = false
      rw [dp_nodict d _ h1, dps_nodict ds _ h2]
      rfl
end
theorem call_rep {X : Cx} {k : Nat} (hg : X.A.guards = some []) (hr : Room k X.A) : CallR X (.builtin "repr") (rRep X.K) := by
  intro pins s σ H xs us Q I r h
  obtain ⟨a, d, rfl, hd, hs, hdp, hz, q⟩ := h
  obtain ⟨u, rfl, ru⟩ := vals1 r
  obtain ⟨as, rd⟩ := Dp.reads I d (.ref a) u hd ru
  cases ru
  have hu := hr.un
  exact repr_of_reads' rd hs (PyData.noDict_hsm (dp_nodict d _ hd)) hg (by omega) (fun _ _ e => e)
    (fun h' t tk hk => ⟨.str d.shown, H, I.kept (t' := tk) hk, ⟨t, rfl⟩, q⟩) hz

/-! ### the law's own call -/
section
variable {P : Program} {w : World} {K : PySem.W.Frag} {mg mb : Str → Option Value} {k : Nat} {fa a : Addr} {fd : FuncData} {x : Str} {sp : Sp} {s₁ : Shared} {vs : List Value} {ns : List Int}
/-- the heap as the caller has it, H what is tracked of it: at most the script -/
theorem top_run (KX : K.In s₁.heap) (gl : s₁.heap.Ns mainGlobals mg) (bl : s₁.heap.Ns builtinsNs mb) (bb : ∀ y : Str, y ≠ "__name__" → mb y = bootBuiltins y)
    (nol : s₁.heap.NoLimit) (ng : s₁.gens = #[]) (oa : s₁.heap.get? a = some { cls := .type "list", data := .seq vs.toArray }) (hr : Room k callerA)
    (F : ∀ base : Heap, K.In base → base.Ns mainGlobals mg → FnG P w K mg base k fa fd [x] sp)
    (bt : ∀ (s : Shared) (u : Value), BindsTo s fd ⟨[u], []⟩ [(x, u)]) {H : Hp} (only : Only H) (hok : HOk P w H s₁.heap)
    (at_a : ∀ b, H b ≠ none → b = a ∧ K.lookup a = none) (h : sp [.ref a] H (fun v _ => v = .bl true) E0) :
    codeAny (model P w) callerA (.call (.ref fa) ⟨[.ref a], []⟩)
      (fun r s' => r = .ok (.ret (.bool true)) ∧ OldK s₁.heap s'.heap ∧ s'.os = s₁.os ∧ AllBare s'.gens) s₁ := by
  have free : ∀ {b : Addr} {o : Obj}, s₁.heap.get? b = some o → (b = a → ∃ es ep, o.data = .dict es ep) → H b = none := by
    intro b o e d
    rcases Classical.em (H b = none) with z | z
    · exact z
    · obtain ⟨rfl, _⟩ := at_a b z
      obtain ⟨es, ep, hd⟩ := d rfl
      rw [oa] at e
      cases e
      cases hd
  have nsAt : ∀ {b : Addr} {m : Str → Option Value}, s₁.heap.Ns b m → (hidT s₁.heap H).Ns b m := by
    intro b m z
    obtain ⟨o, es, ep, e, d, r⟩ := z
    exact ⟨o, es, ep, hidT_get e (free e fun _ => ⟨es, ep, d⟩), d, r⟩
  have KB : K.In (hidT s₁.heap H) := by
    intro b o e
    refine hidT_get (KX b o e) ?_
    rcases Classical.em (H b = none) with z | z
    · exact z
    · obtain ⟨rfl, q⟩ := at_a b z
      rw [q] at e
      cases e
  obtain ⟨ml, l1, l2⟩ := nol
  have M : Mod K mg (hidT s₁.heap H) := ⟨KB, nsAt gl, ⟨mb, nsAt bl, bb⟩, ⟨ml, nsAt l1, l2⟩⟩
  have E : Env0 P w K mg (hidT s₁.heap H) callerA [] s₁ H := by
    refine ⟨rfl, M, fun b o e => of_hidT e, Nat.le_of_eq (hidT_size _ _), True.intro, fun b hb => ?_, hok, .of_eq ng⟩
    exact nomatch (show b ∈ ([] : List Addr) from hb)
  refine codeAny_mono ((F _ KB (nsAt gl)).go callerA [] s₁ H ⟨[.ref a], []⟩ [.ref a] [.ref a] _ rfl hr E (bt s₁ (.ref a)) (.cons rfl .nil) h) ?_
  intro r s' z
  match r, z with
  | .ok .next, z => exact False.elim z
  | .ok .brk, z => exact False.elim z
  | .ok .cont, z => exact False.elim z
  | .error _, z => exact False.elim z
  | .ok (.ret u), ⟨v, H', os, bare, un, hok', rv, q⟩ =>
    have q : v = .bl true := q
    subst q
    have ru : u = Value.bool true := rv
    subst ru
    refine ⟨rfl, OldK.of_keep fun b o e => ?_, os, bare⟩
    rcases only b with n | ⟨ob, xs, n⟩
    · exact un.keep b o e n (fun m => nomatch (show b ∈ ([] : List Addr) from m)) (fun m => nomatch m)
    · have f1 := hok b _ n
      have f2 := hok' b _ (un.frzs b ob _ n)
      have g1 : s₁.heap.get? b = some ob := f1.1
      have g2 : s'.heap.get? b = some ob := f2.1
      rw [e] at g1
      cases g1
      exact g2
theorem law_callG (KX : K.In s₁.heap) (gl : s₁.heap.Ns mainGlobals mg) (bl : s₁.heap.Ns builtinsNs mb) (bb : ∀ y : Str, y ≠ "__name__" → mb y = bootBuiltins y)
    (nol : s₁.heap.NoLimit) (ng : s₁.gens = #[]) (oa : s₁.heap.get? a = some { cls := .type "list", data := .seq vs.toArray }) (hi : IntsAre vs ns) (hl : ns.length ≤ sizeLine) (hr : Room k callerA)
    (F : ∀ base : Heap, K.In base → base.Ns mainGlobals mg → FnG P w K mg base k fa fd [x] sp)
    (bt : ∀ (s : Shared) (u : Value), BindsTo s fd ⟨[u], []⟩ [(x, u)])
    (hsp : ∀ H : Hp, Only H → SqL K H a (ns.map V.int) → sp [.ref a] H (fun v _ => v = .bl true) E0) :
    codeAny (model P w) callerA (.call (.ref fa) ⟨[.ref a], []⟩)
      (fun r s' => r = .ok (.ret (.bool true)) ∧ OldK s₁.heap s'.heap ∧ s'.os = s₁.os ∧ AllBare s'.gens) s₁ := by
  have rv := vals_ints hi
  have lenV := hi.length
  by_cases hk : K.lookup a = none
  · let H : Hp := fun b => if b = a then some (.frz { cls := .type "list", data := .seq vs.toArray } (.lst (ns.map V.int))) else none
    have Ha : H a = some (.frz { cls := .type "list", data := .seq vs.toArray } (.lst (ns.map V.int))) := if_pos rfl
    have Hn : ∀ {b : Addr}, b ≠ a → H b = none := fun h => if_neg h
    have only : Only H := by
      intro b
      by_cases e : b = a
      · subst e; exact .inr ⟨_, _, Ha⟩
      · exact .inl (Hn e)
    refine top_run KX gl bl bb nol ng oa hr F bt (H := H) only ?_ ?_ (hsp H only (.inl (.inr ⟨_, Ha⟩)))
    · intro b u z
      by_cases e : b = a
      · subst e
        rw [Ha] at z
        cases z
        exact ⟨oa, by rw [List.length_map]; exact hl, vs, _, rv, oa⟩
      · rw [Hn e] at z; cases z
    · intro b z
      by_cases e : b = a
      · exact ⟨e, hk⟩
      · exact absurd (Hn e) z
  · obtain ⟨o, ho⟩ := Option.ne_none_iff_exists'.mp hk
    have e := KX a o ho
    rw [oa] at e
    cases e
    have only : Only (fun _ => none) := fun _ => .inl rfl
    refine top_run KX gl bl bb nol ng oa hr F bt (H := fun _ => none) only (fun b u z => nomatch z) (fun b z => absurd rfl z) (hsp _ only (.inr ?_))
    exact ⟨_, vs.toArray, _, ho, rfl, rfl, rfl, by rw [List.size_toArray, lenV]; exact hl, by simpa using rv⟩
end
/-- what k_head leaves, from the promise of the law's def -/
theorem walkG {l : PySem.W.OpenLaw} {n k : Nat} {q : Program} {loose : List Str} {XP : (Str → Option Value) → Heap → Prop} {YP : World → Heap → Prop} {d : DefRec} {K : Params → PySem.W.Frag} {sp : PySem.W.Frag → Sp} {x : Str}
    (hn : l.most = some n) (hn2 : n ≤ sizeLine) (hdf : d.params.defaults = []) (hr : Room k callerA)
    (hY : ∀ (w : World) (h : Heap), YP w h → (K w.params).In h)
    (F : ∀ (w : World) (mg : Str → Option Value) (fa : Addr) (h : Heap), (K w.params).In h → h.Ns mainGlobals mg → mg d.name = some (.ref fa) →
      ∃ fd : FuncData, (∀ (s : Shared) (u : Value), BindsTo s fd ⟨[u], []⟩ [(x, u)]) ∧
        ∀ base : Heap, (K w.params).In base → base.Ns mainGlobals mg → FnG l.prog w (K w.params) mg base k fa fd [x] (sp (K w.params)))
    (hsp : ∀ (K : PySem.W.Frag) (H : Hp) (a : Addr) (ns : List Int), ns.length ≤ n → SqL K H a (ns.map V.int) →
      sp K [.ref a] H (fun v _ => v = .bl true) E0) :
    PySem.W.WalkO q loose XP YP l.row.toRowW d [] (fun f vs => PySem.call f vs) := by
  refine Att.attach_call hn hdf ?_
  intro w s₀ s₁ mg mb fa o pm cd doc a vs ns G Y ho hd hcd hmg oa hi hlen ng
  have KX := hY w _ Y
  obtain ⟨fd, bt, hF⟩ := F w mg fa _ KX G.T.g hmg
  exact law_callG KX G.T.g G.T.b G.T.builtins G.T.nolimit ng oa hi (Nat.le_trans hlen hn2) hr hF bt (fun H _ hS => hsp _ H a ns hlen hS)
end Gd

set_option Elab.async false
set_option linter.all false
set_option maxRecDepth 100000
set_option maxHeartbeats 4000000
/-! a def with defaults, called with all of its arguments, or with some of them -/
namespace Gd
open PySem PySem.Spec PyProof.Rows L2
theorem room65 {k : Nat} {A : Around} (r : Room k A) : A.units + 65 < cLine := by have := r.un; omega
/-- where a def with defaults stands; ds: the values that fill up -/
structure AtX (K : PySem.W.Frag) (mg : Str → Option Value) (x : Str) (st : Stmt) (ps : List Str) (ds : List Value) : Prop where
  ex : ∃ (f : Addr) (oc : Value) (od : Option Addr) (dV kV doc pm : Value) (an : Option Addr) (cdv ct : Value) (osl : Array (Option Value)),
    K.lookup f = some ⟨oc, od, .func (PySem.W.fnOf x x (defArgs st) (defBody st) (defScope st) dV kV doc pm an cdv ct), osl⟩ ∧ PySem.W.codeIn K cdv x = true ∧ PySem.W.keepIn K (.ref f) = true ∧ mg x = some (.ref f) ∧
    Binds K (PySem.W.fnOf x x (defArgs st) (defBody st) (defScope st) dV kV doc pm an cdv ct) ps ds
section
variable {P : Program} {w : World} {K : PySem.W.Frag} {mg : Str → Option Value} {base : Heap}
theorem clX {x : Str} {st : Stmt} {N ps : List Str} {k : Nat} {sp : Sp} (a : AtX K mg x st ps []) (S : FnScope N ps (defScope st))
    (len : ∀ vs H Q E, sp vs H Q E → vs.length = ps.length)
    (hb : ∀ (f : Addr) (cdv : Value) (A : Around) (outer : List Env) (s : Shared) (H : Hp) (vs : List V) (Q : VK),
      A.guards = some [] → Room k (A.deeper (envOfC x (defScope st) s.heap.objs.size f cdv)) → sp vs H Q E0 →
      ∃ t, PSs (cxOf CX0 P w K mg base N x (defScope st) f cdv A outer s H E0).nox (defBody st) t ∧
        t { nx := fun _ H' => Q .non H', rt := Q } (start N vs) H) : Cl P w K mg base (k + 1) x sp := by
  obtain ⟨f, oc, od, dV, kV, doc, pm, an, cdv, ct, osl, lk, hcd, kp, hm, bd⟩ := a.ex
  refine ⟨f, _, ps, ⟨len, fun A outer s H args us vs Q hg hr e0 bt rv hsp => ?_⟩, hm, kp, bd⟩
  have kin : K.In s.heap := e0.mod.kin.keeps (fun b o e => (e0.bs b o e).1)
  have nol : s.heap.NoLimit := e0.mod.nolimit.keeps (fun b o e => (e0.bs b o e).1)
  have pk : ((ps.zip us).all fun y => (defScope st).names.lookup y.1 == some NameKind.local ||
      (defScope st).names.lookup y.1 == some NameKind.cell) = true := by
    rw [List.all_eq_true]
    rintro ⟨n, v⟩ hm
    have hp := S.par n (List.of_mem_zip hm).1
    rcases hp with e | e <;> simp [e]
  refine Att.call_fn kin nol lk hcd hr.depth bt pk (fun s1 ic => ?_) S.co S.gen S.kind
  obtain ⟨t, ht, hq⟩ := hb f cdv A outer s H vs Q hg (hr.deeper _) hsp
  have J := inv_start (CX := CX0) (E := E0) (P := P) (w := w) (mg := mg) (base := base) S hr.hd e0 (len _ _ _ _ hsp) rv ic
  have J' := J.wish (fun _ _ => False)
  refine wpAny_mono (ht.run [] s1 (start N vs) H _ J' hq) (fun fl s' sp' => ?_) (fun _ _ z => z.elim)
  match fl, sp' with
  | .next, ⟨σ', H', L, q⟩ => exact ⟨.non, H', L.os, L.bare, L.base, L.hok, rfl, q⟩
  | .ret u, ⟨v, σ', H', L, rr, q⟩ => exact ⟨v, H', L.os, L.bare, L.base, L.hok, rr, q⟩
  | .brk, ⟨_, _, _, q⟩ => exact False.elim q
  | .cont, ⟨_, _, _, q⟩ => exact False.elim q
end
/-- one default behind: all arguments are given -/
theorem atX_all {K : PySem.W.Frag} {h : Heap} {mg : Str → Option Value} {x : Str} {st : Stmt} {ps : List Str} {f T : Addr} {od an td : Option Addr} {sl ts : Array (Option Value)} {oc kV dc pm cd ct d : Value} {tn : Nat} (X : K.In h) (G : h.Ns mainGlobals mg)
    (a : PySem.W.nsIn K mainGlobals x = some (some (.ref f))) (l : K.lookup f = some ⟨oc, od, .func (PySem.W.fnOf x x (defArgs st) (defBody st) (defScope st) (.ref T) kV dc pm an cd ct), sl⟩) (c : PySem.W.codeIn K cd x = true) (k : PySem.W.keepIn K (.ref f) = true)
    (u : K.lookup T = some ⟨.type "tuple", td, .seq #[d] tn, ts⟩)
    (hb : ∀ (T : Addr) (kV doc pm : Value) (an : Option Addr) (cdv ct : Value) (us its : List Value), us.length = ps.length → its.length = 1 →
      ∃ k, bindArgs (PySem.W.fnOf x x (defArgs st) (defBody st) (defScope st) (.ref T) kV doc pm an cdv ct) ⟨us, []⟩ = seqItems? (.ref T) >>= k ∧ k (some its.toArray) = pure (ps.zip us)) : AtX K mg x st ps [] := by
  refine ⟨f, oc, od, .ref T, kV, dc, pm, an, cd, ct, sl, l, c, k, PySem.W.mg_of X G a, fun s us KX hl => ?_⟩
  rw [List.append_nil] at hl ⊢
  obtain ⟨g, e1, e2⟩ := hb T kV dc pm an cd ct us [d] hl rfl
  refine BindsTo.of_looks fun M => ?_
  rw [e1]
  exact looks_items (its := #[d]) KX u rfl (PySem.W.Looks.of_pure e2)
/-- a method's call within a comprehension: the constants said -/
theorem pe_bmB {X : Cx} {K0 : PySem.W.Frag} {T : String} {name : Str} {id : String} {r : V → List V → Hp → VK → Prop} {o e : Expr} {es : List Expr} {to : TE} {t : TA} {apos cpos : Pos} (hK : X.K = K0) (pa : PlainAttrs T) (slot : Slot T name id) (hty : typeOf (.builtin id) = pure (.type "method_descriptor")) (hm : MtR X id r) (ho : PE X o to) (ha : PA X (e :: es) t)
    (hbase : attributeBase o name X.env (eval o X.env) = eval o X.env := by rfl)
    (hfew : ((backTo cpos (starEach (e :: es) X.env)).all (fun x => !x.1) && (backToKw cpos (keywordEach [] X.env)).all (fun x => x.1.isSome)
      && decide ((e :: es).length + ([] : List Keyword).length + (if ([] : List Keyword).isEmpty then 0 else 1) < 30)) = true := by rfl)
    (hline : (apos.endLine == cpos.line) = true := by rfl) (hs : starEach (e :: es) X.env = (false, eval e X.env) :: starEach es X.env := by rfl) (hplain : (backTo cpos (starEach es X.env)).any (·.1) = false := by rfl) :
    PE X (.Call (.Attribute o name apos) (e :: es) [] cpos) (tBM K0 T r to t) := by
  subst hK
  exact pe_bm pa slot hty hm ho ha hbase hfew hline hs hplain
end Gd

set_option Elab.async false
set_option linter.all false
set_option maxRecDepth 100000
set_option maxHeartbeats 4000000
namespace Rm
open PySem PySem.Spec PyProof.Rows L2 Gd

/-! ### how long a display is -/
structure Fit (L n : Nat) (d : PyData) : Prop where
  sh : d.showable = true
  dp : d.depth ≤ n
  ln : d.shown.length ≤ L
theorem Fit.mono {L n L' n' : Nat} {d : PyData} (f : Fit L n d) (h : L ≤ L') (h' : n ≤ n') : Fit L' n' d := ⟨f.sh, by have := f.dp; omega, by have := f.ln; omega⟩
theorem allSh {L n : Nat} : ∀ {ds : List PyData}, (∀ d ∈ ds, Fit L n d) → PyData.showableAll ds = true ∧ PyData.depthAll ds ≤ n ∧ piled (PyData.shownAll ds) ≤ ds.length * (L + 2)
  | [], _ => ⟨rfl, Nat.zero_le _, Nat.zero_le _⟩
  | d :: ds, h => by
    obtain ⟨a, b, c⟩ := allSh (ds := ds) fun x hx => h x (List.mem_cons_of_mem _ hx)
    have f := h d List.mem_cons_self
    refine ⟨?_, ?_, ?_⟩
    · show (d.showable && PyData.showableAll ds) = true
      rw [f.sh, a]; rfl
    · show max d.depth (PyData.depthAll ds) ≤ n
      have := f.dp
      omega
    · show piled (d.shown :: PyData.shownAll ds) ≤ _
      rw [piled_cons, List.length_cons]
      have := f.ln
      have e : (ds.length + 1) * (L + 2) = ds.length * (L + 2) + (L + 2) := Nat.succ_mul _ _
      omega
theorem listText_le (ts : List Str) : (listText ts).length ≤ piled ts + 2 := by
  cases ts with
  | nil => decide
  | cons t r =>
    have h := textFrom_length_pos r 1 (("[" : Str) ++ (if (0 : Nat) > 0 then ", " else "" : String) ++ t) (Nat.succ_pos 0)
    have e : ((("[" : Str) ++ (if (0 : Nat) > 0 then ", " else "" : String) ++ t)).length = 1 + t.length := by
      rw [strLen_append, strLen_append]; rfl
    have x : (listText (t :: r)).length = (textFrom 1 (("[" : Str) ++ (if (0 : Nat) > 0 then ", " else "" : String) ++ t) r).length + 1 := by
      show (textFrom 1 (("[" : Str) ++ (if (0 : Nat) > 0 then ", " else "" : String) ++ t) r ++ "]").length = _
      rw [strLen_append]; rfl
    rw [x, h, e, piled_cons]
    omega
theorem tupleText_le (ts : List Str) : (tupleText ts).length ≤ piled ts + 3 := by
  unfold tupleText
  rw [strLen_append, strLen_append]
  have e1 : ((("(" : String) : Str)).length = 1 := rfl
  have e3 : (((if ts.length == 1 then ",)" else ")" : String) : Str)).length ≤ 2 := by split <;> decide
  rw [e1]
  cases ts with
  | nil =>
    have : (Str.join ", " []).length = 0 := by decide
    omega
  | cons t r =>
    have := join_length_add (t :: r) (by simp)
    omega
theorem fit_list {L n : Nat} {ds : List PyData} (h : ∀ d ∈ ds, Fit L n d) : Fit (ds.length * (L + 2) + 3) (n + 1) (.list ds) := by
  obtain ⟨a, b, c⟩ := allSh h
  have := listText_le (PyData.shownAll ds)
  exact ⟨a, by show PyData.depthAll ds + 1 ≤ _; omega, by show (listText (PyData.shownAll ds)).length ≤ _; omega⟩
theorem fit_tup {L n : Nat} {ds : List PyData} (h : ∀ d ∈ ds, Fit L n d) : Fit (ds.length * (L + 2) + 3) (n + 1) (.tuple ds) := by
  obtain ⟨a, b, c⟩ := allSh h
  have := tupleText_le (PyData.shownAll ds)
  exact ⟨a, by show PyData.depthAll ds + 1 ≤ _; omega, by show (tupleText (PyData.shownAll ds)).length ≤ _; omega⟩
theorem fit_int {i : Int} (h : i.natAbs < 2 ^ 200) : Fit 210 0 (.int i) := by
  have hl : i.natAbs.log2 < 200 := PySem.Flt.log2_lt_of (by decide) h
  refine ⟨?_, Nat.le_refl _, ?_⟩
  · show decide (i.natAbs.log2 < 1920) = true
    exact decide_eq_true (by omega)
  · show (Str.ofString (toString i)).length ≤ 210
    rw [PySem.ofString_length]
    have := int_text_length_le (k := 200) (by decide) hl
    omega
theorem fit_none : Fit 210 0 .none := ⟨rfl, Nat.le_refl _, by decide +kernel⟩
theorem fit_bool (b : Bool) : Fit 210 0 (.bool b) := ⟨rfl, Nat.le_refl _, by cases b <;> decide +kernel⟩

/-! ### records -/
structure Ev where
  t : Int
  k : Int
  d : Bool
def wayS (d : Bool) : Str := if d then "down" else "up"
theorem wayS_inj {a b : Bool} : wayS a = wayS b ↔ a = b := by cases a <;> cases b <;> decide +kernel
theorem wayS_down (d : Bool) : decide (V.str (wayS d) = V.str "down") = d := by cases d <;> decide +kernel
def evD (e : Ev) : PyData := .tuple [.int e.t, .int e.k, .str (wayS e.d)]
def stD (e : Ev) : PyData := .tuple [.int e.k, .str (wayS e.d)]
def evV (e : Ev) : List V := [.int e.t, .int e.k, .str (wayS e.d)]
def stV (e : Ev) : List V := [.int e.k, .str (wayS e.d)]
def recD (es : List Ev) : PyData := .list (es.map evD)
def ordD (es : List Ev) : PyData := .list (es.map stD)
def after (h : Int → Bool) (e : Ev) : Int → Bool := fun k => if k = e.k then e.d else h k
def heldB (es : List Ev) : Int → Bool := es.foldl after fun _ => false
theorem heldB_snoc (es : List Ev) (e : Ev) : heldB (es ++ [e]) = after (heldB es) e := by unfold heldB; rw [List.foldl_append]; rfl
theorem heldB_take {es : List Ev} {i : Nat} {e : Ev} (h : es[i]? = some e) : heldB (es.take (i + 1)) = after (heldB (es.take i)) e := by
  rw [List.take_add_one, h]
  exact heldB_snoc _ _
/-- a record as the document has it -/
def Valid (es : List Ev) : Prop := ∀ (i : Nat) (e : Ev), es[i]? = some e → 0 ≤ e.k ∧ heldB (es.take i) e.k = !e.d ∧ ∀ (j : Nat) (e' : Ev), j < i → es[j]? = some e' → e'.t ≤ e.t
/-- an order: the same without ticks -/
def ValidO (es : List Ev) : Prop := ∀ (i : Nat) (e : Ev), es[i]? = some e → 0 ≤ e.k ∧ heldB (es.take i) e.k = !e.d
theorem Valid.o {es : List Ev} (h : Valid es) : ValidO es := fun i e x => ⟨(h i e x).1, (h i e x).2.1⟩
theorem Valid.nil : Valid [] := fun _ _ h => by simp at h
theorem Valid.take {es : List Ev} (h : Valid es) (n : Nat) : Valid (es.take n) := fun i e x => by
  have hi : i < n := by
    rcases Nat.lt_or_ge i n with q | q
    · exact q
    · rw [List.getElem?_eq_none (by rw [List.length_take]; omega)] at x; cases x
  rw [List.getElem?_take_of_lt hi] at x
  obtain ⟨a, b, c⟩ := h i e x
  refine ⟨a, ?_, fun j e' hj y => ?_⟩
  · rw [List.take_take, Nat.min_eq_left (by omega)]; exact b
  · rw [List.getElem?_take_of_lt (by omega)] at y
    exact c j e' hj y
theorem ValidO.take {es : List Ev} (h : ValidO es) (n : Nat) : ValidO (es.take n) := fun i e x => by
  have hi : i < n := by
    rcases Nat.lt_or_ge i n with q | q
    · exact q
    · rw [List.getElem?_eq_none (by rw [List.length_take]; omega)] at x; cases x
  rw [List.getElem?_take_of_lt hi] at x
  obtain ⟨a, b⟩ := h i e x
  exact ⟨a, by rw [List.take_take, Nat.min_eq_left (by omega)]; exact b⟩
theorem Valid.snoc {es : List Ev} {e : Ev} (h : Valid es) (h0 : 0 ≤ e.k) (hb : heldB es e.k = !e.d) (ht : ∀ e' ∈ es, e'.t ≤ e.t) : Valid (es ++ [e]) := fun i x hx => by
  rcases Nat.lt_or_ge i es.length with q | q
  · rw [List.getElem?_append_left q] at hx
    obtain ⟨a, b, c⟩ := h i x hx
    refine ⟨a, ?_, fun j e' hj y => ?_⟩
    · rw [List.take_append_of_le_length (by omega)]; exact b
    · rw [List.getElem?_append_left (by omega)] at y
      exact c j e' hj y
  · have hi : i = es.length := by
      have := (List.getElem?_eq_some_iff.mp hx).1
      rw [List.length_append] at this
      simp at this
      omega
    subst hi
    rw [List.getElem?_append_right (Nat.le_refl _), Nat.sub_self] at hx
    have ex : e = x := Option.some.inj hx
    subst ex
    refine ⟨h0, ?_, fun j e' hj y => ?_⟩
    · rw [List.take_append_of_le_length (Nat.le_refl _), List.take_length]; exact hb
    · rw [List.getElem?_append_left hj] at y
      exact ht e' (List.mem_of_getElem? y)
/-- the ticks and keys are not too great to be shown -/
def Small (es : List Ev) : Prop := ∀ e ∈ es, e.t.natAbs < 2 ^ 200 ∧ e.k.natAbs < 2 ^ 200
theorem fit_ev {e : Ev} (h : e.t.natAbs < 2 ^ 200 ∧ e.k.natAbs < 2 ^ 200) : Fit 1000 1 (evD e) := by
  refine Fit.mono (fit_tup (L := 210) (n := 0) fun d hd => ?_) (by show 3 * 212 + 3 ≤ 1000; decide) (Nat.le_refl _)
  simp only [List.mem_cons, List.mem_nil_iff, or_false] at hd
  rcases hd with rfl | rfl | rfl
  · exact fit_int h.1
  · exact fit_int h.2
  · exact ⟨rfl, Nat.le_refl _, by cases e.d <;> decide +kernel⟩
theorem fit_st {e : Ev} (h : e.k.natAbs < 2 ^ 200) : Fit 1000 1 (stD e) := by
  refine Fit.mono (fit_tup (L := 210) (n := 0) fun d hd => ?_) (by show 2 * 212 + 3 ≤ 1000; decide) (Nat.le_refl _)
  simp only [List.mem_cons, List.mem_nil_iff, or_false] at hd
  rcases hd with rfl | rfl
  · exact fit_int h
  · exact ⟨rfl, Nat.le_refl _, by cases e.d <;> decide +kernel⟩
theorem fit_rec {es : List Ev} (h : Small es) (hl : es.length ≤ 1000) : Fit 1100000 2 (recD es) := by
  refine Fit.mono (fit_list (L := 1000) (n := 1) fun d hd => ?_) (by rw [List.length_map]; omega) (Nat.le_refl _)
  obtain ⟨e, he, rfl⟩ := List.mem_map.mp hd
  exact fit_ev (h e he)
theorem fit_ord {es : List Ev} (h : Small es) (hl : es.length ≤ 1000) : Fit 1100000 2 (ordD es) := by
  refine Fit.mono (fit_list (L := 1000) (n := 1) fun d hd => ?_) (by rw [List.length_map]; omega) (Nat.le_refl _)
  obtain ⟨e, he, rfl⟩ := List.mem_map.mp hd
  exact fit_st (h e he).2

/-! ### the dict of what is held -/
structure HeldK (kvs : List (Key × V)) (h : Int → Bool) : Prop where
  fm : ∀ p ∈ kvs, ∃ (k : Int) (b : Bool), p = (Sum.inl k, V.bl b)
  nd : (kvs.map (·.1)).Nodup
  at_ : ∀ k : Int, (valV kvs (Sum.inl k)).getD (.bl false) = .bl (h k)
theorem HeldK.nil : HeldK [] fun _ => false := ⟨fun _ h => by simp at h, List.nodup_nil, fun _ => rfl⟩
theorem put_len (kvs : List (Key × V)) (k : Key) (v : V) : (putK kvs k v).length ≤ kvs.length + 1 := by
  unfold putK
  split
  · rw [List.length_map]; omega
  · rw [List.length_append]; exact Nat.le_refl _
theorem put_keys (kvs : List (Key × V)) (k : Key) (v : V) (h : (kvs.map (·.1)).Nodup) : ((putK kvs k v).map (·.1)).Nodup := by
  cases e : valV kvs k with
  | none => exact nd_putK v h e
  | some x =>
    have a : (kvs.any fun kv => decide (kv.1 = k)) = true := by rw [valV_any, e]; rfl
    unfold putK
    rw [if_pos a, List.map_map]
    have : ((fun p : Key × V => p.1) ∘ fun kv => if kv.1 = k then (kv.1, v) else kv) = (·.1) := by
      funext p
      show (if p.1 = k then (p.1, v) else p).1 = p.1
      split <;> rfl
    rw [this]
    exact h
theorem HeldK.put {kvs : List (Key × V)} {es : List Ev} {e : Ev} (h : HeldK kvs (heldB es)) : HeldK (putK kvs (Sum.inl e.k) (.bl e.d)) (heldB (es ++ [e])) := by
  refine ⟨fun p hp => ?_, put_keys _ _ _ h.nd, fun k => ?_⟩
  · unfold putK at hp
    split at hp
    · obtain ⟨q, hq, rfl⟩ := List.mem_map.mp hp
      obtain ⟨k, b, rfl⟩ := h.fm q hq
      by_cases z : (Sum.inl k : Key) = Sum.inl e.k
      · exact ⟨k, e.d, by simp [z]⟩
      · exact ⟨k, b, by simp [z]⟩
    · rcases List.mem_append.mp hp with hp | hp
      · exact h.fm p hp
      · exact ⟨e.k, e.d, List.mem_singleton.mp hp⟩
  · rw [valV_put, heldB_snoc]
    unfold after
    by_cases z : k = e.k
    · subst z; simp
    · rw [if_neg (fun q => z (Sum.inl.inj q)), if_neg z]
      exact h.at_ k
def downs (kvs : List (Key × V)) : List Int := kvs.filterMap fun p => match p with
  | (Sum.inl k, .bl true) => some k
  | _ => none
theorem downs_cons (k : Int) (b : Bool) (r : List (Key × V)) : downs ((Sum.inl k, .bl b) :: r) = if b then k :: downs r else downs r := by
  cases b <;> simp [downs, List.filterMap_cons]
theorem downs_sub : ∀ {kvs : List (Key × V)} {k : Int}, k ∈ downs kvs → (Sum.inl k : Key) ∈ kvs.map (·.1)
  | kvs, k, h => by
    obtain ⟨p, hp, e⟩ := List.mem_filterMap.mp h
    refine List.mem_map.mpr ⟨p, hp, ?_⟩
    obtain ⟨a, b⟩ := p
    cases a with
    | inr _ => cases e
    | inl k' =>
      cases b with
      | bl c => cases c <;> simp at e; rw [e]
      | non => cases e
      | int _ => cases e
      | str _ => cases e
      | byt _ => cases e
      | flt _ => cases e
      | ref _ => cases e
      | ty _ => cases e
theorem downs_nd : ∀ {kvs : List (Key × V)}, (∀ p ∈ kvs, ∃ (k : Int) (b : Bool), p = (Sum.inl k, V.bl b)) → (kvs.map (·.1)).Nodup → (downs kvs).Nodup
  | [], _, _ => List.nodup_nil
  | p :: r, fm, nd => by
    obtain ⟨k, b, rfl⟩ := fm p List.mem_cons_self
    have nd' : ((Sum.inl k : Key) :: r.map (·.1)).Nodup := nd
    obtain ⟨n1, n2⟩ := List.nodup_cons.mp nd'
    have ih := downs_nd (fun q hq => fm q (List.mem_cons_of_mem _ hq)) n2
    rw [downs_cons]
    split
    · exact List.nodup_cons.mpr ⟨fun m => n1 (downs_sub m), ih⟩
    · exact ih
theorem downs_mem : ∀ {kvs : List (Key × V)}, (∀ p ∈ kvs, ∃ (k : Int) (b : Bool), p = (Sum.inl k, V.bl b)) → (kvs.map (·.1)).Nodup → ∀ k : Int, k ∈ downs kvs ↔ valV kvs (Sum.inl k) = some (.bl true)
  | [], _, _, k => by simp [downs, valV]
  | p :: r, fm, nd, k => by
    obtain ⟨k', b, rfl⟩ := fm p List.mem_cons_self
    have nd' : ((Sum.inl k' : Key) :: r.map (·.1)).Nodup := nd
    obtain ⟨n1, n2⟩ := List.nodup_cons.mp nd'
    have ih := downs_mem (fun q hq => fm q (List.mem_cons_of_mem _ hq)) n2 k
    rw [downs_cons]
    by_cases z : k' = k
    · subst z
      rw [valV_pos rfl]
      cases b with
      | true => simp
      | false =>
        simp only [Bool.false_eq_true, if_false]
        constructor
        · intro m; exact absurd (downs_sub m) n1
        · intro m; cases m
    · rw [valV_neg (fun q => z (Sum.inl.inj q))]
      rw [← ih]
      split
      · rw [List.mem_cons]
        exact ⟨fun q => q.resolve_left fun e => z e.symm, .inr⟩
      · exact Iff.rfl
theorem HeldK.mem {kvs : List (Key × V)} {h : Int → Bool} (x : HeldK kvs h) (k : Int) : k ∈ downs kvs ↔ h k = true := by
  rw [downs_mem x.fm x.nd k]
  have q := x.at_ k
  cases e : valV kvs (Sum.inl k) with
  | none =>
    rw [e] at q
    have q : V.bl false = .bl (h k) := q
    have : h k = false := (V.bl.inj q).symm
    simp [this]
  | some v =>
    rw [e] at q
    have q : v = .bl (h k) := q
    subst q
    constructor
    · intro z
      exact V.bl.inj (Option.some.inj z)
    · intro z
      rw [z]
/-- two ascending lists of the same keys -/
theorem same_sorted {a b c d : List Int} (h : ∀ k, k ∈ a ↔ k ∈ b) (na : a.Nodup) (nb : b.Nodup) (pa : c.Perm a) (pb : d.Perm b) (sa : c.Pairwise (· ≤ ·)) (sb : d.Pairwise (· ≤ ·)) : c = d := by
  have p : a.Perm b := (List.perm_ext_iff_of_nodup na nb).mpr h
  exact List.Perm.eq_of_pairwise (fun x y _ _ h1 h2 => Int.le_antisymm h1 h2) sa sb ((pa.trans p).trans pb.symm)

/-! ### heaps that change at one address alone -/
def Off (r : Addr) (H H' : Hp) : Prop := ∀ b o, H b = some o → b ≠ r → H' b = some o
theorem Off.refl {r : Addr} (H : Hp) : Off r H H := fun _ _ h _ => h
theorem Off.trans {r : Addr} {H H1 H2 : Hp} (a : Off r H H1) (b : Off r H1 H2) : Off r H H2 := fun c o h n => b c o (a c o h n) n
theorem Off.of {r : Addr} {H H1 : Hp} (a : Same H H1) : Off r H H1 := fun c o h _ => a c o h
theorem off_upd {r : Addr} {H : Hp} {o : HO} : Off r H (upd H r o) := fun b _ h n => by rw [upd_ne n]; exact h
theorem same_upd {H : Hp} {p : Addr} {o : HO} (h : H p = none) : Same H (upd H p o) := fun b x e => by
  rw [upd_ne (ne_of_none e h)]
  exact e
/-- what is new may change -/
theorem Same.off {H H1 H2 : Hp} {p : Addr} (s : Same H H1) (h : H p = none) (o : Off p H1 H2) : Same H H2 := fun b x e => o b x (s b x e) (ne_of_none e h)

/-! ### lists of tuples -/
def Tups {α : Type} (H : Hp) (f : α → List V) (as : List Addr) (es : List α) : Prop := as.length = es.length ∧ ∀ (i : Nat) (a : Addr) (e : α), as[i]? = some a → es[i]? = some e → H a = some (.tup (f e))
def Lst {α : Type} (f : α → List V) (H : Hp) (c : Addr) (es : List α) : Prop := ∃ as : List Addr, H c = some (.lst (as.map V.ref)) ∧ Tups H f as es
section
variable {α : Type} {f : α → List V} {H H' : Hp} {c r : Addr} {as : List Addr} {es : List α}
theorem Tups.nil : Tups H f [] ([] : List α) := ⟨rfl, fun i a e h _ => by simp at h⟩
theorem Tups.same (h : Tups H f as es) (s : Same H H') : Tups H' f as es := ⟨h.1, fun i a e x y => s _ _ (h.2 i a e x y)⟩
theorem Tups.off {ys : List V} (h : Tups H f as es) (hr : H r = some (.lst ys)) (o : Off r H H') : Tups H' f as es :=
  ⟨h.1, fun i a e x y => o _ _ (h.2 i a e x y) (ne_of (h.2 i a e x y) hr (by intro z; cases z))⟩
theorem Tups.snoc {a : Addr} {e : α} (h : Tups H f as es) (ha : H a = some (.tup (f e))) : Tups H f (as ++ [a]) (es ++ [e]) := by
  refine ⟨by rw [List.length_append, List.length_append, h.1]; rfl, fun i b x hb hx => ?_⟩
  rcases Nat.lt_or_ge i as.length with q | q
  · rw [List.getElem?_append_left q] at hb
    rw [List.getElem?_append_left (by rw [← h.1]; exact q)] at hx
    exact h.2 i b x hb hx
  · have hl := h.1
    have hi : i = as.length := by
      have := (List.getElem?_eq_some_iff.mp hb).1
      rw [List.length_append] at this
      simp at this
      omega
    subst hi
    rw [List.getElem?_append_right (Nat.le_refl _), Nat.sub_self] at hb
    rw [List.getElem?_append_right (by omega), show as.length - es.length = 0 by omega] at hx
    have e1 : a = b := Option.some.inj hb
    have e2 : e = x := Option.some.inj hx
    subst e1 e2
    exact ha
theorem Tups.take (h : Tups H f as es) (n : Nat) : Tups H f (as.take n) (es.take n) := by
  refine ⟨by rw [List.length_take, List.length_take, h.1], fun i b x hb hx => ?_⟩
  have hi : i < n := by
    rcases Nat.lt_or_ge i n with q | q
    · exact q
    · rw [List.getElem?_eq_none (by rw [List.length_take]; omega)] at hb; cases hb
  rw [List.getElem?_take_of_lt hi] at hb hx
  exact h.2 i b x hb hx
theorem Tups.append {bs : List Addr} {gs : List α} (h : Tups H f as es) (h' : Tups H f bs gs) : Tups H f (as ++ bs) (es ++ gs) := by
  refine ⟨by rw [List.length_append, List.length_append, h.1, h'.1], fun i b x hb hx => ?_⟩
  have hl := h.1
  rcases Nat.lt_or_ge i as.length with q | q
  · rw [List.getElem?_append_left q] at hb
    rw [List.getElem?_append_left (by omega)] at hx
    exact h.2 i b x hb hx
  · rw [List.getElem?_append_right q] at hb
    rw [List.getElem?_append_right (by omega), ← hl] at hx
    exact h'.2 _ b x hb hx
theorem Tups.at_ (h : Tups H f as es) {i : Nat} (hi : i < es.length) : ∃ a, as[i]? = some a ∧ H a = some (.tup (f es[i])) := by
  have hl := h.1
  exact ⟨as[i], List.getElem?_eq_getElem (by omega), h.2 i _ _ (List.getElem?_eq_getElem (by omega)) (List.getElem?_eq_getElem hi)⟩
theorem Tups.map {β : Type} {g : β → α} {bs : List β} (h : Tups H f as (bs.map g)) : Tups H (fun b => f (g b)) as bs := by
  refine ⟨by rw [h.1, List.length_map], fun i a b x y => h.2 i a (g b) x (by rw [List.getElem?_map, y]; rfl)⟩
theorem Tups.map' {β : Type} {g : β → α} {bs : List β} (h : Tups H (fun b => f (g b)) as bs) : Tups H f as (bs.map g) := by
  refine ⟨by rw [h.1, List.length_map], fun i a e x y => ?_⟩
  rw [List.getElem?_map] at y
  cases z : bs[i]? with
  | none => rw [z] at y; cases y
  | some b =>
    rw [z] at y
    have y : g b = e := Option.some.inj y
    subst y
    exact h.2 i a b x z
theorem Lst.same (h : Lst f H c es) (s : Same H H') : Lst f H' c es := by
  obtain ⟨as, a, b⟩ := h
  exact ⟨as, s _ _ a, b.same s⟩
theorem Lst.off {ys : List V} (h : Lst f H c es) (hr : H r = some (.lst ys)) (n : c ≠ r) (o : Off r H H') : Lst f H' c es := by
  obtain ⟨as, a, b⟩ := h
  exact ⟨as, o _ _ a n, b.off hr o⟩
end
theorem dp_int {K : PySem.W.Frag} {H : Hp} {i : Int} : Dp K H (.int i) (.int i) := .int i
theorem dpAll_of {K : PySem.W.Frag} {H : Hp} {α : Type} {f : α → List V} {g : α → PyData} (hg : ∀ (a : Addr) (e : α), H a = some (.tup (f e)) → Dp K H (.ref a) (g e)) :
    ∀ (as : List Addr) (es : List α), Tups H f as es → DpAll K H (as.map V.ref) (es.map g)
  | [], [], _ => .nil
  | [], _ :: _, h => by have := h.1; simp at this
  | _ :: _, [], h => by have := h.1; simp at this
  | a :: as, e :: es, h => .cons (hg a e (h.2 0 a e rfl rfl)) (dpAll_of hg as es ⟨by have := h.1; simpa using this, fun i b x hb hx => h.2 (i + 1) b x (by simpa using hb) (by simpa using hx)⟩)
theorem Lst.dp {K : PySem.W.Frag} {H : Hp} {c : Addr} {es : List Ev} (h : Lst evV H c es) : Dp K H (.ref c) (recD es) := by
  obtain ⟨as, a, b⟩ := h
  refine .lst (SqL.of a) (dpAll_of (fun a e ha => ?_) as es b)
  exact .tup (SqT.of ha) (.cons (.int _) (.cons (.int _) (.cons (.str _) .nil)))
theorem Lst.dpO {K : PySem.W.Frag} {H : Hp} {c : Addr} {es : List Ev} (h : Lst stV H c es) : Dp K H (.ref c) (ordD es) := by
  obtain ⟨as, a, b⟩ := h
  refine .lst (SqL.of a) (dpAll_of (fun a e ha => ?_) as es b)
  exact .tup (SqT.of ha) (.cons (.int _) (.cons (.str _) .nil))
theorem dpInts {K : PySem.W.Frag} {H : Hp} : ∀ ns : List Int, DpAll K H (ns.map V.int) (ns.map PyData.int)
  | [] => .nil
  | n :: ns => .cons (.int n) (dpInts ns)
theorem Lst.sql {K : PySem.W.Frag} {α : Type} {f : α → List V} {H : Hp} {c : Addr} {es : List α} (h : Lst f H c es) : ∃ xs : List V, SqL K H c xs ∧ xs.length = es.length := by
  obtain ⟨as, a, b⟩ := h
  exact ⟨_, SqL.of a, by rw [List.length_map]; exact b.1⟩

theorem val_at : ∀ {kvs : List (Key × V)} {i : Nat} {k : Key} {v : V}, (kvs.map (·.1)).Nodup → kvs[i]? = some (k, v) → valV kvs k = some v
  | [], _, _, _, _, h => by simp at h
  | p :: r, 0, k, v, _, h => by
    have e : p = (k, v) := Option.some.inj h
    subst e
    exact valV_pos rfl
  | p :: r, i + 1, k, v, nd, h => by
    have nd' : (p.1 :: r.map (·.1)).Nodup := nd
    obtain ⟨n1, n2⟩ := List.nodup_cons.mp nd'
    have h' : r[i]? = some (k, v) := by simpa using h
    have m : k ∈ r.map (·.1) := List.mem_map.mpr ⟨(k, v), List.mem_of_getElem? h', rfl⟩
    rw [valV_neg (fun e => n1 (e ▸ m))]
    exact val_at n2 h'
theorem downs_append (a b : List (Key × V)) : downs (a ++ b) = downs a ++ downs b := by unfold downs; rw [List.filterMap_append]
theorem downs_take {kvs : List (Key × V)} {i : Nat} {k : Int} {b : Bool} (h : kvs[i]? = some (Sum.inl k, .bl b)) : downs (kvs.take (i + 1)) = if b then downs (kvs.take i) ++ [k] else downs (kvs.take i) := by
  rw [List.take_add_one, h, downs_append]
  cases b <;> simp [downs]
theorem downs_len (kvs : List (Key × V)) : (downs kvs).length ≤ kvs.length := by unfold downs; exact List.length_filterMap_le _ _
end Rm

set_option Elab.async false
set_option linter.all false
set_option maxRecDepth 100000
set_option maxHeartbeats 4000000
namespace Rm
open PySem PySem.Spec PyProof.Rows L2 Gd

theorem Off.new {r p : Addr} {H H1 : Hp} {o : HO} (a : Off r H H1) (n : H p = none) : Off r H (upd H1 p o) := fun b x e ne => by
  rw [upd_ne (ne_of_none e n)]
  exact a b x e ne
theorem Off.at_ {r : Addr} {H H1 : Hp} {o : HO} (a : Off r H H1) : Off r H (upd H1 r o) := a.trans off_upd
theorem Off.sameTrans {r : Addr} {H H1 H2 : Hp} (a : Off r H H1) (b : Same H1 H2) : Off r H H2 := a.trans (Off.of b)
/-- what was free stays free of it: a new address of a later heap is new for the earlier one too -/
theorem Off.free {r p : Addr} {H H1 : Hp} {o : HO} (a : Off r H H1) (hr : H1 r = some o) (n : H1 p = none) : H p = none := by
  cases e : H p with
  | none => rfl
  | some x =>
    have h : p ≠ r := fun z => by rw [z, hr] at n; cases n
    rw [a p x e h] at n
    cases n

theorem getI {ns : List Int} {d : Int} (h0 : 0 ≤ d) (h1 : d < (ns.length : Int)) : ∃ (v : Int), atI (ns.map V.int) d = some (.int v) ∧ ns[d.toNat]? = some v := by
  have hd : d.toNat < ns.length := by omega
  refine ⟨ns[d.toNat], ?_, List.getElem?_eq_getElem hd⟩
  refine at_of (j := d.toNat) (by omega) ?_
  rw [List.getElem?_map, List.getElem?_eq_getElem hd]
  rfl
theorem inv_int (k : Int) : ∀ ns : List Int, inV (.int k) (ns.map V.int) = decide (k ∈ ns)
  | [] => rfl
  | n :: ns => by
    show (eqV (.int n) (.int k) || inV (.int k) (ns.map V.int)) = _
    rw [inv_int k ns]
    have e : eqV (.int n) (.int k) = decide (n = k) := by
      by_cases z : n = k <;> simp [eqV, z]
    rw [e]
    by_cases z : n = k
    · subst z; simp
    · have z' : ¬ k = n := fun q => z q.symm
      simp [z, z']
theorem flat_ints : ∀ ns : List Int, (ns.map V.int).all flatV = true
  | [] => rfl
  | n :: ns => by
    show (flatV (.int n) && (ns.map V.int).all flatV) = true
    rw [flat_ints ns]
    rfl
theorem lay_ints : ∀ ns : List Int, PyData.canLayAll0 (ns.map PyData.int) = true ∧ PyData.depthAll (ns.map PyData.int) = 0
  | [] => ⟨rfl, rfl⟩
  | n :: ns => by
    obtain ⟨a, b⟩ := lay_ints ns
    refine ⟨?_, ?_⟩
    · show (PyData.canLay0 (.int n) && PyData.canLayAll0 (ns.map PyData.int)) = true
      rw [a]
      rfl
    · show max (PyData.depth (.int n)) (PyData.depthAll (ns.map PyData.int)) = 0
      rw [b]
      rfl
theorem shaped_ints (ns : List Int) : SeqAt.shaped (.list (ns.map PyData.int)) = true := by
  obtain ⟨a, b⟩ := lay_ints ns
  show (PyData.canLayAll0 (ns.map PyData.int) && decide (PyData.depthAll (ns.map PyData.int) + 1 ≤ 64)) = true
  rw [a, b]
  rfl
theorem eqv_nil (ds : List PyData) : PyData.eqv (.list ds) (.list []) = ds.isEmpty := by
  cases ds <;> rfl
theorem mem_eraseIdx {ns : List Int} {j : Nat} {k : Int} (nd : ns.Nodup) (h : ns[j]? = some k) (x : Int) : x ∈ ns.eraseIdx j ↔ x ≠ k ∧ x ∈ ns := by
  rw [List.mem_eraseIdx_iff_getElem?]
  constructor
  · rintro ⟨i, hi, e⟩
    refine ⟨fun z => ?_, List.mem_of_getElem? e⟩
    subst z
    exact hi (nd_ix nd e h)
  · rintro ⟨hx, hm⟩
    obtain ⟨i, e⟩ := List.getElem?_of_mem hm
    refine ⟨i, fun z => ?_, e⟩
    subst z
    rw [h] at e
    exact hx (Option.some.inj e).symm
theorem first_ix {ns : List Int} {j : Nat} {k : Int} (nd : ns.Nodup) (h : ns[j]? = some k) : ∀ m : Nat, m < j → ns[m]? ≠ some k := fun m hm e => by
  have := nd_ix nd e h
  omega

/-! ### the keys that are down, as a list -/
structure DownOk (ns : List Int) (es : List Ev) : Prop where
  nd : ns.Nodup
  mem : ∀ k, k ∈ ns ↔ heldB es k = true
theorem DownOk.nil : DownOk [] [] := ⟨List.nodup_nil, fun k => by simp [heldB]⟩
theorem DownOk.down {ns : List Int} {es : List Ev} {t k : Int} (h : DownOk ns es) (n : ¬ k ∈ ns) : DownOk (ns ++ [k]) (es ++ [⟨t, k, true⟩]) := by
  refine ⟨nd_snoc h.nd n, fun x => ?_⟩
  rw [heldB_snoc]
  unfold after
  rw [List.mem_append, List.mem_singleton, h.mem]
  by_cases z : x = k
  · subst z; simp
  · simp [z]
theorem DownOk.up {ns : List Int} {es : List Ev} {t k : Int} {j : Nat} (h : DownOk ns es) (e : ns[j]? = some k) : DownOk (ns.eraseIdx j) (es ++ [⟨t, k, false⟩]) := by
  refine ⟨h.nd.eraseIdx j, fun x => ?_⟩
  rw [heldB_snoc, mem_eraseIdx h.nd e, h.mem]
  unfold after
  by_cases z : x = k
  · subst z; simp
  · simp [z]
theorem DownOk.not {ns : List Int} {es : List Ev} {k : Int} (h : DownOk ns es) (n : ¬ k ∈ ns) : heldB es k = false := by
  cases e : heldB es k with
  | false => rfl
  | true => exact absurd ((h.mem k).mpr e) n
/-- other keys for the same -/
theorem heldB_map {f : Int → Int} (hf : ∀ a b, f a = f b → a = b) : ∀ (es : List Ev) (k : Int), heldB (es.map fun e => ⟨e.t, f e.k, e.d⟩) (f k) = heldB es k := by
  intro es k
  suffices h : ∀ (es : List Ev) (g g' : Int → Bool), (∀ k, g' (f k) = g k) → ∀ k, (es.map fun e => (⟨e.t, f e.k, e.d⟩ : Ev)).foldl after g' (f k) = es.foldl after g k from h es _ _ (fun _ => rfl) k
  intro es
  induction es with
  | nil => intro g g' h k; exact h k
  | cons e es ih =>
    intro g g' h k
    refine ih (after g e) (after g' ⟨e.t, f e.k, e.d⟩) (fun x => ?_) k
    unfold after
    by_cases z : x = e.k
    · subst z; simp
    · have z' : ¬ f x = f e.k := fun q => z (hf _ _ q)
      show (if f x = f e.k then e.d else g' (f x)) = if x = e.k then e.d else g x
      rw [if_neg z, if_neg z', h]
theorem Valid.rekey {f : Int → Int} (hf : ∀ a b, f a = f b → a = b) {es : List Ev} (h : Valid es) (h0 : ∀ e ∈ es, 0 ≤ f e.k) : Valid (es.map fun e => ⟨e.t, f e.k, e.d⟩) := fun i e x => by
  rw [List.getElem?_map] at x
  cases y : es[i]? with
  | none => rw [y] at x; cases x
  | some e' =>
    rw [y] at x
    have x : (⟨e'.t, f e'.k, e'.d⟩ : Ev) = e := Option.some.inj x
    subst x
    obtain ⟨a, b, c⟩ := h i e' y
    refine ⟨h0 e' (List.mem_of_getElem? y), ?_, fun j g hj z => ?_⟩
    · rw [← List.map_take]
      show heldB _ (f e'.k) = !e'.d
      rw [heldB_map hf]
      exact b
    · rw [List.getElem?_map] at z
      cases y2 : es[j]? with
      | none => rw [y2] at z; cases z
      | some g' =>
        rw [y2] at z
        have z : (⟨g'.t, f g'.k, g'.d⟩ : Ev) = g := Option.some.inj z
        subst z
        exact c j g' hj y2
/-- ups behind all for keys that are down -/
theorem Valid.ups {t : Int} : ∀ (ns : List Int) {es : List Ev}, Valid es → ns.Nodup → (∀ k ∈ ns, heldB es k = true ∧ 0 ≤ k) → (∀ e ∈ es, e.t ≤ t) → Valid (es ++ ns.map fun k => ⟨t, k, false⟩)
  | [], es, h, _, _, _ => by simpa using h
  | k :: ns, es, h, nd, hb, ht => by
    obtain ⟨n1, n2⟩ := List.nodup_cons.mp nd
    have h1 : Valid (es ++ [⟨t, k, false⟩]) := h.snoc (hb k List.mem_cons_self).2 (by have := (hb k List.mem_cons_self).1; simpa using this) ht
    have := Valid.ups ns h1 n2 (fun x hx => ⟨by
        rw [heldB_snoc]
        unfold after
        have z : x ≠ k := fun q => n1 (q ▸ hx)
        rw [if_neg z]
        exact (hb x (List.mem_cons_of_mem _ hx)).1, (hb x (List.mem_cons_of_mem _ hx)).2⟩) (fun e he => by
        rcases List.mem_append.mp he with he | he
        · exact ht e he
        · rw [List.mem_singleton.mp he]; exact Int.le_refl _)
    simpa using this
theorem heldB_ups {t : Int} : ∀ (ns : List Int) (es : List Ev) (k : Int), heldB (es ++ ns.map fun k => ⟨t, k, false⟩) k = (heldB es k && !decide (k ∈ ns))
  | [], es, k => by simp
  | n :: ns, es, k => by
    have e : es ++ (n :: ns).map (fun k => (⟨t, k, false⟩ : Ev)) = (es ++ [⟨t, n, false⟩]) ++ ns.map fun k => ⟨t, k, false⟩ := by simp
    rw [e, heldB_ups ns, heldB_snoc]
    unfold after
    by_cases z : k = n
    · subst z; simp
    · have : (k ∈ n :: ns) ↔ k ∈ ns := by simp [z]
      simp [z]
/-- who is down is a key of the record -/
theorem held_mem : ∀ {es : List Ev} {k : Int}, heldB es k = true → ∃ e ∈ es, e.k = k := by
  intro es k
  suffices h : ∀ (es : List Ev) (g : Int → Bool), es.foldl after g k = true → g k = true ∨ ∃ e ∈ es, e.k = k by
    intro z
    rcases h es _ z with q | q
    · cases q
    · exact q
  intro es
  induction es with
  | nil => intro g h; exact .inl h
  | cons e es ih =>
    intro g h
    rcases ih (after g e) h with q | ⟨e', he, hk⟩
    · unfold after at q
      by_cases z : k = e.k
      · exact .inr ⟨e, List.mem_cons_self, z.symm⟩
      · rw [if_neg z] at q
        exact .inl q
    · exact .inr ⟨e', List.mem_cons_of_mem _ he, hk⟩
theorem Valid.mono {es : List Ev} (h : Valid es) : ∀ (i j : Nat) (a b : Ev), i < j → es[i]? = some a → es[j]? = some b → a.t ≤ b.t := fun i j a b hij ha hb => (h j b hb).2.2 i a hij ha
theorem lay_st : ∀ es : List Ev, PyData.canLayAll0 (es.map stD) = true ∧ PyData.depthAll (es.map stD) ≤ 1
  | [] => ⟨rfl, Nat.zero_le _⟩
  | e :: es => by
    obtain ⟨a, b⟩ := lay_st es
    refine ⟨?_, ?_⟩
    · have h : PyData.canLay0 (.str (wayS e.d)) = true := by cases e.d <;> decide +kernel
      show ((true && (PyData.canLay0 (.str (wayS e.d)) && true)) && PyData.canLayAll0 (es.map stD)) = true
      rw [a, h]
      rfl
    · show max (PyData.depth (stD e)) (PyData.depthAll (es.map stD)) ≤ 1
      have : PyData.depth (stD e) = 1 := rfl
      omega
theorem shaped_ord (es : List Ev) : SeqAt.shaped (ordD es) = true := by
  obtain ⟨a, b⟩ := lay_st es
  show (PyData.canLayAll0 (es.map stD) && decide (PyData.depthAll (es.map stD) + 1 ≤ 64)) = true
  rw [a, decide_eq_true (by omega)]
  rfl
theorem shaped_nil : SeqAt.shaped (.list []) = true := rfl
end Rm

set_option Elab.async false
set_option linter.all false
set_option maxRecDepth 100000
set_option maxHeartbeats 4000000
/-! repr of any data; bounds in the heap -/
namespace Gd
open PySem PySem.Spec PyProof.Rows L2
def rRepA (K : PySem.W.Frag) : List V → Hp → VK → Prop := fun xs H Q => ∃ (v : V) (d : PyData), xs = [v] ∧ Dp K H v d ∧
  d.showable = true ∧ d.depth ≤ 50 ∧ d.shown.length ≤ sizeLine ∧ Q (.str d.shown) H
theorem call_repA {X : Cx} {k : Nat} (hg : X.A.guards = some []) (hr : Room k X.A) : CallR X (.builtin "repr") (rRepA X.K) := by
  intro pins s σ H xs us Q I r h
  obtain ⟨v, d, rfl, hd, hs, hdp, hz, q⟩ := h
  cases d with
  | list ds =>
    cases hd with
    | lst h1 h2 => exact call_rep hg hr pins s σ H _ us Q I r ⟨_, _, rfl, .lst h1 h2, hs, hdp, hz, q⟩
  | tuple ds =>
    cases hd with
    | tup h1 h2 => exact call_rep hg hr pins s σ H _ us Q I r ⟨_, _, rfl, .tup h1 h2, hs, hdp, hz, q⟩
  | dict ds => cases hd
  | none =>
    cases hd
    obtain ⟨u, rfl, ru⟩ := vals1 r
    cases ru
    exact PySem.P.repr_of_none ⟨.str _, H, I.tok _, ⟨_, rfl⟩, q⟩
  | bool b =>
    cases hd
    obtain ⟨u, rfl, ru⟩ := vals1 r
    cases ru
    exact PySem.P.repr_of_bool ⟨.str _, H, I.tok _, ⟨_, rfl⟩, q⟩
  | int i =>
    cases hd
    obtain ⟨u, rfl, ⟨t, rfl⟩⟩ := vals1 r
    exact PySem.P.repr_of_int (of_decide_eq_true hs) ⟨.str _, H, I.tok _, ⟨_, rfl⟩, q⟩
  | str z =>
    cases hd
    obtain ⟨u, rfl, ⟨t, rfl⟩⟩ := vals1 r
    exact PySem.P.repr_of_str ⟨.str _, H, I.tok _, ⟨_, rfl⟩, q⟩ hz
end Gd

set_option Elab.async false
set_option linter.all false
set_option maxRecDepth 100000
set_option maxHeartbeats 4000000
namespace La
open PySem PySem.Spec PyProof.Rows L2 Gd Rm

/-! ### codes -/
def signs : Str := "abcdefghijklmnopqrstuvwxyz0123456789"
def CodeOk (c : Str) : Prop := 1 ≤ c.cps.size ∧ c.cps.size ≤ 8 ∧ ∀ x ∈ c.cps.toList, x ∈ signs.cps.toList
instance (c : Str) : Decidable (CodeOk c) := by unfold CodeOk; infer_instance
theorem signs_low : ∀ x ∈ signs.cps.toList, x < 16 ^ 8 := by decide +kernel
theorem fit_code {c : Str} (h : CodeOk c) : Fit 210 0 (.str c) := by
  refine ⟨rfl, Nat.le_refl _, ?_⟩
  have q := PySem.StrLaws.reprText_len c fun x hx => signs_low x (h.2.2 x hx)
  have e : c.length = c.cps.size := rfl
  have := h.2.1
  show (reprText c).length ≤ 210
  omega
theorem joinL_one : ∀ cs : List Nat, TL.joinL [] (cs.map fun c => [c]) = cs
  | [] => rfl
  | [c] => rfl
  | c :: d :: r => by
    have ih := joinL_one (d :: r)
    show [c] ++ ([] ++ TL.joinL [] ((d :: r).map fun c => [c])) = c :: d :: r
    rw [ih]
    rfl
theorem join_one (cs : List Nat) : (Txt.join (("" : String) : Str) (cs.map fun c => (⟨#[c]⟩ : Str))).cps.toList = cs := by
  have h : ∀ a ys, Txt.join a ys = Str.join a ys := fun a ys => TL.join_eq a ys
  rw [h]
  show TL.tl (Str.join _ _) = cs
  rw [TL.tl_join, List.map_map]
  exact joinL_one cs
theorem code_join {cs : List Nat} (h1 : 1 ≤ cs.length) (h8 : cs.length ≤ 8) (h : ∀ c ∈ cs, c ∈ signs.cps.toList) : CodeOk (Txt.join (("" : String) : Str) (cs.map fun c => (⟨#[c]⟩ : Str))) := by
  have e := join_one cs
  refine ⟨?_, ?_, fun x hx => ?_⟩
  · rw [← Array.length_toList, e]; exact h1
  · rw [← Array.length_toList, e]; exact h8
  · rw [e] at hx; exact h x hx

/-! ### actions -/
inductive Actn where
  | none
  | thr
  | code (c : Str)
  | lay (w : Str) (j : Int)
  | dualC (c d : Str) (t : Int) (r : Str)
  | dualL (c : Str) (j t : Int) (r : Str)
def layWords : List Str := ["layer", "lock", "once"]
def rules : List Str := ["time", "other", "within"]
def ActOk (n i : Int) : Actn → Prop
  | .none => True
  | .thr => 0 < i
  | .code c => CodeOk c
  | .lay w j => w ∈ layWords ∧ 1 ≤ j ∧ j ≤ n - 1
  | .dualC c d t r => CodeOk c ∧ CodeOk d ∧ (1 ≤ t ∧ t ≤ 1000000000) ∧ r ∈ rules
  | .dualL c j t r => CodeOk c ∧ (1 ≤ j ∧ j ≤ n - 1) ∧ (1 ≤ t ∧ t ≤ 1000000000) ∧ r ∈ rules
def ActV (H : Hp) : Actn → V → Prop
  | .none, v => v = .str "none"
  | .thr, v => v = .str "through"
  | .code c, v => ∃ a, v = .ref a ∧ H a = some (.tup [.str "code", .str c])
  | .lay w j, v => ∃ a, v = .ref a ∧ H a = some (.tup [.str w, .int j])
  | .dualC c d t r, v => ∃ a b, v = .ref a ∧ H a = some (.tup [.str "dual", .str c, .ref b, .int t, .str r]) ∧ H b = some (.tup [.str "code", .str d])
  | .dualL c j t r, v => ∃ a b, v = .ref a ∧ H a = some (.tup [.str "dual", .str c, .ref b, .int t, .str r]) ∧ H b = some (.tup [.str "layer", .int j])
def actD : Actn → PyData
  | .none => .str "none"
  | .thr => .str "through"
  | .code c => .tuple [.str "code", .str c]
  | .lay w j => .tuple [.str w, .int j]
  | .dualC c d t r => .tuple [.str "dual", .str c, .tuple [.str "code", .str d], .int t, .str r]
  | .dualL c j t r => .tuple [.str "dual", .str c, .tuple [.str "layer", .int j], .int t, .str r]
theorem fit_word {w : Str} (h : w ∈ layWords ∨ w ∈ rules) : Fit 210 0 (.str w) := by
  refine ⟨rfl, Nat.le_refl _, ?_⟩
  unfold layWords rules at h
  simp only [List.mem_cons, List.mem_nil_iff, or_false] at h
  rcases h with (rfl | rfl | rfl) | (rfl | rfl | rfl) <;> decide +kernel
theorem fit_const (w : Str) (h : (reprText w).length ≤ 210 := by decide +kernel) : Fit 210 0 (.str w) := ⟨rfl, Nat.le_refl _, h⟩
theorem fit_two' {a b : PyData} (ha : Fit 210 0 a) (hb : Fit 210 0 b) : Fit 500 1 (.tuple [a, b]) := by
  refine Fit.mono (fit_tup (L := 210) (n := 0) fun d hd => ?_) (by show 2 * 212 + 3 ≤ 500; decide) (Nat.le_refl _)
  simp only [List.mem_cons, List.mem_nil_iff, or_false] at hd
  rcases hd with rfl | rfl
  · exact ha
  · exact hb
theorem fit_five {a b c d e : PyData} (ha : Fit 210 0 a) (hb : Fit 210 0 b) (hc : Fit 500 1 c) (hd : Fit 210 0 d) (he : Fit 210 0 e) : Fit 3000 2 (.tuple [a, b, c, d, e]) := by
  refine Fit.mono (fit_tup (L := 500) (n := 1) fun x hx => ?_) (by show 5 * 502 + 3 ≤ 3000; decide) (Nat.le_refl _)
  simp only [List.mem_cons, List.mem_nil_iff, or_false] at hx
  rcases hx with rfl | rfl | rfl | rfl | rfl
  · exact ha.mono (by decide) (by decide)
  · exact hb.mono (by decide) (by decide)
  · exact hc
  · exact hd.mono (by decide) (by decide)
  · exact he.mono (by decide) (by decide)
theorem fit_low {i : Int} (h : 0 ≤ i) (h2 : i ≤ 1000000000) : Fit 210 0 (.int i) := fit_int (by
  have : (2 : Nat) ^ 200 > 1000000000 := by decide
  omega)
theorem fit_act {n i : Int} {x : Actn} (h : ActOk n i x) (hn : n ≤ 1000) : Fit 3000 2 (actD x) := by
  cases x with
  | none => exact (fit_const "none").mono (by decide) (by decide)
  | thr => exact (fit_const "through").mono (by decide) (by decide)
  | code c => exact (fit_two' (fit_const "code") (fit_code h)).mono (by decide) (by decide)
  | lay w j =>
    obtain ⟨a, b, c⟩ := h
    exact (fit_two' (fit_word (.inl a)) (fit_low (by omega) (by omega))).mono (by decide) (by decide)
  | dualC c d t r =>
    obtain ⟨a, b, ⟨c1, c2⟩, e⟩ := h
    exact fit_five (fit_const "dual") (fit_code a) (fit_two' (fit_const "code") (fit_code b)) (fit_low (by omega) c2) (fit_word (.inr e))
  | dualL c j t r =>
    obtain ⟨a, ⟨b1, b2⟩, ⟨c1, c2⟩, e⟩ := h
    exact fit_five (fit_const "dual") (fit_code a) (fit_two' (fit_const "layer") (fit_low (by omega) (by omega))) (fit_low (by omega) c2) (fit_word (.inr e))

/-! ### heaps in which tuples stay -/
def Tk (H H' : Hp) : Prop := ∀ b xs, H b = some (.tup xs) → H' b = some (.tup xs)
theorem Tk.of {H H' : Hp} (s : Same H H') : Tk H H' := fun b xs h => s _ _ h
theorem Tk.trans {H H1 H2 : Hp} (a : Tk H H1) (b : Tk H1 H2) : Tk H H2 := fun c xs h => b c xs (a c xs h)
theorem Tk.refl (H : Hp) : Tk H H := fun _ _ h => h
theorem tk_upd {H : Hp} {r : Addr} {ys zs : List V} (h : H r = some (.lst ys)) : Tk H (upd H r (.lst zs)) := fun b xs e => by
  rw [upd_ne (ne_of e h (by intro z; cases z))]
  exact e
theorem ActV.keep {H H' : Hp} (t : Tk H H') : ∀ {x : Actn} {v : V}, ActV H x v → ActV H' x v
  | .none, _, h => h
  | .thr, _, h => h
  | .code _, _, ⟨a, e, h⟩ => ⟨a, e, t _ _ h⟩
  | .lay _ _, _, ⟨a, e, h⟩ => ⟨a, e, t _ _ h⟩
  | .dualC _ _ _ _, _, ⟨a, b, e, h, g⟩ => ⟨a, b, e, t _ _ h, t _ _ g⟩
  | .dualL _ _ _ _, _, ⟨a, b, e, h, g⟩ => ⟨a, b, e, t _ _ h, t _ _ g⟩
theorem ActV.dp {K : PySem.W.Frag} {H : Hp} : ∀ {x : Actn} {v : V}, ActV H x v → Dp K H v (actD x)
  | .none, _, h => by cases h; exact .str _
  | .thr, _, h => by cases h; exact .str _
  | .code _, _, ⟨a, e, h⟩ => by cases e; exact .tup (SqT.of h) (.cons (.str _) (.cons (.str _) .nil))
  | .lay _ _, _, ⟨a, e, h⟩ => by cases e; exact .tup (SqT.of h) (.cons (.str _) (.cons (.int _) .nil))
  | .dualC _ _ _ _, _, ⟨a, b, e, h, g⟩ => by
    cases e
    exact .tup (SqT.of h) (.cons (.str _) (.cons (.str _) (.cons (.tup (SqT.of g) (.cons (.str _) (.cons (.str _) .nil))) (.cons (.int _) (.cons (.str _) .nil)))))
  | .dualL _ _ _ _, _, ⟨a, b, e, h, g⟩ => by
    cases e
    exact .tup (SqT.of h) (.cons (.str _) (.cons (.str _) (.cons (.tup (SqT.of g) (.cons (.str _) (.cons (.int _) .nil))) (.cons (.int _) (.cons (.str _) .nil)))))

/-! ### rows and layouts -/
def Acts (H : Hp) (vs : List V) (xs : List Actn) : Prop := vs.length = xs.length ∧ ∀ (i : Nat) (v : V) (x : Actn), vs[i]? = some v → xs[i]? = some x → ActV H x v
def Row (H : Hp) (r : Addr) (xs : List Actn) : Prop := ∃ vs, H r = some (.lst vs) ∧ Acts H vs xs
def Rows (H : Hp) (rs : List Addr) (L : List (List Actn)) : Prop := rs.length = L.length ∧ ∀ (i : Nat) (r : Addr) (row : List Actn), rs[i]? = some r → L[i]? = some row → Row H r row
def Lay (H : Hp) (c : Addr) (L : List (List Actn)) : Prop := ∃ rs : List Addr, H c = some (.lst (rs.map V.ref)) ∧ Rows H rs L
def rowD (xs : List Actn) : PyData := .list (xs.map actD)
def layD (L : List (List Actn)) : PyData := .list (L.map rowD)
structure LayOk (L : List (List Actn)) (m : Nat) : Prop where
  n1 : 1 ≤ L.length
  n6 : L.length ≤ 6
  m1 : 1 ≤ m
  m16 : m ≤ 16
  len : ∀ row ∈ L, row.length = m
  ok : ∀ (i : Nat) (row : List Actn), L[i]? = some row → ∀ x ∈ row, ActOk L.length i x
section
variable {H H' : Hp} {c r : Addr} {vs : List V} {xs : List Actn} {rs : List Addr} {L : List (List Actn)} {m : Nat}
theorem Acts.nil : Acts H [] [] := ⟨rfl, fun i v x h _ => by simp at h⟩
theorem Acts.keep (h : Acts H vs xs) (t : Tk H H') : Acts H' vs xs := ⟨h.1, fun i v x a b => (h.2 i v x a b).keep t⟩
theorem Acts.at_ (h : Acts H vs xs) {i : Nat} (hi : i < xs.length) : ∃ v, vs[i]? = some v ∧ ActV H xs[i] v := by
  have hl := h.1
  exact ⟨vs[i], List.getElem?_eq_getElem (by omega), h.2 i _ _ (List.getElem?_eq_getElem (by omega)) (List.getElem?_eq_getElem hi)⟩
theorem Acts.snoc {v : V} {x : Actn} (h : Acts H vs xs) (hv : ActV H x v) : Acts H (vs ++ [v]) (xs ++ [x]) := by
  refine ⟨by rw [List.length_append, List.length_append, h.1]; rfl, fun i u y a b => ?_⟩
  have hl := h.1
  rcases Nat.lt_or_ge i vs.length with q | q
  · rw [List.getElem?_append_left q] at a
    rw [List.getElem?_append_left (by omega)] at b
    exact h.2 i u y a b
  · have hi : i = vs.length := by
      have := (List.getElem?_eq_some_iff.mp a).1
      rw [List.length_append] at this
      simp at this
      omega
    subst hi
    rw [List.getElem?_append_right (Nat.le_refl _), Nat.sub_self] at a
    rw [List.getElem?_append_right (by omega), show vs.length - xs.length = 0 by omega] at b
    have e1 : v = u := Option.some.inj a
    have e2 : x = y := Option.some.inj b
    subst e1 e2
    exact hv
theorem Acts.set {v : V} {x : Actn} {j : Nat} (h : Acts H vs xs) (hv : ActV H x v) : Acts H (vs.set j v) (xs.set j x) := by
  refine ⟨by rw [List.length_set, List.length_set, h.1], fun i u y a b => ?_⟩
  have hl := h.1
  by_cases z : j = i
  · subst z
    have hj : j < vs.length := by
      have := (List.getElem?_eq_some_iff.mp a).1
      rwa [List.length_set] at this
    rw [List.getElem?_set_self hj] at a
    rw [List.getElem?_set_self (by omega)] at b
    have e1 : v = u := Option.some.inj a
    have e2 : x = y := Option.some.inj b
    subst e1 e2
    exact hv
  · rw [List.getElem?_set_ne z] at a b
    exact h.2 i u y a b
theorem Row.same (h : Row H r xs) (s : Same H H') : Row H' r xs := by
  obtain ⟨vs, a, b⟩ := h
  exact ⟨vs, s _ _ a, b.keep (Tk.of s)⟩
theorem Rows.same (h : Rows H rs L) (s : Same H H') : Rows H' rs L := ⟨h.1, fun i r row a b => (h.2 i r row a b).same s⟩
theorem Lay.same (h : Lay H c L) (s : Same H H') : Lay H' c L := by
  obtain ⟨rs, a, b⟩ := h
  exact ⟨rs, s _ _ a, b.same s⟩
theorem Rows.at_ (h : Rows H rs L) {i : Nat} (hi : i < L.length) : ∃ r, rs[i]? = some r ∧ Row H r L[i] := by
  have hl := h.1
  exact ⟨rs[i], List.getElem?_eq_getElem (by omega), h.2 i _ _ (List.getElem?_eq_getElem (by omega)) (List.getElem?_eq_getElem hi)⟩
theorem Acts.dp {K : PySem.W.Frag} : ∀ {vs : List V} {xs : List Actn}, Acts H vs xs → DpAll K H vs (xs.map actD)
  | [], [], _ => .nil
  | [], _ :: _, h => by have := h.1; simp at this
  | _ :: _, [], h => by have := h.1; simp at this
  | v :: vs, x :: xs, h => .cons ((h.2 0 v x rfl rfl).dp) (Acts.dp ⟨by have := h.1; simpa using this, fun i u y a b => h.2 (i + 1) u y (by simpa using a) (by simpa using b)⟩)
theorem Row.dp {K : PySem.W.Frag} (h : Row H r xs) : Dp K H (.ref r) (rowD xs) := by
  obtain ⟨vs, a, b⟩ := h
  exact .lst (SqL.of a) b.dp
theorem Rows.dp {K : PySem.W.Frag} : ∀ {rs : List Addr} {L : List (List Actn)}, Rows H rs L → DpAll K H (rs.map V.ref) (L.map rowD)
  | [], [], _ => .nil
  | [], _ :: _, h => by have := h.1; simp at this
  | _ :: _, [], h => by have := h.1; simp at this
  | r :: rs, row :: L, h => .cons ((h.2 0 r row rfl rfl).dp) (Rows.dp ⟨by have := h.1; simpa using this, fun i u y a b => h.2 (i + 1) u y (by simpa using a) (by simpa using b)⟩)
theorem Lay.dp {K : PySem.W.Frag} (h : Lay H c L) : Dp K H (.ref c) (layD L) := by
  obtain ⟨rs, a, b⟩ := h
  exact .lst (SqL.of a) b.dp
theorem LayOk.fit (h : LayOk L m) : Fit 300100 4 (layD L) := by
  refine Fit.mono (fit_list (L := 50000) (n := 3) fun d hd => ?_) (by rw [List.length_map]; have := h.n6; omega) (Nat.le_refl _)
  obtain ⟨row, hr, rfl⟩ := List.mem_map.mp hd
  obtain ⟨i, hi⟩ := List.getElem?_of_mem hr
  refine Fit.mono (fit_list (L := 3000) (n := 2) fun d hd => ?_) (by rw [List.length_map, h.len row hr]; have := h.m16; omega) (Nat.le_refl _)
  obtain ⟨x, hx, rfl⟩ := List.mem_map.mp hd
  exact fit_act (h.ok i row hi x hx) (by have := h.n6; omega)
theorem LayOk.set (h : LayOk L m) {i j : Nat} {x : Actn} {row : List Actn} (hi : L[i]? = some row) (hx : ActOk L.length i x) : LayOk (L.set i (row.set j x)) m := by
  have hil := (List.getElem?_eq_some_iff.mp hi).1
  refine ⟨by rw [List.length_set]; exact h.n1, by rw [List.length_set]; exact h.n6, h.m1, h.m16, fun r hr => ?_, fun k r hk y hy => ?_⟩
  · rcases List.mem_or_eq_of_mem_set hr with q | q
    · exact h.len r q
    · rw [q, List.length_set]; exact h.len row (List.mem_of_getElem? hi)
  · rw [List.length_set]
    by_cases z : i = k
    · subst z
      rw [List.getElem?_set_self hil] at hk
      have e : row.set j x = r := Option.some.inj hk
      subst e
      rcases List.mem_or_eq_of_mem_set hy with q | q
      · exact h.ok i row hi y q
      · rw [q]; exact hx
    · rw [List.getElem?_set_ne z] at hk
      exact h.ok k r hk y hy
end
theorem inv_str (k : Str) : ∀ ws : List Str, inV (.str k) (ws.map V.str) = decide (k ∈ ws)
  | [] => rfl
  | n :: ns => by
    show (eqV (.str n) (.str k) || inV (.str k) (ns.map V.str)) = _
    rw [inv_str k ns]
    have e : eqV (.str n) (.str k) = decide (n = k) := by
      by_cases z : n = k <;> simp [eqV, z]
    rw [e]
    by_cases z : n = k
    · subst z; simp
    · have z' : ¬ k = n := fun q => z q.symm
      simp [z, z']
end La

set_option Elab.async false
set_option linter.all false
set_option maxRecDepth 100000
set_option maxHeartbeats 4000000
/-! combos, and the pieces of a record -/
namespace Cb
open PySem PySem.Spec PyProof.Rows L2 Gd Rm La
structure Cmb where
  ks : List Int
  t : Int
  c : Str
structure CmbOk (many : Int) (cb : Cmb) : Prop where
  asc : cb.ks.Pairwise (· < ·)
  len : cb.ks.length = 2 ∨ cb.ks.length = 3
  key : ∀ k ∈ cb.ks, 0 ≤ k ∧ k < many
  time : 1 ≤ cb.t ∧ cb.t ≤ 10 ^ 9
  code : CodeOk cb.c
def CmbV (H : Hp) (cb : Cmb) (v : V) : Prop := ∃ a k, v = .ref a ∧ H a = some (.tup [.ref k, .int cb.t, .str cb.c]) ∧ H k = some (.tup (cb.ks.map V.int))
theorem CmbV.tk {H H' : Hp} {cb : Cmb} {v : V} (h : CmbV H cb v) (t : Tk H H') : CmbV H' cb v := by
  obtain ⟨a, k, e, h1, h2⟩ := h
  exact ⟨a, k, e, t _ _ h1, t _ _ h2⟩
/-- a list of combos -/
def Cmbs (H : Hp) (c : Addr) (cbs : List Cmb) : Prop := ∃ vs : List V, H c = some (.lst vs) ∧ vs.length = cbs.length ∧ ∀ (i : Nat) (v : V) (cb : Cmb), vs[i]? = some v → cbs[i]? = some cb → CmbV H cb v
theorem Cmbs.same {H H' : Hp} {c : Addr} {cbs : List Cmb} (h : Cmbs H c cbs) (s : Same H H') : Cmbs H' c cbs := by
  obtain ⟨vs, a, b, d⟩ := h
  exact ⟨vs, s _ _ a, b, fun i v cb x y => (d i v cb x y).tk (Tk.of s)⟩
theorem Cmbs.go {H H' : Hp} {c : Addr} {cbs : List Cmb} (h : Cmbs H c cbs) (t : Tk H H') (e : ∀ vs, H c = some (.lst vs) → H' c = some (.lst vs)) : Cmbs H' c cbs := by
  obtain ⟨vs, a, b, d⟩ := h
  exact ⟨vs, e _ a, b, fun i v cb x y => (d i v cb x y).tk t⟩
theorem Cmbs.at_ {H : Hp} {cbs : List Cmb} {vs : List V} (h : vs.length = cbs.length ∧ ∀ (i : Nat) (v : V) (cb : Cmb), vs[i]? = some v → cbs[i]? = some cb → CmbV H cb v) {i : Nat} (hi : i < cbs.length) :
    ∃ a k, vs[i]? = some (.ref a) ∧ H a = some (.tup [.ref k, .int cbs[i].t, .str cbs[i].c]) ∧ H k = some (.tup (cbs[i].ks.map V.int)) := by
  obtain ⟨hl, hv⟩ := h
  have hi' : i < vs.length := by omega
  obtain ⟨a, k, e, h1, h2⟩ := hv i vs[i] cbs[i] (List.getElem?_eq_getElem hi') (List.getElem?_eq_getElem hi)
  exact ⟨a, k, by rw [List.getElem?_eq_getElem hi', e], h1, h2⟩
/-- combos for so many keys -/
structure CbsOk (many : Int) (cbs : List Cmb) : Prop where
  all : ∀ cb ∈ cbs, CmbOk many cb
  few : cbs.length ≤ 6
  apart : (cbs.map Cmb.ks).Nodup
theorem CbsOk.nil (many : Int) : CbsOk many [] := ⟨fun cb h => by simp at h, by decide, List.nodup_nil⟩
def ksD (ks : List Int) : PyData := .tuple (ks.map PyData.int)
def cmbD (cb : Cmb) : PyData := .tuple [ksD cb.ks, .int cb.t, .str cb.c]
def cmbsD (cbs : List Cmb) : PyData := .list (cbs.map cmbD)
theorem CmbV.dp {K : PySem.W.Frag} {H : Hp} {cb : Cmb} {v : V} (h : CmbV H cb v) : Dp K H v (cmbD cb) := by
  obtain ⟨a, k, rfl, h1, h2⟩ := h
  exact .tup (SqT.of h1) (.cons (.tup (SqT.of h2) (dpInts _)) (.cons (.int _) (.cons (.str _) .nil)))
theorem dpAll_idx {α : Type} {K : PySem.W.Frag} {H : Hp} {g : α → PyData} {R : α → V → Prop} (hg : ∀ x v, R x v → Dp K H v (g x)) : ∀ (vs : List V) (xs : List α), vs.length = xs.length → (∀ (i : Nat) (v : V) (x : α), vs[i]? = some v → xs[i]? = some x → R x v) → DpAll K H vs (xs.map g)
  | [], [], _, _ => .nil
  | [], _ :: _, h, _ => by simp at h
  | _ :: _, [], h, _ => by simp at h
  | v :: vs, x :: xs, h, f => .cons (hg x v (f 0 v x rfl rfl)) (dpAll_idx hg vs xs (by simpa using h) fun i v x a b => f (i + 1) v x (by simpa using a) (by simpa using b))
theorem Cmbs.dp {K : PySem.W.Frag} {H : Hp} {c : Addr} {cbs : List Cmb} (h : Cmbs H c cbs) : Dp K H (.ref c) (cmbsD cbs) := by
  obtain ⟨vs, a, b, d⟩ := h
  exact .lst (SqL.of a) (dpAll_idx (R := CmbV H) (fun x v h => h.dp) vs cbs b d)
theorem fit_cmb {many : Int} {cb : Cmb} (hm : many ≤ 1000) (h : CmbOk many cb) : Fit 4000 2 (cmbD cb) := by
  have hk : Fit 1000 1 (ksD cb.ks) := by
    refine Fit.mono (fit_tup (L := 210) (n := 0) fun d hd => ?_) (by rw [List.length_map]; have := h.len; omega) (Nat.le_refl _)
    obtain ⟨v, hv, rfl⟩ := List.mem_map.mp hd
    have := h.key v hv
    exact fit_int (by omega)
  have ht := h.time
  refine Fit.mono (fit_tup (L := 1000) (n := 1) fun d hd => ?_) (by show 3 * 1002 + 3 ≤ 4000; decide) (Nat.le_refl _)
  simp only [List.mem_cons, List.mem_nil_iff, or_false] at hd
  rcases hd with rfl | rfl | rfl
  · exact hk
  · exact Fit.mono (fit_int (by omega)) (by decide) (by decide)
  · exact Fit.mono (fit_code h.code) (by decide) (by decide)
theorem fit_cmbs {many : Int} {cbs : List Cmb} (hm : many ≤ 1000) (h : CbsOk many cbs) : Fit 40000 3 (cmbsD cbs) := by
  refine Fit.mono (fit_list (L := 4000) (n := 2) fun d hd => ?_) (by rw [List.length_map]; have := h.few; omega) (Nat.le_refl _)
  obtain ⟨cb, hc, rfl⟩ := List.mem_map.mp hd
  exact fit_cmb hm (h.all cb hc)
theorem lay_cmb (cb : Cmb) (hc : CodeOk cb.c) : PyData.canLay0 (cmbD cb) = true ∧ PyData.depth (cmbD cb) = 2 := by
  obtain ⟨a, b⟩ := lay_ints cb.ks
  refine ⟨?_, ?_⟩
  · show (PyData.canLayAll0 (cb.ks.map PyData.int) && (PyData.canLay0 (.int cb.t) && (PyData.canLay0 (.str cb.c) && true))) = true
    have hs : PyData.strOk cb.c = true := by
      unfold PyData.strOk
      rw [← Array.all_toList, List.all_eq_true]
      have all : ∀ y ∈ signs.cps.toList, decide (y < 0x110000) = true := by decide +kernel
      exact fun y hy => all y (hc.2.2 y hy)
    rw [a]; simp [PyData.canLay0, hs]
  · show max (PyData.depthAll (cb.ks.map PyData.int) + 1) (max 0 (max 0 0)) + 1 = 2
    rw [b]; rfl
theorem lay_cmbs : ∀ cbs : List Cmb, (∀ cb ∈ cbs, CodeOk cb.c) → PyData.canLayAll0 (cbs.map cmbD) = true ∧ PyData.depthAll (cbs.map cmbD) ≤ 2
  | [], _ => ⟨rfl, by decide⟩
  | cb :: cbs, h => by
    obtain ⟨a, b⟩ := lay_cmbs cbs fun c hc => h c (List.mem_cons_of_mem _ hc)
    obtain ⟨x, y⟩ := lay_cmb cb (h cb List.mem_cons_self)
    refine ⟨?_, ?_⟩
    · show (PyData.canLay0 (cmbD cb) && PyData.canLayAll0 (cbs.map cmbD)) = true
      rw [x, a]; rfl
    · show max (PyData.depth (cmbD cb)) (PyData.depthAll (cbs.map cmbD)) ≤ 2
      omega
theorem shaped_cmbs (cbs : List Cmb) (h : ∀ cb ∈ cbs, CodeOk cb.c) : SeqAt.shaped (cmbsD cbs) = true := by
  obtain ⟨a, b⟩ := lay_cmbs cbs h
  show (PyData.canLayAll0 (cbs.map cmbD) && decide (PyData.depthAll (cbs.map cmbD) + 1 ≤ 64)) = true
  rw [a, decide_eq_true (by omega)]; rfl
theorem shaped_ks (ks : List Int) : SeqAt.shaped (ksD ks) = true := by
  obtain ⟨a, b⟩ := lay_ints ks
  show (PyData.canLayAll0 (ks.map PyData.int) && decide (PyData.depthAll (ks.map PyData.int) + 1 ≤ 64)) = true
  rw [a, b]; rfl
theorem lay_kss : ∀ kss : List (List Int), PyData.canLayAll0 (kss.map ksD) = true ∧ PyData.depthAll (kss.map ksD) ≤ 1
  | [] => ⟨rfl, by decide⟩
  | ks :: kss => by
    obtain ⟨a, b⟩ := lay_kss kss
    obtain ⟨x, y⟩ := lay_ints ks
    refine ⟨?_, ?_⟩
    · show (PyData.canLayAll0 (ks.map PyData.int) && PyData.canLayAll0 (kss.map ksD)) = true
      rw [x, a]; rfl
    · show max (PyData.depthAll (ks.map PyData.int) + 1) (PyData.depthAll (kss.map ksD)) ≤ 1
      omega
theorem shaped_kss (kss : List (List Int)) : SeqAt.shaped (.list (kss.map ksD)) = true := by
  obtain ⟨a, b⟩ := lay_kss kss
  show (PyData.canLayAll0 (kss.map ksD) && decide (PyData.depthAll (kss.map ksD) + 1 ≤ 64)) = true
  rw [a, decide_eq_true (by omega)]; rfl
theorem eqv_intsA : ∀ xs ys : List Int, PyData.eqvAll (xs.map PyData.int) (ys.map PyData.int) = decide (xs = ys)
  | [], [] => rfl
  | [], _ :: _ => rfl
  | _ :: _, [] => rfl
  | o :: xs, p :: ys => by
    show (PyData.eqv (.int o) (.int p) && PyData.eqvAll (xs.map PyData.int) (ys.map PyData.int)) = _
    have e : PyData.eqv (.int o) (.int p) = decide (o = p) := by
      by_cases z : o = p
      · subst z; simp [PyData.eqv]
      · simp [PyData.eqv, z]
    rw [e, eqv_intsA xs ys]
    by_cases a : o = p <;> by_cases b : xs = ys <;> simp [a, b]
theorem eqv_intL (xs ys : List Int) : PyData.eqv (.list (xs.map PyData.int)) (.list (ys.map PyData.int)) = decide (xs = ys) := by rw [← eqv_intsA]; rfl
theorem eqv_ks (xs ys : List Int) : PyData.eqv (ksD xs) (ksD ys) = decide (xs = ys) := by rw [← eqv_intsA]; rfl
theorem any_ks (ks : List Int) (kss : List (List Int)) : ((kss.map ksD).any fun z => PyData.eqv z (ksD ks)) = decide (ks ∈ kss) := by
  induction kss with
  | nil => rfl
  | cons x kss ih =>
    rw [List.map_cons, List.any_cons, ih, eqv_ks]
    by_cases a : x = ks
    · subst a; simp
    · have a' : ¬ ks = x := fun e => a e.symm
      by_cases b : ks ∈ kss <;> simp [a, a', b]
/-! ### pieces -/
def Match (cb : Cmb) (s : Nat) (ds : List Ev) : Prop := cb.ks.length = s ∧ cb.ks.Perm ((ds.take s).map Ev.k) ∧ ∃ a b, ds[0]? = some a ∧ ds[s - 1]? = some b ∧ b.t < a.t + cb.t
open Classical in
noncomputable def fp (cbs : List Cmb) (ds : List Ev) : Nat := if ∃ cb ∈ cbs, Match cb 3 ds then 3 else if ∃ cb ∈ cbs, Match cb 2 ds then 2 else 1
theorem match_le {cb : Cmb} {s : Nat} {ds : List Ev} (h : Match cb s ds) : s ≤ ds.length := by
  have a := h.2.1.length_eq
  rw [h.1, List.length_map, List.length_take] at a
  omega
theorem fp_pos (cbs : List Cmb) (ds : List Ev) : 1 ≤ fp cbs ds := by
  unfold fp
  split
  · decide
  · split <;> decide
theorem fp_le (cbs : List Cmb) {ds : List Ev} (h : ds ≠ []) : fp cbs ds ≤ ds.length := by
  unfold fp
  split
  · rename_i q
    obtain ⟨cb, _, m⟩ := q
    exact match_le m
  · split
    · rename_i q
      obtain ⟨cb, _, m⟩ := q
      exact match_le m
    · cases ds with
      | nil => exact absurd rfl h
      | cons _ _ => rw [List.length_cons]; omega
theorem fp_three {cbs : List Cmb} {ds : List Ev} {cb : Cmb} (h : cb ∈ cbs) (m : Match cb 3 ds) : fp cbs ds = 3 := by unfold fp; rw [if_pos ⟨cb, h, m⟩]
theorem fp_two {cbs : List Cmb} {ds : List Ev} {cb : Cmb} (n : ∀ cb ∈ cbs, ¬ Match cb 3 ds) (h : cb ∈ cbs) (m : Match cb 2 ds) : fp cbs ds = 2 := by
  unfold fp
  rw [if_neg (fun ⟨c, hc, q⟩ => n c hc q), if_pos ⟨cb, h, m⟩]
theorem fp_one {cbs : List Cmb} {ds : List Ev} (n : ∀ cb ∈ cbs, ¬ Match cb 3 ds) (n2 : ∀ cb ∈ cbs, ¬ Match cb 2 ds) : fp cbs ds = 1 := by
  unfold fp
  rw [if_neg (fun ⟨c, hc, q⟩ => n c hc q), if_neg (fun ⟨c, hc, q⟩ => n2 c hc q)]
/-- the numbers from a on, below b -/
def seg (a b : Nat) : List Int := (List.range' a (b - a)).map fun k : Nat => (k : Int)
/-- the events from s on, below e -/
def prt (es : List Ev) (s e : Nat) : List Ev := (es.drop s).take (e - s)
inductive Cut (es : List Ev) (cbs : List Cmb) (e : Nat) : Nat → List (List Int) → Prop
  | nil : Cut es cbs e e []
  | cons {s : Nat} {r : List (List Int)} : s < e → Cut es cbs e (s + fp cbs (prt es s e)) r → Cut es cbs e s (seg s (s + fp cbs (prt es s e)) :: r)
/-- from s on, below e, all are downs -/
def Downs (es : List Ev) (s e : Nat) : Prop := ∀ i, s ≤ i → i < e → ∃ ev, es[i]? = some ev ∧ ev.d = true
def Stops (es : List Ev) (e : Nat) : Prop := e = es.length ∨ ∃ ev, es[e]? = some ev ∧ ev.d = false
inductive Due (es : List Ev) (cbs : List Cmb) : Nat → List (List Int) → Prop
  | fin {s : Nat} : es.length ≤ s → Due es cbs s []
  | up {s : Nat} {ev : Ev} {r : List (List Int)} : es[s]? = some ev → ev.d = false → Due es cbs (s + 1) r → Due es cbs s r
  | down {s e : Nat} {r : List (List Int)} : s < e → Downs es s e → Stops es e → Due es cbs (s + fp cbs (prt es s e)) r → Due es cbs s (seg s (s + fp cbs (prt es s e)) :: r)
theorem Downs.le {es : List Ev} {s e : Nat} (h : Downs es s e) (hs : s < e) : e ≤ es.length := by
  obtain ⟨ev, q, _⟩ := h (e - 1) (by omega) (by omega)
  have := (List.getElem?_eq_some_iff.mp q).1
  omega
theorem prt_len {es : List Ev} {s e : Nat} (h : e ≤ es.length) : (prt es s e).length = e - s := by
  unfold prt
  rw [List.length_take, List.length_drop]
  omega
theorem stop_uniq {es : List Ev} {s e e' : Nat} (hs : s < e) (hs' : s < e') (d : Downs es s e) (d' : Downs es s e') (t : Stops es e) (t' : Stops es e') : e = e' := by
  have l := d.le hs
  have l' := d'.le hs'
  rcases Nat.lt_trichotomy e e' with q | q | q
  · rcases t with t | ⟨ev, g, f⟩
    · omega
    · obtain ⟨ev', g', f'⟩ := d' e (by omega) q
      rw [g] at g'
      cases g'
      rw [f] at f'; cases f'
  · exact q
  · rcases t' with t | ⟨ev, g, f⟩
    · omega
    · obtain ⟨ev', g', f'⟩ := d e' (by omega) q
      rw [g] at g'
      cases g'
      rw [f] at f'; cases f'
theorem Due.uniq {es : List Ev} {cbs : List Cmb} {s : Nat} {r : List (List Int)} (h : Due es cbs s r) : ∀ {r' : List (List Int)}, Due es cbs s r' → r = r' := by
  induction h with
  | fin hl =>
    intro r' h'
    cases h' with
    | fin _ => rfl
    | up g _ _ => have := (List.getElem?_eq_some_iff.mp g).1; omega
    | down hs d _ _ => have := d.le hs; omega
  | up g f _ ih =>
    intro r' h'
    cases h' with
    | fin hl => have := (List.getElem?_eq_some_iff.mp g).1; omega
    | up g' f' h' => exact ih h'
    | down hs d _ _ =>
      obtain ⟨ev', g', f'⟩ := d _ (Nat.le_refl _) hs
      rw [g] at g'
      cases g'
      rw [f] at f'; cases f'
  | down hs d t _ ih =>
    intro r' h'
    cases h' with
    | fin hl => have := d.le hs; omega
    | up g f h' =>
      obtain ⟨ev', g', f'⟩ := d _ (Nat.le_refl _) hs
      rw [g] at g'
      cases g'
      rw [f] at f'; cases f'
    | down hs' d' t' h' =>
      have e := stop_uniq hs hs' d d' t t'
      subst e
      rw [ih h']
theorem cut_due {es : List Ev} {cbs : List Cmb} {e : Nat} (t : Stops es e) {r : List (List Int)} (hr : Due es cbs e r) {s : Nat} {r1 : List (List Int)} (h : Cut es cbs e s r1) : Downs es s e → s ≤ e → Due es cbs s (r1 ++ r) := by
  induction h with
  | nil => intro _ _; exact hr
  | @cons s r1 hs _ ih =>
    intro d _
    have hl := prt_len (s := s) (d.le hs)
    have ne : prt es s e ≠ [] := fun z => by rw [z] at hl; simp at hl; omega
    have f := fp_le cbs ne
    rw [hl] at f
    exact Due.down hs d t (ih (fun i a b => d i (by omega) b) (by omega))
end Cb

set_option Elab.async false
set_option linter.all false
set_option maxRecDepth 100000
set_option maxHeartbeats 4000000
/-! a list's slice with a step -/
namespace Gd
open PySem PySem.Spec PyProof.Rows L2
def stepIx (n : Nat) (lo hi : Option Int) (k : Int) : List Nat :=
  let b := sliceBounds lo hi (some k) n
  sliceRange b.1 b.2.1 b.2.2
def stepV {α : Type} (xs : List α) (lo hi : Option Int) (k : Int) : List α := (stepIx xs.length lo hi k).filterMap fun i => xs[i]?
def tSlK (K : PySem.W.Frag) (te : TE) (tl th ts : TO) : TE := fun σ H Q => te σ H fun x H1 => tl σ H1 fun l H2 => th σ H2 fun u H3 => ts σ H3 fun y H4 =>
  ∃ (a : Addr) (xs : List V) (k : Int), x = .ref a ∧ y = some k ∧ k ≠ 0 ∧ SqL K H4 a xs ∧ (stepV xs l u k).length ≤ xs.length ∧ ∀ p, H4 p = none → Q (.ref p) (upd H4 p (.lst (stepV xs l u k)))
theorem vals_pick {xs : List V} {us : List Value} (r : Vals xs us) : ∀ is : List Nat, Vals (is.filterMap fun i => xs[i]?) (is.filterMap fun i => us[i]?)
  | [] => .nil
  | i :: is => by
    have ih := vals_pick r is
    rw [List.filterMap_cons, List.filterMap_cons]
    cases h : xs[i]? with
    | none =>
      have : us[i]? = none := by
        rw [List.getElem?_eq_none_iff] at h ⊢
        rw [← r.length]; exact h
      rw [this]
      exact ih
    | some x =>
      obtain ⟨u, hu, ru⟩ := r.get h
      rw [hu]
      exact .cons ru ih
section
variable {X : Cx} {e : Expr} {lo hi : Option Expr} {st : Expr} {p2 pos : Pos} {te : TE} {tl th ts : TO}
theorem pe_slk (he : PE X e te) (hl : PO X lo tl) (hu : PO X hi th) (hs : PO X (some st) ts) : PE X (.Subscript e (.Slice lo hi (some st) p2) pos) (tSlK X.K te tl th ts) := by
  refine ⟨fun pins s σ H Q I h => Subscript_ (thn (he.run pins s σ H _ I h) fun v s1 z1 => ?_)⟩
  obtain ⟨x, H1, I1, r1, q1⟩ := z1
  refine wpAny_Slice (thn (hl.run pins s1 σ H1 _ I1 q1) fun vl s2 z2 => ?_)
  obtain ⟨l, H2, I2, pl, q2⟩ := z2
  refine thn (hu.run pins s2 σ H2 _ I2 q2) fun vu s3 z3 => ?_
  obtain ⟨u, H3, I3, pu, q3⟩ := z3
  refine thn (hs.run pins s3 σ H3 _ I3 q3) fun vs s4 z4 => ?_
  obtain ⟨y, H4, I4, ps, a, xs, k, rfl, rfl, k0, hx, hlen, q⟩ := z4
  have I5 : Inv X pins σ H4 { s4 with heap := s4.heap.push { cls := .type "slice", data := .fields #[vl, vu, vs] } } := I4.kept (t' := s4.toks) fun b o m => Heap.get?_push_of_some _ m
  cases r1
  obtain ⟨its, r, ht, hz⟩ := I5.list hx
  have hn := r.length
  refine tail_any (ops := [.ref a, .ref s4.heap.objs.size]) ht.isList.typeIs slot_list_getitem.lookup ?_ (by with_unfolding_all rfl)
  refine wpAny_getItem_list_slice ht.isList (Heap.IsSliceOf.new ..) pl pu ps (fun m => k0 (Option.some.inj m)) ?_ (by rw [List.size_toArray, ← hn]; exact hz)
  have er : (slicePick its.toArray l u (some k)).toList = (stepIx xs.length l u k).filterMap fun i => its[i]? := by
    unfold slicePick stepIx
    rw [List.size_toArray, hn]
    simp
  have rv := vals_pick r (stepIx xs.length l u k)
  have I6 := I5.laid (t' := s4.toks) (a := (s4.heap.push { cls := .type "slice", data := .fields #[vl, vu, vs] }).objs.size) (o := .lst (stepV xs l u k)) (h' := (s4.heap.push { cls := .type "slice", data := .fields #[vl, vu, vs] }).push { cls := .type "list", data := .seq (slicePick its.toArray l u (some k)) }) (fun b o m => Heap.get?_push_of_some _ m) (Nat.le_refl _)
    ⟨Nat.le_trans hlen (by rw [hn]; omega), _, 0, rv, by rw [← er, Array.toArray_toList]; exact Heap.get?_push_size _ rfl⟩
  exact ⟨.ref _, _, I6, rfl, q _ (I5.hok.fresh (Nat.le_refl _))⟩
end
end Gd

set_option Elab.async false
set_option linter.all false
set_option maxRecDepth 100000
set_option maxHeartbeats 8000000
/-! set(xs) of a list of ints -/
namespace Gd
open PySem PySem.Spec PyProof.Rows L2
/-- a set as it begins -/
abbrev set0 (w : World) : Obj :=
  { cls := .type "set", dict := none,
    data := .set #[] 0 (.fresh 0 0 (!w.params.followText "set-order")) }
section
variable {P : Program} {w : World} {A : Around} {E : Value → Shared → Prop} {s : Shared}
/-- the loop of set.update over a list of ints, from an empty set at S -/
theorem fill_set {h1 : Heap} {l S : Addr} {its : Array Value} {ns : List Int} {g : Array GenState} {d : Drawn} {tk : Nat} {os : OsState}
    (free : A.handled = none) (hS : h1.get? S = some (set0 w)) (hl : h1.IsList l its) (ne : S ≠ l) (hit : IntsAre its.toList ns) (small : ns.length + 1 < scanBound) :
    codeAny (model P w) A (.builtin "set.update.loop" ⟨[.ref S, .ref h1.objs.size], []⟩)
      (fun r s' => ∃ (h' : Heap) (t c : Nat), r = .ok (.ret .none) ∧ s' = ⟨h', g, d, t, os⟩ ∧ SetR w h' S (fun j => decide (j ∈ ns)) c ∧ c ≤ ns.length ∧ ∀ b o, b ≠ S → h1.get? b = some o → h'.get? b = some o)
      ⟨h1.push { cls := .type "list_iterator", data := .fields #[.ref l, .int 0 0] }, g, d, tk, os⟩ := by
  have len : its.size = ns.length := by
    have e := IntsAre.length hit
    rwa [Array.length_toList] at e
  have lS : S < h1.objs.size := Heap.lt_size hS
  obtain ⟨ol, hol, _⟩ := id hl
  have ll : l < h1.objs.size := Heap.lt_size hol
  have out : S ∉ [h1.objs.size, l] := by
    intro m
    rcases List.mem_cons.mp m with e | m
    · exact Nat.ne_of_lt lS e
    · exact ne (List.mem_singleton.mp m)
  have at_ : ∀ (i : Nat) (v : Value), its[i]? = some v → ∃ k t, ns[i]? = some k ∧ v = .int k t := by
    intro i v e
    have hi : i < ns.length := len ▸ (Array.getElem?_eq_some_iff.mp e).1
    obtain ⟨t, z⟩ := IntsAre.int_at hit i v (by rw [Array.getElem?_toList]; exact e)
    exact ⟨ns[i], t, List.getElem?_eq_getElem hi, by rw [z, List.getD_eq_getElem?_getD, List.getElem?_eq_getElem hi]; rfl⟩
  have W := (Walks.list (prog := P) (w := w) (A := A.in1) (by simp [free]) h1.objs.size l (Nat.ne_of_lt ll) its).toS
  refine set_update_ints W S out ns len small at_ its.size 0 _ (by omega) (Nat.zero_le _) ⟨⟨_, Heap.get?_push_size _ rfl, rfl, rfl⟩, hl.push _⟩ ⟨0, Nat.le_refl _, setR_new_at (Heap.get?_push_of_some _ hS)⟩ (fun s' c m hc hR => ?_)
  obtain ⟨h', g', d', t', os'⟩ := s'
  obtain rfl : g' = g := m.gens
  obtain rfl : d' = d := m.drawn
  obtain rfl : os' = os := m.os
  refine ⟨h', t', c, rfl, rfl, hR, by omega, fun b o nb e => ?_⟩
  refine m.heap b o (fun z => ?_) (Heap.get?_push_of_some _ e)
  rcases List.mem_cons.mp z with z | z
  · exact nb z
  · have := Heap.lt_size e
    rw [List.mem_singleton.mp z] at this
    exact Nat.lt_irrefl _ this
theorem set_of_list {l : Addr} {its : Array Value} {ns : List Int} {Q : Value → Shared → Prop} (free : A.handled = none) (hl : s.heap.IsList l its) (hit : IntsAre its.toList ns) (small : ns.length + 1 < scanBound)
    (q : ∀ (h' : Heap) (t c : Nat), SetR w h' s.heap.objs.size (fun j => decide (j ∈ ns)) c → c ≤ ns.length → (∀ b o, s.heap.get? b = some o → h'.get? b = some o) →
      Q (.ref s.heap.objs.size) { s with heap := h', toks := t }) : wpAny (model P w) A (call (.type "set") [.ref l]) Q E s := by
  have K := F.called_set
  obtain ⟨_, _, mro⟩ := K.mro
  have made := K.made
  have sub := K.sub
  have nt := K.notType
  have can := K.canCreate
  have tc := F.typeCall_set_1 (.ref l)
  have look := K.init.lookup
  have bnd := K.init.bind (.ref s.heap.objs.size)
  refine wpAny_call (codeAny_of_tree (show wpAny _ _ (callAny (.type "set") _) _ _ _ from wpAny_pure ⟨Code.quiet_builtin _ (by decide +kernel), codeAny_builtin F.entry_type_call ?_⟩))
  rw [Around.under_plain (weight_type_call_type "set" [.ref l] []) rfl]
  repeat (any_goals (first | assumption | wp_step))
  refine codeAny_mono (code_set_led1 (.ref l) (E := E) (Q₁ := fun o s1 => o = .ref s.heap.objs.size ∧ s1 = { s with heap := s.heap.push (set0 w) }) ⟨rfl, rfl⟩) fun r s1 hr => ?_
  match r, hr with
  | .error _, hr => exact hr
  | .ok .next, hr => exact hr.elim
  | .ok .brk, hr => exact hr.elim
  | .ok .cont, hr => exact hr.elim
  | .ok (.ret o), hr =>
    obtain ⟨e1, e2⟩ := hr
    subst e1 e2
    have hS : (s.heap.push (set0 w)).get? s.heap.objs.size = some (set0 w) := Heap.get?_push_size _ rfl
    have tS : Shared.TypeIs { s with heap := s.heap.push (set0 w) } (.ref s.heap.objs.size) "set" := ⟨_, hS, rfl⟩
    have keep0 : ∀ b o, s.heap.get? b = some o → (s.heap.push (set0 w)).get? b = some o := fun b o e => Heap.get?_push_of_some _ e
    have hl1 := hl.push (set0 w)
    repeat (any_goals (first | assumption | wp_step))
    refine codeAny_mono (codeAny_call_builtin (R := fun r s2 => ∃ (h' : Heap) (t c : Nat), r = .ok (.ret .none) ∧ s2 = ⟨h', s.gens, s.drawn, t, s.os⟩ ∧ SetR w h' s.heap.objs.size (fun j => decide (j ∈ ns)) c ∧ c ≤ ns.length ∧ ∀ b o, s.heap.get? b = some o → h'.get? b = some o)
      K.init.plain F.entry_set_init (check_set_init_1 tS ?_)) (fun r2 s2 hr2 => ?_)
    · obtain ⟨⟨ocls, odict, odata, oslots⟩, hol, hcl, nl, hdl⟩ := id hl1
      have nd : (Value.type "list" == Value.type "dict") = false := by decide
      have s1 := F.sub_list_set
      have s2 := F.sub_list_frozenset
      simp only at hcl hdl
      subst hcl
      subst hdl
      unfold Builtin.«set.__init__» noKeywords Builtin.Frozenset.updateFrom
      generalize hI : pyIter = iter
      wp_walk
      subst hI
      have nSl : s.heap.objs.size ≠ l := by
        obtain ⟨ol, z, _⟩ := hl
        exact Nat.ne_of_gt (Heap.lt_size z)
      refine wpAny_pyIter_list hl1 (wpAny_bind (wpAny_runValue (codeAny_mono (fill_set (A := A.in1.in1) (by simp [free]) hS hl1 nSl hit small) (fun r s' z => ?_))))
      obtain ⟨h', t, c, rfl, rfl, hR, hc, hk⟩ := z
      have old : ∀ b o, s.heap.get? b = some o → h'.get? b = some o := fun b o e => hk b o (Nat.ne_of_lt (Heap.lt_size e)) (keep0 b o e)
      exact wpAny_pure (wpAny_pure ⟨h', t, c, rfl, rfl, hR, hc, old⟩)
    · obtain ⟨h', t, c, rfl, rfl, hR, hc, hk⟩ := hr2
      repeat (any_goals (first | assumption | wp_step))
      exact q h' t c hR hc hk
end
/-- set(xs) of a list of ints: as many members as different numbers -/
def rSetL (K : PySem.W.Frag) (w : World) : List V → Hp → VK → Prop := fun xs H Q => ∃ (l : Addr) (ns : List Int), xs = [.ref l] ∧ SqL K H l (ns.map V.int) ∧ ns.length ≤ 1000 ∧
  ∀ (a : Addr) (c : Nat), H a = none → (∀ ds : List Int, (∀ k ∈ ns, k ∈ ds) → c ≤ ds.length) → Q (.ref a) (upd H a (SetO w a (fun j => decide (j ∈ ns)) c))
theorem setR_few {w : World} {h : Heap} {a : Addr} {ns : List Int} {c : Nat} (R : SetR w h a (fun j => decide (j ∈ ns)) c) (ds : List Int) (hd : ∀ k ∈ ns, k ∈ ds) : c ≤ ds.length := by
  obtain ⟨o, es, ep, t, _, _, _, _, nd, mem, _, _, n, _⟩ := R
  rw [← n, ← Array.length_toList, ← List.length_map (f := keyOf)]
  refine List.Nodup.length_le_of_subset nd fun k hk => ?_
  exact hd k (of_decide_eq_true ((mem k).mpr hk))
theorem cr_setL {X : Cx} (hc : X.calm = true) : CallR X (.type "set") (rSetL X.K X.w) := by
  intro pins s σ H xs us Q I r h
  obtain ⟨l, ns, rfl, hx, hn, q⟩ := h
  rw [Vals.ref1 r]
  obtain ⟨its, rv, pl, _⟩ := I.list hx
  refine set_of_list (I.ok.hd hc) pl.isList (by simpa using rv.ints) (by unfold scanBound; omega) fun h' t c R _ k => ?_
  exact ⟨.ref s.heap.objs.size, _, I.laid (t' := t) k (Nat.le_refl _) (setO_new R), rfl, q _ c (I.hok.fresh (Nat.le_refl _)) (setR_few R)⟩
end Gd

set_option Elab.async false
set_option linter.all false
set_option maxRecDepth 100000
set_option maxHeartbeats 4000000
namespace K26
open PySem PySem.Spec PyProof.Rows L2 Gd Rm La Cb
def topS (i : Nat) : Stmt := PySem.Challenge.pw_holdtap_k26_layouts_with_own_keys.main.body.getD i (.Pass ⟨0, 0, 0, 0⟩)
abbrev s_is_an_integer : Stmt := topS 6
abbrev n_is_an_integer : List Str := ["value"]
theorem sc_is_an_integer : FnScope n_is_an_integer ["value"] (defScope s_is_an_integer) := ⟨rfl, rfl, rfl, by decide +kernel, rfl, by decide +kernel, by decide +kernel⟩
-- 0 value
abbrev s_is_between : Stmt := topS 7
abbrev n_is_between : List Str := ["value", "low", "high"]
theorem sc_is_between : FnScope n_is_between ["value", "low", "high"] (defScope s_is_between) := ⟨rfl, rfl, rfl, by decide +kernel, rfl, by decide +kernel, by decide +kernel⟩
-- 0 value, 1 low, 2 high
abbrev s_are_ascending : Stmt := topS 8
abbrev n_are_ascending : List Str := ["values", "many", "at", "value"]
theorem sc_are_ascending : FnScope n_are_ascending ["values", "many"] (defScope s_are_ascending) := ⟨rfl, rfl, rfl, by decide +kernel, rfl, by decide +kernel, by decide +kernel⟩
-- 0 values*, 1 many*, 2 at*, 3 value*
abbrev s_is_layout : Stmt := topS 17
abbrev n_is_layout : List Str := ["value"]
theorem sc_is_layout : FnScope n_is_layout ["value"] (defScope s_is_layout) := ⟨rfl, rfl, rfl, by decide +kernel, rfl, by decide +kernel, by decide +kernel⟩
-- 0 value
abbrev s_check_layout : Stmt := topS 18
abbrev n_check_layout : List Str := ["value", "layer", "actions", "key", "action"]
theorem sc_check_layout : FnScope n_check_layout ["value"] (defScope s_check_layout) := ⟨rfl, rfl, rfl, by decide +kernel, rfl, by decide +kernel, by decide +kernel⟩
-- 0 value, 1 layer, 2 actions, 3 key, 4 action
abbrev s_has_layout_form : Stmt := topS 19
abbrev n_has_layout_form : List Str := ["value", "many", "actions"]
theorem sc_has_layout_form : FnScope n_has_layout_form ["value"] (defScope s_has_layout_form) := ⟨rfl, rfl, rfl, by decide +kernel, rfl, by decide +kernel, by decide +kernel⟩
-- 0 value, 1 many*, 2 actions*
abbrev s_can_stand : Stmt := topS 20
abbrev n_can_stand : List Str := ["action", "layer", "layer_count"]
theorem sc_can_stand : FnScope n_can_stand ["action", "layer", "layer_count"] (defScope s_can_stand) := ⟨rfl, rfl, rfl, by decide +kernel, rfl, by decide +kernel, by decide +kernel⟩
-- 0 action, 1 layer, 2 layer_count
abbrev s_is_code_action : Stmt := topS 21
abbrev n_is_code_action : List Str := ["action", "word", "code"]
theorem sc_is_code_action : FnScope n_is_code_action ["action"] (defScope s_is_code_action) := ⟨rfl, rfl, rfl, by decide +kernel, rfl, by decide +kernel, by decide +kernel⟩
-- 0 action, 1 word, 2 code
abbrev s_is_layer_action : Stmt := topS 22
abbrev n_is_layer_action : List Str := ["action", "words", "layer_count", "word", "layer"]
theorem sc_is_layer_action : FnScope n_is_layer_action ["action", "words", "layer_count"] (defScope s_is_layer_action) := ⟨rfl, rfl, rfl, by decide +kernel, rfl, by decide +kernel, by decide +kernel⟩
-- 0 action, 1 words, 2 layer_count, 3 word, 4 layer
abbrev s_is_dual_action : Stmt := topS 23
abbrev n_is_dual_action : List Str := ["action", "layer_count", "word", "tap", "hold", "time", "rule"]
theorem sc_is_dual_action : FnScope n_is_dual_action ["action", "layer_count"] (defScope s_is_dual_action) := ⟨rfl, rfl, rfl, by decide +kernel, rfl, by decide +kernel, by decide +kernel⟩
-- 0 action, 1 layer_count, 2 word, 3 tap, 4 hold, 5 time, 6 rule
abbrev s_is_hold : Stmt := topS 24
abbrev n_is_hold : List Str := ["value", "layer_count"]
theorem sc_is_hold : FnScope n_is_hold ["value", "layer_count"] (defScope s_is_hold) := ⟨rfl, rfl, rfl, by decide +kernel, rfl, by decide +kernel, by decide +kernel⟩
-- 0 value, 1 layer_count
abbrev s_is_code : Stmt := topS 25
abbrev n_is_code : List Str := ["value", "sign"]
theorem sc_is_code : FnScope n_is_code ["value"] (defScope s_is_code) := ⟨rfl, rfl, rfl, by decide +kernel, rfl, by decide +kernel, by decide +kernel⟩
-- 0 value, 1 sign*
abbrev s_with_combos : Stmt := topS 30
abbrev n_with_combos : List Str := ["layout", "combos"]
theorem sc_with_combos : FnScope n_with_combos ["layout", "combos"] (defScope s_with_combos) := ⟨rfl, rfl, rfl, by decide +kernel, rfl, by decide +kernel, by decide +kernel⟩
-- 0 layout, 1 combos
abbrev s_joined : Stmt := topS 31
abbrev n_joined : List Str := ["layout", "combos", "codes", "through", "combo", "actions"]
theorem sc_joined : FnScope n_joined ["layout", "combos"] (defScope s_joined) := ⟨rfl, rfl, rfl, by decide +kernel, rfl, by decide +kernel, by decide +kernel⟩
-- 0 layout, 1 combos, 2 codes, 3 through*, 4 combo*, 5 actions*
abbrev s_check_combos_of : Stmt := topS 32
abbrev n_check_combos_of : List Str := ["layout", "combos"]
theorem sc_check_combos_of : FnScope n_check_combos_of ["layout", "combos"] (defScope s_check_combos_of) := ⟨rfl, rfl, rfl, by decide +kernel, rfl, by decide +kernel, by decide +kernel⟩
-- 0 layout, 1 combos
abbrev s_check_combos : Stmt := topS 33
abbrev n_check_combos : List Str := ["value", "many", "known", "index", "combo"]
theorem sc_check_combos : FnScope n_check_combos ["value", "many"] (defScope s_check_combos) := ⟨rfl, rfl, rfl, by decide +kernel, rfl, by decide +kernel, by decide +kernel⟩
-- 0 value, 1 many, 2 known, 3 index, 4 combo
abbrev s_is_combo : Stmt := topS 34
abbrev n_is_combo : List Str := ["value", "many", "keys", "time", "code"]
theorem sc_is_combo : FnScope n_is_combo ["value", "many"] (defScope s_is_combo) := ⟨rfl, rfl, rfl, by decide +kernel, rfl, by decide +kernel, by decide +kernel⟩
-- 0 value, 1 many, 2 keys, 3 time, 4 code
abbrev s_are_combo_keys : Stmt := topS 35
abbrev n_are_combo_keys : List Str := ["value", "many"]
theorem sc_are_combo_keys : FnScope n_are_combo_keys ["value", "many"] (defScope s_are_combo_keys) := ⟨rfl, rfl, rfl, by decide +kernel, rfl, by decide +kernel, by decide +kernel⟩
-- 0 value, 1 many
abbrev s__law_spring : Stmt := topS 37
abbrev n__law_spring : List Str := ["_law_script", "_law_k", "_law_cell"]
theorem sc__law_spring : FnScope n__law_spring ["_law_script", "_law_k"] (defScope s__law_spring) := ⟨rfl, rfl, rfl, by decide +kernel, rfl, by decide +kernel, by decide +kernel⟩
-- 0 _law_script, 1 _law_k, 2 _law_cell
abbrev s__law_take : Stmt := topS 38
abbrev n__law_take : List Str := ["_law_spring_here", "_law_many", "_law_digit", "_law_mixed"]
theorem sc__law_take : FnScope n__law_take ["_law_spring_here", "_law_many"] (defScope s__law_take) := ⟨rfl, rfl, rfl, by decide +kernel, rfl, by decide +kernel, by decide +kernel⟩
-- 0 _law_spring_here, 1 _law_many, 2 _law_digit, 3 _law_mixed
abbrev s__law_code : Stmt := topS 39
abbrev n__law_code : List Str := ["_law_spring_here"]
theorem sc__law_code : FnScope n__law_code ["_law_spring_here"] (defScope s__law_code) := ⟨rfl, rfl, rfl, by decide +kernel, rfl, by decide +kernel, by decide +kernel⟩
-- 0 _law_spring_here
abbrev s__law_dual : Stmt := topS 40
abbrev n__law_dual : List Str := ["_law_spring_here", "_law_layers", "_law_top", "_law_layer", "_law_hold", "_law_time"]
theorem sc__law_dual : FnScope n__law_dual ["_law_spring_here", "_law_layers", "_law_top"] (defScope s__law_dual) := ⟨rfl, rfl, rfl, by decide +kernel, rfl, by decide +kernel, by decide +kernel⟩
-- 0 _law_spring_here, 1 _law_layers, 2 _law_top, 3 _law_layer, 4 _law_hold, 5 _law_time
abbrev s__law_action : Stmt := topS 41
abbrev n__law_action : List Str := ["_law_spring_here", "_law_layer", "_law_layers", "_law_top", "_law_way"]
theorem sc__law_action : FnScope n__law_action ["_law_spring_here", "_law_layer", "_law_layers", "_law_top"] (defScope s__law_action) := ⟨rfl, rfl, rfl, by decide +kernel, rfl, by decide +kernel, by decide +kernel⟩
-- 0 _law_spring_here, 1 _law_layer, 2 _law_layers, 3 _law_top, 4 _law_way
abbrev s__law_layout : Stmt := topS 42
abbrev n__law_layout : List Str := ["_law_spring_here", "_law_keys", "_law_layers", "_law_top", "_law_many", "_law_deep", "_law_found", "_law_layer", "_law_row", "_law_key", "_law_one"]
theorem sc__law_layout : FnScope n__law_layout ["_law_spring_here", "_law_keys", "_law_layers", "_law_top"] (defScope s__law_layout) := ⟨rfl, rfl, rfl, by decide +kernel, rfl, by decide +kernel, by decide +kernel⟩
-- 0 _law_spring_here*, 1 _law_keys, 2 _law_layers, 3 _law_top*, 4 _law_many, 5 _law_deep*, 6 _law_found, 7 _law_layer*, 8 _law_row, 9 _law_key*, 10 _law_one*
abbrev s__law_combos : Stmt := topS 43
abbrev n__law_combos : List Str := ["_law_spring_here", "_law_many", "_law_top", "_law_found", "_law_turn", "_law_some", "_law_size", "_law_keys", "_law_time", "_law_code_here", "_law_combo", "_law_part"]
theorem sc__law_combos : FnScope n__law_combos ["_law_spring_here", "_law_many", "_law_top"] (defScope s__law_combos) := ⟨rfl, rfl, rfl, by decide +kernel, rfl, by decide +kernel, by decide +kernel⟩
-- 0 _law_spring_here*, 1 _law_many, 2 _law_top, 3 _law_found, 4 _law_turn, 5 _law_some*, 6 _law_size, 7 _law_keys, 8 _law_time, 9 _law_code_here, 10 _law_combo*, 11 _law_part*
abbrev s__law_due : Stmt := topS 44
abbrev n__law_due : List Str := ["_law_layout_here", "_law_combos_here", "_law_found", "_law_layer", "_law_combo"]
theorem sc__law_due : FnScope n__law_due ["_law_layout_here", "_law_combos_here"] (defScope s__law_due) := ⟨rfl, rfl, rfl, by decide +kernel, rfl, by decide +kernel, by decide +kernel⟩
-- 0 _law_layout_here, 1 _law_combos_here, 2 _law_found, 3 _law_layer*, 4 _law_combo*
abbrev s_law : Stmt := topS 45
abbrev n_law : List Str := ["_law_script", "_law_k", "_law_spring_here", "_law_layout_here", "_law_combos_here", "_law_turn", "_law_kept", "_law_due_here", "_law_found"]
theorem sc_law : FnScope n_law ["_law_script"] (defScope s_law) := ⟨rfl, rfl, rfl, by decide +kernel, rfl, by decide +kernel, by decide +kernel⟩
-- 0 _law_script, 1 _law_k, 2 _law_spring_here, 3 _law_layout_here, 4 _law_combos_here, 5 _law_turn, 6 _law_kept, 7 _law_due_here, 8 _law_found

/-! ### the spring -/
def Reel (H : Hp) (r : Addr) (n : Nat) : Prop := ∃ x y z : Int, H r = some (.lst [.int x, .int y, .int z]) ∧ 0 ≤ x ∧ 0 ≤ y ∧ y < 10 ^ 41 ∧ 0 ≤ z ∧ z ≤ (n : Int)
theorem Reel.mono {H : Hp} {r : Addr} {n m : Nat} (h : Reel H r n) (l : n ≤ m) : Reel H r m := by
  obtain ⟨x, y, z, a, b, c, d, e, f⟩ := h
  exact ⟨x, y, z, a, b, c, d, e, by omega⟩
theorem Reel.same {H H' : Hp} {r : Addr} {n : Nat} (h : Reel H r n) (l : Same H H') : Reel H' r n := by
  obtain ⟨x, y, z, a, b⟩ := h
  exact ⟨x, y, z, l _ _ a, b⟩
theorem Reel.upd {H : Hp} {r b : Addr} {n : Nat} {o : HO} (h : Reel H r n) (ne : b ≠ r) : Reel (upd H b o) r n := by
  obtain ⟨x, y, z, g, g'⟩ := h
  exact ⟨x, y, z, by rw [upd_ne ne.symm]; exact g, g'⟩
theorem Reel.new {H : Hp} {r b : Addr} {n : Nat} (h : Reel H r n) (nb : H b = none) : b ≠ r := by
  obtain ⟨_, _, _, hr, _⟩ := h
  exact (ne_of_none hr nb).symm
theorem Reel.free {H H1 : Hp} {r b : Addr} {n : Nat} (o : Off r H H1) (h : Reel H1 r n) (nb : H1 b = none) : H b = none := by
  obtain ⟨_, _, _, hr, _⟩ := h
  exact o.free hr nb
theorem Reel.lst {α : Type} {f : α → List V} {H H' : Hp} {r c : Addr} {n : Nat} {es : List α} (h : Reel H r n) (hl : Lst f H c es) (ne : c ≠ r) (o : Off r H H') : Lst f H' c es := by
  obtain ⟨_, _, _, hr, _⟩ := h
  exact hl.off hr ne o
theorem Reel.tk {H H' : Hp} {r : Addr} {n : Nat} (h : Reel H r n) (o : Off r H H') : Tk H H' := fun b xs e => o _ _ e (by
  obtain ⟨x, y, z, hr, _⟩ := h
  exact ne_of e hr (by intro q; cases q))
/-- the draws so far are fewer than this -/
abbrev most : Nat := 1000000000
def spDraw : Sp := fun vs H Q _ => ∃ (r : Addr) (m : Int) (n : Nat), vs = [.ref r, .int m] ∧ 0 < m ∧ m < 10 ^ 40 ∧ n < most ∧ Reel H r n ∧
  ∀ d H', 0 ≤ d → d < m → Reel H' r (n + 1) → Off r H H' → Q (.int d) H'
structure Bt (mg : Str → Option Value) : Prop where
  m_len : mg "len" = none
  m_max : mg "max" = none
  m_min : mg "min" = none
  m_repr : mg "repr" = none
  m_isinstance : mg "isinstance" = none
  m_all : mg "all" = none
  m_list : mg "list" = none
  m_tuple : mg "tuple" = none
  m_int : mg "int" = none
  m_bool : mg "bool" = none
  m_str : mg "str" = none
  m_range : mg "range" = none
  m_enumerate : mg "enumerate" = none
  m_sorted : mg "sorted" = none
section
variable {P : Program} {w : World} {K : PySem.W.Frag} {mg : Str → Option Value} {base : Heap}
theorem ok__law_take (a : At K mg "_law_take" s__law_take ["_law_spring_here", "_law_many"]) : Cl P w K mg base 1 "_law_take" spDraw := by
  refine clG a sc__law_take (fun vs H Q E h => ?_) (fun f cdv A outer s H vs Q hg hr h => ?_)
  · obtain ⟨r, m, n, rfl, _⟩ := h
    rfl
  · obtain ⟨r, m, n, rfl, hm, hm2, hn0, ⟨x, y, z, hR, hx, hy, hy2, hz, hz2⟩, q⟩ := h
    have hn : n < 1000000000 := hn0
    refine ⟨_, (pss_cons (ps_if (pt_cmpR op_gt (pe_ix ix_list (pv 0) pe_int (fun _ _ => rfl)) pe_int (nomark _)) (pss_cons (ps_set (i := 2) sc__law_take.nd rfl (Or.inl rfl) (pe_op op_mod (pe_ix ix_list (pv 0) pe_int (fun _ _ => rfl)) (pv 1)))
      (pss_cons (ps_asg (pe_op op_fdivW (pe_ix ix_list (pv 0) pe_int (fun _ _ => rfl)) (pv 1)) (pg_sub (pv 0) pe_int set_list))
      (pss_one (ps_ret (pv 2))))) pss_nil)
      (pss_cons (ps_asg (pe_op op_add (pe_ix ix_list (pv 0) pe_int (fun _ _ => rfl)) pe_int) (pg_sub (pv 0) pe_int set_list))
      (pss_cons (ps_set (i := 3) sc__law_take.nd rfl (Or.inl rfl) (pe_op op_mod (pe_op op_powW (pe_op op_add (pe_ix ix_list (pv 0) pe_int (fun _ _ => rfl)) (pe_op op_mulW pe_int (pe_ix ix_list (pv 0) pe_int (fun _ _ => rfl)))) pe_int) (pe_op op_add (pe_op op_powW pe_int pe_int) pe_int)))
      (pss_cons (ps_set (i := 3) sc__law_take.nd rfl (Or.inl rfl) (pe_op op_mod (pe_op op_powW (pe_op op_add (pv 3) (pe_op op_mulW pe_int (pe_ix ix_list (pv 0) pe_int (fun _ _ => rfl)))) pe_int) (pe_op op_add (pe_op op_powW pe_int pe_int) pe_int)))
      (pss_one (ps_ret (pe_op op_mod (pe_op op_fdivW (pv 3) (pe_op op_powW pe_int pe_int)) (pv 1)))))))), ?_⟩
    refine ⟨_, rfl, r, _, 0, _, rfl, rfl, SqL.of hR, atI_nat (j := 0) rfl, ?_⟩
    refine ⟨_, _, rfl, rfl, _, rfl, ite2 (fun e => ?_) (fun e => ?_)⟩
    · have e0 : 0 < x := of_decide_eq_true e
      refine ⟨_, rfl, r, _, 0, _, rfl, rfl, SqL.of hR, atI_nat (j := 0) rfl, _, rfl, _, _, rfl, rfl, hm, ?_⟩
      refine ⟨_, rfl, r, _, 0, _, rfl, rfl, SqL.of hR, atI_nat (j := 0) rfl, _, rfl, _, _, rfl, rfl, wide_div (b := 140) hm (by omega) (by decide) (by decide), ?_⟩
      refine ⟨_, rfl, r, _, 0, 0, rfl, rfl, hR, rfl, ?_⟩
      refine ⟨_, rfl, q _ _ (Int.emod_nonneg _ (by omega)) (Int.emod_lt_of_pos _ hm) ⟨x / m, y, z, upd_same, Int.ediv_nonneg hx (by omega), hy, hy2, hz, by omega⟩ off_upd⟩
    · refine ⟨_, rfl, r, _, 2, _, rfl, rfl, SqL.of hR, atI_nat (j := 2) rfl, _, _, rfl, rfl, ?_⟩
      refine ⟨_, rfl, r, _, 2, 2, rfl, rfl, hR, rfl, ?_⟩
      have hR1 : upd H r (.lst [.int x, .int y, .int (z + 1)]) r = some (.lst [.int x, .int y, .int (z + 1)]) := upd_same
      refine ⟨_, rfl, r, _, 1, _, rfl, rfl, SqL.of hR1, atI_nat (j := 1) rfl, ?_⟩
      refine ⟨_, rfl, r, _, 2, _, rfl, rfl, SqL.of hR1, atI_nat (j := 2) rfl, ?_⟩
      have b1 : (z + 1).natAbs < 2 ^ 40 := by omega
      have b2 : (73939133 * (z + 1)).natAbs < 2 ^ 80 := by omega
      refine ⟨_, _, rfl, rfl, wide_mul (a := 40) (b := 40) (by decide) b1 (by decide) (by decide) (by decide), ?_⟩
      refine ⟨_, _, rfl, rfl, ?_⟩
      have b3 : (y + 73939133 * (z + 1)).natAbs < 2 ^ 150 := by omega
      refine ⟨_, _, rfl, rfl, powW (n := 150) (k := 3) b3 (by decide), ?_⟩
      refine ⟨_, _, rfl, rfl, powW (n := 40) (k := 40) (by decide) (by decide), _, _, rfl, rfl, _, _, rfl, rfl, (show (0 : Int) < 10 ^ 40 + 3 by decide), ?_⟩
      have c1 : 0 ≤ (y + 73939133 * (z + 1)) ^ 3 % (10 ^ 40 + 3) := Int.emod_nonneg _ (by decide)
      have c2 : (y + 73939133 * (z + 1)) ^ 3 % (10 ^ 40 + 3) < 10 ^ 40 + 3 := Int.emod_lt_of_pos _ (by decide)
      generalize hu : (y + 73939133 * (z + 1)) ^ 3 % (10 ^ 40 + 3) = u at c1 c2
      refine ⟨.int u, congrArg (fun v => some (some (V.int v))) hu, ?_⟩
      refine ⟨_, rfl, r, _, 2, _, rfl, rfl, SqL.of hR1, atI_nat (j := 2) rfl, ?_⟩
      have b4 : (29986577 * (z + 1)).natAbs < 2 ^ 80 := by omega
      refine ⟨_, _, rfl, rfl, wide_mul (a := 40) (b := 40) (by decide) b1 (by decide) (by decide) (by decide), ?_⟩
      have b5 : (u + 29986577 * (z + 1)).natAbs < 2 ^ 150 := by omega
      refine ⟨_, _, rfl, rfl, _, _, rfl, rfl, powW (n := 150) (k := 2) b5 (by decide), ?_⟩
      refine ⟨_, _, rfl, rfl, powW (n := 40) (k := 37) (by decide) (by decide), _, _, rfl, rfl, _, _, rfl, rfl, (show (0 : Int) < 10 ^ 37 + 43 by decide), ?_⟩
      refine ⟨_, rfl, _, _, rfl, rfl, powW (n := 40) (k := 7) (by decide) (by decide), _, _, rfl, rfl, wide_div (b := 40) (by decide) (by decide) (by decide) (by decide), ?_⟩
      refine ⟨_, rfl, _, _, rfl, rfl, hm, ?_⟩
      exact q _ _ (Int.emod_nonneg _ (by omega)) (Int.emod_lt_of_pos _ hm) ⟨x, y, z + 1, upd_same, hx, hy, hy2, by omega, by omega⟩ off_upd
def spPool (K : PySem.W.Frag) : Sp := fun vs H Q _ => ∃ (s : Addr) (ns : List Int) (i : Nat), vs = [.ref s, .int (i : Int)] ∧ SqL K H s (ns.map V.int) ∧ ns.length ≤ 63 ∧ i < 60 ∧
  ∀ r H', Same H H' → H r = none → Reel H' r 0 → Q (.ref r) H'
theorem ok__law_spring (bt : Bt mg) (a : At K mg "_law_spring" s__law_spring ["_law_script", "_law_k"]) : Cl P w K mg base 1 "_law_spring" (spPool K) := by
  refine clG a sc__law_spring (fun vs H Q E h => ?_) (fun f cdv A outer s H vs Q hg hr h => ?_)
  · obtain ⟨r, m, n, rfl, _⟩ := h
    rfl
  · obtain ⟨sc, ns, i, rfl, hS, hl, hi, q⟩ := h
    refine ⟨_, (pss_cons (ps_set (i := 2) sc__law_spring.nd rfl (Or.inl rfl) (pe_ifExp (pt_cmpR op_lt (pv 1) (pe_callB call_len_seq (by rfl) bt.m_len (by decide +kernel) (pa_cons (pv 0) pa_nil)) (nomark _)) (pe_ix ix_list (pv 0) (pv 1) (fun _ _ => rfl)) pe_int))
      (pss_one (ps_ret (pe_lst (pa_cons (pe_callB (call_max2 rfl) (by rfl) bt.m_max (by decide +kernel) (pa_cons pe_int (pa_cons (pe_op op_sub (pv 2) (pe_op op_powW pe_int pe_int)) pa_nil))) (pa_cons (pe_op op_add (pe_op op_mulW (pe_op op_add (pe_op op_mod (pv 2) (pe_op op_add (pe_op op_powW pe_int pe_int) pe_int)) pe_int) pe_int) (pv 1)) (pa_cons pe_int pa_nil))))))), ?_⟩
    have bb : ∀ c : Int, 0 ≤ (c % (10 ^ 37 + 63) + 7) * 64 + (i : Int) ∧ (c % (10 ^ 37 + 63) + 7) * 64 + (i : Int) < 10 ^ 41 := fun c => by
      have a1 := Int.emod_nonneg c (b := 10 ^ 37 + 63) (by decide)
      have a2 := Int.emod_lt_of_pos c (b := 10 ^ 37 + 63) (by decide)
      omega
    have b2 : ∀ c : Int, (c % (10 ^ 37 + 63) + 7).natAbs < 2 ^ 140 := fun c => by
      have a1 := Int.emod_nonneg c (b := 10 ^ 37 + 63) (by decide)
      have a2 := Int.emod_lt_of_pos c (b := 10 ^ 37 + 63) (by decide)
      omega
    refine ⟨_, rfl, .ref sc, rfl, sc, _, rfl, .inl hS, _, _, rfl, rfl, _, rfl, ite2 (fun e => ?_) (fun e => ?_)⟩
    · have e0 : (i : Int) < ((ns.map V.int).length : Nat) := of_decide_eq_true e
      rw [List.length_map] at e0
      have hlt : i < ns.length := by omega
      have g : (ns.map V.int)[i]? = some (.int ns[i]) := by
        rw [List.getElem?_map, List.getElem?_eq_getElem hlt]; rfl
      refine ⟨_, rfl, _, rfl, sc, _, (i : Int), _, rfl, rfl, hS, atI_nat g, ?_⟩
      refine ⟨_, rfl, _, _, rfl, rfl, powW (n := 40) (k := 18) (by decide) (by decide), _, _, rfl, rfl, _, _, rfl, ?_⟩
      refine ⟨_, rfl, _, _, rfl, rfl, powW (n := 40) (k := 37) (by decide) (by decide), _, _, rfl, rfl, _, _, rfl, rfl, (show (0 : Int) < 10 ^ 37 + 63 by decide), _, _, rfl, rfl, _, _, rfl, rfl, wide_mul (a := 140) (b := 40) (b2 ns[i]) (by decide) (by decide) (by decide) (by decide), _, rfl, _, _, rfl, rfl, (by show 3 ≤ sizeLine; decide), fun p np => ?_⟩
      exact q p _ (same_upd np) np ⟨_, _, 0, upd_same, by split <;> omega, (bb ns[i]).1, (bb ns[i]).2, by decide, by decide⟩
    · refine ⟨_, rfl, _, _, rfl, rfl, powW (n := 40) (k := 18) (by decide) (by decide), _, _, rfl, rfl, _, _, rfl, ?_⟩
      refine ⟨_, rfl, _, _, rfl, rfl, powW (n := 40) (k := 37) (by decide) (by decide), _, _, rfl, rfl, _, _, rfl, rfl, (show (0 : Int) < 10 ^ 37 + 63 by decide), _, _, rfl, rfl, _, _, rfl, rfl, wide_mul (a := 140) (b := 40) (b2 0) (by decide) (by decide) (by decide) (by decide), _, rfl, _, _, rfl, rfl, (by show 3 ≤ sizeLine; decide), fun p np => ?_⟩
      exact q p _ (same_upd np) np ⟨_, _, 0, upd_same, by split <;> omega, (bb 0).1, (bb 0).2, by decide, by decide⟩
end
end K26

set_option Elab.async false
set_option linter.all false
set_option maxRecDepth 100000
set_option maxHeartbeats 4000000
namespace K26
open PySem PySem.Spec PyProof.Rows L2 Gd Rm La Cb
def rLenB (K : PySem.W.Frag) : List V → Hp → VK → Prop := fun xs H Q => ∃ p ys, xs = [.ref p] ∧ (SqL K H p ys ∨ SqT K H p ys) ∧ Q (.int ys.length) H
def rListOf (K : PySem.W.Frag) : List V → Hp → VK → Prop := fun xs H Q => ∃ p ys, xs = [.ref p] ∧ (SqL K H p ys ∨ SqT K H p ys) ∧ ∀ l, H l = none → Q (.ref l) (upd H l (.lst ys))
theorem ixN_nat {n j : Nat} (hj : j < n) : ixN n (j : Int) = some j := by unfold ixN; rw [if_pos (by omega), if_pos (by omega), Int.toNat_natCast]
theorem get_map_ref {as : List Addr} {i : Nat} {b : Addr} (h : as[i]? = some b) : (as.map V.ref)[i]? = some (.ref b) := by rw [List.getElem?_map, h]; rfl
theorem get_map_int {ns : List Int} {i : Nat} {b : Int} (h : ns[i]? = some b) : (ns.map V.int)[i]? = some (.int b) := by rw [List.getElem?_map, h]; rfl
theorem cutTake {xs : List V} {k : Nat} : cutV xs none (some (k : Int)) = xs.take k := by
  unfold cutV
  rw [HT.sIx_none, HT.sIx_nat, List.drop_zero, Nat.sub_zero]
  rcases Nat.le_total k xs.length with h | h
  · rw [Nat.min_eq_left h]
  · rw [Nat.min_eq_right h, List.take_of_length_le (Nat.le_refl _), List.take_of_length_le h]
theorem cutDrop {xs : List V} {k : Nat} (h1 : k ≤ xs.length) : cutV xs (some (k : Int)) none = xs.drop k := by
  unfold cutV
  rw [HT.sIx_none, HT.sIx_nat, Nat.min_eq_left h1]
  exact List.take_of_length_le (by rw [List.length_drop]; omega)
theorem allTrue (n : Nat) : (List.replicate n true).all id = true := by simp
theorem small400 {n : Nat} (h : n ≤ 1000) : n ≤ sizeLine := Nat.le_of_lt (small1000 h)
section
variable {P : Program} {w : World} {K : PySem.W.Frag} {mg : Str → Option Value} {base : Heap}
def spInt : Sp := fun vs H Q _ => ∃ i : Int, vs = [.int i] ∧ Q (.bl true) H
theorem ok_is_an_integer (bt : Bt mg) (a : At K mg "is_an_integer" s_is_an_integer ["value"]) : Cl P w K mg base 1 "is_an_integer" spInt := by
  refine clG a sc_is_an_integer (fun vs H Q E h => ?_) (fun f cdv A outer s H vs Q hg hr h => ?_)
  · obtain ⟨i, rfl, _⟩ := h
    rfl
  · obtain ⟨i, rfl, q⟩ := h
    refine ⟨_, (pss_one (ps_ret (pe_and (pe_callB call_isi (by rfl) bt.m_isinstance (by decide +kernel) (pa_cons (pv 0) (pa_cons (pe_bltn (v := .ty "int") (by rfl) bt.m_int (by decide +kernel) rfl) pa_nil))) (pe_one (pe_not (pe_callB call_isi (by rfl) bt.m_isinstance (by decide +kernel) (pa_cons (pv 0) (pa_cons (pe_bltn (v := .ty "bool") (by rfl) bt.m_bool (by decide +kernel) rfl) pa_nil)))))))), ?_⟩
    refine ⟨_, rfl, _, _, _, _, true, rfl, .ty "int", .base (.int i), kit_ty (by decide +kernel), _, rfl, iteT ?_⟩
    exact ⟨_, rfl, _, _, _, _, false, rfl, .ty "bool", .base (.int i), kit_ty (by decide +kernel), _, rfl, q⟩
def spBet : Sp := fun vs H Q _ => ∃ i l u : Int, vs = [.int i, .int l, .int u] ∧ l ≤ i ∧ i ≤ u ∧ Q (.bl true) H
theorem ok_is_between (bt : Bt mg) (a : At K mg "is_between" s_is_between ["value", "low", "high"]) (c_is_an_integer : Cl P w K mg base 1 "is_an_integer" spInt) : Cl P w K mg base 2 "is_between" spBet := by
  refine clG a sc_is_between (fun vs H Q E h => ?_) (fun f cdv A outer s H vs Q hg hr h => ?_)
  · obtain ⟨i, l, u, rfl, _⟩ := h
    rfl
  · obtain ⟨i, l, u, rfl, h1, h2, q⟩ := h
    refine ⟨_, (pss_one (ps_ret (pe_and (pe_cl c_is_an_integer hg hr (by decide) (by rfl) (pa_cons (pv 0) pa_nil)) (pe_one (pe_chain op_le op_le (pv 1) (pv 0) (pv 2)))))), ?_⟩
    refine ⟨_, rfl, _, rfl, _, rfl, iteT ?_⟩
    refine ⟨_, rfl, _, rfl, _, _, rfl, rfl, true, congrArg V.bl (decide_eq_true h1), iteT ⟨_, rfl, _, _, rfl, rfl, ?_⟩⟩
    show Q (.bl (decide (i ≤ u))) H
    rw [decide_eq_true h2]
    exact q
def spCode : Sp := fun vs H Q _ => ∃ c : Str, vs = [.str c] ∧ CodeOk c ∧ ∀ H', Same H H' → Q (.bl true) H'
theorem ok_is_code (bt : Bt mg) {tk1 tk2 : Tok} (m_MOST_SIGNS : mg "MOST_SIGNS" = some (.int 8 tk1)) (m_CODE_SIGNS : mg "CODE_SIGNS" = some (.str "abcdefghijklmnopqrstuvwxyz0123456789" tk2)) (a : At K mg "is_code" s_is_code ["value"]) : Cl P w K mg base 1 "is_code" spCode := by
  refine clG a sc_is_code (fun vs H Q E h => ?_) (fun f cdv A outer s H vs Q hg hr h => ?_)
  · obtain ⟨i, rfl, _⟩ := h
    rfl
  · obtain ⟨c, rfl, hc, q⟩ := h
    refine ⟨_, (pss_cons (ps_if (PW.pt (pw_or (pt_not (pt_val (pe_callB call_isi (by rfl) bt.m_isinstance (by decide +kernel) (pa_cons (pv 0) (pa_cons (pe_bltn (v := .ty "str") (by rfl) bt.m_str (by decide +kernel) rfl) pa_nil))))) (pw_or1 (pt_not (pt_chain op_le op_le pe_int (pe_callB call_len_str (by rfl) bt.m_len (by decide +kernel) (pa_cons (pv 0) pa_nil)) (pe_glob (v := .int 8) (by rfl) m_MOST_SIGNS ⟨_, rfl⟩)))))) (pss_one (ps_ret pe_bl)) pss_nil)
      (pss_one (ps_ret (pe_callB (cr_all rfl) (by rfl) bt.m_all (by decide +kernel) (pa_cons (pe_lc (own := [("sign", 1)]) (g := (gName 1)) (by rfl) sc_is_code.nd (pi_str (pv 0)) (blkOk_by (N := n_is_code) (sc := defScope s_is_code) (by decide +kernel)) (fun _ _ _ _ _ => (pg_name (i := 1) sc_is_code.nd rfl (Or.inl rfl))) (fun _ _ _ _ _ => pts_nil) (fun _ _ _ _ _ => (pe_cmpR op_in_sign (pv 1) (pe_glob (v := .str "abcdefghijklmnopqrstuvwxyz0123456789") (by rfl) m_CODE_SIGNS ⟨_, rfl⟩) rfl))) pa_nil))))), ?_⟩
    have e1 : (c.length : Int) = (c.cps.size : Int) := rfl
    have h1 := hc.1
    have h8 := hc.2.1
    refine ⟨_, rfl, _, _, _, _, true, rfl, .ty "str", .base (.str _), kit_ty (by decide +kernel), _, rfl, iteF ?_⟩
    refine ⟨_, rfl, c, rfl, (by rw [sizeLine_eq]; have : c.length = c.cps.size := rfl; omega), _, _, rfl, rfl, true, congrArg V.bl (decide_eq_true (by omega)), iteT ⟨_, _, rfl, rfl, true, congrArg V.bl (decide_eq_true (by omega)), ?_⟩⟩
    refine iteF ⟨_, rfl, c, rfl, fun L nL => lc_it (walk_str (z := c)) (fun i H' => H' = upd H L (.lst ((List.replicate i true).map V.bl))) rfl (fun _ _ _ _ => True.intro) (fun i x H2 H3 hi p y => ?_) (fun H2 p => ?_)⟩
    · obtain ⟨rfl, d, hd, rfl⟩ := y
      subst p
      have hm : d ∈ signs.cps.toList := hc.2.2 d (by rw [Array.mem_toList_iff]; exact Array.mem_of_getElem? hd)
      refine ⟨rfl, ⟨_, rfl, d, signs, rfl, rfl, _, upd_same, ?_, ?_⟩⟩
      · rw [List.length_map, List.length_replicate]; exact small1000 (by omega)
      · show upd (upd H L _) L (.lst (_ ++ [V.bl (decide (d ∈ signs.cps.toList))])) = _
        rw [decide_eq_true hm, upd_upd, List.replicate_succ', List.map_append]; rfl
    · subst p
      refine ⟨L, _, rfl, SqL.of upd_same, ?_⟩
      rw [allTrue]
      exact q _ (same_upd nL)
def spCA : Sp := fun vs H Q _ => ∃ (a : Addr) (w : Str) (y : V), vs = [.ref a] ∧ H a = some (.tup [.str w, y]) ∧ ((w = ("code" : String) ∧ ∃ c, y = .str c ∧ CodeOk c ∧ ∀ H', Same H H' → Q (.bl true) H') ∨ (w ≠ (("code" : String) : Str) ∧ Q (.bl false) H))
theorem ok_is_code_action (bt : Bt mg) (a : At K mg "is_code_action" s_is_code_action ["action"]) (c_is_code : Cl P w K mg base 1 "is_code" spCode) : Cl P w K mg base 2 "is_code_action" spCA := by
  refine clG a sc_is_code_action (fun vs H Q E h => ?_) (fun f cdv A outer s H vs Q hg hr h => ?_)
  · obtain ⟨a, w, y, rfl, _⟩ := h
    rfl
  · obtain ⟨a, w, y, rfl, ha, h⟩ := h
    refine ⟨_, (pss_cons (ps_asg (pv 0) (pg_tup rfl (pgs_cons (pg_name (i := 1) sc_is_code_action.nd rfl (Or.inl rfl)) (pgs_cons (pg_name (i := 2) sc_is_code_action.nd rfl (Or.inl rfl)) pgs_nil))))
      (pss_one (ps_ret (pe_and (pe_callB call_isi (by rfl) bt.m_isinstance (by decide +kernel) (pa_cons (pv 1) (pa_cons (pe_bltn (v := .ty "str") (by rfl) bt.m_str (by decide +kernel) rfl) pa_nil))) (pe_and (pe_cmpR op_eq (pv 1) pe_str (nomark _)) (pe_one (pe_cl c_is_code hg hr (by decide) (by rfl) (pa_cons (pv 2) pa_nil)))))))), ?_⟩
    refine ⟨_, rfl, a, _, rfl, SqT.of ha, rfl, _, _, rfl, _, _, rfl, rfl, ?_⟩
    refine ⟨_, rfl, _, _, _, _, true, rfl, .ty "str", .base (.str _), kit_ty (by decide +kernel), _, rfl, iteT ?_⟩
    rcases h with ⟨rfl, c, rfl, hc, q⟩ | ⟨hn, q⟩
    · exact ⟨_, rfl, rfl, true, rfl, iteT ⟨_, rfl, c, rfl, hc, q⟩⟩
    · refine ⟨_, rfl, rfl, false, ?_, iteF q⟩
      exact congrArg V.bl (decide_eq_false fun z => hn (V.str.inj z))
def spLA (K : PySem.W.Frag) : Sp := fun vs H Q _ => ∃ (a g : Addr) (w : Str) (ws : List Str) (j n : Int), vs = [.ref a, .ref g, .int n] ∧ H a = some (.tup [.str w, .int j]) ∧ SqT K H g (ws.map V.str) ∧ w ∈ ws ∧ 1 ≤ j ∧ j ≤ n - 1 ∧ Q (.bl true) H
theorem flat_strs : ∀ ns : List Str, (ns.map V.str).all flatV = true
  | [] => rfl
  | n :: ns => by
    show (flatV (.str n) && (ns.map V.str).all flatV) = true
    rw [flat_strs ns]
    rfl
theorem ok_is_layer_action (bt : Bt mg) (a : At K mg "is_layer_action" s_is_layer_action ["action", "words", "layer_count"]) (c_is_between : Cl P w K mg base 2 "is_between" spBet) : Cl P w K mg base 3 "is_layer_action" (spLA K) := by
  refine clG a sc_is_layer_action (fun vs H Q E h => ?_) (fun f cdv A outer s H vs Q hg hr h => ?_)
  · obtain ⟨a, g, w, ws, j, n, rfl, _⟩ := h
    rfl
  · obtain ⟨a, g, w, ws, j, n, rfl, ha, hw, hm, h1, h2, q⟩ := h
    refine ⟨_, (pss_cons (ps_asg (pv 0) (pg_tup rfl (pgs_cons (pg_name (i := 3) sc_is_layer_action.nd rfl (Or.inl rfl)) (pgs_cons (pg_name (i := 4) sc_is_layer_action.nd rfl (Or.inl rfl)) pgs_nil))))
      (pss_one (ps_ret (pe_and (pe_callB call_isi (by rfl) bt.m_isinstance (by decide +kernel) (pa_cons (pv 3) (pa_cons (pe_bltn (v := .ty "str") (by rfl) bt.m_str (by decide +kernel) rfl) pa_nil))) (pe_and (pe_cmpR op_in_seq (pv 3) (pv 1) (by rfl)) (pe_one (pe_cl c_is_between hg hr (by decide) (by rfl) (pa_cons (pv 4) (pa_cons pe_int (pa_cons (pe_op op_sub (pv 2) pe_int) pa_nil)))))))))), ?_⟩
    refine ⟨_, rfl, a, _, rfl, SqT.of ha, rfl, _, _, rfl, _, _, rfl, rfl, ?_⟩
    refine ⟨_, rfl, _, _, _, _, true, rfl, .ty "str", .base (.str _), kit_ty (by decide +kernel), _, rfl, iteT ?_⟩
    refine ⟨_, rfl, _, rfl, g, _, rfl, .inr hw, rfl, flat_strs ws, true, ?_, iteT ?_⟩
    · show V.bl (inV (.str w) (ws.map V.str)) = _
      rw [inv_str, decide_eq_true hm]
    · exact ⟨_, rfl, _, rfl, _, _, rfl, rfl, j, 1, n - 1, rfl, h1, h2, q⟩
def spHold : Sp := fun vs H Q _ => ∃ (a : Addr) (n : Int), vs = [.ref a, .int n] ∧ ((∃ c, H a = some (.tup [.str "code", .str c]) ∧ CodeOk c) ∨ (∃ j, H a = some (.tup [.str "layer", .int j]) ∧ 1 ≤ j ∧ j ≤ n - 1)) ∧ ∀ H', Same H H' → Q (.bl true) H'
theorem ok_is_hold (bt : Bt mg) (a : At K mg "is_hold" s_is_hold ["value", "layer_count"]) (c_is_code_action : Cl P w K mg base 2 "is_code_action" spCA) (c_is_layer_action : Cl P w K mg base 3 "is_layer_action" (spLA K)) : Cl P w K mg base 4 "is_hold" spHold := by
  refine clG a sc_is_hold (fun vs H Q E h => ?_) (fun f cdv A outer s H vs Q hg hr h => ?_)
  · obtain ⟨a, n, rfl, _⟩ := h
    rfl
  · obtain ⟨a, n, rfl, h, q⟩ := h
    refine ⟨_, (pss_cons (ps_if (PW.pt (pw_or (pt_not (pt_val (pe_callB call_isi (by rfl) bt.m_isinstance (by decide +kernel) (pa_cons (pv 0) (pa_cons (pe_bltn (v := .ty "tuple") (by rfl) bt.m_tuple (by decide +kernel) rfl) pa_nil))))) (pw_or1 (pt_cmpR op_ne (pe_callB call_len_seq (by rfl) bt.m_len (by decide +kernel) (pa_cons (pv 0) pa_nil)) pe_int (nomark _))))) (pss_one (ps_ret pe_bl)) pss_nil)
      (pss_one (ps_ret (pe_or (pe_cl c_is_code_action hg hr (by decide) (by rfl) (pa_cons (pv 0) pa_nil)) (pe_one (pe_cl c_is_layer_action hg hr (by decide) (by rfl) (pa_cons (pv 0) (pa_cons (pe_tup (pa_cons pe_str pa_nil)) (pa_cons (pv 1) pa_nil))))))))), ?_⟩
    rcases h with ⟨c, ha, hc⟩ | ⟨j, ha, h1, h2⟩
    · refine ⟨_, rfl, _, _, _, _, true, rfl, .ty "tuple", .base (.tup ha), kit_ty (by decide +kernel), _, rfl, iteF ?_⟩
      refine ⟨_, rfl, a, _, rfl, .inr (SqT.of ha), rfl, _, rfl, iteF ?_⟩
      exact ⟨_, rfl, a, _, _, rfl, ha, .inl ⟨rfl, c, rfl, hc, fun H' s' => ⟨true, rfl, iteT (q H' s')⟩⟩⟩
    · refine ⟨_, rfl, _, _, _, _, true, rfl, .ty "tuple", .base (.tup ha), kit_ty (by decide +kernel), _, rfl, iteF ?_⟩
      refine ⟨_, rfl, a, _, rfl, .inr (SqT.of ha), rfl, _, rfl, iteF ?_⟩
      refine ⟨_, rfl, a, _, _, rfl, ha, .inr ⟨by decide +kernel, false, rfl, iteF ?_⟩⟩
      refine ⟨_, rfl, (by show 1 ≤ sizeLine; decide), fun p np => ?_⟩
      exact ⟨_, rfl, a, p, _, ["layer"], j, n, rfl, (same_upd np) _ _ ha, SqT.of upd_same, List.mem_singleton.mpr rfl, h1, h2, q _ (same_upd np)⟩
end
end K26

set_option Elab.async false
set_option linter.all false
set_option maxRecDepth 100000
set_option maxHeartbeats 4000000
namespace K26
open PySem PySem.Spec PyProof.Rows L2 Gd Rm La Cb
section
variable {P : Program} {w : World} {K : PySem.W.Frag} {mg : Str → Option Value} {base : Heap}
def spDA : Sp := fun vs H Q _ => ∃ (a b : Addr) (c r : Str) (t n : Int), vs = [.ref a, .int n] ∧ H a = some (.tup [.str "dual", .str c, .ref b, .int t, .str r]) ∧ CodeOk c ∧ ((∃ d, H b = some (.tup [.str "code", .str d]) ∧ CodeOk d) ∨ (∃ j, H b = some (.tup [.str "layer", .int j]) ∧ 1 ≤ j ∧ j ≤ n - 1)) ∧
  1 ≤ t ∧ t ≤ 1000000000 ∧ r ∈ rules ∧ ∀ H', Same H H' → Q (.bl true) H'
theorem ok_is_dual_action (bt : Bt mg) {tk : Tok} {g_RULES : Addr} (m_GREATEST_TIME : mg "GREATEST_TIME" = some (.int 1000000000 tk)) (m_RULES : mg "RULES" = some (.ref g_RULES)) (t_RULES : ∀ H, SqT K H g_RULES (rules.map V.str)) (a : At K mg "is_dual_action" s_is_dual_action ["action", "layer_count"])
    (c_is_code : Cl P w K mg base 1 "is_code" spCode) (c_is_hold : Cl P w K mg base 4 "is_hold" spHold) (c_is_between : Cl P w K mg base 2 "is_between" spBet) : Cl P w K mg base 5 "is_dual_action" spDA := by
  refine clG a sc_is_dual_action (fun vs H Q E h => ?_) (fun f cdv A outer s H vs Q hg hr h => ?_)
  · obtain ⟨a, b, c, r, t, n, rfl, _⟩ := h
    rfl
  · obtain ⟨a, b, c, r, t, n, rfl, ha, hc, hb, h1, h2, hr', q⟩ := h
    refine ⟨_, (pss_cons (ps_asg (pv 0) (pg_tup rfl (pgs_cons (pg_name (i := 2) sc_is_dual_action.nd rfl (Or.inl rfl)) (pgs_cons (pg_name (i := 3) sc_is_dual_action.nd rfl (Or.inl rfl)) (pgs_cons (pg_name (i := 4) sc_is_dual_action.nd rfl (Or.inl rfl)) (pgs_cons (pg_name (i := 5) sc_is_dual_action.nd rfl (Or.inl rfl)) (pgs_cons (pg_name (i := 6) sc_is_dual_action.nd rfl (Or.inl rfl)) pgs_nil)))))))
      (pss_cons (ps_if (PW.pt (pw_or (pt_not (pt_val (pe_callB call_isi (by rfl) bt.m_isinstance (by decide +kernel) (pa_cons (pv 2) (pa_cons (pe_bltn (v := .ty "str") (by rfl) bt.m_str (by decide +kernel) rfl) pa_nil))))) (pw_or1 (pt_cmpR op_ne (pv 2) pe_str (nomark _))))) (pss_one (ps_ret pe_bl)) pss_nil)
      (pss_cons (ps_if (PW.pt (pw_or (pt_not (pt_val (pe_cl c_is_code hg hr (by decide) (by rfl) (pa_cons (pv 3) pa_nil)))) (pw_or1 (pt_not (pt_val (pe_cl c_is_hold hg hr (by decide) (by rfl) (pa_cons (pv 4) (pa_cons (pv 1) pa_nil)))))))) (pss_one (ps_ret pe_bl)) pss_nil)
      (pss_one (ps_ret (pe_and (pe_cl c_is_between hg hr (by decide) (by rfl) (pa_cons (pv 5) (pa_cons pe_int (pa_cons (pe_glob (v := .int 1000000000) (by rfl) m_GREATEST_TIME ⟨_, rfl⟩) pa_nil)))) (pe_and (pe_callB call_isi (by rfl) bt.m_isinstance (by decide +kernel) (pa_cons (pv 6) (pa_cons (pe_bltn (v := .ty "str") (by rfl) bt.m_str (by decide +kernel) rfl) pa_nil))) (pe_one (pe_cmpR op_in_seq (pv 6) (pe_glob (v := .ref g_RULES) (by rfl) m_RULES rfl) (by rfl)))))))))), ?_⟩
    refine ⟨_, rfl, a, _, rfl, SqT.of ha, rfl, _, _, rfl, _, _, rfl, _, _, rfl, _, _, rfl, _, _, rfl, rfl, ?_⟩
    refine ⟨_, rfl, _, _, _, _, true, rfl, .ty "str", .base (.str _), kit_ty (by decide +kernel), _, rfl, iteF ?_⟩
    refine ⟨_, rfl, rfl, _, rfl, iteF ?_⟩
    refine ⟨_, rfl, c, rfl, hc, fun H1 s1 => ⟨_, rfl, iteF ?_⟩⟩
    refine ⟨_, rfl, _, rfl, b, n, rfl, ?_, fun H2 s2 => ⟨_, rfl, iteF ?_⟩⟩
    · rcases hb with ⟨d, e, k⟩ | ⟨j, e, k⟩
      · exact .inl ⟨d, s1 _ _ e, k⟩
      · exact .inr ⟨j, s1 _ _ e, k⟩
    · refine ⟨_, rfl, t, 1, 1000000000, rfl, h1, h2, true, rfl, iteT ?_⟩
      refine ⟨_, rfl, _, _, _, _, true, rfl, .ty "str", .base (.str _), kit_ty (by decide +kernel), _, rfl, iteT ?_⟩
      refine ⟨_, rfl, g_RULES, _, rfl, .inr (t_RULES _), rfl, flat_strs _, ?_⟩
      show Q (.bl (inV (.str r) (rules.map V.str))) H2
      rw [inv_str, decide_eq_true hr']
      exact q _ (s1.trans s2)
def spStand : Sp := fun vs H Q _ => ∃ (v : V) (i n : Int) (x : Actn), vs = [v, .int i, .int n] ∧ ActV H x v ∧ ActOk n i x ∧ ∀ H', Same H H' → Q (.bl true) H'
theorem ok_can_stand (bt : Bt mg) {g_LAYER_WORDS : Addr} (m_LAYER_WORDS : mg "LAYER_WORDS" = some (.ref g_LAYER_WORDS)) (t_LAYER_WORDS : ∀ H, SqT K H g_LAYER_WORDS (layWords.map V.str)) (a : At K mg "can_stand" s_can_stand ["action", "layer", "layer_count"])
    (c_is_code_action : Cl P w K mg base 2 "is_code_action" spCA) (c_is_layer_action : Cl P w K mg base 3 "is_layer_action" (spLA K)) (c_is_dual_action : Cl P w K mg base 5 "is_dual_action" spDA) : Cl P w K mg base 6 "can_stand" spStand := by
  refine clG a sc_can_stand (fun vs H Q E h => ?_) (fun f cdv A outer s H vs Q hg hr h => ?_)
  · obtain ⟨v, i, n, x, rfl, _⟩ := h
    rfl
  · obtain ⟨v, i, n, x, rfl, hv, hx, q⟩ := h
    refine ⟨_, (pss_cons (ps_if (pt_val (pe_callB call_isi (by rfl) bt.m_isinstance (by decide +kernel) (pa_cons (pv 0) (pa_cons (pe_bltn (v := .ty "str") (by rfl) bt.m_str (by decide +kernel) rfl) pa_nil)))) (pss_one (ps_ret (pe_or (pe_cmpR (op_eqD hr.units) (pv 0) pe_str (nomark _)) (pe_one (pe_and (pe_cmpR (op_eqD hr.units) (pv 0) pe_str (nomark _)) (pe_one (pe_cmpR op_gt (pv 1) pe_int (nomark _)))))))) pss_nil)
      (pss_cons (ps_if (pt_not (pt_val (pe_callB call_isi (by rfl) bt.m_isinstance (by decide +kernel) (pa_cons (pv 0) (pa_cons (pe_bltn (v := .ty "tuple") (by rfl) bt.m_tuple (by decide +kernel) rfl) pa_nil))))) (pss_one (ps_ret pe_bl)) pss_nil)
      (pss_cons (ps_if (pt_cmpR op_eq (pe_callB call_len_seq (by rfl) bt.m_len (by decide +kernel) (pa_cons (pv 0) pa_nil)) pe_int (nomark _)) (pss_one (ps_ret (pe_or (pe_cl c_is_code_action hg hr (by decide) (by rfl) (pa_cons (pv 0) pa_nil)) (pe_one (pe_cl c_is_layer_action hg hr (by decide) (by rfl) (pa_cons (pv 0) (pa_cons (pe_glob (v := .ref g_LAYER_WORDS) (by rfl) m_LAYER_WORDS rfl) (pa_cons (pv 2) pa_nil)))))))) pss_nil)
      (pss_one (ps_ret (pe_and (pe_cmpR op_eq (pe_callB call_len_seq (by rfl) bt.m_len (by decide +kernel) (pa_cons (pv 0) pa_nil)) pe_int (nomark _)) (pe_one (pe_cl c_is_dual_action hg hr (by decide) (by rfl) (pa_cons (pv 0) (pa_cons (pv 2) pa_nil)))))))))), ?_⟩
    cases x with
    | none =>
      cases hv
      refine ⟨_, rfl, _, _, _, _, true, rfl, .ty "str", .base (.str _), kit_ty (by decide +kernel), _, rfl, iteT ?_⟩
      exact ⟨_, rfl, _, _, .str _, .str _, by decide +kernel, by decide +kernel, true, congrArg V.bl (by decide +kernel), iteT (q _ (Same.refl _))⟩
    | thr =>
      cases hv
      have h0 : 0 < i := hx
      refine ⟨_, rfl, _, _, _, _, true, rfl, .ty "str", .base (.str _), kit_ty (by decide +kernel), _, rfl, iteT ?_⟩
      refine ⟨_, rfl, _, _, .str _, .str _, by decide +kernel, by decide +kernel, false, congrArg V.bl (by decide +kernel), iteF ?_⟩
      refine ⟨_, rfl, _, _, .str _, .str _, by decide +kernel, by decide +kernel, true, congrArg V.bl (by decide +kernel), iteT ⟨_, rfl, _, _, rfl, rfl, ?_⟩⟩
      show Q (.bl (decide (0 < i))) H
      rw [decide_eq_true h0]
      exact q _ (Same.refl _)
    | code c =>
      obtain ⟨a, rfl, ha⟩ := hv
      refine ⟨_, rfl, _, _, _, _, false, rfl, .ty "str", .base (.tup ha), kit_ty (by decide +kernel), _, rfl, iteF ?_⟩
      refine ⟨_, rfl, _, _, _, _, true, rfl, .ty "tuple", .base (.tup ha), kit_ty (by decide +kernel), _, rfl, iteF ?_⟩
      refine ⟨_, rfl, a, _, rfl, .inr (SqT.of ha), rfl, _, rfl, iteT ?_⟩
      exact ⟨_, rfl, a, _, _, rfl, ha, .inl ⟨rfl, c, rfl, hx, fun H' s' => ⟨true, rfl, iteT (q H' s')⟩⟩⟩
    | lay w j =>
      obtain ⟨a, rfl, ha⟩ := hv
      obtain ⟨x1, x2, x3⟩ := hx
      refine ⟨_, rfl, _, _, _, _, false, rfl, .ty "str", .base (.tup ha), kit_ty (by decide +kernel), _, rfl, iteF ?_⟩
      refine ⟨_, rfl, _, _, _, _, true, rfl, .ty "tuple", .base (.tup ha), kit_ty (by decide +kernel), _, rfl, iteF ?_⟩
      refine ⟨_, rfl, a, _, rfl, .inr (SqT.of ha), rfl, _, rfl, iteT ?_⟩
      have hn : w ≠ (("code" : String) : Str) := by
        rintro rfl
        revert x1
        decide +kernel
      exact ⟨_, rfl, a, _, _, rfl, ha, .inr ⟨hn, false, rfl, iteF ⟨_, rfl, _, rfl, a, g_LAYER_WORDS, w, layWords, j, n, rfl, ha, t_LAYER_WORDS _, x1, x2, x3, q _ (Same.refl _)⟩⟩⟩
    | dualC c d t r =>
      obtain ⟨a, b, rfl, ha, hb⟩ := hv
      obtain ⟨x1, x2, ⟨x3, x4⟩, x5⟩ := hx
      refine ⟨_, rfl, _, _, _, _, false, rfl, .ty "str", .base (.tup ha), kit_ty (by decide +kernel), _, rfl, iteF ?_⟩
      refine ⟨_, rfl, _, _, _, _, true, rfl, .ty "tuple", .base (.tup ha), kit_ty (by decide +kernel), _, rfl, iteF ?_⟩
      refine ⟨_, rfl, a, _, rfl, .inr (SqT.of ha), rfl, _, rfl, iteF ?_⟩
      refine ⟨_, rfl, a, _, rfl, .inr (SqT.of ha), rfl, true, rfl, iteT ?_⟩
      exact ⟨_, rfl, _, rfl, a, b, c, r, t, n, rfl, ha, x1, .inl ⟨d, hb, x2⟩, x3, x4, x5, q⟩
    | dualL c j t r =>
      obtain ⟨a, b, rfl, ha, hb⟩ := hv
      obtain ⟨x1, ⟨x2, x2'⟩, ⟨x3, x4⟩, x5⟩ := hx
      refine ⟨_, rfl, _, _, _, _, false, rfl, .ty "str", .base (.tup ha), kit_ty (by decide +kernel), _, rfl, iteF ?_⟩
      refine ⟨_, rfl, _, _, _, _, true, rfl, .ty "tuple", .base (.tup ha), kit_ty (by decide +kernel), _, rfl, iteF ?_⟩
      refine ⟨_, rfl, a, _, rfl, .inr (SqT.of ha), rfl, _, rfl, iteF ?_⟩
      refine ⟨_, rfl, a, _, rfl, .inr (SqT.of ha), rfl, true, rfl, iteT ?_⟩
      exact ⟨_, rfl, _, rfl, a, b, c, r, t, n, rfl, ha, x1, .inr ⟨j, hb, x2, x2'⟩, x3, x4, x5, q⟩
def spForm : Sp := fun vs H Q _ => ∃ (c : Addr) (L : List (List Actn)) (m : Nat), vs = [.ref c] ∧ Lay H c L ∧ LayOk L m ∧ ∀ H', Same H H' → Q (.bl true) H'
theorem ok_has_layout_form (bt : Bt mg) {tk1 tk2 : Tok} (m_MOST_LAYERS : mg "MOST_LAYERS" = some (.int 6 tk1)) (m_MOST_KEYS : mg "MOST_KEYS" = some (.int 16 tk2)) (a : At K mg "has_layout_form" s_has_layout_form ["value"]) : Cl P w K mg base 1 "has_layout_form" spForm := by
  refine clG a sc_has_layout_form (fun vs H Q E h => ?_) (fun f cdv A outer s H vs Q hg hr h => ?_)
  · obtain ⟨c, L, m, rfl, _⟩ := h
    rfl
  · obtain ⟨c, L, m, rfl, hL, hO, q⟩ := h
    refine ⟨_, (pss_cons (ps_if (PW.pt (pw_or (pt_not (pt_val (pe_callB call_isi (by rfl) bt.m_isinstance (by decide +kernel) (pa_cons (pv 0) (pa_cons (pe_bltn (v := .ty "list") (by rfl) bt.m_list (by decide +kernel) rfl) pa_nil))))) (pw_or1 (pt_not (pt_chain op_le op_le pe_int (pe_callB call_len_seq (by rfl) bt.m_len (by decide +kernel) (pa_cons (pv 0) pa_nil)) (pe_glob (v := .int 6) (by rfl) m_MOST_LAYERS ⟨_, rfl⟩)))))) (pss_one (ps_ret pe_bl)) pss_nil)
      (pss_cons (ps_if (pt_not (pt_val (pe_callB (cr_all rfl) (by rfl) bt.m_all (by decide +kernel) (pa_cons (pe_lc (own := [("actions", 2)]) (g := (gName 2)) (by rfl) sc_has_layout_form.nd (pi_list (pv 0)) (blkOk_by (N := n_has_layout_form) (sc := defScope s_has_layout_form) (by decide +kernel)) (fun _ _ _ _ _ => (pg_name (i := 2) sc_has_layout_form.nd rfl (Or.inl rfl))) (fun _ _ _ _ _ => pts_nil) (fun _ _ _ _ _ => (pe_callB (r := rIsi K) call_isi (by rfl) bt.m_isinstance (by decide +kernel) (pa_cons (pv 2) (pa_cons (pe_bltn (v := .ty "list") (by rfl) bt.m_list (by decide +kernel) rfl) pa_nil))))) pa_nil)))) (pss_one (ps_ret pe_bl)) pss_nil)
      (pss_cons (ps_set (i := 1) sc_has_layout_form.nd rfl (Or.inr rfl) (pe_callB call_len_seq (by rfl) bt.m_len (by decide +kernel) (pa_cons (pe_ix ix_list (pv 0) pe_int (fun _ _ => rfl)) pa_nil)))
      (pss_one (ps_ret (pe_and (pe_chain op_le op_le pe_int (pv 1) (pe_glob (v := .int 16) (by rfl) m_MOST_KEYS ⟨_, rfl⟩)) (pe_one (pe_callB (cr_all rfl) (by rfl) bt.m_all (by decide +kernel) (pa_cons (pe_lc (own := [("actions", 2)]) (g := (gName 2)) (by rfl) sc_has_layout_form.nd (pi_list (pv 0)) (blkOk_by (N := n_has_layout_form) (sc := defScope s_has_layout_form) (by decide +kernel)) (fun _ _ _ _ _ => (pg_name (i := 2) sc_has_layout_form.nd rfl (Or.inl rfl))) (fun _ _ _ _ _ => pts_nil) (fun _ _ _ _ _ => (pe_cmpR op_eq (pe_callB (r := rLenB K) call_len_seq (by rfl) bt.m_len (by decide +kernel) (pa_cons (pv 2) pa_nil)) (pv 1) (nomark _)))) pa_nil))))))))), ?_⟩
    obtain ⟨rs, hc, hR⟩ := hL
    have hlen : (rs.map V.ref).length = L.length := by rw [List.length_map]; exact hR.1
    have n1 := hO.n1
    have n6 := hO.n6
    refine ⟨_, rfl, _, _, _, _, true, rfl, .ty "list", .base (.lst hc), kit_ty (by decide +kernel), _, rfl, iteF ?_⟩
    refine ⟨_, rfl, c, _, rfl, .inl (SqL.of hc), _, _, rfl, rfl, true, congrArg V.bl (decide_eq_true (by omega)), iteT ⟨_, _, rfl, rfl, true, congrArg V.bl (decide_eq_true (by omega)), iteF ?_⟩⟩
    refine ⟨_, rfl, c, rfl, ⟨_, SqL.of hc⟩, fun M nM => lc_it (walk_list (xs := rs.map V.ref)) (fun i H' => H' = upd H M (.lst ((List.replicate i true).map V.bl))) rfl
      (fun i H' _ p => by subst p; exact SqL.of ((same_upd nM) _ _ hc)) (fun i x H2 H3 hi p y => ?_) (fun H2 p => ?_)⟩
    · obtain ⟨rfl, hx⟩ := y
      subst p
      have hi' : i < L.length := by omega
      obtain ⟨r, hr1, hr2⟩ := hR.at_ hi'
      have ex : V.ref r = x := Option.some.inj ((get_map_ref hr1).symm.trans hx)
      subst ex
      obtain ⟨vs, hv, _⟩ := hr2
      refine ⟨rfl, ⟨_, rfl, _, _, _, _, true, rfl, .ty "list", .base (.lst ((same_upd nM) _ _ hv)), kit_ty (by decide +kernel), _, upd_same, ?_, ?_⟩⟩
      · rw [List.length_map, List.length_replicate]; exact small1000 (by omega)
      · rw [upd_upd, List.replicate_succ', List.map_append]; rfl
    · subst p
      refine ⟨M, _, rfl, SqL.of upd_same, _, rfl, ?_⟩
      rw [allTrue]
      have s1 : Same H (upd H M (.lst ((List.replicate (rs.map V.ref).length true).map V.bl))) := same_upd nM
      generalize upd H M (.lst ((List.replicate (rs.map V.ref).length true).map V.bl)) = H1 at s1
      have hc1 := s1 _ _ hc
      have hR1 := hR.same s1
      obtain ⟨r0, e0, vs0, hv0, ha0⟩ := hR1.at_ (i := 0) (by omega)
      have hm0 : vs0.length = m := by rw [ha0.1]; exact hO.len _ (List.getElem_mem _)
      have m1 := hO.m1
      have m16 := hO.m16
      refine iteF ⟨_, rfl, c, _, 0, .ref r0, rfl, rfl, SqL.of hc1, atI_nat (j := 0) (get_map_ref e0), ?_⟩
      refine ⟨r0, _, rfl, .inl (SqL.of hv0), ?_⟩
      rw [hm0]
      refine ⟨_, rfl, _, _, rfl, rfl, true, congrArg V.bl (decide_eq_true (by omega)), iteT ⟨_, _, rfl, rfl, true, congrArg V.bl (decide_eq_true (by omega)), iteT ?_⟩⟩
      refine ⟨_, rfl, c, rfl, ⟨_, SqL.of hc1⟩, fun N nN => lc_it (walk_list (xs := rs.map V.ref)) (fun i H' => H' = upd H1 N (.lst ((List.replicate i true).map V.bl))) rfl
        (fun i H' _ p => by subst p; exact SqL.of ((same_upd nN) _ _ hc1)) (fun i x H2 H3 hi p y => ?_) (fun H2 p => ?_)⟩
      · obtain ⟨rfl, hx⟩ := y
        subst p
        have hi' : i < L.length := by omega
        obtain ⟨r, hr1, vs, hv, ha⟩ := hR1.at_ hi'
        have ex : V.ref r = x := Option.some.inj ((get_map_ref hr1).symm.trans hx)
        subst ex
        have hm : vs.length = m := by rw [ha.1]; exact hO.len _ (List.getElem_mem _)
        refine ⟨rfl, ⟨_, rfl, r, _, rfl, .inl (SqL.of ((same_upd nN) _ _ hv)), _, rfl, rfl, _, upd_same, ?_, ?_⟩⟩
        · rw [List.length_map, List.length_replicate]; exact small1000 (by omega)
        · rw [hm, decide_eq_true rfl, upd_upd, List.replicate_succ', List.map_append]; rfl
      · subst p
        refine ⟨N, _, rfl, SqL.of upd_same, ?_⟩
        rw [allTrue]
        exact q _ (s1.trans (same_upd nN))
def spCheckL : Sp := fun vs H Q _ => ∃ (c : Addr) (L : List (List Actn)) (m : Nat), vs = [.ref c] ∧ Lay H c L ∧ LayOk L m ∧ ∀ H', Same H H' → Q .non H'
theorem ok_check_layout (bt : Bt mg) (a : At K mg "check_layout" s_check_layout ["value"]) (c_has_layout_form : Cl P w K mg base 1 "has_layout_form" spForm) (c_can_stand : Cl P w K mg base 6 "can_stand" spStand) : Cl P w K mg base 7 "check_layout" spCheckL := by
  refine clG a sc_check_layout (fun vs H Q E h => ?_) (fun f cdv A outer s H vs Q hg hr h => ?_)
  · obtain ⟨c, L, m, rfl, _⟩ := h
    rfl
  · obtain ⟨c, L, m, rfl, hL, hO, q⟩ := h
    refine ⟨_, (pss_cons (ps_if (pt_not (pt_val (pe_cl c_has_layout_form hg hr (by decide) (by rfl) (pa_cons (pv 0) pa_nil)))) pss_never pss_nil)
      (pss_one (ps_for PassesOwn.never rfl (pi_enum (by rfl) bt.m_enumerate (pa_cons (pv 0) pa_nil)) (pg_tup rfl (pgs_cons (pg_name (i := 1) sc_check_layout.nd rfl (Or.inl rfl)) (pgs_cons (pg_name (i := 2) sc_check_layout.nd rfl (Or.inl rfl)) pgs_nil))) (pss_one (ps_for PassesOwn.never rfl (pi_enum (by rfl) bt.m_enumerate (pa_cons (pv 2) pa_nil)) (pg_tup rfl (pgs_cons (pg_name (i := 3) sc_check_layout.nd rfl (Or.inl rfl)) (pgs_cons (pg_name (i := 4) sc_check_layout.nd rfl (Or.inl rfl)) pgs_nil))) (pss_one (ps_if (pt_not (pt_val (pe_cl c_can_stand hg hr (by decide) (by rfl) (pa_cons (pv 4) (pa_cons (pv 1) (pa_cons (pe_callB call_len_seq (by rfl) bt.m_len (by decide +kernel) (pa_cons (pv 0) pa_nil)) pa_nil)))))) pss_never pss_nil))))))), ?_⟩
    refine ⟨_, rfl, c, L, m, rfl, hL, hO, fun H1 s1 => ⟨_, rfl, iteF ?_⟩⟩
    obtain ⟨rs, hc, hR⟩ := hL.same s1
    have hlen : (rs.map V.ref).length = L.length := by rw [List.length_map]; exact hR.1
    refine ⟨_, rfl, c, _, rfl, SqL.of hc, for_it (walk_enum (xs := rs.map V.ref)) (fun i σ H' => Same H1 H' ∧ ∃ y1 y2 y3 y4, σ = [some (.ref c), y1, y2, y3, y4]) ⟨Same.refl _, _, _, _, _, rfl⟩ (fun _ _ H' _ p => SqL.of (p.1 _ _ hc)) (fun i x σ H2 H3 hi p y => ?_) (fun σ H2 p => ?_)⟩
    · obtain ⟨s2, y1, y2, y3, y4, rfl⟩ := p
      obtain ⟨T, u, v, rfl, nT, rfl, e1, e2⟩ := y
      have hi' : i < L.length := by omega
      obtain ⟨r, hr1, vs, hv, ha⟩ := hR.at_ hi'
      have e2' : v = .ref r := Option.some.inj ((show (rs.map V.ref)[i]? = some v from e2).symm.trans (get_map_ref hr1))
      subst e2'
      have e1' : u = .int (i : Nat) := (Option.some.inj e1).symm
      subst e1'
      have s3 : Same H1 (upd H2 T (.tup [.int (i : Nat), .ref r])) := s2.trans (same_upd nT)
      refine ⟨T, _, rfl, SqT.of upd_same, rfl, _, _, rfl, _, _, rfl, rfl, ?_⟩
      have hv3 := s3 _ _ hv
      have hvl := ha.1
      generalize upd H2 T (.tup [.int (i : Nat), .ref r]) = H4 at s3 hv3
      refine ⟨_, rfl, r, _, rfl, SqL.of hv3, for_it (walk_enum (xs := vs)) (fun j σ H' => Same H4 H' ∧ ∃ y3 y4, σ = [some (.ref c), some (.int (i : Nat)), some (.ref r), y3, y4]) ⟨Same.refl _, _, _, rfl⟩ (fun _ _ H' _ p => SqL.of (p.1 _ _ hv3)) (fun j x σ H5 H6 hj p y => ?_) (fun σ H5 p => ?_)⟩
      · obtain ⟨s5, y3, y4, rfl⟩ := p
        obtain ⟨T2, u2, v2, rfl, nT2, rfl, e3, e4⟩ := y
        have hj' : j < L[i].length := by omega
        obtain ⟨v', hv', hav⟩ := ha.at_ hj'
        have e4' : v2 = v' := Option.some.inj ((show vs[j]? = some v2 from e4).symm.trans hv')
        subst e4'
        have e3' : u2 = .int (j : Nat) := (Option.some.inj e3).symm
        subst e3'
        have s6 : Same H1 (upd H5 T2 (.tup [.int (j : Nat), v2])) := (s3.trans s5).trans (same_upd nT2)
        refine ⟨T2, _, rfl, SqT.of upd_same, rfl, _, _, rfl, _, _, rfl, rfl, ?_⟩
        refine ⟨_, rfl, _, rfl, _, rfl, c, _, rfl, .inl (SqL.of (s6 _ _ hc)), v2, i, L.length, L[i][j], ?_, hav.keep (Tk.of s6), hO.ok i _ (List.getElem?_eq_getElem hi') _ (List.getElem_mem _), fun H7 s7 => ⟨_, rfl, iteF ⟨(s5.trans (same_upd nT2)).trans s7, _, _, rfl⟩⟩⟩
        rw [hlen]
        rfl
      · obtain ⟨s5, y3, y4, rfl⟩ := p
        exact ⟨s3.trans s5, _, _, _, _, rfl⟩
    · exact q _ (s1.trans p.1)
end
end K26

set_option Elab.async false
set_option linter.all false
set_option maxRecDepth 100000
set_option maxHeartbeats 8000000
namespace K26
open PySem PySem.Spec PyProof.Rows L2 Gd Rm La Cb
theorem allT (m : Nat) : (List.replicate m true).all id = true := allTrue m
def ksV (ks : List Int) : List V := ks.map V.int
theorem at_int {ns : List Int} {i : Nat} (h : i < ns.length) : (ns.map V.int)[i]? = some (.int ns[i]) := get_map_int (List.getElem?_eq_getElem h)
section
variable {P : Program} {w : World} {K : PySem.W.Frag} {mg : Str → Option Value} {base : Heap}
def spAsc : Sp := fun vs H Q _ => ∃ (a : Addr) (ks : List Int) (m : Int), vs = [.ref a, .int m] ∧ H a = some (.tup (ks.map V.int)) ∧ ks.Pairwise (· < ·) ∧ (ks.length = 2 ∨ ks.length = 3) ∧ (∀ k ∈ ks, 0 ≤ k ∧ k < m) ∧ ∀ H', Same H H' → Q (.bl true) H'
theorem ok_are_ascending (bt : Bt mg) (a : At K mg "are_ascending" s_are_ascending ["values", "many"]) (c_is_between : Cl P w K mg base 2 "is_between" spBet) : Cl P w K mg base 3 "are_ascending" spAsc := by
  refine clG a sc_are_ascending (fun vs H Q E h => ?_) (fun f cdv A outer s H vs Q hg hr h => ?_)
  · obtain ⟨a, ks, m, rfl, _⟩ := h
    rfl
  · obtain ⟨a, ks, m, rfl, ha, hasc, hlen, hkey, q⟩ := h
    refine ⟨_, (pss_cons (ps_if (pt_not (pt_val (pe_callB (cr_all rfl) (by rfl) bt.m_all (by decide +kernel) (pa_cons (pe_lc (own := [("value", 3)]) (g := (gName 3)) (by rfl) sc_are_ascending.nd (pi_tup (pv 0)) (blkOk_by (N := n_are_ascending) (sc := defScope s_are_ascending) (by decide +kernel)) (fun _ _ _ _ _ => (pg_name (i := 3) sc_are_ascending.nd rfl (Or.inl rfl))) (fun _ _ _ _ _ => pts_nil) (fun _ _ _ _ _ => (pe_cl c_is_between hg hr (by decide) (by rfl) (pa_cons (pv 3) (pa_cons pe_int (pa_cons (pe_op op_sub (pv 1) pe_int) pa_nil)))))) pa_nil)))) (pss_one (ps_ret pe_bl)) pss_nil)
      (pss_one (ps_ret (pe_callB (cr_all rfl) (by rfl) bt.m_all (by decide +kernel) (pa_cons (pe_lc (own := [("at", 2)]) (g := (gName 2)) (by rfl) sc_are_ascending.nd (pi_range2 (by rfl) bt.m_range (pa_cons pe_int (pa_cons (pe_callB call_len_seq (by rfl) bt.m_len (by decide +kernel) (pa_cons (pv 0) pa_nil)) pa_nil))) (blkOk_by (N := n_are_ascending) (sc := defScope s_are_ascending) (by decide +kernel)) (fun _ _ _ _ _ => (pg_name (i := 2) sc_are_ascending.nd rfl (Or.inl rfl))) (fun _ _ _ _ _ => pts_nil) (fun _ _ _ _ _ => (pe_cmpR op_lt (pe_ix (r := rIxT K) ix_tup (pv 0) (pe_op op_sub (pv 2) pe_int) (fun _ _ => rfl)) (pe_ix (r := rIxT K) ix_tup (pv 0) (pv 2) (fun _ _ => rfl)) (nomark _)))) pa_nil))))), ?_⟩
    have hl : (ks.map V.int).length = ks.length := List.length_map _
    refine ⟨_, rfl, a, rfl, ⟨_, SqT.of ha⟩, fun M nM => lc_it (walk_tup (xs := ks.map V.int)) (fun i H' => Same H H' ∧ H' M = some (.lst ((List.replicate i true).map V.bl))) ⟨same_upd nM, upd_same⟩ (fun i H' _ p => SqT.of (p.1 _ _ ha)) (fun i x Hx H3 hi p y => ?_) (fun H3 p => ?_)⟩
    · obtain ⟨rfl, e2⟩ := y
      have hi' : i < ks.length := by rw [hl] at hi; exact hi
      have ex : V.int ks[i] = x := Option.some.inj ((at_int hi').symm.trans e2)
      subst ex
      have hk := hkey ks[i] (List.getElem_mem hi')
      refine ⟨rfl, _, rfl, _, rfl, _, _, rfl, rfl, _, _, _, rfl, hk.1, by omega, _, p.2, ?_, Same.off p.1 nM off_upd, ?_⟩
      · rw [List.length_map, List.length_replicate]; exact small1000 (by omega)
      · rw [upd_same, List.replicate_succ', List.map_append]; rfl
    · refine ⟨M, _, rfl, SqL.of p.2, _, rfl, ?_⟩
      rw [allT]
      refine iteF ?_
      have ha3 := p.1 _ _ ha
      refine ⟨_, rfl, a, _, rfl, .inr (SqT.of ha3), 1, _, rfl, ⟨by decide, by decide, by rw [hl]; omega, by rw [hl]; omega⟩, fun M2 nM2 => lc_it walk_range (fun i H' => Same H3 H' ∧ H' M2 = some (.lst ((List.replicate i true).map V.bl))) ⟨same_upd nM2, upd_same⟩ (fun _ _ _ _ => True.intro) (fun i x Hx H5 hi p5 y => ?_) (fun H5 p5 => ?_)⟩
      · obtain ⟨rfl, rfl⟩ := y
        rw [hl] at hi
        have hi' : i + 1 < ks.length := by omega
        have ha5 := p5.1 _ _ ha3
        have e1 : (1 : Int) + (i : Int) - 1 = ((i : Nat) : Int) := by omega
        have e2 : (1 : Int) + (i : Int) = ((i + 1 : Nat) : Int) := by omega
        have hlt : ks[i] < ks[i + 1] := List.pairwise_iff_getElem.mp hasc i (i + 1) (by omega) hi' (by omega)
        refine ⟨rfl, _, rfl, _, rfl, _, _, rfl, rfl, a, _, _, _, rfl, rfl, SqT.of ha5, by rw [e1]; exact atI_nat (at_int (by omega)), _, rfl, _, rfl, a, _, _, _, rfl, rfl, SqT.of ha5, by rw [e2]; exact atI_nat (at_int hi'), _, _, rfl, rfl, _, p5.2, ?_, Same.off p5.1 nM2 off_upd, ?_⟩
        · rw [List.length_map, List.length_replicate]; exact small1000 (by omega)
        · rw [upd_same, List.replicate_succ', List.map_append]
          show some (HO.lst (_ ++ [V.bl (decide (ks[i] < ks[i + 1]))])) = _
          rw [decide_eq_true hlt]; rfl
      · refine ⟨M2, _, rfl, SqL.of p5.2, ?_⟩
        rw [allT]
        exact q _ (p.1.trans p5.1)
def spKeys : Sp := fun vs H Q _ => ∃ (a : Addr) (ks : List Int) (m : Int), vs = [.ref a, .int m] ∧ H a = some (.tup (ks.map V.int)) ∧ ks.Pairwise (· < ·) ∧ (ks.length = 2 ∨ ks.length = 3) ∧ (∀ k ∈ ks, 0 ≤ k ∧ k < m) ∧ ∀ H', Same H H' → Q (.bl true) H'
theorem ok_are_combo_keys (bt : Bt mg) (a : At K mg "are_combo_keys" s_are_combo_keys ["value", "many"]) (c_are_ascending : Cl P w K mg base 3 "are_ascending" spAsc) : Cl P w K mg base 4 "are_combo_keys" spKeys := by
  refine clG a sc_are_combo_keys (fun vs H Q E h => ?_) (fun f cdv A outer s H vs Q hg hr h => ?_)
  · obtain ⟨a, ks, m, rfl, _⟩ := h
    rfl
  · obtain ⟨a, ks, m, rfl, ha, hasc, hlen, hkey, q⟩ := h
    refine ⟨_, (pss_one (ps_ret (pe_and (pe_callB call_isi (by rfl) bt.m_isinstance (by decide +kernel) (pa_cons (pv 0) (pa_cons (pe_bltn (v := .ty "tuple") (by rfl) bt.m_tuple (by decide +kernel) rfl) pa_nil))) (pe_and (pe_chain op_le op_le pe_int (pe_callB call_len_seq (by rfl) bt.m_len (by decide +kernel) (pa_cons (pv 0) pa_nil)) pe_int) (pe_one (pe_cl c_are_ascending hg hr (by decide) (by rfl) (pa_cons (pv 0) (pa_cons (pv 1) pa_nil)))))))), ?_⟩
    have hl : (ks.map V.int).length = ks.length := List.length_map _
    refine ⟨_, rfl, _, _, _, _, true, rfl, .ty "tuple", .base (.tup ha), kit_ty (by decide +kernel), _, rfl, iteT ?_⟩
    refine ⟨_, rfl, a, _, rfl, .inr (SqT.of ha), _, _, rfl, rfl, true, congrArg V.bl (decide_eq_true (by rw [hl]; omega)), iteT ⟨_, _, rfl, rfl, true, congrArg V.bl (decide_eq_true (by rw [hl]; omega)), iteT ?_⟩⟩
    exact ⟨_, rfl, _, rfl, a, ks, m, rfl, ha, hasc, hlen, hkey, q⟩
def spCombo : Sp := fun vs H Q _ => ∃ (v : V) (cb : Cmb) (m : Int), vs = [v, .int m] ∧ CmbV H cb v ∧ CmbOk m cb ∧ ∀ H', Same H H' → Q (.bl true) H'
theorem ok_is_combo (bt : Bt mg) {tk : Tok} (m_GREATEST_COMBO_TIME : mg "GREATEST_COMBO_TIME" = some (.int 1000000000 tk)) (a : At K mg "is_combo" s_is_combo ["value", "many"]) (c_is_between : Cl P w K mg base 2 "is_between" spBet) (c_is_code : Cl P w K mg base 1 "is_code" spCode) (c_are_combo_keys : Cl P w K mg base 4 "are_combo_keys" spKeys) : Cl P w K mg base 5 "is_combo" spCombo := by
  refine clG a sc_is_combo (fun vs H Q E h => ?_) (fun f cdv A outer s H vs Q hg hr h => ?_)
  · obtain ⟨a, ks, m, rfl, _⟩ := h
    rfl
  · obtain ⟨v, cb, m, rfl, ⟨a, k, rfl, ha, hk⟩, ok, q⟩ := h
    refine ⟨_, (pss_cons (ps_if (PW.pt (pw_or (pt_not (pt_val (pe_callB call_isi (by rfl) bt.m_isinstance (by decide +kernel) (pa_cons (pv 0) (pa_cons (pe_bltn (v := .ty "tuple") (by rfl) bt.m_tuple (by decide +kernel) rfl) pa_nil))))) (pw_or1 (pt_cmpR op_ne (pe_callB call_len_seq (by rfl) bt.m_len (by decide +kernel) (pa_cons (pv 0) pa_nil)) pe_int (nomark _))))) (pss_one (ps_ret pe_bl)) pss_nil)
      (pss_cons (ps_asg (pv 0) (pg_tup rfl (pgs_cons (pg_name (i := 2) sc_is_combo.nd rfl (Or.inl rfl)) (pgs_cons (pg_name (i := 3) sc_is_combo.nd rfl (Or.inl rfl)) (pgs_cons (pg_name (i := 4) sc_is_combo.nd rfl (Or.inl rfl)) pgs_nil)))))
      (pss_cons (ps_if (pt_not (pt_val (pe_cl c_are_combo_keys hg hr (by decide) (by rfl) (pa_cons (pv 2) (pa_cons (pv 1) pa_nil))))) (pss_one (ps_ret pe_bl)) pss_nil)
      (pss_one (ps_ret (pe_and (pe_cl c_is_between hg hr (by decide) (by rfl) (pa_cons (pv 3) (pa_cons pe_int (pa_cons (pe_glob (v := .int 1000000000) (by rfl) m_GREATEST_COMBO_TIME ⟨_, rfl⟩) pa_nil)))) (pe_one (pe_cl c_is_code hg hr (by decide) (by rfl) (pa_cons (pv 4) pa_nil))))))))), ?_⟩
    refine ⟨_, rfl, _, _, _, _, true, rfl, .ty "tuple", .base (.tup ha), kit_ty (by decide +kernel), _, rfl, iteF ?_⟩
    refine ⟨_, rfl, a, _, rfl, .inr (SqT.of ha), rfl, _, rfl, iteF ?_⟩
    refine ⟨_, rfl, a, _, rfl, SqT.of ha, rfl, _, _, rfl, _, _, rfl, _, _, rfl, rfl, ?_⟩
    refine ⟨_, rfl, _, rfl, k, cb.ks, m, rfl, hk, ok.asc, ok.len, ok.key, fun H1 s1 => ⟨_, rfl, iteF ?_⟩⟩
    refine ⟨_, rfl, _, _, _, rfl, ok.time.1, ok.time.2, _, rfl, iteT ?_⟩
    exact ⟨_, rfl, cb.c, rfl, ok.code, fun H2 s2 => q _ (s1.trans s2)⟩
def spCCombos : Sp := fun vs H Q _ => ∃ (c : Addr) (cbs : List Cmb) (m : Int), vs = [.ref c, .int m] ∧ Cmbs H c cbs ∧ CbsOk m cbs ∧ ∀ H', Same H H' → Q .non H'
theorem ok_check_combos (bt : Bt mg) {tk : Tok} (m_MOST_COMBOS : mg "MOST_COMBOS" = some (.int 6 tk)) (a : At K mg "check_combos" s_check_combos ["value", "many"]) (c_is_combo : Cl P w K mg base 5 "is_combo" spCombo) : Cl P w K mg base 6 "check_combos" spCCombos := by
  refine clG a sc_check_combos (fun vs H Q E h => ?_) (fun f cdv A outer s H vs Q hg hr h => ?_)
  · obtain ⟨a, ks, m, rfl, _⟩ := h
    rfl
  · obtain ⟨c, cbs, m, rfl, ⟨vs, hc, hC⟩, ok, q⟩ := h
    have few := ok.few
    have hvl := hC.1
    refine ⟨_, (pss_cons (ps_if (PW.pt (pw_or (pt_not (pt_val (pe_callB call_isi (by rfl) bt.m_isinstance (by decide +kernel) (pa_cons (pv 0) (pa_cons (pe_bltn (v := .ty "list") (by rfl) bt.m_list (by decide +kernel) rfl) pa_nil))))) (pw_or1 (pt_cmpR op_gt (pe_callB call_len_seq (by rfl) bt.m_len (by decide +kernel) (pa_cons (pv 0) pa_nil)) (pe_glob (v := .int 6) (by rfl) m_MOST_COMBOS ⟨_, rfl⟩) (nomark _))))) pss_never pss_nil)
      (pss_cons (ps_set (i := 2) sc_check_combos.nd rfl (Or.inl rfl) (pe_lst pa_nil))
      (pss_one (ps_for PassesOwn.never rfl (pi_enum (by rfl) bt.m_enumerate (pa_cons (pv 0) pa_nil)) (pg_tup rfl (pgs_cons (pg_name (i := 3) sc_check_combos.nd rfl (Or.inl rfl)) (pgs_cons (pg_name (i := 4) sc_check_combos.nd rfl (Or.inl rfl)) pgs_nil))) (pss_cons (ps_if (PW.pt (pw_or (pt_not (pt_val (pe_cl c_is_combo hg hr (by decide) (by rfl) (pa_cons (pv 4) (pa_cons (pv 1) pa_nil))))) (pw_or1 (pt_cmpR (op_inD (room65 hr)) (pe_ix ix_tup (pv 4) pe_int (fun _ _ => rfl)) (pv 2) (by rfl))))) pss_never pss_nil)
      (pss_one (ps_expr (pe_bm PySem.F.plainAttrs_list PySem.F.slot_list_append PySem.F.type_list_append mt_append (pv 2) (pa_cons (pe_ix ix_tup (pv 4) pe_int (fun _ _ => rfl)) pa_nil))))))))), ?_⟩
    refine ⟨_, rfl, _, _, _, _, true, rfl, .ty "list", .base (.lst hc), kit_ty (by decide +kernel), _, rfl, iteF ?_⟩
    refine ⟨_, rfl, c, _, rfl, .inl (SqL.of hc), _, _, rfl, rfl, false, congrArg V.bl (decide_eq_false (by omega)), iteF ?_⟩
    refine ⟨Nat.zero_le _, fun Kn nKn => ?_⟩
    have sK := same_upd (o := .lst []) nKn
    refine ⟨_, rfl, c, _, rfl, SqL.of (sK _ _ hc), for_it (walk_enum (xs := vs)) (fun i σ H' => ∃ y3 y4, σ = [some (.ref c), some (.int m), some (.ref Kn), y3, y4] ∧ Same H H' ∧ Lst ksV H' Kn ((cbs.take i).map Cmb.ks))
      ⟨_, _, rfl, sK, [], upd_same, Tups.nil⟩ (fun i H' _ _ p => by obtain ⟨_, _, _, s, _⟩ := p; exact SqL.of (s _ _ hc)) (fun i x σ H1 H2 hi p y => ?_) (fun σ H1 p => ?_)⟩
    · obtain ⟨y3, y4, rfl, s1, hL⟩ := p
      obtain ⟨T, u, v, rfl, nT, rfl, e1, e2⟩ := y
      have hi' : i < cbs.length := by omega
      obtain ⟨ad, k, hv, ha, hk⟩ := Cmbs.at_ hC hi'
      have e1' : u = .int (i : Nat) := (Option.some.inj e1).symm
      subst e1'
      have e2' : v = .ref ad := Option.some.inj ((show vs[i]? = some v from e2).symm.trans hv)
      subst e2'
      have sT := same_upd (o := .tup [.int (i : Nat), .ref ad]) nT
      have s2 := s1.trans sT
      have hcb : cbs[i]? = some cbs[i] := List.getElem?_eq_getElem hi'
      have ok1 := ok.all cbs[i] (List.getElem_mem hi')
      refine ⟨T, _, rfl, SqT.of upd_same, rfl, _, _, rfl, _, _, rfl, rfl, ?_⟩
      refine ⟨_, rfl, _, rfl, .ref ad, cbs[i], m, rfl, ⟨ad, k, rfl, s2 _ _ ha, s2 _ _ hk⟩, ok1, fun H3 s3 => ⟨_, rfl, iteF ?_⟩⟩
      have s4 := s2.trans s3
      have hL4 := hL.same (sT.trans s3)
      obtain ⟨as, hKn, hT⟩ := id hL4
      have hal := hT.1
      have ha4 := s4 _ _ ha
      have hk4 := s4 _ _ hk
      refine ⟨_, rfl, ad, _, _, _, rfl, rfl, SqT.of ha4, atI_nat (j := 0) rfl, _, rfl, ksD cbs[i].ks, ((cbs.take i).map Cmb.ks).map ksD, .tup (SqT.of hk4) (dpInts _), .lst (SqL.of hKn) (dpAll_of (fun a e h => .tup (SqT.of h) (dpInts e)) as _ hT), shaped_ks _, shaped_kss _, _, rfl, ?_⟩
      rw [any_ks]
      have hnot : ¬ cbs[i].ks ∈ (cbs.take i).map Cmb.ks := fun hm => by
        obtain ⟨j, hj⟩ := List.getElem?_of_mem hm
        have hji : j < i := by
          have := (List.getElem?_eq_some_iff.mp hj).1
          rw [List.length_map, List.length_take] at this; omega
        rw [List.getElem?_map, List.getElem?_take_of_lt hji] at hj
        have h1 : (cbs.map Cmb.ks)[j]? = some cbs[i].ks := by rw [List.getElem?_map]; exact hj
        have h2 : (cbs.map Cmb.ks)[i]? = some cbs[i].ks := by rw [List.getElem?_map, hcb]; rfl
        have := (List.getElem?_inj (by rw [List.length_map]; omega) ok.apart).mp (h1.trans h2.symm)
        omega
      rw [decide_eq_false hnot]
      refine iteF ?_
      refine ⟨_, rfl, .inl ⟨rfl, _, SqL.of hKn⟩, _, rfl, ad, _, _, _, rfl, rfl, SqT.of ha4, atI_nat (j := 0) rfl, Kn, _, _, rfl, rfl, hKn, ?_, _, _, rfl, Same.off s4 nKn off_upd, as ++ [k], ?_, ?_⟩
      · rw [List.length_map, hal, List.length_map, List.length_take]; exact small1000 (by omega)
      · rw [upd_same, List.map_append]; rfl
      · rw [List.take_add_one, hcb, List.map_append]
        refine Tups.snoc (hT.off hKn off_upd) ?_
        rw [upd_ne (ne_of hk4 hKn (by intro z; cases z))]
        exact hk4
    · obtain ⟨y3, y4, rfl, s1, hL⟩ := p
      exact q _ s1
end
end K26

set_option Elab.async false
set_option linter.all false
set_option maxRecDepth 100000
set_option maxHeartbeats 8000000
namespace K26
open PySem PySem.Spec PyProof.Rows L2 Gd Rm La Cb
def nI (n : Nat) : List Int := (List.range n).map fun k : Nat => (k : Int)
theorem rgV_nI (n : Nat) : rgV 0 (n : Int) = (nI n).map V.int := by
  unfold rgV nI
  rw [List.map_map, show ((n : Int) - 0).toNat = n by omega]
  refine List.map_congr_left fun k _ => ?_
  show V.int (0 + (k : Int)) = V.int (k : Int)
  rw [Int.zero_add]
theorem nI_nd (n : Nat) : (nI n).Nodup := by
  unfold nI
  rw [List.Nodup, List.pairwise_map]
  exact List.nodup_range.imp fun h e => h (by omega)
theorem nI_mem {n : Nat} {k : Int} : k ∈ nI n ↔ 0 ≤ k ∧ k < n := by
  unfold nI
  rw [List.mem_map]
  constructor
  · rintro ⟨j, hj, rfl⟩
    have := List.mem_range.mp hj
    omega
  · rintro ⟨h1, h2⟩
    exact ⟨k.toNat, List.mem_range.mpr (by omega), by omega⟩
theorem nI_len (n : Nat) : (nI n).length = n := by unfold nI; rw [List.length_map, List.length_range]
theorem eraseMap {α β : Type} (f : α → β) : ∀ (ns : List α) (j : Nat), (ns.map f).eraseIdx j = (ns.eraseIdx j).map f
  | [], _ => rfl
  | _ :: _, 0 => rfl
  | n :: ns, j + 1 => by
    show f n :: (ns.map f).eraseIdx j = f n :: (ns.eraseIdx j).map f
    rw [eraseMap f ns j]
theorem small30 {n : Nat} (h : n ≤ 1000) : n ≤ sizeLine := Nat.le_of_lt (small1000 h)
def codes8 : List Str := ["q", "w", "a", "zz9", "enter", "bksp", "a1b2c3d", "00000000"]
theorem codes_ok : ∀ c ∈ codes8, CodeOk c := by decide +kernel
theorem getC {d : Int} (h0 : 0 ≤ d) (h1 : d < 8) : ∃ c, atI (codes8.map V.str) d = some (.str c) ∧ CodeOk c := by
  have hd : d.toNat < codes8.length := by show d.toNat < 8; omega
  refine ⟨codes8[d.toNat], ?_, codes_ok _ (List.getElem_mem hd)⟩
  refine at_of (j := d.toNat) (by omega) ?_
  rw [List.getElem?_map, List.getElem?_eq_getElem hd]
  rfl
/-- other than at these two, nothing changes -/
def Off2 (r c : Addr) (H H' : Hp) : Prop := ∀ b o, H b = some o → b ≠ r → b ≠ c → H' b = some o
theorem Off2.same {r c : Addr} {H H1 H2 : Hp} (a : Off2 r c H H1) (s : Same H1 H2) : Off2 r c H H2 := fun b o h x y => s _ _ (a b o h x y)
theorem Off2.off {r c : Addr} {H H1 H2 : Hp} (a : Off2 r c H H1) (s : Off r H1 H2) : Off2 r c H H2 := fun b o h x y => s _ _ (a b o h x y) x
theorem Off2.new {r c p : Addr} {o : HO} {H H1 : Hp} (a : Off2 r c H H1) (n : H p = none) : Off2 r c H (upd H1 p o) := fun b x h y z => by rw [upd_ne (ne_of_none h n)]; exact a b x h y z
theorem Off2.at_ {r c : Addr} {o : HO} {H H1 : Hp} (a : Off2 r c H H1) : Off2 r c H (upd H1 c o) := fun b x h y z => by rw [upd_ne z]; exact a b x h y z
section
variable {P : Program} {w : World} {K : PySem.W.Frag} {mg : Str → Option Value} {base : Heap}
def spLCombos : Sp := fun vs H Q _ => ∃ (r : Addr) (k m : Nat) (top : Int), vs = [.ref r, .int (m : Int), .int top] ∧ Reel H r k ∧ k + 1000 < most ∧ 1 ≤ m ∧ m ≤ 10 ∧ 1 ≤ top ∧ top ≤ 10 ^ 9 ∧
  ∀ H' p cbs, Off r H H' → H p = none → Reel H' r (k + 100) → Cmbs H' p cbs → CbsOk m cbs → Q (.ref p) H'
theorem ok__law_combos (bt : Bt mg) (a : At K mg "_law_combos" s__law_combos ["_law_spring_here", "_law_many", "_law_top"]) (c__law_take : Cl P w K mg base 1 "_law_take" spDraw) : Cl P w K mg base 2 "_law_combos" spLCombos := by
  refine clG a sc__law_combos (fun vs H Q E h => ?_) (fun f cdv A outer s H vs Q hg hr h => ?_)
  · obtain ⟨r, k, m, top, rfl, _⟩ := h
    rfl
  · obtain ⟨r, k, m, top, rfl, R, hk, hm1, hm2, t1, t2, q⟩ := h
    have hk' : k + 1000 < 1000000000 := hk
    have big : (10 : Int) ^ 40 > 10 ^ 10 := by decide
    refine ⟨_, (pss_cons (ps_set (i := 3) sc__law_combos.nd rfl (Or.inl rfl) (pe_lst pa_nil))
      (pss_cons (ps_for PassesOwn.never rfl (pi_range1 (by rfl) bt.m_range (pa_cons (pe_op op_mulW (pe_cl c__law_take hg hr (by decide) (by rfl) (pa_cons (pv 0) (pa_cons pe_int pa_nil))) (pe_callTy call_int1 (by rfl) bt.m_int (by decide +kernel) (pa_cons (pe_cmpR op_gt (pv 1) pe_int (nomark _)) pa_nil))) pa_nil)) (pg_name (i := 4) sc__law_combos.nd rfl (Or.inl rfl)) (pss_cons (ps_set (i := 5) sc__law_combos.nd rfl (Or.inr rfl) (pe_listRg rfl (by rfl) bt.m_list (prg_1 (by rfl) bt.m_range (pe_ix ix_list (pe_lst (pa_cons (pe_callB (call_min2 rfl) (by rfl) bt.m_min (by decide +kernel) (pa_cons (pv 1) (pa_cons pe_int pa_nil))) (pa_cons (pv 1) pa_nil))) (pe_cl c__law_take hg hr (by decide) (by rfl) (pa_cons (pv 0) (pa_cons pe_int pa_nil))) (fun _ _ => rfl)))))
      (pss_cons (ps_set (i := 6) sc__law_combos.nd rfl (Or.inl rfl) (pe_callB (call_min2 rfl) (by rfl) bt.m_min (by decide +kernel) (pa_cons (pe_callB call_len_seq (by rfl) bt.m_len (by decide +kernel) (pa_cons (pv 5) pa_nil)) (pa_cons (pe_op op_add pe_int (pe_cl c__law_take hg hr (by decide) (by rfl) (pa_cons (pv 0) (pa_cons pe_int pa_nil)))) pa_nil))))
      (pss_cons (ps_set (i := 7) sc__law_combos.nd rfl (Or.inl rfl) (pe_callTy call_tuple_of (by rfl) bt.m_tuple (by decide +kernel) (pa_cons (pe_callB cr_sortedI (by rfl) bt.m_sorted (by decide +kernel) (pa_cons (pe_lc (own := [("_law_part", 11)]) (g := (gName 11)) (by rfl) sc__law_combos.nd (pi_range1 (by rfl) bt.m_range (pa_cons (pv 6) pa_nil)) (blkOk_by (N := n__law_combos) (sc := defScope s__law_combos) (by decide +kernel)) (fun _ _ _ _ _ => (pg_name (i := 11) sc__law_combos.nd rfl (Or.inl rfl))) (fun _ _ _ _ _ => pts_nil) (fun _ _ _ _ _ => (pe_bmB (K0 := K) rfl PySem.F.plainAttrs_list PySem.F.slot_list_pop PySem.F.type_list_pop mt_popAt (pv 5) (pa_cons (pe_cl c__law_take hg hr (by decide) (by rfl) (pa_cons (pv 0) (pa_cons (pe_callB (r := rLenB K) call_len_seq (by rfl) bt.m_len (by decide +kernel) (pa_cons (pv 5) pa_nil)) pa_nil))) pa_nil)))) pa_nil)) pa_nil)))
      (pss_cons (ps_set (i := 8) sc__law_combos.nd rfl (Or.inl rfl) (pe_op op_add pe_int (pe_cl c__law_take hg hr (by decide) (by rfl) (pa_cons (pv 0) (pa_cons (pe_ix ix_list (pe_lst (pa_cons pe_int (pa_cons pe_int (pa_cons (pv 2) pa_nil)))) (pe_cl c__law_take hg hr (by decide) (by rfl) (pa_cons (pv 0) (pa_cons pe_int pa_nil))) (fun _ _ => rfl)) pa_nil)))))
      (pss_cons (ps_set (i := 9) sc__law_combos.nd rfl (Or.inl rfl) (pe_ix ix_list (pe_lst (pa_cons pe_str (pa_cons pe_str (pa_cons pe_str (pa_cons pe_str (pa_cons pe_str (pa_cons pe_str (pa_cons pe_str (pa_cons pe_str pa_nil))))))))) (pe_cl c__law_take hg hr (by decide) (by rfl) (pa_cons (pv 0) (pa_cons pe_int pa_nil))) (fun _ _ => rfl)))
      (pss_one (ps_if (pt_cmpR (op_notInD (room65 hr)) (pv 7) (pe_lc (own := [("_law_combo", 10)]) (g := (gName 10)) (by rfl) sc__law_combos.nd (pi_list (pv 3)) (blkOk_by (N := n__law_combos) (sc := defScope s__law_combos) (by decide +kernel)) (fun _ _ _ _ _ => (pg_name (i := 10) sc__law_combos.nd rfl (Or.inl rfl))) (fun _ _ _ _ _ => pts_nil) (fun _ _ _ _ _ => (pe_ix (r := rIxT K) ix_tup (pv 10) pe_int (fun _ _ => rfl)))) (by rfl)) (pss_one (ps_expr (pe_bm PySem.F.plainAttrs_list PySem.F.slot_list_append PySem.F.type_list_append mt_append (pv 3) (pa_cons (pe_tup (pa_cons (pv 7) (pa_cons (pv 8) (pa_cons (pv 9) pa_nil)))) pa_nil)))) pss_nil))))))))
      (pss_one (ps_ret (pv 3))))), ?_⟩
    refine ⟨Nat.zero_le _, fun F nF => ?_⟩
    have sF := same_upd (o := .lst []) nF
    have Fr : F ≠ r := R.new nF
    refine ⟨_, rfl, r, 7, k, rfl, by decide, by decide, by show k < 1000000000; omega, R.same sF, fun d1 H1 d10 d11 R1 o1 => ?_⟩
    refine ⟨_, rfl, _, _, rfl, rfl, .inr ⟨_, rfl, ?_⟩⟩
    have hb : ∀ b : Bool, (if b = true then (1 : Int) else 0) = 0 ∨ (if b = true then (1 : Int) else 0) = 1 := fun b => by cases b <;> decide
    refine ⟨_, _, rfl, rfl, wide_mul (a := 40) (b := 40) (by omega) (by have := hb (decide ((m : Int) > 1)); omega) (by decide) (by decide) (by decide), ?_⟩
    have hN : ∃ N : Nat, d1 * (if decide ((m : Int) > 1) = true then 1 else 0) = (N : Int) ∧ N ≤ 6 ∧ (0 < N → 2 ≤ m) := by
      by_cases z : (m : Int) > 1
      · refine ⟨d1.toNat, ?_, by omega, fun _ => by omega⟩
        rw [decide_eq_true z, if_pos rfl]; omega
      · refine ⟨0, ?_, by omega, fun h => by omega⟩
        rw [decide_eq_false z, if_neg (by decide)]; omega
    obtain ⟨N, eN, hN6, hN2⟩ := hN
    have hF1 := o1 _ _ (upd_same (a := F) (o := .lst [])) Fr
    have ob : Off r H H1 := (Off.of sF).trans o1
    refine ⟨_, rfl, by rw [eN]; omega, by rw [eN]; omega, ?_⟩
    rw [eN, Int.toNat_natCast]
    refine for_it walk_range (fun i σ H' => ∃ (y4 y5 y6 y7 y8 y9 y10 y11 : Option V) (cbs : List Cmb), σ = [some (.ref r), some (.int (m : Int)), some (.int top), some (.ref F), y4, y5, y6, y7, y8, y9, y10, y11] ∧ Off r H H' ∧ Reel H' r (k + 1 + 10 * i) ∧ Cmbs H' F cbs ∧ CbsOk m cbs ∧ cbs.length ≤ i)
      ⟨_, _, _, _, _, _, _, _, [], rfl, ob, R1, ⟨[], hF1, rfl, fun i v cb h => by simp at h⟩, CbsOk.nil _, Nat.le_refl _⟩ (fun _ _ _ _ _ => True.intro) (fun i x σ H2 H3 hi p y => ?_) (fun σ H2 p => ?_)
    · obtain ⟨y4, y5, y6, y7, y8, y9, y10, y11, cbs, rfl, o2, R2, hC2, ok, hcl⟩ := p
      obtain ⟨rfl, rfl⟩ := y
      have hm := hN2 (by omega)
      -- some
      refine ⟨_, rfl, _, _, rfl, ?_⟩
      refine ⟨_, rfl, (by show 2 ≤ sizeLine; decide), fun W1 nW1 => ?_⟩
      have mn : ∃ v : Nat, (if (4 : Int) < (m : Int) then (4 : Int) else (m : Int)) = (v : Int) ∧ 2 ≤ v ∧ v ≤ m := by
        by_cases z : (4 : Int) < (m : Int)
        · exact ⟨4, by rw [if_pos z]; rfl, by decide, by omega⟩
        · exact ⟨m, by rw [if_neg z], by omega, Nat.le_refl _⟩
      obtain ⟨mv, emv, mv1, mv2⟩ := mn
      rw [emv] at *
      have k1 := same_upd (o := .lst [.int (mv : Int), .int (m : Int)]) nW1
      refine ⟨_, rfl, r, 2, k + 1 + 10 * i, rfl, by decide, by decide, by show _ < 1000000000; omega, R2.same k1, fun d2 H4 d20 d21 R4 o4 => ?_⟩
      have W1r : W1 ≠ r := R2.new nW1
      have hW1 : H4 W1 = some (.lst (([(mv : Int), (m : Int)] : List Int).map V.int)) := o4 _ _ upd_same W1r
      obtain ⟨sv, asv, msv⟩ := getI (ns := ([(mv : Int), (m : Int)] : List Int)) d20 (by show d2 < 2; exact d21)
      obtain ⟨M, rfl, hM1, hM2⟩ : ∃ M : Nat, sv = (M : Int) ∧ 2 ≤ M ∧ M ≤ m := by
        have hmm := List.mem_of_getElem? msv
        simp only [List.mem_cons, List.mem_nil_iff, or_false] at hmm
        rcases hmm with rfl | rfl
        · exact ⟨mv, rfl, mv1, mv2⟩
        · exact ⟨m, rfl, hm, Nat.le_refl _⟩
      refine ⟨W1, _, d2, _, rfl, rfl, SqL.of hW1, asv, _, rfl, ⟨by omega, by omega, by omega, by omega, by omega⟩, fun Sm nSm => ?_⟩
      rw [rgV_nI]
      have k2 := same_upd (o := .lst ((nI M).map V.int)) nSm
      have Smr : Sm ≠ r := R4.new nSm
      have o24 : Off r _ H4 := (Off.of k1).trans o4
      have hC4 := hC2.go (R2.tk o24) (fun vs h => o24 _ _ h Fr)
      have hC5 := hC4.same k2
      have R5 := R4.same k2
      have oH5 := (o2.trans o24).sameTrans k2
      have nSmH : H Sm = none := R4.free (o2.trans o24) nSm
      have FS : F ≠ Sm := by
        obtain ⟨vs, hF4, _⟩ := id hC4
        exact ne_of_none hF4 nSm
      have hS5 := upd_same (H := H4) (a := Sm) (o := .lst ((nI M).map V.int))
      refine (fun (G : ∀ H5 : Hp, Reel H5 r (k + 1 + 10 * i + 1) → Cmbs H5 F cbs → Rm.Off r H H5 → H5 Sm = some (.lst ((nI M).map V.int)) → _) => G _ R5 hC5 oH5 hS5) (fun H5 R5 hC5 oH5 hS5 => ?_)
      -- size
      refine ⟨_, rfl, Sm, _, rfl, .inl (SqL.of hS5), ?_⟩
      refine ⟨_, rfl, r, 2, k + 1 + 10 * i + 1, rfl, by decide, by decide, by show _ < 1000000000; omega, R5, fun d3 H6 d30 d31 R6 o6 => ⟨_, _, rfl, rfl, _, _, rfl, ?_⟩⟩
      rw [List.length_map, nI_len]
      obtain ⟨sz, esz, sz1, sz2⟩ : ∃ sz : Nat, (if 2 + d3 < ((M : Nat) : Int) then 2 + d3 else ((M : Nat) : Int)) = (sz : Int) ∧ (sz = 2 ∨ sz = 3) ∧ sz ≤ M := by
        by_cases z : 2 + d3 < ((M : Nat) : Int)
        · refine ⟨(2 + d3).toNat, by rw [if_pos z]; omega, by omega, by omega⟩
        · refine ⟨M, by rw [if_neg z], by omega, Nat.le_refl _⟩
      rw [esz]
      have hS6 := o6 _ _ hS5 Smr
      have hC6 := hC5.go (R5.tk o6) (fun vs h => o6 _ _ h Fr)
      have oH6 := oH5.trans o6
      -- keys
      refine ⟨_, rfl, _, rfl, by omega, by omega, ?_⟩
      rw [Int.toNat_natCast]
      refine fun Pp nPp => lc_it walk_range (fun j H' => Off2 r Sm H6 H' ∧ Reel H' r (k + 1 + 10 * i + 2 + j) ∧ ∃ rem got : List Int, H' Sm = some (.lst (rem.map V.int)) ∧ H' Pp = some (.lst (got.map V.int)) ∧ rem.Nodup ∧ got.Nodup ∧ got.length = j ∧ rem.length + j = M ∧ (∀ x ∈ rem, 0 ≤ x ∧ x < (m : Int)) ∧ (∀ x ∈ got, (0 ≤ x ∧ x < (m : Int)) ∧ ¬ x ∈ rem))
        ⟨fun b o h _ _ => same_upd nPp _ _ h, R6.same (same_upd nPp), nI M, [], (same_upd nPp) _ _ hS6, upd_same, nI_nd M, List.nodup_nil, rfl, nI_len M, fun x hx => by have := nI_mem.mp hx; omega, fun x h => by simp at h⟩ (fun _ _ _ _ => True.intro) (fun j x H7 H8 hj p y => ?_) (fun H7 p => ?_)
      · obtain ⟨o7, R7, rem, got, hS7, hP7, nd1, nd2, hgl, hrl, hr1, hg1⟩ := p
        obtain ⟨rfl, rfl⟩ := y
        have PpS : Pp ≠ Sm := (ne_of_none hS6 nPp).symm
        have Ppr : Pp ≠ r := R6.new nPp
        refine ⟨rfl, _, rfl, .inl ⟨rfl, _, SqL.of hS7⟩, ?_⟩
        refine ⟨_, rfl, _, rfl, Sm, _, rfl, .inl (SqL.of hS7), r, _, k + 1 + 10 * i + 2 + j, rfl, by rw [List.length_map]; omega, by rw [List.length_map]; omega, by show _ < 1000000000; omega, R7, fun e H9 e0 e1 R9 o9 => ?_⟩
        rw [List.length_map] at e1
        have hS9 := o9 _ _ hS7 Smr
        have hP9 := o9 _ _ hP7 Ppr
        obtain ⟨ej, rfl⟩ := Int.eq_ofNat_of_zero_le e0
        have hej : ej < rem.length := by omega
        have hix := seqIndex_of (k := (ej : Int)) (n := (rem.map V.int).length) (by omega) (by rw [List.length_map]; omega)
        rw [Int.toNat_natCast] at hix
        have gx : rem[ej]? = some rem[ej] := List.getElem?_eq_getElem hej
        refine ⟨Sm, _, _, ej, .int rem[ej], rfl, rfl, hS9, by omega, by omega, hix, get_map_int gx, ?_⟩
        rw [eraseMap]
        have hP10 : upd H9 Sm (.lst ((rem.eraseIdx ej).map V.int)) Pp = some (.lst (got.map V.int)) := by rw [upd_ne PpS]; exact hP9
        refine ⟨_, hP10, by rw [List.length_map]; exact small1000 (by omega), ((o7.off o9).at_).new nPp, (R9.upd Smr).upd Ppr, rem.eraseIdx ej, got ++ [rem[ej]], by rw [upd_ne PpS.symm, upd_same], by rw [upd_same, List.map_append]; rfl, nd1.eraseIdx ej, nd_snoc nd2 (fun h => (hg1 _ h).2 (List.getElem_mem hej)), by rw [List.length_append, hgl]; rfl, by rw [List.length_eraseIdx, if_pos hej]; omega, fun x hx => hr1 x (List.mem_of_mem_eraseIdx hx), fun x hx => ?_⟩
        rcases List.mem_append.mp hx with h | h
        · exact ⟨(hg1 x h).1, fun z => (hg1 x h).2 (List.mem_of_mem_eraseIdx z)⟩
        · rw [List.mem_singleton.mp h]
          exact ⟨hr1 _ (List.getElem_mem hej), fun z => ((mem_eraseIdx nd1 gx _).mp z).1 rfl⟩
      · obtain ⟨o7, R7, rem, got, hS7, hP7, nd1, nd2, hgl, hrl, hr1, hg1⟩ := p
        refine ⟨Pp, got, rfl, SqL.of hP7, fun ks Sd hpk hok nSd => ?_⟩
        have k8 := same_upd (o := .lst (ks.map V.int)) nSd
        refine ⟨Sd, _, rfl, .inl ⟨SqL.of upd_same, fun Kt nKt => ?_⟩⟩
        have k9 := same_upd (o := .tup (ks.map V.int)) nKt
        have oH9 : Off r H (upd (upd H7 Sd (.lst (ks.map V.int))) Kt (.tup (ks.map V.int))) := fun b o h n => (k8.trans k9) _ _ (o7 _ _ (oH6 _ _ h n) n (ne_of_none h nSmH))
        have R9 := (R7.same k8).same k9
        have hC9 : Cmbs (upd (upd H7 Sd (.lst (ks.map V.int))) Kt (.tup (ks.map V.int))) F cbs := hC6.go (fun b xs h => (k8.trans k9) _ _ (o7 _ _ h (by
          obtain ⟨_, _, _, hr6, _⟩ := id R6
          exact ne_of h hr6 (by intro z; cases z)) (ne_of h hS6 (by intro z; cases z)))) (fun vs h => (k8.trans k9) _ _ (o7 _ _ h Fr FS))
        have hKt := upd_same (H := upd H7 Sd (.lst (ks.map V.int))) (a := Kt) (o := .tup (ks.map V.int))
        have kasc : ks.Pairwise (· < ·) := (hok.and (hpk.nodup_iff.mpr nd2)).imp fun h => by have := h.1; have := h.2; omega
        have klen : ks.length = 2 ∨ ks.length = 3 := by rw [hpk.length_eq, hgl]; exact sz1
        have kkey : ∀ x ∈ ks, 0 ≤ x ∧ x < (m : Int) := fun x hx => (hg1 x (hpk.mem_iff.mp hx)).1
        refine (fun (G : ∀ H9 : Hp, Reel H9 r (k + 1 + 10 * i + 5) → Cmbs H9 F cbs → Rm.Off r H H9 → H9 Kt = some (.tup (ks.map V.int)) → _) => G _ (R9.mono (by omega)) hC9 oH9 hKt) (fun H9 R9 hC9 oH9 hKt => ?_)
        -- time
        refine ⟨_, rfl, _, rfl, (by show 3 ≤ sizeLine; decide), fun W2 nW2 => ?_⟩
        have k10 := same_upd (o := .lst [.int 4, .int 12, .int top]) nW2
        refine ⟨_, rfl, r, 3, k + 1 + 10 * i + 5, rfl, by decide, by decide, by show _ < 1000000000; omega, R9.same k10, fun d4 H11 d40 d41 R11 o11 => ?_⟩
        have W2r : W2 ≠ r := R9.new nW2
        have hW2 : H11 W2 = some (.lst (([4, 12, top] : List Int).map V.int)) := o11 _ _ upd_same W2r
        obtain ⟨tv, atv, mtv⟩ := getI (ns := ([4, 12, top] : List Int)) d40 (by show d4 < 3; exact d41)
        have htv : 1 ≤ tv ∧ tv ≤ 10 ^ 9 := by
          have hmm := List.mem_of_getElem? mtv
          simp only [List.mem_cons, List.mem_nil_iff, or_false] at hmm
          omega
        refine ⟨W2, _, d4, _, rfl, rfl, SqL.of hW2, atv, r, tv, k + 1 + 10 * i + 6, rfl, by omega, by omega, by show _ < 1000000000; omega, R11, fun tt H12 tt0 tt1 R12 o12 => ⟨_, _, rfl, rfl, ?_⟩⟩
        -- code
        refine ⟨(by show 8 ≤ sizeLine; decide), fun W3 nW3 => ?_⟩
        have k13 := same_upd (o := .lst (codes8.map V.str)) nW3
        refine ⟨_, rfl, r, 8, k + 1 + 10 * i + 7, rfl, by decide, by decide, by show _ < 1000000000; omega, R12.same k13, fun d5 H14 d50 d51 R14 o14 => ?_⟩
        have W3r : W3 ≠ r := R12.new nW3
        have hW3 : H14 W3 = some (.lst (codes8.map V.str)) := o14 _ _ upd_same W3r
        obtain ⟨cc, acc, hcc⟩ := getC d50 d51
        refine ⟨W3, _, d5, _, rfl, rfl, SqL.of hW3, acc, ?_⟩
        have o914 : Off r H9 H14 := ((((Off.of k10).trans o11).trans o12).sameTrans k13).trans o14
        have tk914 := R9.tk o914
        have hC14 := hC9.go tk914 (fun vs h => o914 _ _ h Fr)
        have hKt14 := tk914 _ _ hKt
        have oH14 := oH9.trans o914
        obtain ⟨vs, hF14, hCv⟩ := id hC14
        have hvl := hCv.1
        -- not in
        refine ⟨_, rfl, _, rfl, F, rfl, ⟨_, SqL.of hF14⟩, fun Ky nKy => lc_it (walk_list (xs := vs)) (fun j H' => Same H14 H' ∧ Lst ksV H' Ky ((cbs.take j).map Cmb.ks)) ⟨same_upd nKy, [], upd_same, Tups.nil⟩ (fun j H' _ p => SqL.of (p.1 _ _ hF14)) (fun j v H15 H16 hj p y => ?_) (fun H15 p => ?_)⟩
        · obtain ⟨rfl, e2⟩ := y
          obtain ⟨p1, as, hKy, hT⟩ := p
          have hj' : j < cbs.length := by omega
          obtain ⟨ad, kk, hv, ha, hkk⟩ := Cmbs.at_ hCv hj'
          have e2' : v = .ref ad := Option.some.inj (e2.symm.trans hv)
          subst e2'
          have hal := hT.1
          refine ⟨rfl, _, rfl, ad, _, _, _, rfl, rfl, SqT.of (p1 _ _ ha), atI_nat (j := 0) rfl, _, hKy, ?_, Same.off p1 nKy off_upd, as ++ [kk], by rw [upd_same, List.map_append]; rfl, ?_⟩
          · rw [List.length_map, hal, List.length_map, List.length_take]; exact small1000 (by omega)
          · rw [List.take_add_one, List.getElem?_eq_getElem hj', List.map_append]
            refine Tups.snoc (hT.off hKy off_upd) ?_
            have := p1 _ _ hkk
            rw [upd_ne (ne_of this hKy (by intro z; cases z))]
            exact this
        · obtain ⟨p1, as, hKy, hT⟩ := p
          rw [hvl, List.take_length] at hT
          refine ⟨ksD ks, (cbs.map Cmb.ks).map ksD, .tup (SqT.of (p1 _ _ hKt14)) (dpInts _), .lst (SqL.of hKy) (dpAll_of (fun a e h => .tup (SqT.of h) (dpInts e)) as _ hT), shaped_ks _, shaped_kss _, _, rfl, ?_⟩
          rw [any_ks]
          have R15 := R14.same p1
          have hC15 := hC14.same p1
          have oH15 := oH14.sameTrans p1
          obtain ⟨vs5, hF15, hCv5⟩ := id hC15
          have hvl5 := hCv5.1
          refine ite2 (fun z => ?_) (fun z => ?_)
          · have zn : ¬ ks ∈ cbs.map Cmb.ks := fun h => by rw [decide_eq_true h] at z; cases z
            refine ⟨_, rfl, .inl ⟨rfl, _, SqL.of hF15⟩, _, rfl, _, rfl, _, rfl, (by show 3 ≤ sizeLine; decide), fun p np => ?_⟩
            have kp := same_upd (o := .tup [.ref Kt, .int (1 + tt), .str cc]) np
            have hF16 := kp _ _ hF15
            refine ⟨F, _, .ref p, rfl, rfl, hF16, by rw [hvl5]; exact small1000 (by omega), ?_⟩
            have pF : p ≠ F := (ne_of_none hF15 np).symm
            have tkF : Tk (upd H15 p (.tup [.ref Kt, .int (1 + tt), .str cc])) (upd (upd H15 p (.tup [.ref Kt, .int (1 + tt), .str cc])) F (.lst (vs5 ++ [.ref p]))) := tk_upd hF16
            refine ⟨_, _, _, _, _, _, _, _, cbs ++ [⟨ks, 1 + tt, cc⟩], rfl, (oH15.sameTrans kp).new nF, ((R15.same kp).upd Fr).mono (by omega), ⟨vs5 ++ [.ref p], upd_same, by rw [List.length_append, List.length_append, hvl5]; rfl, fun j v cb x y => ?_⟩, ⟨fun cb hc => ?_, by rw [List.length_append, List.length_singleton]; omega, ?_⟩, by rw [List.length_append, List.length_singleton]; omega⟩
            · rcases Nat.lt_or_ge j vs5.length with q | q
              · rw [List.getElem?_append_left q] at x
                rw [List.getElem?_append_left (by omega)] at y
                exact ((hCv5.2 j v cb x y).tk (Tk.of kp)).tk tkF
              · have hj : j = vs5.length := by
                  have := (List.getElem?_eq_some_iff.mp x).1
                  rw [List.length_append, List.length_singleton] at this
                  omega
                subst hj
                rw [List.getElem?_append_right (Nat.le_refl _), Nat.sub_self] at x
                rw [List.getElem?_append_right (by omega), show vs5.length - cbs.length = 0 by omega] at y
                have e1 : V.ref p = v := Option.some.inj x
                have e2 : (⟨ks, 1 + tt, cc⟩ : Cmb) = cb := Option.some.inj y
                subst e1 e2
                exact ⟨p, Kt, rfl, tkF _ _ upd_same, tkF _ _ (kp _ _ (p1 _ _ hKt14))⟩
            · rcases List.mem_append.mp hc with h | h
              · exact ok.all cb h
              · rw [List.mem_singleton.mp h]
                exact ⟨kasc, klen, kkey, ⟨by show 1 ≤ 1 + tt; omega, by show 1 + tt ≤ 10 ^ 9; omega⟩, hcc⟩
            · rw [List.map_append]
              exact List.nodup_append.mpr ⟨ok.apart, by simp, fun a ha b hb => by
                rw [List.mem_singleton.mp hb]
                exact fun e => zn (by rw [show a = ks from e] at ha; exact ha)⟩
          · exact ⟨_, _, _, _, _, _, _, _, cbs, rfl, oH15, R15.mono (by omega), hC15, ok, by omega⟩
    · obtain ⟨y4, y5, y6, y7, y8, y9, y10, y11, cbs, rfl, o2, R2, hC2, ok, hcl⟩ := p
      exact ⟨_, rfl, q H2 F cbs o2 nF (R2.mono (by omega)) hC2 ok⟩
end
end K26

set_option Elab.async false
set_option linter.all false
set_option maxRecDepth 100000
set_option maxHeartbeats 8000000
namespace K26
open PySem PySem.Spec PyProof.Rows L2 Gd Rm La Cb
def codesL : List Str := ["a", "b", "c", "x", "1", "zz9", "abcdefgh", "00000000"]
theorem codesL_ok : ∀ c ∈ codesL, CodeOk c := by decide +kernel
theorem getW {ws : List Str} {d : Int} (h0 : 0 ≤ d) (h1 : d < (ws.length : Int)) : ∃ c, atI (ws.map V.str) d = some (.str c) ∧ c ∈ ws := by
  have hd : d.toNat < ws.length := by omega
  refine ⟨ws[d.toNat], ?_, List.getElem_mem hd⟩
  refine at_of (j := d.toNat) (by omega) ?_
  rw [List.getElem?_map, List.getElem?_eq_getElem hd]
  rfl
def holdOk (H : Hp) (n : Int) (b : Addr) : Prop := (∃ d, H b = some (.tup [.str "code", .str d]) ∧ CodeOk d) ∨ (∃ j, H b = some (.tup [.str "layer", .int j]) ∧ 1 ≤ j ∧ j ≤ n - 1)
theorem holdOk.keep {H H' : Hp} {n : Int} {b : Addr} (h : holdOk H n b) (t : Tk H H') : holdOk H' n b := by
  rcases h with ⟨d, a, c⟩ | ⟨j, a, c⟩
  · exact .inl ⟨d, t _ _ a, c⟩
  · exact .inr ⟨j, t _ _ a, c⟩
theorem small40 {n : Int} (h : n ≤ 1000000000) : n < 10 ^ 40 := Int.lt_of_le_of_lt h (by decide)
section
variable {P : Program} {w : World} {K : PySem.W.Frag} {mg : Str → Option Value} {base : Heap}
def spLCode : Sp := fun vs H Q _ => ∃ (r : Addr) (n : Nat), vs = [.ref r] ∧ Reel H r n ∧ n + 100 < most ∧
  ∀ (H' : Hp) (c : Str), Off r H H' → Reel H' r (n + 1) → CodeOk c → Q (.str c) H'
theorem ok__law_code (bt : Bt mg) (a : At K mg "_law_code" s__law_code ["_law_spring_here"]) (c__law_take : Cl P w K mg base 1 "_law_take" spDraw) : Cl P w K mg base 2 "_law_code" spLCode := by
  refine clG a sc__law_code (fun vs H Q E h => ?_) (fun f cdv A outer s H vs Q hg hr h => ?_)
  · obtain ⟨r, n, rfl, _⟩ := h
    rfl
  · obtain ⟨r, n, rfl, hR, hn, q⟩ := h
    have hn : n + 100 < 1000000000 := hn
    refine ⟨_, (pss_one (ps_ret (pe_ix ix_list (pe_lst (pa_cons pe_str (pa_cons pe_str (pa_cons pe_str (pa_cons pe_str (pa_cons pe_str (pa_cons pe_str (pa_cons pe_str (pa_cons pe_str pa_nil))))))))) (pe_cl c__law_take hg hr (by decide) (by rfl) (pa_cons (pv 0) (pa_cons pe_int pa_nil))) (fun _ _ => rfl)))), ?_⟩
    refine ⟨(by show 8 ≤ sizeLine; decide), fun M nM => ⟨_, rfl, r, 8, n, rfl, by decide, by decide, by show _ < 1000000000; omega, hR.same (same_upd nM), fun d H1 d0 d1 R1 o1 => ?_⟩⟩
    have hM := o1 _ _ (upd_same (H := H) (a := M) (o := .lst (codesL.map V.str))) (hR.new nM)
    obtain ⟨c, hc, hm⟩ := getW (ws := codesL) d0 d1
    exact ⟨M, _, d, .str c, rfl, rfl, SqL.of hM, hc, q _ c ((Off.of (same_upd nM)).trans o1) R1 (codesL_ok c hm)⟩
def spLDual : Sp := fun vs H Q _ => ∃ (r : Addr) (k : Nat) (n g : Int), vs = [.ref r, .int n, .int g] ∧ Reel H r k ∧ k + 1000 < most ∧ 1 ≤ n ∧ n ≤ 1000 ∧ 1 ≤ g ∧ g ≤ 1000000000 ∧
  ∀ (H' : Hp) (v : V) (x : Actn), Off r H H' → Reel H' r (k + 20) → ActV H' x v → (∀ i, ActOk n i x) → Q v H'
theorem ok__law_dual (bt : Bt mg) (a : At K mg "_law_dual" s__law_dual ["_law_spring_here", "_law_layers", "_law_top"]) (c__law_take : Cl P w K mg base 1 "_law_take" spDraw) (c__law_code : Cl P w K mg base 2 "_law_code" spLCode) : Cl P w K mg base 3 "_law_dual" spLDual := by
  refine clG a sc__law_dual (fun vs H Q E h => ?_) (fun f cdv A outer s H vs Q hg hr h => ?_)
  · obtain ⟨r, k, n, g, rfl, _⟩ := h
    rfl
  · obtain ⟨r, k, n, g, rfl, hR, hk, hn, hn2, hg1, hg2, q⟩ := h
    have hk : k + 1000 < 1000000000 := hk
    refine ⟨_, (pss_cons (ps_set (i := 3) sc__law_dual.nd rfl (Or.inl rfl) (pe_tup (pa_cons pe_str (pa_cons (pe_op op_add pe_int (pe_cl c__law_take hg hr (by decide) (by rfl) (pa_cons (pv 0) (pa_cons (pe_callB (call_max2 rfl) (by rfl) bt.m_max (by decide +kernel) (pa_cons pe_int (pa_cons (pe_op op_sub (pv 1) pe_int) pa_nil))) pa_nil)))) pa_nil))))
      (pss_cons (ps_set (i := 4) sc__law_dual.nd rfl (Or.inl rfl) (pe_ix ix_list (pe_lst (pa_cons (pe_tup (pa_cons pe_str (pa_cons (pe_cl c__law_code hg hr (by decide) (by rfl) (pa_cons (pv 0) pa_nil)) pa_nil))) (pa_cons (pv 3) (pa_cons (pv 3) pa_nil)))) (pe_op op_mulW (pe_cl c__law_take hg hr (by decide) (by rfl) (pa_cons (pv 0) (pa_cons pe_int pa_nil))) (pe_callTy call_int1 (by rfl) bt.m_int (by decide +kernel) (pa_cons (pe_cmpR op_gt (pv 1) pe_int (nomark _)) pa_nil))) (fun _ _ => rfl)))
      (pss_cons (ps_set (i := 5) sc__law_dual.nd rfl (Or.inl rfl) (pe_op op_add pe_int (pe_cl c__law_take hg hr (by decide) (by rfl) (pa_cons (pv 0) (pa_cons (pe_ix ix_list (pe_lst (pa_cons pe_int (pa_cons pe_int (pa_cons (pv 2) pa_nil)))) (pe_cl c__law_take hg hr (by decide) (by rfl) (pa_cons (pv 0) (pa_cons pe_int pa_nil))) (fun _ _ => rfl)) pa_nil)))))
      (pss_one (ps_ret (pe_tup (pa_cons pe_str (pa_cons (pe_cl c__law_code hg hr (by decide) (by rfl) (pa_cons (pv 0) pa_nil)) (pa_cons (pv 4) (pa_cons (pv 5) (pa_cons (pe_ix ix_list (pe_lst (pa_cons pe_str (pa_cons pe_str (pa_cons pe_str pa_nil)))) (pe_cl c__law_take hg hr (by decide) (by rfl) (pa_cons (pv 0) (pa_cons pe_int pa_nil))) (fun _ _ => rfl)) pa_nil))))))))))), ?_⟩
    refine ⟨_, rfl, _, rfl, _, _, rfl, rfl, 1, _, rfl, r, _, k, rfl, by split <;> omega, small40 (by split <;> omega), by show _ < 1000000000; omega, hR, fun j H1 j0 j1 R1 o1 => ⟨_, _, rfl, rfl, (by show 2 ≤ sizeLine; decide), fun p np => ?_⟩⟩
    have kp := same_upd (o := .tup [.str "layer", .int (1 + j)]) np
    have hj : j < 1 ∨ j < n - 1 := by
      revert j1
      split <;> omega
    have hp := upd_same (H := H1) (a := p) (o := .tup [.str "layer", .int (1 + j)])
    refine ⟨_, rfl, r, k + 1, rfl, R1.same kp, by show _ < 1000000000; omega, fun H2 c o2 R2 ok => ⟨(by show 2 ≤ sizeLine; decide), fun p2 np2 => ⟨_, rfl, _, rfl, (by show 3 ≤ sizeLine; decide), fun M nM => ?_⟩⟩⟩
    have kp2 := same_upd (o := .tup [.str "code", .str c]) np2
    have kM := same_upd (o := .lst [.ref p2, .ref p, .ref p]) nM
    have hp2 := (R1.same kp).tk o2 _ _ hp
    have R3 := (R2.same kp2).same kM
    have o3 := (((o1.sameTrans kp).trans o2).sameTrans kp2).sameTrans kM
    have Mr : M ≠ r := (R2.same kp2).new nM
    have hc3 := kM _ _ (upd_same (H := H2) (a := p2) (o := .tup [.str "code", .str c]))
    have hp3 := (kp2.trans kM) _ _ hp2
    have hM3 := upd_same (H := upd H2 p2 (.tup [.str "code", .str c])) (a := M) (o := .lst [.ref p2, .ref p, .ref p])
    refine (fun (G : ∀ H3 : Hp, Reel H3 r (k + 1 + 1) → Rm.Off r H H3 → H3 p2 = some (.tup [.str "code", .str c]) → H3 p = some (.tup [.str "layer", .int (1 + j)]) → H3 M = some (.lst [.ref p2, .ref p, .ref p]) → _) => G _ R3 o3 hc3 hp3 hM3) (fun H3 R3 o3 hc3 hp3 hM3 => ?_)
    refine ⟨_, rfl, r, 3, k + 1 + 1, rfl, by decide, by decide, by show _ < 1000000000; omega, R3, fun d H4 d0 d1 R4 o4 => ⟨_, rfl, _, _, rfl, rfl, .inr ⟨_, rfl, ?_⟩⟩⟩
    have hM4 := o4 _ _ hM3 Mr
    have pick : ∃ b, atI [V.ref p2, V.ref p, V.ref p] (d * (if decide (n > 1) = true then 1 else 0)) = some (.ref b) ∧ holdOk H4 n b := by
      have hA : holdOk H4 n p2 := .inl ⟨c, R3.tk o4 _ _ hc3, ok⟩
      by_cases z : n > 1
      · rw [decide_eq_true z, if_pos rfl, Int.mul_one]
        have hB : holdOk H4 n p := .inr ⟨1 + j, R3.tk o4 _ _ hp3, by omega, by omega⟩
        have : d = 0 ∨ d = 1 ∨ d = 2 := by omega
        rcases this with rfl | rfl | rfl
        · exact ⟨p2, rfl, hA⟩
        · exact ⟨p, rfl, hB⟩
        · exact ⟨p, rfl, hB⟩
      · rw [decide_eq_false z, if_neg (by decide), Int.mul_zero]
        exact ⟨p2, rfl, hA⟩
    obtain ⟨b, hb, hold⟩ := pick
    have big : (10 : Int) ^ 40 > 10 ^ 10 := by decide
    have hbit : ∀ b : Bool, (if b = true then (1 : Int) else 0) = 0 ∨ (if b = true then (1 : Int) else 0) = 1 := fun b => by cases b <;> decide
    refine ⟨_, _, rfl, rfl, wide_mul (a := 40) (b := 40) (by omega) (by have := hbit (decide (n > 1)); omega) (by decide) (by decide) (by decide), M, _, _, _, rfl, rfl, SqL.of hM4, hb, ?_⟩
    refine ⟨_, rfl, _, rfl, (by show 3 ≤ sizeLine; decide), fun M2 nM2 => ?_⟩
    have kM2 := same_upd (o := .lst [.int 4, .int 12, .int g]) nM2
    have R5 := R4.same kM2
    have M2r := R4.new nM2
    refine ⟨_, rfl, r, 3, k + 3, rfl, by decide, by decide, by show _ < 1000000000; omega, R5, fun d2 H5 d20 d21 R6 o5 => ?_⟩
    have hM5 := o5 _ _ (upd_same (H := H4) (a := M2) (o := .lst ([4, 12, g].map V.int))) M2r
    obtain ⟨t, ht, hm⟩ := getI (ns := [4, 12, g]) d20 d21
    have tb : 1 ≤ t ∧ t ≤ 1000000000 := by
      have hm' := List.mem_of_getElem? hm
      simp only [List.mem_cons, List.mem_nil_iff, or_false] at hm'
      omega
    refine ⟨M2, _, d2, .int t, rfl, rfl, SqL.of hM5, ht, r, t, k + 4, rfl, by omega, small40 tb.2, by show _ < 1000000000; omega, R6, fun e H6 e0 e1 R7 o6 => ⟨_, _, rfl, rfl, ?_⟩⟩
    have h6 : holdOk H6 n b := ((hold.keep (Tk.of kM2)).keep (R5.tk o5)).keep (R6.tk o6)
    have o06 := (((o3.trans o4).sameTrans kM2).trans o5).trans o6
    refine ⟨_, rfl, r, k + 5, rfl, R7, by show _ < 1000000000; omega, fun H7 c2 o7 R8 ok2 => ⟨_, rfl, _, rfl, (by show 3 ≤ sizeLine; decide), fun W nW => ?_⟩⟩
    have kW := same_upd (o := .lst (rules.map V.str)) nW
    have Wr := R8.new nW
    refine ⟨_, rfl, r, 3, k + 6, rfl, by decide, by decide, by show _ < 1000000000; omega, R8.same kW, fun d' H9 d0' d1' R9 o9 => ?_⟩
    have hW := o9 _ _ (upd_same (H := H7) (a := W) (o := .lst (rules.map V.str))) Wr
    obtain ⟨u, hu, hmu⟩ := getW (ws := rules) d0' d1'
    refine ⟨W, _, d', .str u, rfl, rfl, SqL.of hW, hu, (by show 5 ≤ sizeLine; decide), fun z nz => ?_⟩
    have h9 : holdOk (upd H9 z (.tup [.str "dual", .str c2, .ref b, .int (1 + e), .str u])) n b := (((h6.keep (R7.tk o7)).keep (Tk.of kW)).keep ((R8.same kW).tk o9)).keep (Tk.of (same_upd nz))
    have o10 : Off r H (upd H9 z (.tup [.str "dual", .str c2, .ref b, .int (1 + e), .str u])) := ((((o06.trans o7).sameTrans kW).trans o9)).sameTrans (same_upd nz)
    have R10 : Reel (upd H9 z (.tup [.str "dual", .str c2, .ref b, .int (1 + e), .str u])) r (k + 20) := (R9.same (same_upd nz)).mono (by omega)
    rcases h9 with ⟨y, hy, oky⟩ | ⟨y, hy, y1, y2⟩
    · exact q _ _ (.dualC c2 y (1 + e) u) o10 R10 ⟨z, b, rfl, upd_same, hy⟩ fun _ => ⟨ok2, oky, ⟨by omega, by omega⟩, hmu⟩
    · exact q _ _ (.dualL c2 y (1 + e) u) o10 R10 ⟨z, b, rfl, upd_same, hy⟩ fun _ => ⟨ok2, ⟨y1, y2⟩, ⟨by omega, by omega⟩, hmu⟩
def spLAct : Sp := fun vs H Q _ => ∃ (r : Addr) (k : Nat) (i n g : Int), vs = [.ref r, .int i, .int n, .int g] ∧ Reel H r k ∧ k + 2000 < most ∧ 0 ≤ i ∧ 1 ≤ n ∧ n ≤ 1000 ∧ 1 ≤ g ∧ g ≤ 1000000000 ∧
  ∀ (H' : Hp) (v : V) (x : Actn), Off r H H' → Reel H' r (k + 30) → ActV H' x v → ActOk n i x → Q v H'
theorem ok__law_action (bt : Bt mg) (a : At K mg "_law_action" s__law_action ["_law_spring_here", "_law_layer", "_law_layers", "_law_top"]) (c__law_take : Cl P w K mg base 1 "_law_take" spDraw) (c__law_code : Cl P w K mg base 2 "_law_code" spLCode) (c__law_dual : Cl P w K mg base 3 "_law_dual" spLDual) : Cl P w K mg base 4 "_law_action" spLAct := by
  refine clG a sc__law_action (fun vs H Q E h => ?_) (fun f cdv A outer s H vs Q hg hr h => ?_)
  · obtain ⟨r, k, i, n, g, rfl, _⟩ := h
    rfl
  · obtain ⟨r, k, i, n, g, rfl, hR, hk, hi, hn, hn2, hg1, hg2, q⟩ := h
    have hk : k + 2000 < 1000000000 := hk
    refine ⟨_, (pss_cons (ps_set (i := 4) sc__law_action.nd rfl (Or.inl rfl) (pe_cl c__law_take hg hr (by decide) (by rfl) (pa_cons (pv 0) (pa_cons pe_int pa_nil))))
      (pss_cons (ps_if (pt_cmpR op_lt (pv 4) pe_int (nomark _)) (pss_one (ps_ret (pe_cl c__law_dual hg hr (by decide) (by rfl) (pa_cons (pv 0) (pa_cons (pv 2) (pa_cons (pv 3) pa_nil)))))) pss_nil)
      (C8.pss_cut (ps_if (PW.pt (pw_or (pt_cmpR op_lt (pv 4) pe_int (nomark _)) (pw_or1 (PW.pt (pw_and (pt_cmpR op_eq (pv 2) pe_int (nomark _)) (pw_and1 (pt_cmpR op_lt (pv 4) pe_int (nomark _)))))))) (pss_one (ps_ret (pe_tup (pa_cons pe_str (pa_cons (pe_cl c__law_code hg hr (by decide) (by rfl) (pa_cons (pv 0) pa_nil)) pa_nil))))) pss_nil)
      (pss_cons (ps_if (pt_cmpR op_lt (pv 4) pe_int (nomark _)) (pss_one (ps_ret (pe_tup (pa_cons (pe_ix ix_list (pe_lst (pa_cons pe_str (pa_cons pe_str (pa_cons pe_str pa_nil)))) (pe_op op_sub (pv 4) pe_int) (fun _ _ => rfl)) (pa_cons (pe_op op_add pe_int (pe_cl c__law_take hg hr (by decide) (by rfl) (pa_cons (pv 0) (pa_cons (pe_op op_sub (pv 2) pe_int) pa_nil)))) pa_nil))))) pss_nil)
      (pss_one (ps_ret (pe_ix ix_list (pe_lst (pa_cons pe_str (pa_cons pe_str pa_nil))) (pe_op op_mulW (pe_cl c__law_take hg hr (by decide) (by rfl) (pa_cons (pv 0) (pa_cons pe_int pa_nil))) (pe_callTy call_int1 (by rfl) bt.m_int (by decide +kernel) (pa_cons (pe_cmpR op_gt (pv 1) pe_int (nomark _)) pa_nil))) (fun _ _ => rfl)))))))), ?_⟩
    refine ⟨_, rfl, r, 12, k, rfl, by decide, by decide, by show _ < 1000000000; omega, hR, fun way H1 w0 w1 R1 o1 => ?_⟩
    refine ⟨_, rfl, _, _, rfl, rfl, _, rfl, ite2 (fun e => ?_) (fun e => ?_)⟩
    · refine ⟨_, rfl, _, rfl, _, rfl, r, k + 1, n, g, rfl, R1, by show _ < 1000000000; omega, hn, hn2, hg1, hg2, fun H2 v x o2 R2 hv hx => ?_⟩
      exact q _ v x (o1.trans o2) (R2.mono (by omega)) hv (hx i)
    clear e
    refine ⟨fun σ' H' => σ' = [some (.ref r), some (.int i), some (.int n), some (.int g), some (.int way)] ∧ H' = H1 ∧ 8 ≤ way ∧ (way < 11 → 1 < n), ?_, fun σ' H' h => ?_⟩
    · refine (fun G => ⟨_, rfl, _, _, rfl, rfl, _, rfl, ite2 (fun e => G) (fun e => ⟨_, rfl, rfl, _, rfl, ite2 (fun e1 => ⟨_, rfl, _, _, rfl, rfl, _, rfl, ite2 (fun e2 => G) (fun e2 => ?_)⟩) (fun e1 => ?_)⟩)⟩) ?_
      · refine ⟨_, rfl, r, k + 1, rfl, R1, by show _ < 1000000000; omega, fun H2 c o2 R2 ok => ⟨(by show 2 ≤ sizeLine; decide), fun p np => ?_⟩⟩
        exact q _ _ (.code c) ((o1.trans o2).sameTrans (same_upd np)) ((R2.same (same_upd np)).mono (by omega)) ⟨p, rfl, upd_same⟩ ok
      · have a1 : ¬ way < 8 := fun z => e (decide_eq_true z)
        have a2 : ¬ way < 11 := fun z => e2 (decide_eq_true z)
        exact ⟨rfl, rfl, by omega, fun z => absurd z a2⟩
      · have a1 : ¬ way < 8 := fun z => e (decide_eq_true z)
        have a2 : ¬ n = 1 := fun z => e1 (decide_eq_true (by rw [z]))
        exact ⟨rfl, rfl, by omega, fun _ => by omega⟩
    · obtain ⟨rfl, rfl, e8, e11⟩ := h
      refine ⟨_, rfl, _, _, rfl, rfl, _, rfl, ite2 (fun e => ?_) (fun e => ?_)⟩
      · have e0 : way < 11 := of_decide_eq_true e
        have hn1 := e11 e0
        refine ⟨(by show 3 ≤ sizeLine; decide), fun M nM => ?_⟩
        have kM := same_upd (o := .lst (layWords.map V.str)) nM
        obtain ⟨c, hc, hm⟩ := getW (ws := layWords) (d := way - 8) (by omega) (by show way - 8 < 3; omega)
        refine ⟨_, rfl, _, _, rfl, rfl, M, _, _, .str c, rfl, rfl, SqL.of upd_same, hc, ?_⟩
        refine ⟨_, rfl, _, rfl, _, _, rfl, rfl, r, n - 1, k + 1, rfl, by omega, small40 (by omega), by show _ < 1000000000; omega, R1.same kM, fun j H3 j0 j1 R3 o3 => ⟨_, _, rfl, rfl, (by show 2 ≤ sizeLine; decide), fun p np => ?_⟩⟩
        exact q _ _ (.lay c (1 + j)) ((((o1.sameTrans kM).trans o3)).sameTrans (same_upd np)) ((R3.same (same_upd np)).mono (by omega)) ⟨p, rfl, upd_same⟩ ⟨hm, by omega, by omega⟩
      · refine ⟨(by show 2 ≤ sizeLine; decide), fun M nM => ?_⟩
        have kM := same_upd (o := .lst [.str "none", .str "through"]) nM
        have Mr := R1.new nM
        refine ⟨_, rfl, r, 2, k + 1, rfl, by decide, by decide, by show _ < 1000000000; omega, R1.same kM, fun d H3 d0 d1 R3 o3 => ?_⟩
        have hM := o3 _ _ (upd_same (H := H') (a := M) (o := .lst [.str "none", .str "through"])) Mr
        have hbit : ∀ b : Bool, (if b = true then (1 : Int) else 0) = 0 ∨ (if b = true then (1 : Int) else 0) = 1 := fun b => by cases b <;> decide
        have oo := (o1.sameTrans kM).trans o3
        refine ⟨_, rfl, _, _, rfl, rfl, .inr ⟨_, rfl, ?_⟩⟩
        refine ⟨_, _, rfl, rfl, wide_mul (a := 40) (b := 40) (by omega) (by have := hbit (decide (i > 0)); omega) (by decide) (by decide) (by decide), ?_⟩
        have pick : (0 < i ∧ d * (if decide (i > 0) = true then 1 else 0) = 1) ∨ d * (if decide (i > 0) = true then 1 else 0) = 0 := by
          by_cases z : i > 0
          · rw [decide_eq_true z, if_pos rfl, Int.mul_one]
            have : d = 0 ∨ d = 1 := by omega
            rcases this with h | h
            · exact .inr h
            · exact .inl ⟨z, h⟩
          · rw [decide_eq_false z, if_neg (by decide), Int.mul_zero]
            exact .inr rfl
        rcases pick with ⟨z, e1⟩ | e1
        · exact ⟨M, _, _, .str "through", rfl, rfl, SqL.of hM, by rw [e1]; rfl, q _ _ .thr oo (R3.mono (by omega)) rfl z⟩
        · exact ⟨M, _, _, .str "none", rfl, rfl, SqL.of hM, by rw [e1]; rfl, q _ _ .none oo (R3.mono (by omega)) rfl True.intro⟩
end
end K26

set_option Elab.async false
set_option linter.all false
set_option maxRecDepth 100000
set_option maxHeartbeats 8000000
namespace K26
open PySem PySem.Spec PyProof.Rows L2 Gd Rm La Cb
theorem row_upd {H : Hp} {r p : Addr} {xs : List Actn} {ys zs : List V} (h : Row H r xs) (hp : H p = some (.lst ys)) (n : r ≠ p) : Row (upd H p (.lst zs)) r xs := by
  obtain ⟨vs, a, b⟩ := h
  exact ⟨vs, by rw [upd_ne n]; exact a, b.keep (tk_upd hp)⟩
theorem Rows.snoc {H : Hp} {rs : List Addr} {L : List (List Actn)} {r : Addr} {row : List Actn} (h : Rows H rs L) (hr : Row H r row) : Rows H (rs ++ [r]) (L ++ [row]) := by
  refine ⟨by rw [List.length_append, List.length_append, h.1]; rfl, fun i u y a b => ?_⟩
  have hl := h.1
  rcases Nat.lt_or_ge i rs.length with q | q
  · rw [List.getElem?_append_left q] at a
    rw [List.getElem?_append_left (by omega)] at b
    exact h.2 i u y a b
  · have hi : i = rs.length := by
      have := (List.getElem?_eq_some_iff.mp a).1
      rw [List.length_append] at this
      simp at this
      omega
    subst hi
    rw [List.getElem?_append_right (Nat.le_refl _), Nat.sub_self] at a
    rw [List.getElem?_append_right (by omega), show rs.length - L.length = 0 by omega] at b
    have e1 : r = u := Option.some.inj a
    have e2 : row = y := Option.some.inj b
    subst e1 e2
    exact hr
def FL (H0 : Hp) (D : Addr) (L : List (List Actn)) (H : Hp) : Prop := ∃ rs : List Addr, H D = some (.lst (rs.map V.ref)) ∧ Rows H rs L ∧ rs.Nodup ∧ ∀ r ∈ rs, H0 r = none ∧ r ≠ D
theorem FL.lay {H0 H : Hp} {D : Addr} {L : List (List Actn)} (h : FL H0 D L H) : Lay H D L := by
  obtain ⟨rs, a, b, _⟩ := h
  exact ⟨rs, a, b⟩
theorem row_off {H H' : Hp} {r p : Addr} {xs : List Actn} (h : Row H p xs) (n : p ≠ r) (o : Off r H H') (t : Tk H H') : Row H' p xs := by
  obtain ⟨vs, a, b⟩ := h
  exact ⟨vs, o _ _ a n, b.keep t⟩
theorem FL.more {H0 H1 H5 : Hp} {F M r : Addr} {L : List (List Actn)} {row : List Actn} {vs : List V} {oo : HO} (g : FL H0 F L H1) (nF : H0 F = none) (hr0 : H0 r = some oo) (fM : H0 M = none) (nM : H1 M = none) (o : Off r H1 H5) (t : Tk H1 H5)
    (hM : H5 M = some (.lst vs)) (ha : Acts H5 vs row) : ∃ acc : List V, H5 F = some (.lst acc) ∧ acc.length = L.length ∧ FL H0 F (L ++ [row]) (upd H5 F (.lst (acc ++ [.ref M]))) := by
  obtain ⟨rs, h, hR, nd, hn⟩ := g
  have Fr : F ≠ r := (ne_of_none hr0 nF).symm
  have FM : F ≠ M := ne_of_none h nM
  have h5 : H5 F = some (.lst (rs.map V.ref)) := o _ _ h Fr
  refine ⟨rs.map V.ref, h5, by rw [List.length_map]; exact hR.1, rs ++ [M], by rw [upd_same, List.map_append]; rfl, ?_, ?_, fun q hq => ?_⟩
  · refine Rows.snoc ⟨hR.1, fun i r' row' a b => row_upd (row_off (hR.2 i r' row' a b) ?_ o t) h5 (hn r' (List.mem_of_getElem? a)).2⟩ ⟨vs, by rw [upd_ne FM.symm]; exact hM, ha.keep (tk_upd h5)⟩
    exact (ne_of_none hr0 (hn r' (List.mem_of_getElem? a)).1).symm
  · refine List.nodup_append.mpr ⟨nd, List.nodup_cons.mpr ⟨by simp, List.nodup_nil⟩, fun a ha' b hb e => ?_⟩
    have hb : b = M := List.mem_singleton.mp hb
    subst hb
    subst e
    obtain ⟨i, hi⟩ := List.getElem?_of_mem ha'
    have hil := (List.getElem?_eq_some_iff.mp hi).1
    obtain ⟨vs', hv, _⟩ := hR.2 i a _ hi (List.getElem?_eq_getElem (by rw [← hR.1]; exact hil))
    rw [nM] at hv
    cases hv
  · rcases List.mem_append.mp hq with z | z
    · exact hn q z
    · rw [List.mem_singleton.mp z]; exact ⟨fM, FM.symm⟩
section
variable {P : Program} {w : World} {K : PySem.W.Frag} {mg : Str → Option Value} {base : Heap}
def spLLay : Sp := fun vs H Q _ => ∃ (r : Addr) (k n m : Nat) (g : Int), vs = [.ref r, .int (m : Int), .int (n : Int), .int g] ∧ Reel H r k ∧ k + 20000 < most ∧ 1 ≤ n ∧ n ≤ 6 ∧ 1 ≤ m ∧ m ≤ 16 ∧ 1 ≤ g ∧ g ≤ 1000000000 ∧
  ∀ (H' : Hp) (p : Addr) (L : List (List Actn)) (m' : Nat), Off r H H' → H p = none → Reel H' r (k + 10000) → FL H p L H' → LayOk L m' → m' ≤ m → Q (.ref p) H'
theorem ok__law_layout (bt : Bt mg) (a : At K mg "_law_layout" s__law_layout ["_law_spring_here", "_law_keys", "_law_layers", "_law_top"]) (c__law_take : Cl P w K mg base 1 "_law_take" spDraw) (c__law_action : Cl P w K mg base 4 "_law_action" spLAct) : Cl P w K mg base 5 "_law_layout" spLLay := by
  refine clG a sc__law_layout (fun vs H Q E h => ?_) (fun f cdv A outer s H vs Q hg hr h => ?_)
  · obtain ⟨r, k, n, m, g, rfl, _⟩ := h
    rfl
  · obtain ⟨r, k, n, m, g, rfl, hR, hk, n1, n6, m1, m16, g1, g2, q⟩ := h
    have hk : k + 20000 < 1000000000 := hk
    obtain ⟨_, _, _, hr0, _⟩ := id hR
    have big : (10 : Int) ^ 40 > 1000 := by decide
    refine ⟨_, (pss_cons (ps_asg (pe_tup (pa_cons (pe_op op_add pe_int (pe_cl c__law_take hg hr (by decide) (by rfl) (pa_cons (pv 0) (pa_cons (pv 1) pa_nil)))) (pa_cons (pe_op op_add pe_int (pe_cl c__law_take hg hr (by decide) (by rfl) (pa_cons (pv 0) (pa_cons (pv 2) pa_nil)))) (pa_cons (pe_lst pa_nil) pa_nil)))) (pg_tup rfl (pgs_cons (pg_name (i := 4) sc__law_layout.nd rfl (Or.inl rfl)) (pgs_cons (pg_name (i := 5) sc__law_layout.nd rfl (Or.inr rfl)) (pgs_cons (pg_name (i := 6) sc__law_layout.nd rfl (Or.inl rfl)) pgs_nil)))))
      (pss_cons (ps_for PassesOwn.never rfl (pi_range1 (by rfl) bt.m_range (pa_cons (pv 5) pa_nil)) (pg_name (i := 7) sc__law_layout.nd rfl (Or.inr rfl)) (pss_cons (ps_setLc (i := 8) (own := [("_law_key", 9)]) (g := (gName 9)) (by rfl) sc__law_layout.nd rfl rfl (sw_true rfl rfl rfl (by decide +kernel)) (pi_range1 (by rfl) bt.m_range (pa_cons (pv 4) pa_nil)) (blkOk_by (N := n__law_layout) (sc := defScope s__law_layout) (by decide +kernel)) (fun _ _ _ _ _ => (pg_name (i := 9) sc__law_layout.nd rfl (Or.inl rfl))) (fun _ _ _ _ _ => pts_nil) (fun _ _ _ _ _ => (pe_cl c__law_action hg hr (by decide) (by rfl) (pa_cons (pv 0) (pa_cons (pv 7) (pa_cons (pv 5) (pa_cons (pv 3) pa_nil)))))))
      (pss_one (ps_expr (pe_bm PySem.F.plainAttrs_list PySem.F.slot_list_append PySem.F.type_list_append mt_append (pv 6) (pa_cons (pe_lc (own := [("_law_one", 10)]) (g := (gName 10)) (by rfl) sc__law_layout.nd (pi_list (pv 8)) (blkOk_by (N := n__law_layout) (sc := defScope s__law_layout) (by decide +kernel)) (fun _ _ _ _ _ => (pg_name (i := 10) sc__law_layout.nd rfl (Or.inl rfl))) (fun _ _ _ _ _ => pts_nil) (fun _ _ _ _ _ => (pe_ifExp (PW.pt (pw_and (pt_cmpR op_gt (pv 7) pe_int (nomark _)) (pw_and1 (pt_cmpR op_eq (pe_cl c__law_take hg hr (by decide) (by rfl) (pa_cons (pv 0) (pa_cons pe_int pa_nil))) pe_int (nomark _))))) pe_str (pv 10)))) pa_nil))))))
      (pss_one (ps_ret (pv 6))))), ?_⟩
    refine ⟨_, rfl, _, rfl, r, m, k, rfl, by omega, by omega, by show _ < 1000000000; omega, hR, fun d1 Ha d10 d11 Ra oa => ⟨_, _, rfl, rfl, ?_⟩⟩
    refine ⟨_, rfl, _, rfl, r, n, k + 1, rfl, by omega, by omega, by show _ < 1000000000; omega, Ra, fun d2 Hb d20 d21 Rb ob => ⟨_, _, rfl, rfl, Nat.zero_le _, fun F nF' => ⟨(by show 3 ≤ sizeLine; decide), fun T nT => ⟨T, _, rfl, SqT.of upd_same, rfl, _, _, rfl, _, _, rfl, _, _, rfl, rfl, ?_⟩⟩⟩⟩
    obtain ⟨M0, rfl⟩ := Int.eq_ofNat_of_zero_le d10
    obtain ⟨N0, rfl⟩ := Int.eq_ofNat_of_zero_le d20
    have o0 := (oa.trans ob)
    have nF : H F = none := Rb.free o0 nF'
    have Fr : F ≠ r := Rb.new nF'
    have kF := same_upd (o := .lst []) nF'
    have kT := same_upd (o := .tup [.int (1 + (M0 : Int)), .int (1 + (N0 : Int)), .ref F]) nT
    have oF := (o0.sameTrans kF).sameTrans kT
    have RF := (Rb.same kF).same kT
    have fl0 : FL H F [] (upd (upd Hb F (.lst [])) T (.tup [.int (1 + (M0 : Int)), .int (1 + (N0 : Int)), .ref F])) := ⟨[], kT _ _ upd_same, ⟨rfl, fun i r row h _ => by simp at h⟩, List.nodup_nil, fun r h => by simp at h⟩
    refine (fun (G : ∀ Hc : Hp, Rm.Off r H Hc → Reel Hc r (k + 2) → FL H F [] Hc → _) => G _ oF RF fl0) (fun Hc oF RF fl0 => ?_)
    refine ⟨_, rfl, 1 + (N0 : Int), rfl, by omega, by omega, for_it walk_range (fun i σ H' => (∃ y7 y8 y9 y10, σ = [some (.ref r), some (.int (m : Int)), some (.int (n : Int)), some (.int g), some (.int (1 + (M0 : Int))), some (.int (1 + (N0 : Int))), some (.ref F), y7, y8, y9, y10]) ∧ Off r H H' ∧ Reel H' r (k + 2 + 600 * i) ∧ ∃ L, FL H F L H' ∧ L.length = i ∧ (∀ row ∈ L, row.length = 1 + M0) ∧ ∀ (i' : Nat) row, L[i']? = some row → ∀ x ∈ row, ActOk (1 + (N0 : Int)) i' x)
      ⟨⟨_, _, _, _, rfl⟩, oF, RF, [], fl0, rfl, fun row h => by simp at h, fun i' row h => by simp at h⟩ (fun _ _ _ _ _ => True.intro) (fun i x σ Hx H1 hi p y => ?_) (fun σ H1 p => ?_)⟩
    · obtain ⟨⟨y7, y8, y9, y10, rfl⟩, o1, R1, L, fl, hL, hlen, hok⟩ := p
      obtain ⟨rfl, hx⟩ := y
      have hx : x = .int (0 + (i : Int)) := hx
      have e0 : (0 : Int) + (i : Int) = (i : Int) := Int.zero_add _
      rw [e0] at hx
      subst hx
      have hi6 : i < 6 := by omega
      obtain ⟨_, _, _, hr1, _⟩ := id R1
      -- the row
      refine ⟨_, rfl, 1 + (M0 : Int), rfl, by omega, by omega, fun M nM => lc_it walk_range (fun j H' => Off r H1 H' ∧ Reel H' r (k + 2 + 600 * i + 30 * j) ∧ ∃ vs xs, H' M = some (.lst vs) ∧ Acts H' vs xs ∧ xs.length = j ∧ ∀ x ∈ xs, ActOk (1 + (N0 : Int)) i x) ?_ (fun _ _ _ _ => True.intro) (fun j x Hx H2 hj p y => ?_) (fun H2 p => ?_)⟩
      · exact ⟨Off.of (same_upd nM), R1.same (same_upd nM), [], [], upd_same, Acts.nil, rfl, fun x h => by simp at h⟩
      · obtain ⟨o2, R2, vs, xs, hM, hA, hxl, hxo⟩ := p
        obtain ⟨rfl, rfl⟩ := y
        have Mr : M ≠ r := (ne_of_none hr1 nM).symm
        have hj16 : j < 16 := by omega
        refine ⟨rfl, ⟨_, rfl, _, rfl, _, rfl, _, rfl, r, k + 2 + 600 * i + 30 * j, i, 1 + (N0 : Int), g, rfl, R2, by show _ < 1000000000; omega, by omega, by omega, by omega, g1, g2, fun H3 v x o3 R3 hv ok => ?_⟩⟩
        have hM3 := o3 _ _ hM Mr
        have hvl := hA.1
        refine ⟨vs, hM3, small1000 (by omega), (o2.trans o3).new nM, (R3.upd Mr).mono (by omega), vs ++ [v], xs ++ [x], upd_same, ?_, by rw [List.length_append, hxl]; rfl, fun z hz => ?_⟩
        · exact ((hA.keep (R2.tk o3)).snoc hv).keep (tk_upd hM3)
        · rcases List.mem_append.mp hz with q | q
          · exact hxo z q
          · rw [List.mem_singleton.mp q]; exact ok
      · obtain ⟨o2, R2, vs, xs, hM, hA, hxl, hxo⟩ := p
        have hxl : xs.length = 1 + M0 := by omega
        have hvl := hA.1
        have Mr : M ≠ r := (ne_of_none hr1 nM).symm
        obtain ⟨_, _, _, hr2, _⟩ := id R2
        obtain ⟨rs, hF1, _⟩ := id fl
        have hF2 := o2 _ _ hF1 Fr
        let B := k + 2 + 600 * i + 480
        have R2 : Reel H2 r B := R2.mono (by show _ ≤ k + 2 + 600 * i + 480; omega)
        refine ⟨_, rfl, .inl ⟨rfl, _, SqL.of hF2⟩, _, rfl, M, rfl, ⟨_, SqL.of hM⟩, fun M2 nM2 => lc_it (walk_list (xs := vs)) (fun t H' => Off r H2 H' ∧ Reel H' r (B + t) ∧ ∃ vs2 xs2, H' M2 = some (.lst vs2) ∧ Acts H' vs2 xs2 ∧ xs2.length = t ∧ ∀ x ∈ xs2, ActOk (1 + (N0 : Int)) i x)
          ⟨Off.of (same_upd nM2), R2.same (same_upd nM2), [], [], upd_same, Acts.nil, rfl, fun x h => by simp at h⟩ (fun _ _ _ p => SqL.of (p.1 _ _ hM Mr)) (fun t x Hx H3 ht p y => ?_) (fun H3 p => ?_)⟩
        · obtain ⟨rfl, e2⟩ := y
          obtain ⟨o3, R3, vs2, xs2, hM2, hA2, hx2, ho2⟩ := p
          have M2r : M2 ≠ r := (ne_of_none hr2 nM2).symm
          have ht2 : t < 16 := by omega
          have hvl2 := hA2.1
          have htx : t < xs.length := by omega
          have hBk : B + 100 < 1000000000 := by show k + 2 + 600 * i + 480 + 100 < _; omega
          have push : ∀ {H5 : Hp}, Off r H3 H5 → Reel H5 r (B + t + 1) → ∀ (v : V) (a : Actn), ActV H5 a v → ActOk (1 + (N0 : Int)) i a → H5 M2 = some (.lst vs2) ∧ vs2.length < sizeLine ∧ Off r H2 (upd H5 M2 (.lst (vs2 ++ [v]))) ∧ Reel (upd H5 M2 (.lst (vs2 ++ [v]))) r (B + (t + 1)) ∧ ∃ vs2' xs2', upd H5 M2 (.lst (vs2 ++ [v])) M2 = some (.lst vs2') ∧ Acts (upd H5 M2 (.lst (vs2 ++ [v]))) vs2' xs2' ∧ xs2'.length = t + 1 ∧ ∀ x ∈ xs2', ActOk (1 + (N0 : Int)) i x := fun {H5} o5 R5 v a hv ha => by
            have hM5 := o5 _ _ hM2 M2r
            refine ⟨hM5, small1000 (by omega), (o3.trans o5).new nM2, R5.upd M2r, vs2 ++ [v], xs2 ++ [a], upd_same, ((hA2.keep (R3.tk o5)).snoc hv).keep (tk_upd hM5), by rw [List.length_append, hx2]; rfl, fun z hz => ?_⟩
            rcases List.mem_append.mp hz with q | q
            · exact ho2 z q
            · rw [List.mem_singleton.mp q]; exact ha
          have own : ∀ {H5 : Hp}, Off r H3 H5 → ActV H5 xs[t] x := fun {H5} o5 => (hA.keep (R2.tk (o3.trans o5))).2 t x xs[t] e2 (List.getElem?_eq_getElem htx)
          have oko := hxo _ (List.getElem_mem htx)
          refine ⟨rfl, _, rfl, _, _, rfl, rfl, _, rfl, ite2 (fun z => ⟨_, rfl, r, 3, B + t, rfl, by decide, by decide, by show _ < 1000000000; omega, R3, fun d H5 d0 d1 R5 o5 => ⟨rfl, _, rfl, ite2 (fun z2 => ?_) (fun z2 => ?_)⟩⟩) (fun z => ?_)⟩
          · have z0 : (0 : Int) < i := of_decide_eq_true z
            obtain ⟨u1, u2, u3⟩ := push o5 R5 (.str "through") .thr rfl z0
            exact ⟨_, u1, u2, u3⟩
          · obtain ⟨u1, u2, u3⟩ := push o5 R5 _ _ (own o5) oko
            exact ⟨_, rfl, _, u1, u2, u3⟩
          · obtain ⟨u1, u2, u3⟩ := push (Off.refl _) (R3.mono (by omega)) _ _ (own (Off.refl _)) oko
            exact ⟨_, rfl, _, u1, u2, u3⟩
        · obtain ⟨o3, R3, vs2, xs2, hM2, hA2, hx2, ho2⟩ := p
          have o13 := o2.trans o3
          have nM21 : H1 M2 = none := o2.free hr2 nM2
          obtain ⟨acc, hF3, hal, fl3⟩ := fl.more nF hr0 (o1.free hr1 nM21) nM21 o13 (R1.tk o13) hM2 hA2
          refine ⟨F, acc, .ref M2, rfl, rfl, hF3, small1000 (by omega), ⟨_, _, _, _, rfl⟩, (o1.trans o13).new nF, (R3.upd Fr).mono (by show k + 2 + 600 * i + 480 + vs.length ≤ _; omega), L ++ [xs2], fl3, by rw [List.length_append, hL]; rfl, fun row hrow => ?_, fun i' row hrow => ?_⟩
          · rcases List.mem_append.mp hrow with z | z
            · exact hlen row z
            · rw [List.mem_singleton.mp z, hx2]; omega
          · rcases Nat.lt_or_ge i' L.length with z | z
            · rw [List.getElem?_append_left z] at hrow
              exact hok i' row hrow
            · have hi' : i' = L.length := by
                have := (List.getElem?_eq_some_iff.mp hrow).1
                rw [List.length_append] at this
                simp at this
                omega
              subst hi'
              rw [List.getElem?_append_right (Nat.le_refl _), Nat.sub_self] at hrow
              have e : xs2 = row := Option.some.inj hrow
              subst e
              rw [hL]
              exact ho2
    · obtain ⟨⟨y7, y8, y9, y10, rfl⟩, o1, R1, L, fl, hL, hlen, hok⟩ := p
      have hL : L.length = 1 + N0 := by omega
      refine ⟨_, rfl, q _ F L (1 + M0) o1 nF (R1.mono (by omega)) fl ⟨by omega, by omega, by omega, by omega, hlen, ?_⟩ (by omega)⟩
      rw [hL]
      exact hok
end
end K26

set_option Elab.async false
set_option linter.all false
set_option maxRecDepth 100000
set_option maxHeartbeats 8000000
namespace K26
open PySem PySem.Spec PyProof.Rows L2 Gd Rm La Cb
def codeA (cbs : List Cmb) : List Actn := cbs.map fun cb => .code cb.c
def thrA (n : Nat) : List Actn := List.replicate n .thr
def joinAt (i : Nat) (row : List Actn) (cbs : List Cmb) : List Actn := row ++ (if i = 0 then codeA cbs else thrA cbs.length)
def joinL (L : List (List Actn)) (cbs : List Cmb) : List (List Actn) := L.mapIdx fun i row => joinAt i row cbs
theorem joinL_len (L : List (List Actn)) (cbs : List Cmb) : (joinL L cbs).length = L.length := by unfold joinL; rw [List.length_mapIdx]
theorem joinL_at {L : List (List Actn)} {cbs : List Cmb} {i : Nat} (h : i < L.length) : (joinL L cbs)[i]? = some (joinAt i L[i] cbs) := by
  unfold joinL
  rw [List.getElem?_mapIdx, List.getElem?_eq_getElem h]; rfl
theorem joinAt_len (i : Nat) (row : List Actn) (cbs : List Cmb) : (joinAt i row cbs).length = row.length + cbs.length := by
  unfold joinAt
  rw [List.length_append]
  split
  · unfold codeA; rw [List.length_map]
  · unfold thrA; rw [List.length_replicate]
theorem joinL_take {L : List (List Actn)} {cbs : List Cmb} {i : Nat} (h : i < L.length) : (joinL L cbs).take (i + 1) = (joinL L cbs).take i ++ [joinAt i L[i] cbs] := by
  rw [List.take_add_one, joinL_at h]; rfl
theorem joinL_ok {L : List (List Actn)} {m : Nat} {many : Int} {cbs : List Cmb} (h : LayOk L m) (hm : m ≤ 10) (ok : CbsOk many cbs) : LayOk (joinL L cbs) (m + cbs.length) := by
  have few := ok.few
  have hm1 := h.m1
  refine ⟨by rw [joinL_len]; exact h.n1, by rw [joinL_len]; exact h.n6, by omega, by omega, fun row hr => ?_, fun i row hi x hx => ?_⟩
  · obtain ⟨i, hi⟩ := List.getElem?_of_mem hr
    have hil := (List.getElem?_eq_some_iff.mp hi).1
    rw [joinL_len] at hil
    rw [joinL_at hil] at hi
    rw [← Option.some.inj hi, joinAt_len, h.len _ (List.getElem_mem hil)]
  · have hil := (List.getElem?_eq_some_iff.mp hi).1
    rw [joinL_len] at hil
    rw [joinL_at hil] at hi
    rw [joinL_len]
    rw [← Option.some.inj hi] at hx
    unfold joinAt at hx
    rcases List.mem_append.mp hx with q | q
    · exact h.ok i _ (List.getElem?_eq_getElem hil) x q
    · by_cases z : i = 0
      · rw [if_pos z] at q
        obtain ⟨cb, hc, rfl⟩ := List.mem_map.mp q
        exact (ok.all cb hc).code
      · rw [if_neg z] at q
        have := List.eq_of_mem_replicate q
        subst this
        show (0 : Int) < (i : Int)
        omega
/-- a new layout: its list and its rows are new -/
structure NL (H0 H : Hp) (D : Addr) (L : List (List Actn)) (rs : List Addr) : Prop where
  ls : H D = some (.lst (rs.map V.ref))
  rows : Rows H rs L
  new : ∀ r ∈ rs, H0 r = none ∧ r ≠ D
theorem NL.lay {H0 H : Hp} {D : Addr} {L : List (List Actn)} {rs : List Addr} (h : NL H0 H D L rs) : Lay H D L := ⟨rs, h.ls, h.rows⟩
theorem NL.same {H0 H H' : Hp} {D : Addr} {L : List (List Actn)} {rs : List Addr} (h : NL H0 H D L rs) (s : Same H H') : NL H0 H' D L rs := ⟨s _ _ h.ls, h.rows.same s, h.new⟩
theorem NL.nil {H0 H : Hp} {D : Addr} (h : H D = some (.lst [])) : NL H0 H D [] [] := ⟨h, ⟨rfl, fun i r row a _ => by simp at a⟩, fun r h => by simp at h⟩
theorem NL.push {H0 H : Hp} {D U : Addr} {L : List (List Actn)} {rs : List Addr} {row : List Actn} {vs : List V} (h : NL H0 H D L rs) (hU : H U = some (.lst vs)) (ha : Acts H vs row) (nU : H0 U = none) (UD : U ≠ D) :
    NL H0 (upd H D (.lst (rs.map V.ref ++ [.ref U]))) D (L ++ [row]) (rs ++ [U]) := by
  refine ⟨by rw [upd_same, List.map_append]; rfl, Rows.snoc ⟨h.rows.1, fun i r' row' a b => row_upd (h.rows.2 i r' row' a b) h.ls (h.new r' (List.mem_of_getElem? a)).2⟩ (row_upd ⟨vs, hU, ha⟩ h.ls UD), fun r hr => ?_⟩
  rcases List.mem_append.mp hr with q | q
  · exact h.new r q
  · rw [List.mem_singleton.mp q]; exact ⟨nU, UD⟩
theorem Acts.app {H : Hp} {vs us : List V} {xs ys : List Actn} (a : Acts H vs xs) (b : Acts H us ys) : Acts H (vs ++ us) (xs ++ ys) := by
  refine ⟨by rw [List.length_append, List.length_append, a.1, b.1], fun i v x hv hx => ?_⟩
  have hl := a.1
  rcases Nat.lt_or_ge i vs.length with q | q
  · rw [List.getElem?_append_left q] at hv
    rw [List.getElem?_append_left (by omega)] at hx
    exact a.2 i v x hv hx
  · rw [List.getElem?_append_right q] at hv
    rw [List.getElem?_append_right (by omega), ← hl] at hx
    exact b.2 _ v x hv hx
theorem acts_thr {H : Hp} : ∀ n : Nat, Acts H (List.replicate n (V.str "through")) (thrA n) := fun n => by
  unfold thrA
  refine ⟨by rw [List.length_replicate, List.length_replicate], fun i v x hv hx => ?_⟩
  have e1 := List.eq_of_mem_replicate (List.mem_of_getElem? hv)
  have e2 := List.eq_of_mem_replicate (List.mem_of_getElem? hx)
  subst e1 e2
  rfl
theorem flat_rep {v : V} (m : Nat) : (List.replicate m [v]).flatten = List.replicate m v := by
  induction m with
  | zero => rfl
  | succ m ih => rw [List.replicate_succ, List.flatten_cons, ih, List.replicate_succ]; rfl
section
variable {P : Program} {w : World} {K : PySem.W.Frag} {mg : Str → Option Value} {base : Heap}
def spJoin : Sp := fun vs H Q _ => ∃ (c cc : Addr) (L : List (List Actn)) (m : Nat) (cbs : List Cmb), vs = [.ref c, .ref cc] ∧ Lay H c L ∧ LayOk L m ∧ Cmbs H cc cbs ∧ cbs.length ≤ 6 ∧
  ∀ H' p rs, Same H H' → H p = none → NL H H' p (joinL L cbs) rs → Q (.ref p) H'
theorem ok_joined (bt : Bt mg) (a : At K mg "joined" s_joined ["layout", "combos"]) : Cl P w K mg base 1 "joined" spJoin := by
  refine clG a sc_joined (fun vs H Q E h => ?_) (fun f cdv A outer s H vs Q hg hr h => ?_)
  · obtain ⟨c, cc, L, m, cbs, rfl, _⟩ := h
    rfl
  · obtain ⟨c, cc, L, m, cbs, rfl, ⟨rs0, hc, hR⟩, hO, ⟨vs, hcc, hCv⟩, few, q⟩ := h
    have hvl := hCv.1
    have hrl := hR.1
    have n1 := hO.n1
    have n6 := hO.n6
    refine ⟨_, (pss_cons (ps_setLc (i := 2) (own := [("combo", 4)]) (g := (gName 4)) (by rfl) sc_joined.nd rfl rfl (sw_true rfl rfl rfl (by decide +kernel)) (pi_list (pv 1)) (blkOk_by (N := n_joined) (sc := defScope s_joined) (by decide +kernel)) (fun _ _ _ _ _ => (pg_name (i := 4) sc_joined.nd rfl (Or.inl rfl))) (fun _ _ _ _ _ => pts_nil) (fun _ _ _ _ _ => (pe_tup (pa_cons pe_str (pa_cons (pe_ix (r := rIxT K) ix_tup (pv 4) pe_int (fun _ _ => rfl)) pa_nil)))))
      (pss_cons (ps_set (i := 3) sc_joined.nd rfl (Or.inr rfl) (pe_op op_rep (pe_lst (pa_cons pe_str pa_nil)) (pe_callB call_len_seq (by rfl) bt.m_len (by decide +kernel) (pa_cons (pv 1) pa_nil))))
      (pss_one (ps_ret (pe_op op_cat (pe_lst (pa_cons (pe_op op_cat (pe_ix ix_list (pv 0) pe_int (fun _ _ => rfl)) (pv 2)) pa_nil)) (pe_lc (own := [("actions", 5)]) (g := (gName 5)) (by rfl) sc_joined.nd (pi_list (pe_slice sl_list (pv 0) (po_some pe_int) po_none)) (blkOk_by (N := n_joined) (sc := defScope s_joined) (by decide +kernel)) (fun _ _ _ _ _ => (pg_name (i := 5) sc_joined.nd rfl (Or.inl rfl))) (fun _ _ _ _ _ => pts_nil) (fun _ _ _ _ _ => (pe_op op_cat (pv 5) (pv 3))))))))), ?_⟩
    -- the codes
    refine ⟨_, rfl, cc, rfl, ⟨_, SqL.of hcc⟩, fun M nM => lc_it (walk_list (xs := vs)) (fun t H' => Same H H' ∧ ∃ us, H' M = some (.lst us) ∧ Acts H' us (codeA (cbs.take t))) ⟨same_upd nM, [], upd_same, Acts.nil⟩ (fun t H' _ z => SqL.of (z.1 _ _ hcc)) (fun t x Hx H3 ht p y => ?_) (fun H3 p => ?_)⟩
    · obtain ⟨rfl, e2⟩ := y
      obtain ⟨s3, us, hM, hA⟩ := p
      have ht' : t < cbs.length := by omega
      obtain ⟨ad, kk, hv, ha, hk⟩ := Cmbs.at_ hCv ht'
      have e2' : x = .ref ad := Option.some.inj (e2.symm.trans hv)
      subst e2'
      have hul := hA.1
      have hcl : (codeA (cbs.take t)).length = t := by unfold codeA; rw [List.length_map, List.length_take]; omega
      refine ⟨rfl, _, rfl, ad, _, _, _, rfl, rfl, SqT.of (s3 _ _ ha), atI_nat (j := 2) rfl, (by show 2 ≤ sizeLine; decide), fun p np => ?_⟩
      have kp := same_upd (o := .tup [.str "code", .str cbs[t].c]) np
      have hM2 := kp _ _ hM
      refine ⟨us, hM2, small1000 (by omega), Same.off (s3.trans kp) nM off_upd, us ++ [.ref p], upd_same, ?_⟩
      have e3 : codeA (cbs.take (t + 1)) = codeA (cbs.take t) ++ [.code cbs[t].c] := by
        unfold codeA
        rw [List.take_add_one, List.getElem?_eq_getElem ht', List.map_append]; rfl
      rw [e3]
      have hv' : ActV (upd H3 p (.tup [.str "code", .str cbs[t].c])) (.code cbs[t].c) (.ref p) := ⟨p, rfl, upd_same⟩
      exact ((hA.keep (Tk.of kp)).snoc hv').keep (tk_upd hM2)
    · obtain ⟨s3, us, hM, hA⟩ := p
      rw [hvl, List.take_length] at hA
      have hul := hA.1
      have hcl : (codeA cbs).length = cbs.length := by unfold codeA; rw [List.length_map]
      refine ⟨(by show 1 ≤ sizeLine; decide), fun Z nZ => ⟨_, rfl, cc, _, rfl, .inl (SqL.of ((s3.trans (same_upd nZ)) _ _ hcc)), Z, (vs.length : Int), _, rfl, rfl, upd_same, by omega, by omega, (by show 1 * (vs.length : Int).toNat ≤ sizeLine; rw [sizeLine_eq]; omega), fun T nT => ?_⟩⟩
      rw [flat_rep]
      have kZ := same_upd (o := .lst [.str "through"]) nZ
      have kT := same_upd (o := .lst (List.replicate vs.length (V.str "through"))) nT
      have s4 := (s3.trans kZ).trans kT
      have hM4 := (kZ.trans kT) _ _ hM
      have hA4 := hA.keep (Tk.of (kZ.trans kT))
      have hT4 := upd_same (H := upd H3 Z (.lst [.str "through"])) (a := T) (o := .lst (List.replicate vs.length (V.str "through")))
      refine (fun (G : ∀ H4 : Hp, Same H H4 → H4 M = some (.lst us) → Acts H4 us (codeA cbs) → H4 T = some (.lst (List.replicate vs.length (V.str "through"))) → _) => G _ s4 hM4 hA4 hT4) (fun H4 s4 hM4 hA4 hT4 => ?_)
      obtain ⟨r0, hr0, v0, hv0, hA0⟩ := hR.at_ (i := 0) (by omega)
      have hv0l := hA0.1
      have hrow0 := hO.len _ (List.getElem_mem (show 0 < L.length by omega))
      have hm16 := hO.m16
      refine ⟨_, rfl, c, _, _, _, rfl, rfl, SqL.of (s4 _ _ hc), atI_nat (j := 0) (get_map_ref hr0), _, rfl, r0, M, _, _, rfl, rfl, s4 _ _ hv0, hM4, Nat.le_of_lt (small1000 (by omega)), fun U nU => ⟨(by show 1 ≤ sizeLine; decide), fun X nX => ?_⟩⟩
      have kU := same_upd (o := .lst (v0 ++ us)) nU
      have kX := same_upd (o := .lst [.ref U]) nX
      have s5 := (s4.trans kU).trans kX
      have hU5 := kX _ _ (upd_same (H := H4) (a := U) (o := .lst (v0 ++ us)))
      have hAU : Acts (upd (upd H4 U (.lst (v0 ++ us))) X (.lst [.ref U])) (v0 ++ us) (joinAt 0 L[0] cbs) := Acts.app (hA0.keep (Tk.of s5)) (hA4.keep (Tk.of (kU.trans kX)))
      have hT5 := (kU.trans kX) _ _ hT4
      have hX5 := upd_same (H := upd H4 U (.lst (v0 ++ us))) (a := X) (o := .lst [.ref U])
      have nU0 := s4.free nU
      refine (fun (G : ∀ H5 : Hp, Same H H5 → H5 U = some (.lst (v0 ++ us)) → Acts H5 (v0 ++ us) (joinAt 0 L[0] cbs) → H5 T = some (.lst (List.replicate vs.length (V.str "through"))) → H5 X = some (.lst [.ref U]) → _) => G _ s5 hU5 hAU hT5 hX5) (fun H5 s5 hU5 hAU hT5 hX5 => ?_)
      refine ⟨_, rfl, 1, rfl, c, _, rfl, SqL.of (s5 _ _ hc), fun S nS => ?_⟩
      rw [show (1 : Int) = ((1 : Nat) : Int) from rfl, cutDrop (by rw [List.length_map]; omega), ← List.map_drop]
      have kS := same_upd (o := .lst ((rs0.drop 1).map V.ref)) nS
      have hS6 := upd_same (H := H5) (a := S) (o := .lst ((rs0.drop 1).map V.ref))
      have s6 := s5.trans kS
      have hT6 := kS _ _ hT5
      have hU6 := kS _ _ hU5
      have hX6 := kS _ _ hX5
      have hA6 := hAU.keep (Tk.of kS)
      refine (fun (G : ∀ H6 : Hp, Same H H6 → H6 S = some (.lst ((rs0.drop 1).map V.ref)) → H6 T = some (.lst (List.replicate vs.length (V.str "through"))) → H6 U = some (.lst (v0 ++ us)) → H6 X = some (.lst [.ref U]) → Acts H6 (v0 ++ us) (joinAt 0 L[0] cbs) → _) => G _ s6 hS6 hT6 hU6 hX6 hA6) (fun H6 s6 hS6 hT6 hU6 hX6 hA6 => ?_)
      have hjl := joinL_len L cbs
      refine ⟨S, rfl, ⟨_, SqL.of hS6⟩, fun D nD => lc_it (walk_list (xs := (rs0.drop 1).map V.ref)) (fun t H' => Same H6 H' ∧ ∃ rs, NL H6 H' D (((joinL L cbs).drop 1).take t) rs) ⟨same_upd nD, [], NL.nil upd_same⟩ (fun t H' _ z => SqL.of (z.1 _ _ hS6)) (fun t x Hx H7 ht p y => ?_) (fun H7 p => ?_)⟩
      · obtain ⟨rfl, e2⟩ := y
        obtain ⟨s7, rs, nl⟩ := p
        have ht' : t + 1 < L.length := by rw [List.length_map, List.length_drop] at ht; omega
        obtain ⟨b, hb, vb, hvb, hAb⟩ := hR.at_ ht'
        have e3 : ((rs0.drop 1).map V.ref)[t]? = some (.ref b) := by
          refine get_map_ref ?_
          rw [List.getElem?_drop, Nat.add_comm]; exact hb
        have e2' : x = .ref b := Option.some.inj (e2.symm.trans e3)
        subst e2'
        have t7 := s6.trans s7
        have hvbl := hAb.1
        have hrowb := hO.len _ (List.getElem_mem ht')
        refine ⟨rfl, _, rfl, _, rfl, b, T, _, _, rfl, rfl, t7 _ _ hvb, s7 _ _ hT6, by rw [List.length_replicate]; exact Nat.le_of_lt (small1000 (by omega)), fun N nN => ?_⟩
        have kN := same_upd (o := .lst (vb ++ List.replicate vs.length (V.str "through"))) nN
        have nl7 := nl.same kN
        have hrl7 := nl.rows.1
        have hpl : (((joinL L cbs).drop 1).take t).length = t := by rw [List.length_take, List.length_drop, hjl]; omega
        have ND : N ≠ D := (ne_of_none nl.ls nN).symm
        have hAN : Acts (upd H7 N (.lst (vb ++ List.replicate vs.length (V.str "through")))) (vb ++ List.replicate vs.length (V.str "through")) (joinAt (t + 1) L[t + 1] cbs) := by
          unfold joinAt
          rw [if_neg (by omega), ← hvl]
          exact Acts.app (hAb.keep (Tk.of (t7.trans kN))) (acts_thr _)
        refine ⟨_, nl7.ls, by rw [List.length_map]; exact small1000 (by omega), Same.off (s7.trans kN) nD off_upd, rs ++ [N], ?_⟩
        have e4 : ((joinL L cbs).drop 1).take (t + 1) = ((joinL L cbs).drop 1).take t ++ [joinAt (t + 1) L[t + 1] cbs] := by
          rw [List.take_add_one, List.getElem?_drop, Nat.add_comm 1 t, joinL_at ht']; rfl
        rw [e4]
        exact nl7.push upd_same hAN (s7.free nN) ND
      · obtain ⟨s7, rs, nl⟩ := p
        rw [List.take_of_length_le (by rw [List.length_map, List.length_drop, List.length_drop, hjl]; omega)] at nl
        have hrl7 := nl.rows.1
        rw [List.length_drop, hjl] at hrl7
        have t7 := s6.trans s7
        refine ⟨X, D, _, _, rfl, rfl, s7 _ _ hX6, nl.ls, by rw [List.length_map]; show 1 + _ ≤ sizeLine; exact Nat.le_of_lt (small1000 (by omega)), fun Pn nP => ?_⟩
        have kP := same_upd (o := .lst ([.ref U] ++ rs.map V.ref)) nP
        have nl8 := nl.same kP
        refine q _ Pn (U :: rs) (t7.trans kP) (t7.free nP) ⟨upd_same, ?_, fun r hr => ?_⟩
        · refine ⟨by rw [List.length_cons, hjl]; omega, fun i r row a b => ?_⟩
          cases i with
          | zero =>
            have e1 : U = r := Option.some.inj a
            rw [joinL_at (by omega)] at b
            have e2 : joinAt 0 L[0] cbs = row := Option.some.inj b
            subst e1 e2
            exact ⟨_, (s7.trans kP) _ _ hU6, hA6.keep (Tk.of (s7.trans kP))⟩
          | succ i =>
            exact nl8.rows.2 i r row a (by rw [List.getElem?_drop, Nat.add_comm]; exact b)
        · rcases List.mem_cons.mp hr with rfl | hr
          · exact ⟨nU0, ne_of_none ((s7.trans (Same.refl _)) _ _ hU6) nP⟩
          · obtain ⟨i, hi⟩ := List.getElem?_of_mem hr
            have hil := (List.getElem?_eq_some_iff.mp hi).1
            obtain ⟨vs', hv', _⟩ := nl.rows.2 i r _ hi (List.getElem?_eq_getElem (by rw [List.length_drop, hjl]; omega))
            exact ⟨s6.free (nl.new r hr).1, ne_of_none hv' nP⟩
end
end K26

set_option Elab.async false
set_option linter.all false
set_option maxRecDepth 100000
set_option maxHeartbeats 8000000
namespace K26
open PySem PySem.Spec PyProof.Rows L2 Gd Rm La Cb
section
variable {P : Program} {w : World} {K : PySem.W.Frag} {mg : Str → Option Value} {base : Heap}
def spCCO : Sp := fun vs H Q _ => ∃ (c cc : Addr) (L : List (List Actn)) (m : Nat) (cbs : List Cmb), vs = [.ref c, .ref cc] ∧ Lay H c L ∧ LayOk L m ∧ m ≤ 10 ∧ Cmbs H cc cbs ∧ CbsOk (m : Int) cbs ∧ ∀ H', Same H H' → Q .non H'
theorem ok_check_combos_of (bt : Bt mg) {tk : Tok} (m_MOST_BOARD_KEYS : mg "MOST_BOARD_KEYS" = some (.int 10 tk)) (a : At K mg "check_combos_of" s_check_combos_of ["layout", "combos"]) (c_check_combos : Cl P w K mg base 6 "check_combos" spCCombos) : Cl P w K mg base 7 "check_combos_of" spCCO := by
  refine clG a sc_check_combos_of (fun vs H Q E h => ?_) (fun f cdv A outer s H vs Q hg hr h => ?_)
  · obtain ⟨c, cc, L, m, cbs, rfl, _⟩ := h
    rfl
  · obtain ⟨c, cc, L, m, cbs, rfl, ⟨rs0, hc, hR⟩, hO, hm, hC, ok, q⟩ := h
    have n1 := hO.n1
    have m16 := hO.m16
    obtain ⟨r0, hr0, v0, hv0, hA0⟩ := hR.at_ (i := 0) (by omega)
    have hv0l := hA0.1
    have hrow0 := hO.len _ (List.getElem_mem (show 0 < L.length by omega))
    refine ⟨_, (pss_cons (ps_if (pt_cmpR op_gt (pe_callB call_len_seq (by rfl) bt.m_len (by decide +kernel) (pa_cons (pe_ix ix_list (pv 0) pe_int (fun _ _ => rfl)) pa_nil)) (pe_glob (v := .int 10) (by rfl) m_MOST_BOARD_KEYS ⟨_, rfl⟩) (nomark _)) pss_never pss_nil)
      (pss_one (ps_expr (pe_cl c_check_combos hg hr (by decide) (by rfl) (pa_cons (pv 1) (pa_cons (pe_callB call_len_seq (by rfl) bt.m_len (by decide +kernel) (pa_cons (pe_ix ix_list (pv 0) pe_int (fun _ _ => rfl)) pa_nil)) pa_nil)))))), ?_⟩
    refine ⟨_, rfl, c, _, _, _, rfl, rfl, SqL.of hc, atI_nat (j := 0) (get_map_ref hr0), r0, _, rfl, .inl (SqL.of hv0), _, _, rfl, rfl, _, rfl, ite2 (fun z => ?_) (fun z => ?_)⟩
    · have := of_decide_eq_true z
      omega
    · refine ⟨_, rfl, _, rfl, c, _, _, _, rfl, rfl, SqL.of hc, atI_nat (j := 0) (get_map_ref hr0), r0, _, rfl, .inl (SqL.of hv0), cc, cbs, (m : Int), ?_, hC, ok, fun H1 s1 => q H1 s1⟩
      rw [hv0l, hrow0]; rfl
def spWith : Sp := fun vs H Q _ => ∃ (c cc : Addr) (L : List (List Actn)) (m : Nat) (cbs : List Cmb), vs = [.ref c, .ref cc] ∧ Lay H c L ∧ LayOk L m ∧ m ≤ 10 ∧ Cmbs H cc cbs ∧ CbsOk (m : Int) cbs ∧
  ∀ H' p rs, Same H H' → H p = none → NL H H' p (joinL L cbs) rs → Q (.ref p) H'
theorem ok_with_combos (a : At K mg "with_combos" s_with_combos ["layout", "combos"]) (c_check_layout : Cl P w K mg base 7 "check_layout" spCheckL) (c_check_combos_of : Cl P w K mg base 7 "check_combos_of" spCCO) (c_joined : Cl P w K mg base 1 "joined" spJoin) : Cl P w K mg base 8 "with_combos" spWith := by
  refine clG a sc_with_combos (fun vs H Q E h => ?_) (fun f cdv A outer s H vs Q hg hr h => ?_)
  · obtain ⟨c, cc, L, m, cbs, rfl, _⟩ := h
    rfl
  · obtain ⟨c, cc, L, m, cbs, rfl, hL, hO, hm, hC, ok, q⟩ := h
    refine ⟨_, (pss_cons (ps_expr (pe_cl c_check_layout hg hr (by decide) (by rfl) (pa_cons (pv 0) pa_nil)))
      (pss_cons (ps_expr (pe_cl c_check_combos_of hg hr (by decide) (by rfl) (pa_cons (pv 0) (pa_cons (pv 1) pa_nil))))
      (pss_one (ps_ret (pe_cl c_joined hg hr (by decide) (by rfl) (pa_cons (pv 0) (pa_cons (pv 1) pa_nil))))))), ?_⟩
    refine ⟨_, rfl, c, L, m, rfl, hL, hO, fun H1 s1 => ?_⟩
    refine ⟨_, rfl, _, rfl, c, cc, L, m, cbs, rfl, hL.same s1, hO, hm, hC.same s1, ok, fun H2 s2 => ?_⟩
    have s12 := s1.trans s2
    refine ⟨_, rfl, _, rfl, c, cc, L, m, cbs, rfl, hL.same s12, hO, hC.same s12, ok.few, fun H3 p rs s3 np nl => ?_⟩
    exact q H3 p rs (s12.trans s3) (s12.free np) ⟨nl.ls, nl.rows, fun r hr => ⟨s12.free (nl.new r hr).1, (nl.new r hr).2⟩⟩
def spIsL : Sp := fun vs H Q _ => ∃ (c : Addr) (L : List (List Actn)) (m : Nat), vs = [.ref c] ∧ Lay H c L ∧ LayOk L m ∧ ∀ H', Same H H' → Q (.bl true) H'
theorem ok_is_layout (a : At K mg "is_layout" s_is_layout ["value"]) (c_check_layout : Cl P w K mg base 7 "check_layout" spCheckL) : Cl P w K mg base 8 "is_layout" spIsL := by
  refine clG a sc_is_layout (fun vs H Q E h => ?_) (fun f cdv A outer s H vs Q hg hr h => ?_)
  · obtain ⟨c, L, m, rfl, _⟩ := h
    rfl
  · obtain ⟨c, L, m, rfl, hL, hO, q⟩ := h
    refine ⟨_, (pss_cons (ps_try_thru0 (pss_one (ps_expr (pe_cl c_check_layout hg hr (by decide) (by rfl) (pa_cons (pv 0) pa_nil)))))
      (pss_one (ps_ret pe_bl))), ?_⟩
    exact ⟨_, rfl, c, L, m, rfl, hL, hO, fun H1 s1 => q H1 s1⟩
def spLDue : Sp := fun vs H Q _ => ∃ (c cc : Addr) (L : List (List Actn)) (m : Nat) (cbs : List Cmb), vs = [.ref c, .ref cc] ∧ Lay H c L ∧ LayOk L m ∧ Cmbs H cc cbs ∧ cbs.length ≤ 6 ∧
  ∀ H' p rs, Same H H' → H p = none → NL H H' p (joinL L cbs) rs → Q (.ref p) H'
theorem ok__law_due (bt : Bt mg) (a : At K mg "_law_due" s__law_due ["_law_layout_here", "_law_combos_here"]) : Cl P w K mg base 1 "_law_due" spLDue := by
  refine clG a sc__law_due (fun vs H Q E h => ?_) (fun f cdv A outer s H vs Q hg hr h => ?_)
  · obtain ⟨c, cc, L, m, cbs, rfl, _⟩ := h
    rfl
  · obtain ⟨c, cc, L, m, cbs, rfl, ⟨rs0, hc, hR⟩, hO, ⟨vs, hcc, hCv⟩, few, q⟩ := h
    have hvl := hCv.1
    have hrl := hR.1
    have n1 := hO.n1
    have n6 := hO.n6
    have m16 := hO.m16
    have hjl := joinL_len L cbs
    refine ⟨_, (pss_cons (ps_set (i := 2) sc__law_due.nd rfl (Or.inl rfl) (pe_lst pa_nil))
      (pss_cons (ps_for PassesOwn.never rfl (pi_range1 (by rfl) bt.m_range (pa_cons (pe_callB call_len_seq (by rfl) bt.m_len (by decide +kernel) (pa_cons (pv 0) pa_nil)) pa_nil)) (pg_name (i := 3) sc__law_due.nd rfl (Or.inr rfl)) (pss_one (ps_expr (pe_bm PySem.F.plainAttrs_list PySem.F.slot_list_append PySem.F.type_list_append mt_append (pv 2) (pa_cons (pe_op op_cat (pe_ix ix_list (pv 0) (pv 3) (fun _ _ => rfl)) (pe_lc (own := [("_law_combo", 4)]) (g := (gName 4)) (by rfl) sc__law_due.nd (pi_list (pv 1)) (blkOk_by (N := n__law_due) (sc := defScope s__law_due) (by decide +kernel)) (fun _ _ _ _ _ => (pg_name (i := 4) sc__law_due.nd rfl (Or.inl rfl))) (fun _ _ _ _ _ => pts_nil) (fun _ _ _ _ _ => (pe_ifExp (pt_cmpR op_eq (pv 3) pe_int (nomark _)) (pe_tup (pa_cons pe_str (pa_cons (pe_ix (r := rIxT K) ix_tup (pv 4) pe_int (fun _ _ => rfl)) pa_nil))) pe_str)))) pa_nil)))))
      (pss_one (ps_ret (pv 2))))), ?_⟩
    refine ⟨Nat.zero_le _, fun F nF => ?_⟩
    have sF := same_upd (o := .lst []) nF
    refine ⟨_, rfl, c, _, rfl, .inl (SqL.of (sF _ _ hc)), (L.length : Int), ?_, by omega, by omega, for_it walk_range (fun i σ H' => ∃ y3 y4 rs, σ = [some (.ref c), some (.ref cc), some (.ref F), y3, y4] ∧ Same H H' ∧ NL H H' F ((joinL L cbs).take i) rs)
      ⟨_, _, [], rfl, sF, NL.nil upd_same⟩ (fun _ _ _ _ _ => True.intro) (fun i x σ Hx H1 hi p y => ?_) (fun σ H1 p => ?_)⟩
    · rw [List.length_map, hrl]
    · obtain ⟨y3, y4, rs, rfl, s1, nl⟩ := p
      obtain ⟨rfl, hx⟩ := y
      have hx : x = .int (0 + (i : Int)) := hx
      have e0 : (0 : Int) + (i : Int) = (i : Int) := Int.zero_add _
      rw [e0] at hx
      subst hx
      have hi' : i < L.length := by omega
      obtain ⟨b, hb, vb, hvb, hAb⟩ := hR.at_ hi'
      have hvbl := hAb.1
      have hrowb := hO.len _ (List.getElem_mem hi')
      have hrl7 := nl.rows.1
      have hpl : ((joinL L cbs).take i).length = i := by rw [List.length_take, hjl]; omega
      have nlls := nl.ls
      refine ⟨_, rfl, .inl ⟨rfl, _, SqL.of nlls⟩, _, rfl, _, rfl, c, _, _, _, rfl, rfl, SqL.of (s1 _ _ hc), atI_nat (get_map_ref hb), ?_⟩
      refine ⟨_, rfl, cc, rfl, ⟨_, SqL.of (s1 _ _ hcc)⟩, fun M nM => lc_it (walk_list (xs := vs)) (fun t H' => Same H1 H' ∧ ∃ us, H' M = some (.lst us) ∧ Acts H' us (if i = 0 then codeA (cbs.take t) else thrA t)) ⟨same_upd nM, [], upd_same, by split <;> exact Acts.nil⟩ (fun t H' _ z => SqL.of (z.1 _ _ (s1 _ _ hcc))) (fun t x Hx H3 ht p y => ?_) (fun H3 p => ?_)⟩
      · obtain ⟨rfl, e2⟩ := y
        obtain ⟨s3, us, hM, hA⟩ := p
        have ht' : t < cbs.length := by omega
        obtain ⟨ad, kk, hv, ha, hk⟩ := Cmbs.at_ hCv ht'
        have e2' : x = .ref ad := Option.some.inj (e2.symm.trans hv)
        subst e2'
        have hul := hA.1
        have hcl : (if i = 0 then codeA (cbs.take t) else thrA t).length = t := by
          split
          · unfold codeA; rw [List.length_map, List.length_take]; omega
          · unfold thrA; rw [List.length_replicate]
        refine ⟨rfl, _, rfl, rfl, _, rfl, ite2 (fun z => ?_) (fun z => ?_)⟩
        · have z0 : i = 0 := by
            have := V.int.inj (of_decide_eq_true z)
            omega
          refine ⟨_, rfl, ad, _, _, _, rfl, rfl, SqT.of (s3 _ _ (s1 _ _ ha)), atI_nat (j := 2) rfl, (by show 2 ≤ sizeLine; decide), fun p np => ?_⟩
          have kp := same_upd (o := .tup [.str "code", .str cbs[t].c]) np
          have hM2 := kp _ _ hM
          refine ⟨us, hM2, small1000 (by omega), Same.off (s3.trans kp) nM off_upd, us ++ [.ref p], upd_same, ?_⟩
          rw [if_pos z0] at hA
          rw [if_pos z0]
          have e3 : codeA (cbs.take (t + 1)) = codeA (cbs.take t) ++ [.code cbs[t].c] := by
            unfold codeA
            rw [List.take_add_one, List.getElem?_eq_getElem ht', List.map_append]; rfl
          rw [e3]
          have hv' : ActV (upd H3 p (.tup [.str "code", .str cbs[t].c])) (.code cbs[t].c) (.ref p) := ⟨p, rfl, upd_same⟩
          exact ((hA.keep (Tk.of kp)).snoc hv').keep (tk_upd hM2)
        · have z0 : ¬ i = 0 := fun e => z (decide_eq_true (by rw [e]; rfl))
          refine ⟨us, hM, small1000 (by omega), Same.off s3 nM off_upd, us ++ [.str "through"], upd_same, ?_⟩
          rw [if_neg z0] at hA
          rw [if_neg z0]
          have e3 : thrA (t + 1) = thrA t ++ [.thr] := by unfold thrA; rw [List.replicate_succ']
          rw [e3]
          have hv' : ActV H3 .thr (.str "through") := rfl
          exact (hA.snoc hv').keep (tk_upd hM)
      · obtain ⟨s3, us, hM, hA⟩ := p
        have hA' : Acts H3 us (if i = 0 then codeA cbs else thrA cbs.length) := by rw [hvl, List.take_length] at hA; exact hA
        have hul := hA'.1
        have hcl : (if i = 0 then codeA cbs else thrA cbs.length).length = cbs.length := by
          split
          · unfold codeA; rw [List.length_map]
          · unfold thrA; rw [List.length_replicate]
        have t3 := s1.trans s3
        refine ⟨b, M, _, _, rfl, rfl, t3 _ _ hvb, hM, Nat.le_of_lt (small1000 (by omega)), fun U nU => ?_⟩
        have kU := same_upd (o := .lst (vb ++ us)) nU
        have nl4 := (nl.same s3).same kU
        have UF : U ≠ F := (ne_of_none (s3 _ _ nlls) nU).symm
        refine ⟨F, _, .ref U, rfl, rfl, nl4.ls, by rw [List.length_map]; exact small1000 (by omega), _, _, rs ++ [U], rfl, Same.off (t3.trans kU) nF off_upd, ?_⟩
        rw [joinL_take hi']
        exact nl4.push upd_same (Acts.app (hAb.keep (Tk.of (t3.trans kU))) (hA'.keep (Tk.of kU))) (t3.free nU) UF
    · obtain ⟨y3, y4, rs, rfl, s1, nl⟩ := p
      rw [List.take_of_length_le (by rw [hjl]; omega)] at nl
      exact ⟨_, rfl, q _ F rs s1 nF nl⟩
end
end K26

set_option Elab.async false
set_option linter.all false
set_option maxRecDepth 100000
set_option maxHeartbeats 16000000
namespace K26
open PySem PySem.Spec PyProof.Rows L2 Gd Rm La Cb
/-- a layout whose rows are each one for itself -/
structure Fresh (H0 : Hp) (D : Addr) (L : List (List Actn)) (H : Hp) : Prop where
  same : Same H0 H
  ls : ∃ rs : List Addr, H D = some (.lst (rs.map V.ref)) ∧ Rows H rs L ∧ rs.Nodup ∧ ∀ r ∈ rs, H0 r = none ∧ r ≠ D
theorem Fresh.set {H0 H : Hp} {D r : Addr} {L : List (List Actn)} {rs : List Addr} {row : List Actn} {vs : List V} {i j : Nat} {v : V} {x : Actn} (s : Same H0 H) (h : H D = some (.lst (rs.map V.ref))) (hR : Rows H rs L) (nd : rs.Nodup) (hn : ∀ r ∈ rs, H0 r = none ∧ r ≠ D)
    (hi : rs[i]? = some r) (hL : L[i]? = some row) (hv : H r = some (.lst vs)) (ha : Acts H vs row) (hx : ActV H x v) : Fresh H0 D (L.set i (row.set j x)) (upd H r (.lst (vs.set j v))) := by
  have nr := hn r (List.mem_of_getElem? hi)
  have hil := (List.getElem?_eq_some_iff.mp hL).1
  refine ⟨Same.off s nr.1 off_upd, rs, ?_, ⟨by rw [List.length_set]; exact hR.1, fun k r' row' a b => ?_⟩, nd, hn⟩
  · rw [upd_ne nr.2.symm]; exact h
  · by_cases z : i = k
    · subst z
      rw [List.getElem?_set_self hil] at b
      have e : row.set j x = row' := Option.some.inj b
      subst e
      rw [hi] at a
      have e : r = r' := Option.some.inj a
      subst e
      exact ⟨vs.set j v, upd_same, (ha.set hx).keep (tk_upd hv)⟩
    · rw [List.getElem?_set_ne z] at b
      refine row_upd (hR.2 k r' row' a b) hv fun e => z ?_
      subst e
      exact nd_ix nd hi a
theorem line_of {L n : Nat} {d : PyData} (h : Fit L n d) (hl : L ≤ 3000000) : d.shown.length ≤ sizeLine := by
  have := h.ln
  rw [sizeLine_eq]
  omega
theorem neV (x : V) : V.bl (!decide (x = x)) = V.bl false := by simp
theorem eqVt (x : V) : V.bl (decide (x = x)) = V.bl true := by simp
theorem fit_kept {many : Int} {cbs : List Cmb} {L : List (List Actn)} {m : Nat} (hm : many ≤ 1000) (ok : CbsOk many cbs) (hO : LayOk L m) : Fit 3000000 5 (.list [layD L, cmbsD cbs]) := by
  refine Fit.mono (fit_list (L := 300100) (n := 4) fun d hd => ?_) (by show 2 * 300102 + 3 ≤ 3000000; decide) (Nat.le_refl _)
  simp only [List.mem_cons, List.mem_nil_iff, or_false] at hd
  rcases hd with rfl | rfl
  · exact hO.fit
  · exact Fit.mono (fit_cmbs hm ok) (by decide) (by decide)
theorem CbsOk.drop {many : Int} {cbs : List Cmb} (h : CbsOk many cbs) (n : Nat) : CbsOk many (cbs.drop n) :=
  ⟨fun cb hc => h.all cb (List.mem_of_mem_drop hc), by rw [List.length_drop]; have := h.few; omega, by rw [List.map_drop]; exact h.apart.sublist (List.drop_sublist _ _)⟩
theorem set_ok {L : List (List Actn)} {m : Nat} {row : List Actn} {c : Str} (h : LayOk L m) (h0 : L[0]? = some row) (hc : CodeOk c) : LayOk (L.set 0 (row.set 0 (.code c))) m := by
  have hl := h.len row (List.mem_of_getElem? h0)
  refine ⟨by rw [List.length_set]; exact h.n1, by rw [List.length_set]; exact h.n6, h.m1, h.m16, fun x hx => ?_, fun i r hi x hx => ?_⟩
  · rcases List.mem_or_eq_of_mem_set hx with q | rfl
    · exact h.len x q
    · rw [List.length_set]; exact hl
  · rw [List.length_set]
    by_cases z : 0 = i
    · subst z
      rw [List.getElem?_set_self (by have := h.n1; omega)] at hi
      have e := Option.some.inj hi
      subst e
      rcases List.mem_or_eq_of_mem_set hx with q | rfl
      · exact h.ok 0 row h0 x q
      · exact hc
    · rw [List.getElem?_set_ne z] at hi
      exact h.ok i r hi x hx
/-- where the law stands between two turns -/
structure St (H2 H : Hp) (r c cc : Addr) (m : Nat) (L : List (List Actn)) (cbs : List Cmb) (rs : List Addr) : Prop where
  off : Rm.Off r H2 H
  ls : H c = some (.lst (rs.map V.ref))
  rows : Rows H rs L
  nd : rs.Nodup
  new : ∀ x ∈ rs, H2 x = none ∧ x ≠ c
  lo : LayOk L m
  m10 : m ≤ 10
  cb : Cmbs H cc cbs
  ok : CbsOk (m : Int) cbs
  ncc : ∀ x ∈ rs, x ≠ cc
theorem St.lay {H2 H : Hp} {r c cc : Addr} {m : Nat} {L : List (List Actn)} {cbs : List Cmb} {rs : List Addr} (h : St H2 H r c cc m L cbs rs) : Lay H c L := ⟨rs, h.ls, h.rows⟩
theorem St.same {H2 H H' : Hp} {r c cc : Addr} {m : Nat} {L : List (List Actn)} {cbs : List Cmb} {rs : List Addr} (h : St H2 H r c cc m L cbs rs) (s : Same H H') : St H2 H' r c cc m L cbs rs :=
  { h with off := h.off.sameTrans s, ls := s _ _ h.ls, rows := h.rows.same s, cb := h.cb.same s }
section
variable {P : Program} {w : World} {K : PySem.W.Frag} {mg : Str → Option Value} {base : Heap}
def spLaw (K : PySem.W.Frag) : Sp := fun vs H Q _ => ∃ (a : Addr) (ns : List Int), vs = [.ref a] ∧ SqL K H a (ns.map V.int) ∧ ns.length ≤ 63 ∧ ∀ H', Q (.bl true) H'
theorem ok_law {f : Addr} {fd : FuncData} (bt : Bt mg) (a : Fun K "law" "law" s_law f fd) (c__law_spring : Cl P w K mg base 1 "_law_spring" (spPool K)) (c__law_combos : Cl P w K mg base 2 "_law_combos" spLCombos)
    (c__law_layout : Cl P w K mg base 5 "_law_layout" spLLay) (c__law_due : Cl P w K mg base 1 "_law_due" spLDue) (c_with_combos : Cl P w K mg base 8 "with_combos" spWith) (c_is_layout : Cl P w K mg base 8 "is_layout" spIsL) : FnG P w K mg base 9 f fd ["_law_script"] (spLaw K) := by
  refine fnG a sc_law (fun vs H Q E h => ?_) (fun cdv A outer s H vs Q hg hr h => ?_)
  · obtain ⟨a, e, rfl, _⟩ := h
    rfl
  · obtain ⟨sc, ns, rfl, hS, hl, q⟩ := h
    refine ⟨_, (pss_cons (ps_for PassesOwn.never rfl (pi_range1 (by rfl) bt.m_range (pa_cons (pe_callB (call_max2 rfl) (by rfl) bt.m_max (by decide +kernel) (pa_cons pe_int (pa_cons (pe_callB (call_min2 rfl) (by rfl) bt.m_min (by decide +kernel) (pa_cons pe_int (pa_cons (pe_callB call_len_seq (by rfl) bt.m_len (by decide +kernel) (pa_cons (pv 0) pa_nil)) pa_nil))) pa_nil))) pa_nil)) (pg_name (i := 1) sc_law.nd rfl (Or.inl rfl)) (pss_cons (ps_set (i := 2) sc_law.nd rfl (Or.inl rfl) (pe_cl c__law_spring hg hr (by decide) (by rfl) (pa_cons (pv 0) (pa_cons (pv 1) pa_nil))))
      (pss_cons (ps_set (i := 3) sc_law.nd rfl (Or.inl rfl) (pe_cl c__law_layout hg hr (by decide) (by rfl) (pa_cons (pv 2) (pa_cons pe_int (pa_cons pe_int (pa_cons (pe_op op_powW pe_int pe_int) pa_nil))))))
      (pss_cons (ps_set (i := 4) sc_law.nd rfl (Or.inl rfl) (pe_cl c__law_combos hg hr (by decide) (by rfl) (pa_cons (pv 2) (pa_cons (pe_callB call_len_seq (by rfl) bt.m_len (by decide +kernel) (pa_cons (pe_ix ix_list (pv 3) pe_int (fun _ _ => rfl)) pa_nil)) (pa_cons (pe_op op_powW pe_int pe_int) pa_nil)))))
      (pss_one (ps_for PassesOwn.never rfl (pi_range1 (by rfl) bt.m_range (pa_cons pe_int pa_nil)) (pg_name (i := 5) sc_law.nd rfl (Or.inl rfl)) (pss_cons (ps_par (i := 6) (j := 7) rfl sc_law.nd rfl rfl (by decide) rfl rfl (pa_cons (pe_callB (call_repA hg hr) (by rfl) bt.m_repr (by decide +kernel) (pa_cons (pe_lst (pa_cons (pv 3) (pa_cons (pv 4) pa_nil))) pa_nil)) (pa_cons (pe_cl c__law_due hg hr (by decide) (by rfl) (pa_cons (pv 3) (pa_cons (pv 4) pa_nil))) pa_nil)) (by rfl))
      (pss_cons (ps_set (i := 8) sc_law.nd rfl (Or.inl rfl) (pe_cl c_with_combos hg hr (by decide) (by rfl) (pa_cons (pv 3) (pa_cons (pv 4) pa_nil))))
      (pss_cons (ps_if (PW.pt (pw_or (pt_cmpR op_ne (pe_callB (call_repA hg hr) (by rfl) bt.m_repr (by decide +kernel) (pa_cons (pv 8) pa_nil)) (pe_callB (call_repA hg hr) (by rfl) bt.m_repr (by decide +kernel) (pa_cons (pv 7) pa_nil)) (nomark _)) (pw_or1 (pt_cmpR op_notBl (pe_cl c_is_layout hg hr (by decide) (by rfl) (pa_cons (pv 8) pa_nil)) pe_bl (nomark _))))) (pss_one (ps_ret pe_bl)) pss_nil)
      (pss_cons (ps_expr (pe_bm PySem.F.plainAttrs_list PySem.F.slot_list_append PySem.F.type_list_append mt_append (pe_ix ix_list (pv 8) pe_int (fun _ _ => rfl)) (pa_cons pe_str pa_nil)))
      (pss_cons (ps_expr (pe_bm PySem.F.plainAttrs_list PySem.F.slot_list_append PySem.F.type_list_append mt_append (pv 8) (pa_cons (pe_lst pa_nil) pa_nil)))
      (pss_cons (ps_if (PW.pt (pw_or (pt_cmpR op_ne (pe_callB (call_repA hg hr) (by rfl) bt.m_repr (by decide +kernel) (pa_cons (pe_cl c_with_combos hg hr (by decide) (by rfl) (pa_cons (pv 3) (pa_cons (pv 4) pa_nil))) pa_nil)) (pe_callB (call_repA hg hr) (by rfl) bt.m_repr (by decide +kernel) (pa_cons (pv 7) pa_nil)) (nomark _)) (pw_or1 (pt_cmpR op_ne (pe_callB (call_repA hg hr) (by rfl) bt.m_repr (by decide +kernel) (pa_cons (pe_lst (pa_cons (pv 3) (pa_cons (pv 4) pa_nil))) pa_nil)) (pv 6) (nomark _))))) (pss_one (ps_ret pe_bl)) pss_nil)
      (pss_cons (ps_asg (pe_tup (pa_cons pe_str (pa_cons pe_str pa_nil))) (pg_sub (pe_ix ix_list (pv 3) pe_int (fun _ _ => rfl)) pe_int set_list))
      (pss_one (ps_set (i := 4) sc_law.nd rfl (Or.inl rfl) (pe_slice sl_list (pv 4) (po_some pe_int) po_none))))))))))))))))
      (pss_one (ps_ret pe_bl))), ?_⟩
    refine ⟨_, rfl, sc, _, rfl, .inl hS, _, _, rfl, ?_⟩
    refine ⟨1, _, rfl, _, rfl, ?_, ?_, ?_⟩
    · (repeat' split) <;> omega
    · (repeat' split) <;> omega
    refine for_it walk_range (fun i σ H' => Same H H' ∧ ∃ y1 y2 y3 y4 y5 y6 y7 y8, σ = [some (.ref sc), y1, y2, y3, y4, y5, y6, y7, y8]) ⟨Same.refl _, _, _, _, _, _, _, _, _, rfl⟩ (fun _ _ _ _ _ => True.intro) (fun i x σ Hx H1 hi p y => ?_) (fun σ H1 p => ?_)
    · obtain ⟨s1, y1, y2, y3, y4, y5, y6, y7, y8, rfl⟩ := p
      obtain ⟨rfl, hx⟩ := y
      have hx : x = .int (0 + (i : Int)) := hx
      have e0 : (0 : Int) + (i : Int) = ((i : Nat) : Int) := Int.zero_add _
      rw [e0] at hx
      subst hx
      have hi4 : i < 60 := by
        refine Nat.lt_of_lt_of_le hi ?_
        (repeat' split) <;> omega
      have hS1 : SqL K H1 sc (ns.map V.int) := s1.seq hS
      refine ⟨_, rfl, _, rfl, sc, ns, i, rfl, hS1, hl, hi4, fun r H2 s2 nr R2 => ?_⟩
      refine ⟨_, rfl, _, _, rfl, rfl, powW (n := 40) (k := 9) (by decide) (by decide), r, 0, 6, 10, _, rfl, R2, by decide, by decide, by decide, by decide, by decide, by decide, by decide, fun H3 c L m o3 nc R3 fl hO hm => ?_⟩
      obtain ⟨rs, hc, hR, nd, hn⟩ := fl
      have n1 := hO.n1
      obtain ⟨r0, hr0, v0, hv0, hA0⟩ := hR.at_ (i := 0) (by omega)
      have hv0l := hA0.1
      have hrow0 := hO.len _ (List.getElem_mem (show 0 < L.length by omega))
      refine ⟨_, rfl, _, rfl, c, _, _, _, rfl, rfl, SqL.of hc, atI_nat (j := 0) (get_map_ref hr0), r0, _, rfl, .inl (SqL.of hv0), _, _, rfl, rfl, powW (n := 40) (k := 9) (by decide) (by decide), r, 10000, m, 10 ^ 9, ?_, R3, by decide, hO.m1, hm, by decide, by decide, fun H4 cc cbs o4 ncc R4 hC ok => ?_⟩
      · rw [hv0l, hrow0]; rfl
      have cr : c ≠ r := R2.new nc
      have rr : ∀ x ∈ rs, x ≠ r := fun x hx => R2.new (hn x hx).1
      have t34 := R3.tk o4
      have ofRow : ∀ x ∈ rs, x ≠ cc := fun x hx => by
        obtain ⟨j, hj⟩ := List.getElem?_of_mem hx
        have hjl := (List.getElem?_eq_some_iff.mp hj).1
        obtain ⟨vs', hv', _⟩ := hR.2 j x _ hj (List.getElem?_eq_getElem (by rw [← hR.1]; exact hjl))
        exact ne_of_none hv' ncc
      have S4 : St H2 H4 r c cc m L cbs rs := ⟨o3.trans o4, o4 _ _ hc cr, ⟨hR.1, fun j x row a b => row_off (hR.2 j x row a b) (rr x (List.mem_of_getElem? a)) o4 t34⟩, nd, hn, hO, hm, hC, ok, ofRow⟩
      clear hc hR hA0 hv0 hr0 hv0l hrow0 nd hn hO hm hC ok ofRow rr
      refine ⟨2, rfl, by decide, by decide, for_it walk_range (fun t σ H' => ∃ (cc : Addr) (L : List (List Actn)) (cbs : List Cmb) (rs : List Addr) (z5 z6 z7 z8 : Option V), σ = [some (.ref sc), some (.int (i : Nat)), some (.ref r), some (.ref c), some (.ref cc), z5, z6, z7, z8] ∧ St H2 H' r c cc m L cbs rs)
        ⟨cc, L, cbs, rs, _, _, _, _, rfl, S4⟩ (fun _ _ _ _ _ => True.intro) (fun t x σ Hx H5 ht h y => ?_) (fun σ H5 h => ?_)⟩
      · obtain ⟨cc, L, cbs, rs, z5, z6, z7, z8, rfl, S⟩ := h
        obtain ⟨rfl, rfl⟩ := y
        have F1 := fit_kept (many := (m : Int)) (by have := S.m10; omega) S.ok S.lo
        have hJ := joinL_ok S.lo S.m10 S.ok
        have F2 := hJ.fit
        have few := S.ok.few
        have dp1 : ∀ {H' : Hp}, Same H5 H' → ∀ {z : Addr}, H' z = some (.lst [.ref c, .ref cc]) → Dp K H' (.ref z) (.list [layD L, cmbsD cbs]) := fun {H'} s {z} hz =>
          .lst (SqL.of hz) (.cons (S.lay.same s).dp (.cons (S.cb.same s).dp .nil))
        refine ⟨_, rfl, _, rfl, (by show 2 ≤ sizeLine; decide), fun Z nZ => ?_⟩
        have kZ := same_upd (o := .lst [.ref c, .ref cc]) nZ
        refine ⟨_, _, rfl, dp1 kZ upd_same, F1.sh, by have := F1.dp; omega, line_of F1 (by decide), ?_⟩
        refine ⟨_, rfl, _, rfl, c, cc, L, m, cbs, rfl, S.lay.same kZ, S.lo, S.cb.same kZ, few, fun H6 pd rsd s6 npd nld => ⟨_, _, rfl, ?_⟩⟩
        have t6 := kZ.trans s6
        refine ⟨_, rfl, _, rfl, c, cc, L, m, cbs, rfl, S.lay.same t6, S.lo, S.m10, S.cb.same t6, S.ok, fun H7 p rsf s7 np nlf => ?_⟩
        have t7 := t6.trans s7
        have nld7 := nld.same s7
        refine ⟨_, rfl, _, _, rfl, nlf.lay.dp, F2.sh, by have := F2.dp; omega, line_of F2 (by decide), _, rfl, _, _, rfl, nld7.lay.dp, F2.sh, by have := F2.dp; omega, line_of F2 (by decide), rfl, false, neV _, iteF ?_⟩
        refine ⟨_, rfl, p, _, _, rfl, nlf.lay, hJ, fun H8 s8 => ⟨true, true, rfl, rfl, _, rfl, iteF ?_⟩⟩
        have t8 := t7.trans s8
        have nlf8 := nlf.same s8
        have nld8 := nld7.same s8
        have s68 := s7.trans s8
        -- found is changed
        have n1 := S.lo.n1
        have hjl := joinL_len L cbs
        obtain ⟨f0, hf0, u0, hu0, hB0⟩ := nlf8.rows.at_ (i := 0) (by omega)
        have nf0 := nlf8.new f0 (List.mem_of_getElem? hf0)
        have hu0l := hB0.1
        have hrow0 := hJ.len _ (List.getElem_mem (show 0 < (joinL L cbs).length by omega))
        have m10 := S.m10
        refine ⟨_, rfl, p, _, _, _, rfl, rfl, SqL.of nlf8.ls, atI_nat (j := 0) (get_map_ref hf0), .inl ⟨rfl, _, SqL.of hu0⟩, f0, _, _, rfl, rfl, hu0, small1000 (by omega), ?_⟩
        have s9 : Same H6 (upd H8 f0 (.lst (u0 ++ [.str "none"]))) := Same.off s68 nf0.1 off_upd
        have hp9 : upd H8 f0 (.lst (u0 ++ [.str "none"])) p = some (.lst (rsf.map V.ref)) := by rw [upd_ne nf0.2.symm]; exact nlf8.ls
        have hrl := nlf8.rows.1
        refine (fun (G : ∀ H9 : Hp, Same H6 H9 → H9 p = some (.lst (rsf.map V.ref)) → _) => G _ s9 hp9) (fun H9 s9 hp9 => ?_)
        refine ⟨_, rfl, .inl ⟨rfl, _, SqL.of hp9⟩, Nat.zero_le _, fun N nN => ?_⟩
        have kN := same_upd (o := .lst []) nN
        refine ⟨p, _, _, rfl, rfl, kN _ _ hp9, by rw [List.length_map]; exact small1000 (by have := S.lo.n6; omega), ?_⟩
        have s10 : Same H6 (upd (upd H9 N (.lst [])) p (.lst (rsf.map V.ref ++ [.ref N]))) := Same.off (s9.trans kN) np off_upd
        refine (fun (G : ∀ H10 : Hp, Same H6 H10 → _) => G _ s10) (fun H10 s10 => ?_)
        have t10 := t6.trans s10
        have nld10 := nld.same s10
        refine ⟨_, rfl, _, rfl, c, cc, L, m, cbs, rfl, S.lay.same t10, S.lo, S.m10, S.cb.same t10, S.ok, fun H11 p2 rsg s11 np2 nlg => ?_⟩
        have nld11 := nld10.same s11
        have t11 := t10.trans s11
        refine ⟨_, _, rfl, nlg.lay.dp, F2.sh, by have := F2.dp; omega, line_of F2 (by decide), _, rfl, _, _, rfl, nld11.lay.dp, F2.sh, by have := F2.dp; omega, line_of F2 (by decide), rfl, false, neV _, iteF ?_⟩
        refine ⟨_, rfl, _, rfl, (by show 2 ≤ sizeLine; decide), fun Y nY => ?_⟩
        have kY := same_upd (o := .lst [.ref c, .ref cc]) nY
        have t12 := t11.trans kY
        refine ⟨_, _, rfl, dp1 t12 upd_same, F1.sh, by have := F1.dp; omega, line_of F1 (by decide), _, rfl, rfl, false, neV _, iteF ?_⟩
        have S12 := S.same t12
        refine (fun (G : ∀ H12 : Hp, St H2 H12 r c cc m L cbs rs → _) => G _ S12) (fun H12 S12 => ?_)
        refine ⟨(by show 2 ≤ sizeLine; decide), fun T nT => ?_⟩
        have kT := same_upd (o := .tup [.str "code", .str "b"]) nT
        have S13 := S12.same kT
        have hT13 := upd_same (H := H12) (a := T) (o := .tup [.str "code", .str "b"])
        refine (fun (G : ∀ H13 : Hp, St H2 H13 r c cc m L cbs rs → H13 T = some (.tup [.str "code", .str "b"]) → _) => G _ S13 hT13) (fun H13 S13 hT13 => ?_)
        obtain ⟨r0, hr0, v0, hv0, hA0⟩ := S13.rows.at_ (i := 0) (by omega)
        have hv0l := hA0.1
        have hrow := S13.lo.len _ (List.getElem_mem (show 0 < L.length by omega))
        have m1 := S13.lo.m1
        have hL0 : L[0]? = some L[0] := List.getElem?_eq_getElem (by omega)
        have nr0 := S13.new r0 (List.mem_of_getElem? hr0)
        have hx : ActV H13 (.code "b") (.ref T) := ⟨T, rfl, hT13⟩
        have fr := Fresh.set (H0 := fun _ => none) (D := c) (j := 0) (fun _ _ h => by cases h) S13.ls S13.rows S13.nd (fun x hx => ⟨rfl, (S13.new x hx).2⟩) hr0 hL0 hv0 hA0 hx
        obtain ⟨_, rs', hls', hrows', nd', _⟩ := fr
        have hls13 : upd H13 r0 (.lst (v0.set 0 (.ref T))) c = some (.lst (rs.map V.ref)) := by rw [upd_ne nr0.2.symm]; exact S13.ls
        have ers : rs' = rs := by
          rw [hls13] at hls'
          injection hls' with e
          injection e with e
          exact ((List.map_inj_right fun x y h => V.ref.inj h).mp e).symm
        subst ers
        obtain ⟨vs, hcc, hCv⟩ := id S13.cb
        have ccr0 : cc ≠ r0 := (S13.ncc r0 (List.mem_of_getElem? hr0)).symm
        refine ⟨_, rfl, c, _, _, _, rfl, rfl, SqL.of S13.ls, atI_nat (j := 0) (get_map_ref hr0), r0, _, 0, 0, rfl, rfl, hv0, ixN_nat (j := 0) (by omega), ?_⟩
        have tk : Tk H13 (upd H13 r0 (.lst (v0.set 0 (.ref T)))) := tk_upd hv0
        have S14 : St H2 (upd H13 r0 (.lst (v0.set 0 (.ref T)))) r c cc m (L.set 0 (L[0].set 0 (.code "b"))) cbs rs' :=
          ⟨S13.off.new nr0.1, hls13, hrows', S13.nd, S13.new, set_ok S13.lo hL0 (codesL_ok "b" (by decide +kernel)), S13.m10, S13.cb.go tk (fun vs h => by rw [upd_ne ccr0]; exact h), S13.ok, S13.ncc⟩
        refine (fun (G : ∀ H14 : Hp, St H2 H14 r c cc m (L.set 0 (L[0].set 0 (.code "b"))) cbs rs' → _) => G _ S14) (fun H14 S14 => ?_)
        obtain ⟨vs, hcc, hCv⟩ := id S14.cb
        have hvl := hCv.1
        refine ⟨_, rfl, 1, rfl, cc, _, rfl, SqL.of hcc, fun N2 nN2 => ?_⟩
        have kN2 := same_upd (o := .lst (cutV vs (some (1 : Int)) none)) nN2
        have S15 := S14.same kN2
        have hcut : cutV vs (some (1 : Int)) none = vs.drop 1 := by
          cases vs with
          | nil => rfl
          | cons x xs => exact cutDrop (k := 1) (by rw [List.length_cons]; omega)
        have hC15 : Cmbs (upd H14 N2 (.lst (cutV vs (some (1 : Int)) none))) N2 (cbs.drop 1) := by
          refine ⟨vs.drop 1, by rw [upd_same, hcut], by rw [List.length_drop, List.length_drop, hvl], fun i v cb x y => ?_⟩
          rw [List.getElem?_drop] at x y
          exact (hCv.2 _ v cb x y).tk (Tk.of kN2)
        refine ⟨N2, _, cbs.drop 1, rs', _, _, _, _, rfl, { S15 with cb := hC15, ok := K26.CbsOk.drop S15.ok 1, ncc := fun x hx => ?_ }⟩
        obtain ⟨j, hj⟩ := List.getElem?_of_mem hx
        have hjl := (List.getElem?_eq_some_iff.mp hj).1
        obtain ⟨vs', hv', _⟩ := S14.rows.2 j x _ hj (List.getElem?_eq_getElem (by rw [← S14.rows.1]; exact hjl))
        exact ne_of_none hv' nN2
      · obtain ⟨cc, L, cbs, rs, z5, z6, z7, z8, rfl, S⟩ := h
        exact ⟨s1.trans (Same.off s2 nr S.off), _, _, _, _, _, _, _, _, rfl⟩
    · exact q _
end
end K26

set_option Elab.async false
set_option linter.all false
set_option maxRecDepth 100000
set_option maxHeartbeats 8000000
namespace K26
open PySem PySem.Spec PyProof.Rows L2 Gd Rm
theorem at_mk {K : PySem.W.Frag} {h : Heap} {mg : Str → Option Value} {x : Str} {st : Stmt} {ps : List Str} {f : Addr} {od an : Option Addr} {sl : Array (Option Value)} {oc kV dc pm cd ct : Value} (X : K.In h) (G : h.Ns mainGlobals mg)
    (a : PySem.W.nsIn K mainGlobals x = some (some (.ref f))) (l : K.lookup f = some ⟨oc, od, .func (PySem.W.fnOf x x (defArgs st) (defBody st) (defScope st) .none kV dc pm an cd ct), sl⟩) (c : PySem.W.codeIn K cd x = true) (k : PySem.W.keepIn K (.ref f) = true)
    (hb : ∀ (kV doc pm : Value) (an : Option Addr) (cdv ct : Value) (us : List Value), us.length = ps.length → bindArgs (PySem.W.fnOf x x (defArgs st) (defBody st) (defScope st) .none kV doc pm an cdv ct) ⟨us, []⟩ = pure (ps.zip us)) : At K mg x st ps :=
  ⟨_, _, fun_mk l c k, PySem.W.mg_of X G a, (fun_mk l c k).binds hb⟩
theorem all_mk {l : PySem.W.OpenLaw} {w : World} {K : PySem.W.Frag} {h : Heap} {mg : Str → Option Value} {fa : Addr} (X : K.In h) (G : h.Ns mainGlobals mg) (hfa : mg "law" = some (.ref fa))
    {f0 : Addr} {od0 an0 : Option Addr} {sl0 : Array (Option Value)} {oc0 kV0 dc0 pm0 cd0 ct0 : Value}
    {f1 : Addr} {od1 an1 : Option Addr} {sl1 : Array (Option Value)} {oc1 kV1 dc1 pm1 cd1 ct1 : Value}
    {f2 : Addr} {od2 an2 : Option Addr} {sl2 : Array (Option Value)} {oc2 kV2 dc2 pm2 cd2 ct2 : Value}
    {f3 : Addr} {od3 an3 : Option Addr} {sl3 : Array (Option Value)} {oc3 kV3 dc3 pm3 cd3 ct3 : Value}
    {f4 : Addr} {od4 an4 : Option Addr} {sl4 : Array (Option Value)} {oc4 kV4 dc4 pm4 cd4 ct4 : Value}
    {f5 : Addr} {od5 an5 : Option Addr} {sl5 : Array (Option Value)} {oc5 kV5 dc5 pm5 cd5 ct5 : Value}
    {f6 : Addr} {od6 an6 : Option Addr} {sl6 : Array (Option Value)} {oc6 kV6 dc6 pm6 cd6 ct6 : Value}
    {f7 : Addr} {od7 an7 : Option Addr} {sl7 : Array (Option Value)} {oc7 kV7 dc7 pm7 cd7 ct7 : Value}
    {f8 : Addr} {od8 an8 : Option Addr} {sl8 : Array (Option Value)} {oc8 kV8 dc8 pm8 cd8 ct8 : Value}
    {f9 : Addr} {od9 an9 : Option Addr} {sl9 : Array (Option Value)} {oc9 kV9 dc9 pm9 cd9 ct9 : Value}
    {f10 : Addr} {od10 an10 : Option Addr} {sl10 : Array (Option Value)} {oc10 kV10 dc10 pm10 cd10 ct10 : Value}
    {f11 : Addr} {od11 an11 : Option Addr} {sl11 : Array (Option Value)} {oc11 kV11 dc11 pm11 cd11 ct11 : Value}
    {f12 : Addr} {od12 an12 : Option Addr} {sl12 : Array (Option Value)} {oc12 kV12 dc12 pm12 cd12 ct12 : Value}
    {f13 : Addr} {od13 an13 : Option Addr} {sl13 : Array (Option Value)} {oc13 kV13 dc13 pm13 cd13 ct13 : Value}
    {f14 : Addr} {od14 an14 : Option Addr} {sl14 : Array (Option Value)} {oc14 kV14 dc14 pm14 cd14 ct14 : Value}
    {f15 : Addr} {od15 an15 : Option Addr} {sl15 : Array (Option Value)} {oc15 kV15 dc15 pm15 cd15 ct15 : Value}
    {f16 : Addr} {od16 an16 : Option Addr} {sl16 : Array (Option Value)} {oc16 kV16 dc16 pm16 cd16 ct16 : Value}
    {f17 : Addr} {od17 an17 : Option Addr} {sl17 : Array (Option Value)} {oc17 kV17 dc17 pm17 cd17 ct17 : Value}
    {f18 : Addr} {od18 an18 : Option Addr} {sl18 : Array (Option Value)} {oc18 kV18 dc18 pm18 cd18 ct18 : Value}
    {f19 : Addr} {od19 an19 : Option Addr} {sl19 : Array (Option Value)} {oc19 kV19 dc19 pm19 cd19 ct19 : Value}
    {f20 : Addr} {od20 an20 : Option Addr} {sl20 : Array (Option Value)} {oc20 kV20 dc20 pm20 cd20 ct20 : Value}
    {f21 : Addr} {od21 an21 : Option Addr} {sl21 : Array (Option Value)} {oc21 kV21 dc21 pm21 cd21 ct21 : Value}
    {f22 : Addr} {od22 an22 : Option Addr} {sl22 : Array (Option Value)} {oc22 kV22 dc22 pm22 cd22 ct22 : Value}
    {f23 : Addr} {od23 an23 : Option Addr} {sl23 : Array (Option Value)} {oc23 kV23 dc23 pm23 cd23 ct23 : Value}
    {f24 : Addr} {od24 an24 : Option Addr} {sl24 : Array (Option Value)} {oc24 kV24 dc24 pm24 cd24 ct24 : Value}
    {f25 : Addr} {od25 an25 : Option Addr} {sl25 : Array (Option Value)} {oc25 kV25 dc25 pm25 cd25 ct25 : Value}
    {f26 : Addr} {od26 an26 : Option Addr} {sl26 : Array (Option Value)} {oc26 kV26 dc26 pm26 cd26 ct26 : Value}
    {tk0 : Tok}
    {tk1 : Tok}
    {tk2 : Tok}
    {g3 : Addr} {gs3 : Array (Option Value)} {gn3 : Nat} {tk3_0 tk3_1 tk3_2 : Tok}
    {g4 : Addr} {gs4 : Array (Option Value)} {gn4 : Nat} {tk4_0 tk4_1 tk4_2 : Tok}
    {tk5 : Tok}
    {tk6 : Tok}
    {tk7 : Tok}
    {tk8 : Tok}
    {tk9 : Tok}
    (a0 : PySem.W.nsIn K mainGlobals "is_an_integer" = some (some (.ref f0))) (l0 : K.lookup f0 = some ⟨oc0, od0, .func (PySem.W.fnOf "is_an_integer" "is_an_integer" (defArgs s_is_an_integer) (defBody s_is_an_integer) (defScope s_is_an_integer) .none kV0 dc0 pm0 an0 cd0 ct0), sl0⟩) (c0 : PySem.W.codeIn K cd0 "is_an_integer" = true) (k0 : PySem.W.keepIn K (.ref f0) = true)
    (a1 : PySem.W.nsIn K mainGlobals "is_between" = some (some (.ref f1))) (l1 : K.lookup f1 = some ⟨oc1, od1, .func (PySem.W.fnOf "is_between" "is_between" (defArgs s_is_between) (defBody s_is_between) (defScope s_is_between) .none kV1 dc1 pm1 an1 cd1 ct1), sl1⟩) (c1 : PySem.W.codeIn K cd1 "is_between" = true) (k1 : PySem.W.keepIn K (.ref f1) = true)
    (a2 : PySem.W.nsIn K mainGlobals "is_code" = some (some (.ref f2))) (l2 : K.lookup f2 = some ⟨oc2, od2, .func (PySem.W.fnOf "is_code" "is_code" (defArgs s_is_code) (defBody s_is_code) (defScope s_is_code) .none kV2 dc2 pm2 an2 cd2 ct2), sl2⟩) (c2 : PySem.W.codeIn K cd2 "is_code" = true) (k2 : PySem.W.keepIn K (.ref f2) = true)
    (a3 : PySem.W.nsIn K mainGlobals "is_code_action" = some (some (.ref f3))) (l3 : K.lookup f3 = some ⟨oc3, od3, .func (PySem.W.fnOf "is_code_action" "is_code_action" (defArgs s_is_code_action) (defBody s_is_code_action) (defScope s_is_code_action) .none kV3 dc3 pm3 an3 cd3 ct3), sl3⟩) (c3 : PySem.W.codeIn K cd3 "is_code_action" = true) (k3 : PySem.W.keepIn K (.ref f3) = true)
    (a4 : PySem.W.nsIn K mainGlobals "is_layer_action" = some (some (.ref f4))) (l4 : K.lookup f4 = some ⟨oc4, od4, .func (PySem.W.fnOf "is_layer_action" "is_layer_action" (defArgs s_is_layer_action) (defBody s_is_layer_action) (defScope s_is_layer_action) .none kV4 dc4 pm4 an4 cd4 ct4), sl4⟩) (c4 : PySem.W.codeIn K cd4 "is_layer_action" = true) (k4 : PySem.W.keepIn K (.ref f4) = true)
    (a5 : PySem.W.nsIn K mainGlobals "is_hold" = some (some (.ref f5))) (l5 : K.lookup f5 = some ⟨oc5, od5, .func (PySem.W.fnOf "is_hold" "is_hold" (defArgs s_is_hold) (defBody s_is_hold) (defScope s_is_hold) .none kV5 dc5 pm5 an5 cd5 ct5), sl5⟩) (c5 : PySem.W.codeIn K cd5 "is_hold" = true) (k5 : PySem.W.keepIn K (.ref f5) = true)
    (a6 : PySem.W.nsIn K mainGlobals "is_dual_action" = some (some (.ref f6))) (l6 : K.lookup f6 = some ⟨oc6, od6, .func (PySem.W.fnOf "is_dual_action" "is_dual_action" (defArgs s_is_dual_action) (defBody s_is_dual_action) (defScope s_is_dual_action) .none kV6 dc6 pm6 an6 cd6 ct6), sl6⟩) (c6 : PySem.W.codeIn K cd6 "is_dual_action" = true) (k6 : PySem.W.keepIn K (.ref f6) = true)
    (a7 : PySem.W.nsIn K mainGlobals "can_stand" = some (some (.ref f7))) (l7 : K.lookup f7 = some ⟨oc7, od7, .func (PySem.W.fnOf "can_stand" "can_stand" (defArgs s_can_stand) (defBody s_can_stand) (defScope s_can_stand) .none kV7 dc7 pm7 an7 cd7 ct7), sl7⟩) (c7 : PySem.W.codeIn K cd7 "can_stand" = true) (k7 : PySem.W.keepIn K (.ref f7) = true)
    (a8 : PySem.W.nsIn K mainGlobals "has_layout_form" = some (some (.ref f8))) (l8 : K.lookup f8 = some ⟨oc8, od8, .func (PySem.W.fnOf "has_layout_form" "has_layout_form" (defArgs s_has_layout_form) (defBody s_has_layout_form) (defScope s_has_layout_form) .none kV8 dc8 pm8 an8 cd8 ct8), sl8⟩) (c8 : PySem.W.codeIn K cd8 "has_layout_form" = true) (k8 : PySem.W.keepIn K (.ref f8) = true)
    (a9 : PySem.W.nsIn K mainGlobals "check_layout" = some (some (.ref f9))) (l9 : K.lookup f9 = some ⟨oc9, od9, .func (PySem.W.fnOf "check_layout" "check_layout" (defArgs s_check_layout) (defBody s_check_layout) (defScope s_check_layout) .none kV9 dc9 pm9 an9 cd9 ct9), sl9⟩) (c9 : PySem.W.codeIn K cd9 "check_layout" = true) (k9 : PySem.W.keepIn K (.ref f9) = true)
    (a10 : PySem.W.nsIn K mainGlobals "are_ascending" = some (some (.ref f10))) (l10 : K.lookup f10 = some ⟨oc10, od10, .func (PySem.W.fnOf "are_ascending" "are_ascending" (defArgs s_are_ascending) (defBody s_are_ascending) (defScope s_are_ascending) .none kV10 dc10 pm10 an10 cd10 ct10), sl10⟩) (c10 : PySem.W.codeIn K cd10 "are_ascending" = true) (k10 : PySem.W.keepIn K (.ref f10) = true)
    (a11 : PySem.W.nsIn K mainGlobals "are_combo_keys" = some (some (.ref f11))) (l11 : K.lookup f11 = some ⟨oc11, od11, .func (PySem.W.fnOf "are_combo_keys" "are_combo_keys" (defArgs s_are_combo_keys) (defBody s_are_combo_keys) (defScope s_are_combo_keys) .none kV11 dc11 pm11 an11 cd11 ct11), sl11⟩) (c11 : PySem.W.codeIn K cd11 "are_combo_keys" = true) (k11 : PySem.W.keepIn K (.ref f11) = true)
    (a12 : PySem.W.nsIn K mainGlobals "is_combo" = some (some (.ref f12))) (l12 : K.lookup f12 = some ⟨oc12, od12, .func (PySem.W.fnOf "is_combo" "is_combo" (defArgs s_is_combo) (defBody s_is_combo) (defScope s_is_combo) .none kV12 dc12 pm12 an12 cd12 ct12), sl12⟩) (c12 : PySem.W.codeIn K cd12 "is_combo" = true) (k12 : PySem.W.keepIn K (.ref f12) = true)
    (a13 : PySem.W.nsIn K mainGlobals "check_combos" = some (some (.ref f13))) (l13 : K.lookup f13 = some ⟨oc13, od13, .func (PySem.W.fnOf "check_combos" "check_combos" (defArgs s_check_combos) (defBody s_check_combos) (defScope s_check_combos) .none kV13 dc13 pm13 an13 cd13 ct13), sl13⟩) (c13 : PySem.W.codeIn K cd13 "check_combos" = true) (k13 : PySem.W.keepIn K (.ref f13) = true)
    (a14 : PySem.W.nsIn K mainGlobals "check_combos_of" = some (some (.ref f14))) (l14 : K.lookup f14 = some ⟨oc14, od14, .func (PySem.W.fnOf "check_combos_of" "check_combos_of" (defArgs s_check_combos_of) (defBody s_check_combos_of) (defScope s_check_combos_of) .none kV14 dc14 pm14 an14 cd14 ct14), sl14⟩) (c14 : PySem.W.codeIn K cd14 "check_combos_of" = true) (k14 : PySem.W.keepIn K (.ref f14) = true)
    (a15 : PySem.W.nsIn K mainGlobals "joined" = some (some (.ref f15))) (l15 : K.lookup f15 = some ⟨oc15, od15, .func (PySem.W.fnOf "joined" "joined" (defArgs s_joined) (defBody s_joined) (defScope s_joined) .none kV15 dc15 pm15 an15 cd15 ct15), sl15⟩) (c15 : PySem.W.codeIn K cd15 "joined" = true) (k15 : PySem.W.keepIn K (.ref f15) = true)
    (a16 : PySem.W.nsIn K mainGlobals "with_combos" = some (some (.ref f16))) (l16 : K.lookup f16 = some ⟨oc16, od16, .func (PySem.W.fnOf "with_combos" "with_combos" (defArgs s_with_combos) (defBody s_with_combos) (defScope s_with_combos) .none kV16 dc16 pm16 an16 cd16 ct16), sl16⟩) (c16 : PySem.W.codeIn K cd16 "with_combos" = true) (k16 : PySem.W.keepIn K (.ref f16) = true)
    (a17 : PySem.W.nsIn K mainGlobals "is_layout" = some (some (.ref f17))) (l17 : K.lookup f17 = some ⟨oc17, od17, .func (PySem.W.fnOf "is_layout" "is_layout" (defArgs s_is_layout) (defBody s_is_layout) (defScope s_is_layout) .none kV17 dc17 pm17 an17 cd17 ct17), sl17⟩) (c17 : PySem.W.codeIn K cd17 "is_layout" = true) (k17 : PySem.W.keepIn K (.ref f17) = true)
    (a18 : PySem.W.nsIn K mainGlobals "_law_spring" = some (some (.ref f18))) (l18 : K.lookup f18 = some ⟨oc18, od18, .func (PySem.W.fnOf "_law_spring" "_law_spring" (defArgs s__law_spring) (defBody s__law_spring) (defScope s__law_spring) .none kV18 dc18 pm18 an18 cd18 ct18), sl18⟩) (c18 : PySem.W.codeIn K cd18 "_law_spring" = true) (k18 : PySem.W.keepIn K (.ref f18) = true)
    (a19 : PySem.W.nsIn K mainGlobals "_law_take" = some (some (.ref f19))) (l19 : K.lookup f19 = some ⟨oc19, od19, .func (PySem.W.fnOf "_law_take" "_law_take" (defArgs s__law_take) (defBody s__law_take) (defScope s__law_take) .none kV19 dc19 pm19 an19 cd19 ct19), sl19⟩) (c19 : PySem.W.codeIn K cd19 "_law_take" = true) (k19 : PySem.W.keepIn K (.ref f19) = true)
    (a20 : PySem.W.nsIn K mainGlobals "_law_combos" = some (some (.ref f20))) (l20 : K.lookup f20 = some ⟨oc20, od20, .func (PySem.W.fnOf "_law_combos" "_law_combos" (defArgs s__law_combos) (defBody s__law_combos) (defScope s__law_combos) .none kV20 dc20 pm20 an20 cd20 ct20), sl20⟩) (c20 : PySem.W.codeIn K cd20 "_law_combos" = true) (k20 : PySem.W.keepIn K (.ref f20) = true)
    (a21 : PySem.W.nsIn K mainGlobals "_law_code" = some (some (.ref f21))) (l21 : K.lookup f21 = some ⟨oc21, od21, .func (PySem.W.fnOf "_law_code" "_law_code" (defArgs s__law_code) (defBody s__law_code) (defScope s__law_code) .none kV21 dc21 pm21 an21 cd21 ct21), sl21⟩) (c21 : PySem.W.codeIn K cd21 "_law_code" = true) (k21 : PySem.W.keepIn K (.ref f21) = true)
    (a22 : PySem.W.nsIn K mainGlobals "_law_dual" = some (some (.ref f22))) (l22 : K.lookup f22 = some ⟨oc22, od22, .func (PySem.W.fnOf "_law_dual" "_law_dual" (defArgs s__law_dual) (defBody s__law_dual) (defScope s__law_dual) .none kV22 dc22 pm22 an22 cd22 ct22), sl22⟩) (c22 : PySem.W.codeIn K cd22 "_law_dual" = true) (k22 : PySem.W.keepIn K (.ref f22) = true)
    (a23 : PySem.W.nsIn K mainGlobals "_law_action" = some (some (.ref f23))) (l23 : K.lookup f23 = some ⟨oc23, od23, .func (PySem.W.fnOf "_law_action" "_law_action" (defArgs s__law_action) (defBody s__law_action) (defScope s__law_action) .none kV23 dc23 pm23 an23 cd23 ct23), sl23⟩) (c23 : PySem.W.codeIn K cd23 "_law_action" = true) (k23 : PySem.W.keepIn K (.ref f23) = true)
    (a24 : PySem.W.nsIn K mainGlobals "_law_layout" = some (some (.ref f24))) (l24 : K.lookup f24 = some ⟨oc24, od24, .func (PySem.W.fnOf "_law_layout" "_law_layout" (defArgs s__law_layout) (defBody s__law_layout) (defScope s__law_layout) .none kV24 dc24 pm24 an24 cd24 ct24), sl24⟩) (c24 : PySem.W.codeIn K cd24 "_law_layout" = true) (k24 : PySem.W.keepIn K (.ref f24) = true)
    (a25 : PySem.W.nsIn K mainGlobals "_law_due" = some (some (.ref f25))) (l25 : K.lookup f25 = some ⟨oc25, od25, .func (PySem.W.fnOf "_law_due" "_law_due" (defArgs s__law_due) (defBody s__law_due) (defScope s__law_due) .none kV25 dc25 pm25 an25 cd25 ct25), sl25⟩) (c25 : PySem.W.codeIn K cd25 "_law_due" = true) (k25 : PySem.W.keepIn K (.ref f25) = true)
    (a26 : PySem.W.nsIn K mainGlobals "law" = some (some (.ref f26))) (l26 : K.lookup f26 = some ⟨oc26, od26, .func (PySem.W.fnOf "law" "law" (defArgs s_law) (defBody s_law) (defScope s_law) .none kV26 dc26 pm26 an26 cd26 ct26), sl26⟩) (c26 : PySem.W.codeIn K cd26 "law" = true) (k26 : PySem.W.keepIn K (.ref f26) = true)
    (v0 : PySem.W.nsIn K mainGlobals "MOST_SIGNS" = some (some (.int 8 tk0)))
    (v1 : PySem.W.nsIn K mainGlobals "CODE_SIGNS" = some (some (.str "abcdefghijklmnopqrstuvwxyz0123456789" tk1)))
    (v2 : PySem.W.nsIn K mainGlobals "GREATEST_TIME" = some (some (.int 1000000000 tk2)))
    (v3 : PySem.W.nsIn K mainGlobals "RULES" = some (some (.ref g3))) (u3 : K.lookup g3 = some ⟨.type "tuple", none, .seq #[.str "time" tk3_0, .str "other" tk3_1, .str "within" tk3_2] gn3, gs3⟩)
    (v4 : PySem.W.nsIn K mainGlobals "LAYER_WORDS" = some (some (.ref g4))) (u4 : K.lookup g4 = some ⟨.type "tuple", none, .seq #[.str "layer" tk4_0, .str "lock" tk4_1, .str "once" tk4_2] gn4, gs4⟩)
    (v5 : PySem.W.nsIn K mainGlobals "MOST_LAYERS" = some (some (.int 6 tk5)))
    (v6 : PySem.W.nsIn K mainGlobals "MOST_KEYS" = some (some (.int 16 tk6)))
    (v7 : PySem.W.nsIn K mainGlobals "GREATEST_COMBO_TIME" = some (some (.int 1000000000 tk7)))
    (v8 : PySem.W.nsIn K mainGlobals "MOST_COMBOS" = some (some (.int 6 tk8)))
    (v9 : PySem.W.nsIn K mainGlobals "MOST_BOARD_KEYS" = some (some (.int 10 tk9)))
    (z0 : PySem.W.nsIn K mainGlobals "len" = some none)
    (z1 : PySem.W.nsIn K mainGlobals "max" = some none)
    (z2 : PySem.W.nsIn K mainGlobals "min" = some none)
    (z3 : PySem.W.nsIn K mainGlobals "repr" = some none)
    (z4 : PySem.W.nsIn K mainGlobals "isinstance" = some none)
    (z5 : PySem.W.nsIn K mainGlobals "all" = some none)
    (z6 : PySem.W.nsIn K mainGlobals "list" = some none)
    (z7 : PySem.W.nsIn K mainGlobals "tuple" = some none)
    (z8 : PySem.W.nsIn K mainGlobals "int" = some none)
    (z9 : PySem.W.nsIn K mainGlobals "bool" = some none)
    (z10 : PySem.W.nsIn K mainGlobals "str" = some none)
    (z11 : PySem.W.nsIn K mainGlobals "range" = some none)
    (z12 : PySem.W.nsIn K mainGlobals "enumerate" = some none)
    (z13 : PySem.W.nsIn K mainGlobals "sorted" = some none) :
    ∃ fd : FuncData, (∀ (s : Shared) (u : Value), BindsTo s fd ⟨[u], []⟩ [("_law_script", u)]) ∧ ∀ base : Heap, K.In base → base.Ns mainGlobals mg → FnG l.prog w K mg base 9 fa fd ["_law_script"] (spLaw K) := by
  have e := hfa.symm.trans (PySem.W.mg_of X G a26)
  cases e
  have A_is_an_integer : At K mg "is_an_integer" s_is_an_integer ["value"] := at_mk X G a0 l0 c0 k0 fun _ _ _ _ _ _ us hl => match us, hl with | [_], _ => rfl
  have A_is_between : At K mg "is_between" s_is_between ["value", "low", "high"] := at_mk X G a1 l1 c1 k1 fun _ _ _ _ _ _ us hl => match us, hl with | [_, _, _], _ => rfl
  have A_is_code : At K mg "is_code" s_is_code ["value"] := at_mk X G a2 l2 c2 k2 fun _ _ _ _ _ _ us hl => match us, hl with | [_], _ => rfl
  have A_is_code_action : At K mg "is_code_action" s_is_code_action ["action"] := at_mk X G a3 l3 c3 k3 fun _ _ _ _ _ _ us hl => match us, hl with | [_], _ => rfl
  have A_is_layer_action : At K mg "is_layer_action" s_is_layer_action ["action", "words", "layer_count"] := at_mk X G a4 l4 c4 k4 fun _ _ _ _ _ _ us hl => match us, hl with | [_, _, _], _ => rfl
  have A_is_hold : At K mg "is_hold" s_is_hold ["value", "layer_count"] := at_mk X G a5 l5 c5 k5 fun _ _ _ _ _ _ us hl => match us, hl with | [_, _], _ => rfl
  have A_is_dual_action : At K mg "is_dual_action" s_is_dual_action ["action", "layer_count"] := at_mk X G a6 l6 c6 k6 fun _ _ _ _ _ _ us hl => match us, hl with | [_, _], _ => rfl
  have A_can_stand : At K mg "can_stand" s_can_stand ["action", "layer", "layer_count"] := at_mk X G a7 l7 c7 k7 fun _ _ _ _ _ _ us hl => match us, hl with | [_, _, _], _ => rfl
  have A_has_layout_form : At K mg "has_layout_form" s_has_layout_form ["value"] := at_mk X G a8 l8 c8 k8 fun _ _ _ _ _ _ us hl => match us, hl with | [_], _ => rfl
  have A_check_layout : At K mg "check_layout" s_check_layout ["value"] := at_mk X G a9 l9 c9 k9 fun _ _ _ _ _ _ us hl => match us, hl with | [_], _ => rfl
  have A_are_ascending : At K mg "are_ascending" s_are_ascending ["values", "many"] := at_mk X G a10 l10 c10 k10 fun _ _ _ _ _ _ us hl => match us, hl with | [_, _], _ => rfl
  have A_are_combo_keys : At K mg "are_combo_keys" s_are_combo_keys ["value", "many"] := at_mk X G a11 l11 c11 k11 fun _ _ _ _ _ _ us hl => match us, hl with | [_, _], _ => rfl
  have A_is_combo : At K mg "is_combo" s_is_combo ["value", "many"] := at_mk X G a12 l12 c12 k12 fun _ _ _ _ _ _ us hl => match us, hl with | [_, _], _ => rfl
  have A_check_combos : At K mg "check_combos" s_check_combos ["value", "many"] := at_mk X G a13 l13 c13 k13 fun _ _ _ _ _ _ us hl => match us, hl with | [_, _], _ => rfl
  have A_check_combos_of : At K mg "check_combos_of" s_check_combos_of ["layout", "combos"] := at_mk X G a14 l14 c14 k14 fun _ _ _ _ _ _ us hl => match us, hl with | [_, _], _ => rfl
  have A_joined : At K mg "joined" s_joined ["layout", "combos"] := at_mk X G a15 l15 c15 k15 fun _ _ _ _ _ _ us hl => match us, hl with | [_, _], _ => rfl
  have A_with_combos : At K mg "with_combos" s_with_combos ["layout", "combos"] := at_mk X G a16 l16 c16 k16 fun _ _ _ _ _ _ us hl => match us, hl with | [_, _], _ => rfl
  have A_is_layout : At K mg "is_layout" s_is_layout ["value"] := at_mk X G a17 l17 c17 k17 fun _ _ _ _ _ _ us hl => match us, hl with | [_], _ => rfl
  have A__law_spring : At K mg "_law_spring" s__law_spring ["_law_script", "_law_k"] := at_mk X G a18 l18 c18 k18 fun _ _ _ _ _ _ us hl => match us, hl with | [_, _], _ => rfl
  have A__law_take : At K mg "_law_take" s__law_take ["_law_spring_here", "_law_many"] := at_mk X G a19 l19 c19 k19 fun _ _ _ _ _ _ us hl => match us, hl with | [_, _], _ => rfl
  have A__law_combos : At K mg "_law_combos" s__law_combos ["_law_spring_here", "_law_many", "_law_top"] := at_mk X G a20 l20 c20 k20 fun _ _ _ _ _ _ us hl => match us, hl with | [_, _, _], _ => rfl
  have A__law_code : At K mg "_law_code" s__law_code ["_law_spring_here"] := at_mk X G a21 l21 c21 k21 fun _ _ _ _ _ _ us hl => match us, hl with | [_], _ => rfl
  have A__law_dual : At K mg "_law_dual" s__law_dual ["_law_spring_here", "_law_layers", "_law_top"] := at_mk X G a22 l22 c22 k22 fun _ _ _ _ _ _ us hl => match us, hl with | [_, _, _], _ => rfl
  have A__law_action : At K mg "_law_action" s__law_action ["_law_spring_here", "_law_layer", "_law_layers", "_law_top"] := at_mk X G a23 l23 c23 k23 fun _ _ _ _ _ _ us hl => match us, hl with | [_, _, _, _], _ => rfl
  have A__law_layout : At K mg "_law_layout" s__law_layout ["_law_spring_here", "_law_keys", "_law_layers", "_law_top"] := at_mk X G a24 l24 c24 k24 fun _ _ _ _ _ _ us hl => match us, hl with | [_, _, _, _], _ => rfl
  have A__law_due : At K mg "_law_due" s__law_due ["_law_layout_here", "_law_combos_here"] := at_mk X G a25 l25 c25 k25 fun _ _ _ _ _ _ us hl => match us, hl with | [_, _], _ => rfl
  have A_law : At K mg "law" s_law ["_law_script"] := at_mk X G a26 l26 c26 k26 fun _ _ _ _ _ _ us hl => match us, hl with | [_], _ => rfl
  have m_MOST_SIGNS := PySem.W.mg_of X G v0
  have m_CODE_SIGNS := PySem.W.mg_of X G v1
  have m_GREATEST_TIME := PySem.W.mg_of X G v2
  have m_RULES := PySem.W.mg_of X G v3
  have t_RULES : ∀ H, SqT K H g3 ((["time", "other", "within"] : List Str).map V.str) := fun H => .inr ⟨_, _, _, u3, rfl, rfl, (by show 3 ≤ sizeLine; decide), .cons ⟨_, rfl⟩ (.cons ⟨_, rfl⟩ (.cons ⟨_, rfl⟩ (.nil)))⟩
  have n_RULES : ∃ o : Obj, K.lookup g3 = some o ∧ o.cls = .type "tuple" ∧ o.dict = none := ⟨_, u3, rfl, rfl⟩
  have m_LAYER_WORDS := PySem.W.mg_of X G v4
  have t_LAYER_WORDS : ∀ H, SqT K H g4 ((["layer", "lock", "once"] : List Str).map V.str) := fun H => .inr ⟨_, _, _, u4, rfl, rfl, (by show 3 ≤ sizeLine; decide), .cons ⟨_, rfl⟩ (.cons ⟨_, rfl⟩ (.cons ⟨_, rfl⟩ (.nil)))⟩
  have n_LAYER_WORDS : ∃ o : Obj, K.lookup g4 = some o ∧ o.cls = .type "tuple" ∧ o.dict = none := ⟨_, u4, rfl, rfl⟩
  have m_MOST_LAYERS := PySem.W.mg_of X G v5
  have m_MOST_KEYS := PySem.W.mg_of X G v6
  have m_GREATEST_COMBO_TIME := PySem.W.mg_of X G v7
  have m_MOST_COMBOS := PySem.W.mg_of X G v8
  have m_MOST_BOARD_KEYS := PySem.W.mg_of X G v9
  have bt : Bt mg := ⟨PySem.W.mg_none_of X G z0, PySem.W.mg_none_of X G z1, PySem.W.mg_none_of X G z2, PySem.W.mg_none_of X G z3, PySem.W.mg_none_of X G z4, PySem.W.mg_none_of X G z5, PySem.W.mg_none_of X G z6, PySem.W.mg_none_of X G z7, PySem.W.mg_none_of X G z8, PySem.W.mg_none_of X G z9, PySem.W.mg_none_of X G z10, PySem.W.mg_none_of X G z11, PySem.W.mg_none_of X G z12, PySem.W.mg_none_of X G z13⟩
  refine ⟨PySem.W.fnOf "law" "law" (defArgs s_law) (defBody s_law) (defScope s_law) .none kV26 dc26 pm26 an26 cd26 ct26, fun s u => .of_eq rfl, fun base _ _ => ?_⟩
  have C1 := ok_is_an_integer (P := l.prog) (w := w) (base := base) bt A_is_an_integer
  have C2 := ok_is_between bt A_is_between C1
  have C3 := ok_is_code (P := l.prog) (w := w) (base := base) bt m_MOST_SIGNS m_CODE_SIGNS A_is_code
  have C4 := ok_is_code_action bt A_is_code_action C3
  have C5 := ok_is_layer_action bt A_is_layer_action C2
  have C6 := ok_is_hold bt A_is_hold C4 C5
  have C7 := ok_is_dual_action bt m_GREATEST_TIME m_RULES t_RULES A_is_dual_action C3 C6 C2
  have C8 := ok_can_stand bt m_LAYER_WORDS t_LAYER_WORDS A_can_stand C4 C5 C7
  have C9 := ok_has_layout_form (P := l.prog) (w := w) (base := base) bt m_MOST_LAYERS m_MOST_KEYS A_has_layout_form
  have C10 := ok_check_layout bt A_check_layout C9 C8
  have C11a := ok_are_ascending bt A_are_ascending C2
  have C11 := ok_are_combo_keys bt A_are_combo_keys C11a
  have C12 := ok_is_combo bt m_GREATEST_COMBO_TIME A_is_combo C2 C3 C11
  have C13 := ok_check_combos bt m_MOST_COMBOS A_check_combos C12
  have C14 := ok_check_combos_of bt m_MOST_BOARD_KEYS A_check_combos_of C13
  have C15 := ok_joined (P := l.prog) (w := w) (base := base) bt A_joined
  have C16 := ok_with_combos A_with_combos C10 C14 C15
  have C17 := ok_is_layout A_is_layout C10
  have D1 := ok__law_take (P := l.prog) (w := w) (base := base) A__law_take
  have D2 := ok__law_spring (P := l.prog) (w := w) (base := base) bt A__law_spring
  have D3 := ok__law_combos bt A__law_combos D1
  have D4 := ok__law_code bt A__law_code D1
  have D5 := ok__law_dual bt A__law_dual D1 D4
  have D6 := ok__law_action bt A__law_action D1 D4 D5
  have D7 := ok__law_layout bt A__law_layout D1 D6
  have D8 := ok__law_due (P := l.prog) (w := w) (base := base) bt A__law_due
  exact ok_law bt (fun_mk l26 c26 k26) D2 D3 D7 D8 C16 C17
end K26
open PySem PySem.W PyProof.Rows
set_option maxHeartbeats 0 in
theorem PySem.Challenge.cw_holdtap_k26_layouts_with_own_keys_holds : PySem.Challenge.rw_holdtap_k26_layouts_with_own_keys.Holds := by
  w_on; o_law; k_head; (case hw => w_witness2)
  k_fill
  refine Gd.walkG (l := PySem.Challenge.rw_holdtap_k26_layouts_with_own_keys) (n := 63) (k := 9) (x := "_law_script") (sp := fun K => K26.spLaw K) rfl (by decide) rfl ⟨rfl, by decide, by decide⟩ (fun w h Y => PySem.W.kIn_of Y) ?F (fun _ _ a ns hl hS => ⟨a, ns, rfl, hS, hl, fun _ => rfl⟩)
  case F =>
    intro w mg fa h KX G hmg
    refine' K26.all_mk KX G hmg ?a0 ?l0 ?c0 ?k0 ?a1 ?l1 ?c1 ?k1 ?a2 ?l2 ?c2 ?k2 ?a3 ?l3 ?c3 ?k3 ?a4 ?l4 ?c4 ?k4 ?a5 ?l5 ?c5 ?k5 ?a6 ?l6 ?c6 ?k6 ?a7 ?l7 ?c7 ?k7 ?a8 ?l8 ?c8 ?k8 ?a9 ?l9 ?c9 ?k9 ?a10 ?l10 ?c10 ?k10 ?a11 ?l11 ?c11 ?k11 ?a12 ?l12 ?c12 ?k12 ?a13 ?l13 ?c13 ?k13 ?a14 ?l14 ?c14 ?k14 ?a15 ?l15 ?c15 ?k15 ?a16 ?l16 ?c16 ?k16 ?a17 ?l17 ?c17 ?k17 ?a18 ?l18 ?c18 ?k18 ?a19 ?l19 ?c19 ?k19 ?a20 ?l20 ?c20 ?k20 ?a21 ?l21 ?c21 ?k21 ?a22 ?l22 ?c22 ?k22 ?a23 ?l23 ?c23 ?k23 ?a24 ?l24 ?c24 ?k24 ?a25 ?l25 ?c25 ?k25 ?a26 ?l26 ?c26 ?k26 ?v0 ?v1 ?v2 ?v3 ?u3 ?v4 ?u4 ?v5 ?v6 ?v7 ?v8 ?v9 ?z0 ?z1 ?z2 ?z3 ?z4 ?z5 ?z6 ?z7 ?z8 ?z9 ?z10 ?z11 ?z12 ?z13
    (case a0 => k_is); (case l0 => k_is); (case c0 => k_is); (case k0 => k_is); (case a1 => k_is); (case l1 => k_is); (case c1 => k_is); (case k1 => k_is); (case a2 => k_is); (case l2 => k_is); (case c2 => k_is); (case k2 => k_is); (case a3 => k_is); (case l3 => k_is); (case c3 => k_is); (case k3 => k_is); (case a4 => k_is); (case l4 => k_is); (case c4 => k_is); (case k4 => k_is); (case a5 => k_is); (case l5 => k_is); (case c5 => k_is); (case k5 => k_is); (case a6 => k_is); (case l6 => k_is); (case c6 => k_is); (case k6 => k_is); (case a7 => k_is); (case l7 => k_is); (case c7 => k_is); (case k7 => k_is); (case a8 => k_is); (case l8 => k_is); (case c8 => k_is); (case k8 => k_is); (case a9 => k_is); (case l9 => k_is); (case c9 => k_is); (case k9 => k_is); (case a10 => k_is); (case l10 => k_is); (case c10 => k_is); (case k10 => k_is); (case a11 => k_is); (case l11 => k_is); (case c11 => k_is); (case k11 => k_is); (case a12 => k_is); (case l12 => k_is); (case c12 => k_is); (case k12 => k_is); (case a13 => k_is); (case l13 => k_is); (case c13 => k_is); (case k13 => k_is); (case a14 => k_is); (case l14 => k_is); (case c14 => k_is); (case k14 => k_is); (case a15 => k_is); (case l15 => k_is); (case c15 => k_is); (case k15 => k_is); (case a16 => k_is); (case l16 => k_is); (case c16 => k_is); (case k16 => k_is); (case a17 => k_is); (case l17 => k_is); (case c17 => k_is); (case k17 => k_is); (case a18 => k_is); (case l18 => k_is); (case c18 => k_is); (case k18 => k_is); (case a19 => k_is); (case l19 => k_is); (case c19 => k_is); (case k19 => k_is); (case a20 => k_is); (case l20 => k_is); (case c20 => k_is); (case k20 => k_is); (case a21 => k_is); (case l21 => k_is); (case c21 => k_is); (case k21 => k_is); (case a22 => k_is); (case l22 => k_is); (case c22 => k_is); (case k22 => k_is); (case a23 => k_is); (case l23 => k_is); (case c23 => k_is); (case k23 => k_is); (case a24 => k_is); (case l24 => k_is); (case c24 => k_is); (case k24 => k_is); (case a25 => k_is); (case l25 => k_is); (case c25 => k_is); (case k25 => k_is); (case a26 => k_is); (case l26 => k_is); (case c26 => k_is); (case k26 => k_is); (case v0 => k_is); (case v1 => k_is); (case v2 => k_is); (case v3 => k_is); (case u3 => k_is); (case v4 => k_is); (case u4 => k_is); (case v5 => k_is); (case v6 => k_is); (case v7 => k_is); (case v8 => k_is); (case v9 => k_is); (case z0 => k_is); (case z1 => k_is); (case z2 => k_is); (case z3 => k_is); (case z4 => k_is); (case z5 => k_is); (case z6 => k_is); (case z7 => k_is); (case z8 => k_is); (case z9 => k_is); (case z10 => k_is); (case z11 => k_is); (case z12 => k_is); (case z13 => k_is)

