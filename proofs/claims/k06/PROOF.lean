import PyProof.Rows.All
import Wide.All
import OpenK.AllK
import Wide.FinOn
import HandS.ForMost
import HandS.Walk
import HandS.Wide
import HandS.Style
import HandS.More
import HandS.SetFor
import HandS.SortInts
import HandS.IsInst
import HandS.Codes
import PyProof.ReprRoads
import HandS.Defaults
import HandS.Strs
import PySem.Challenge.RW_holdtap_k06_orders_and_lengths
set_option Elab.async false
set_option linter.all false
set_option maxRecDepth 100000
set_option maxHeartbeats 4000000
/-! A layer over the hand layer in which a def knows that no display is being shown (A.guards): repr needs it. -/
namespace Gd
open PySem PySem.Spec PyProof.Rows L2

/-- what a def promises where no guard stands -/
structure FnG (P : Program) (w : World) (K : PySem.W.Frag) (mg : Str → Option Value) (base : Heap)
    (k : Nat) (f : Addr) (fd : FuncData) (ps : List Str) (sp : Sp) : Prop where
  len : ∀ vs H Q E, sp vs H Q E → vs.length = ps.length
  go : ∀ (A : Around) (outer : List Env) (s : Shared) (H : Hp) (args : Args) (us : List Value) (vs : List V) (Q : VK),
    A.guards = some [] → Room k A → Env0 P w K mg base A outer s H → BindsTo s fd args (ps.zip us) →
    Vals vs us → sp vs H Q E0 →
    codeAny (model P w) A (.call (.ref f) args) (CR CX0 outer P w H s Q E0) s

theorem deep_guards {A : Around} {e : Env} (h : A.guards = some []) : (A.deeper e).guards = some [] := h

section
variable {P : Program} {w : World} {K : PySem.W.Frag} {mg : Str → Option Value} {base : Heap}
theorem fnG {x qual : Str} {st : Stmt} {f : Addr} {fd : FuncData} {N ps : List Str} {k : Nat} {sp : Sp}
    (F : Fun K x qual st f fd) (S : FnScope N ps (defScope st))
    (len : ∀ vs H Q E, sp vs H Q E → vs.length = ps.length)
    (hb : ∀ (cdv : Value) (A : Around) (outer : List Env) (s : Shared) (H : Hp) (vs : List V) (Q : VK),
      A.guards = some [] → Room k (A.deeper (envOfC qual (defScope st) s.heap.objs.size f cdv)) → sp vs H Q E0 →
      ∃ t, PSs (cxOf CX0 P w K mg base N qual (defScope st) f cdv A outer s H E0).nox (defBody st) t ∧
        t { nx := fun _ H' => Q .non H', rt := Q } (start N vs) H) :
    FnG P w K mg base (k + 1) f fd ps sp := by
  obtain ⟨oc, od, kV, doc, pm, an, cdv, ct, osl, rfl, lk, hcd⟩ := F.ex
  refine ⟨len, fun A outer s H args us vs Q hg hr e0 bt rv hsp => ?_⟩
  have kin : K.In s.heap := e0.mod.kin.keeps (fun b o e => (e0.bs b o e).1)
  have nol : s.heap.NoLimit := e0.mod.nolimit.keeps (fun b o e => (e0.bs b o e).1)
  have pk : ((ps.zip us).all fun y => (defScope st).names.lookup y.1 == some NameKind.local ||
      (defScope st).names.lookup y.1 == some NameKind.cell) = true := by
    rw [List.all_eq_true]
    rintro ⟨n, v⟩ hm
    have hp := S.par n (List.of_mem_zip hm).1
    rcases hp with e | e <;> simp [e]
  refine Att.call_fn kin nol lk hcd hr.depth bt pk (fun s1 ic => ?_) S.co S.gen S.kind
  obtain ⟨t, ht, hq⟩ := hb cdv A outer s H vs Q hg (hr.deeper _) hsp
  have J := inv_start (CX := CX0) (E := E0) (P := P) (w := w) (mg := mg) (base := base) S hr.hd e0 (len _ _ _ _ hsp) rv ic
  have J' := J.wish (fun _ _ => False)
  refine wpAny_mono (ht.run [] s1 (start N vs) H _ J' hq) (fun fl s' sp' => ?_) (fun _ _ z => z.elim)
  match fl, sp' with
  | .next, ⟨σ', H', L, q⟩ => exact ⟨.non, H', L.os, L.bare, L.base, L.hok, rfl, q⟩
  | .ret u, ⟨v, σ', H', L, rr, q⟩ => exact ⟨v, H', L.os, L.bare, L.base, L.hok, rr, q⟩
  | .brk, ⟨_, _, _, q⟩ => exact False.elim q
  | .cont, ⟨_, _, _, q⟩ => exact False.elim q
end

/-- a def that may be called by its name -/
structure Cl (P : Program) (w : World) (K : PySem.W.Frag) (mg : Str → Option Value) (base : Heap) (k : Nat) (x : Str) (sp : Sp) : Prop where
  ex : ∃ (f : Addr) (fd : FuncData) (ps : List Str), FnG P w K mg base k f fd ps sp ∧ mg x = some (.ref f) ∧
    PySem.W.keepIn K (.ref f) = true ∧ Binds K fd ps []
/-- where a def stands: its text, its name in the module -/
structure At (K : PySem.W.Frag) (mg : Str → Option Value) (x : Str) (st : Stmt) (ps : List Str) : Prop where
  ex : ∃ (f : Addr) (fd : FuncData), Fun K x x st f fd ∧ mg x = some (.ref f) ∧ Binds K fd ps []
section
variable {P : Program} {w : World} {K : PySem.W.Frag} {mg : Str → Option Value} {base : Heap}
theorem clG {x : Str} {st : Stmt} {N ps : List Str} {k : Nat} {sp : Sp} (a : At K mg x st ps) (S : FnScope N ps (defScope st))
    (len : ∀ vs H Q E, sp vs H Q E → vs.length = ps.length)
    (hb : ∀ (f : Addr) (cdv : Value) (A : Around) (outer : List Env) (s : Shared) (H : Hp) (vs : List V) (Q : VK),
      A.guards = some [] → Room k (A.deeper (envOfC x (defScope st) s.heap.objs.size f cdv)) → sp vs H Q E0 →
      ∃ t, PSs (cxOf CX0 P w K mg base N x (defScope st) f cdv A outer s H E0).nox (defBody st) t ∧
        t { nx := fun _ H' => Q .non H', rt := Q } (start N vs) H) : Cl P w K mg base (k + 1) x sp := by
  obtain ⟨f, fd, F, hm, b⟩ := a.ex
  exact ⟨f, fd, ps, fnG F S len (hb f), hm, F.kp, b⟩
theorem Cl.imp {x : Str} {k : Nat} {sp sp' : Sp} (c : Cl P w K mg base k x sp) (h : ∀ vs H Q E, sp' vs H Q E → sp vs H Q E) :
    Cl P w K mg base k x sp' := by
  obtain ⟨f, fd, ps, F, hm, kp, b⟩ := c.ex
  exact ⟨f, fd, ps, ⟨fun vs H Q E z => F.len vs H Q E (h _ _ _ _ z), fun A o s H as us vs Q g r e bt rv z => F.go A o s H as us vs Q g r e bt rv (h _ _ _ _ z)⟩, hm, kp, b⟩
end
section
variable {X : Cx} {k j : Nat} {x : Str} {sp : Sp} {p pos : Pos} {e : Expr} {es : List Expr} {t : TA}
theorem run_cl {f : Addr} {fd : FuncData} {ps : List Str} {pins : List (Addr × Obj)} {σ : L2.St} {H : Hp} {s : Shared} {Q : VK} {us : List Value} {vs : List V}
    (F : FnG X.prog X.w X.K X.mg X.base k f fd ps sp) (hg : X.A.guards = some []) (hr : Room k X.A) (b : Binds X.K fd ps [])
    (I : Inv X pins σ H s) (rv : Vals vs us) (h : sp vs H Q E0) : wpAny (model X.prog X.w) X.A (call (.ref f) us) (EP X pins σ Q) X.xe s := by
  have hl : us.length = ps.length := rv.length.symm.trans (F.len _ _ _ _ h)
  have bt := b s us I.kIn (by simpa using hl)
  rw [List.append_nil] at bt
  refine wpAny_call (codeAny_mono (F.go X.A X.stack s H ⟨us, []⟩ us vs Q hg hr I.env0 bt rv h) (fun r s' hq => ?_))
  match r, hq with
  | .ok (.ret u), hq => exact I.after hq
  | .ok .next, hq => exact False.elim hq
  | .ok .brk, hq => exact False.elim hq
  | .ok .cont, hq => exact False.elim hq
  | .error _, hq => exact False.elim hq
/-- f(e, ..) -/
theorem pe_cl (c : Cl X.prog X.w X.K X.mg X.base k x sp) (hg : X.A.guards = some []) (hr : Room j X.A) (hk : k ≤ j) (gl : Gl X x) (ha : PA X (e :: es) t)
    (hd : (x == ("__debug__" : Str)) = false := by decide)
    (he : starEach (e :: es) X.env = (false, eval e X.env) :: starEach es X.env := by rfl)
    (hp : (backTo pos (starEach es X.env)).any (·.1) = false := by rfl) :
    PE X (.Call (.Name x p) (e :: es) [] pos) (tCall sp [] E0 t) := by
  obtain ⟨f, fd, ps, F, hm, kp, b⟩ := c.ex
  refine ⟨fun pins s σ H Q I h => wpAny_Call_Name_kw (ld_glob I gl hm (PySem.W.callWith_K (h₀ := X.base) I.ok.mod.kin kp ?_ he hp) hd)⟩
  refine thn (ha.run pos pins s σ H _ I h) (fun us s1 z => ?_)
  obtain ⟨vs, H1, I1, rv, q⟩ := z
  exact ⟨I1.kIn, run_cl F hg (hr.mono hk) b I1 rv (by simpa using q)⟩
/-- f() -/
theorem pe_cl0 (c : Cl X.prog X.w X.K X.mg X.base k x sp) (hg : X.A.guards = some []) (hr : Room j X.A) (hk : k ≤ j) (gl : Gl X x)
    (hd : (x == ("__debug__" : Str)) = false := by decide) :
    PE X (.Call (.Name x p) [] [] pos) (tCall sp [] E0 tNil) := by
  obtain ⟨f, fd, ps, F, hm, kp, b⟩ := c.ex
  refine ⟨fun pins s σ H Q I h => wpAny_Call_Name_kw (ld_glob I gl hm (PySem.W.callWith_K0 I.kIn kp ?_) hd)⟩
  exact run_cl (us := []) F hg (hr.mono hk) b I .nil h
end

/-! ### rules that lack: a great power, repr of data -/
def CPowW (i j : Int) : Prop := 0 ≤ j ∧ (Builtin.Int.intBits i : Int) * j ≤ 2 ^ 27
theorem op_powW {X : Cx} : OpR X (binaryOp .Pow) (rI CPowW fun i j => .int (i ^ j.toNat)) := opI fun _ _ _ _ _ _ _ hc q => pow_int hc.1 hc.2 q
theorem bits_le {i : Int} {n : Nat} (h : i.natAbs < 2 ^ n) : Builtin.Int.intBits i ≤ n := by
  unfold Builtin.Int.intBits
  split
  · exact Nat.zero_le _
  · rename_i hz
    have h0 : i.natAbs ≠ 0 := by
      intro z
      apply hz
      have : i = 0 := Int.natAbs_eq_zero.mp z
      simp [this]
    have := (Nat.log2_lt h0).mpr h
    omega
theorem powW {i : Int} {n k : Nat} (h : i.natAbs < 2 ^ n) (hs : n * k ≤ 2 ^ 27) : CPowW i (k : Int) := by
  refine ⟨by omega, ?_⟩
  have b := bits_le h
  have m : Builtin.Int.intBits i * k ≤ 2 ^ 27 := Nat.le_trans (Nat.mul_le_mul_right k b) hs
  exact_mod_cast m

/-- repr(x), x a list or a tuple of data -/
def rRep (K : PySem.W.Frag) : List V → Hp → VK → Prop := fun xs H Q => ∃ (a : Addr) (d : PyData), xs = [.ref a] ∧ Dp K H (.ref a) d ∧
  d.showable = true ∧ d.depth ≤ 50 ∧ d.shown.length ≤ sizeLine ∧ Q (.str d.shown) H
mutual
theorem dp_nodict {K : PySem.W.Frag} {H : Hp} : ∀ (d : PyData) (v : V), Dp K H v d → d.hasDict = false
  | .none, _, _ => rfl
  | .bool _, _, _ => rfl
  | .int _, _, _ => rfl
  | .str _, _, _ => rfl
  | .list ds, _, h => by
    cases h with
    | lst _ ha => exact dps_nodict ds _ ha
  | .tuple ds, _, h => by
    cases h with
    | tup _ ha => exact dps_nodict ds _ ha
  | .dict _, _, h => by cases h
theorem dps_nodict {K : PySem.W.Frag} {H : Hp} : ∀ (ds : List PyData) (vs : List V), DpAll K H vs ds → PyData.hasDictAll ds = false
  | [], _, _ => rfl
  | d :: ds, _, h => by
    cases h with
    | cons h1 h2 =>
      show (d.hasDict || PyData.hasDictAll ds) = false
      rw [dp_nodict d _ h1, dps_nodict ds _ h2]
      rfl
end
theorem call_rep {X : Cx} {k : Nat} (hg : X.A.guards = some []) (hr : Room k X.A) : CallR X (.builtin "repr") (rRep X.K) := by
  intro pins s σ H xs us Q I r h
  obtain ⟨a, d, rfl, hd, hs, hdp, hz, q⟩ := h
  obtain ⟨u, rfl, ru⟩ := vals1 r
  obtain ⟨as, rd⟩ := Dp.reads I d (.ref a) u hd ru
  cases ru
  have hu := hr.un
  exact repr_of_reads' rd hs (PyData.noDict_hsm (dp_nodict d _ hd)) hg (by omega) (fun _ _ e => e)
    (fun h' t tk hk => ⟨.str d.shown, H, I.kept (t' := tk) hk, ⟨t, rfl⟩, q⟩) hz

/-! ### the law's own call -/
section
variable {P : Program} {w : World} {K : PySem.W.Frag} {mg mb : Str → Option Value} {k : Nat} {fa a : Addr} {fd : FuncData} {x : Str} {sp : Sp} {s₁ : Shared} {vs : List Value} {ns : List Int}
/-- the heap as the caller has it, H what is tracked of it: at most the script -/
theorem top_run (KX : K.In s₁.heap) (gl : s₁.heap.Ns mainGlobals mg) (bl : s₁.heap.Ns builtinsNs mb) (bb : ∀ y : Str, y ≠ "__name__" → mb y = bootBuiltins y)
    (nol : s₁.heap.NoLimit) (ng : s₁.gens = #[]) (oa : s₁.heap.get? a = some { cls := .type "list", data := .seq vs.toArray }) (hr : Room k callerA)
    (F : ∀ base : Heap, K.In base → base.Ns mainGlobals mg → FnG P w K mg base k fa fd [x] sp)
    (bt : ∀ (s : Shared) (u : Value), BindsTo s fd ⟨[u], []⟩ [(x, u)]) {H : Hp} (only : Only H) (hok : HOk P w H s₁.heap)
    (at_a : ∀ b, H b ≠ none → b = a ∧ K.lookup a = none) (h : sp [.ref a] H (fun v _ => v = .bl true) E0) :
    codeAny (model P w) callerA (.call (.ref fa) ⟨[.ref a], []⟩)
      (fun r s' => r = .ok (.ret (.bool true)) ∧ OldK s₁.heap s'.heap ∧ s'.os = s₁.os ∧ AllBare s'.gens) s₁ := by
  have free : ∀ {b : Addr} {o : Obj}, s₁.heap.get? b = some o → (b = a → ∃ es ep, o.data = .dict es ep) → H b = none := by
    intro b o e d
    rcases Classical.em (H b = none) with z | z
    · exact z
    · obtain ⟨rfl, _⟩ := at_a b z
      obtain ⟨es, ep, hd⟩ := d rfl
      rw [oa] at e
      cases e
      cases hd
  have nsAt : ∀ {b : Addr} {m : Str → Option Value}, s₁.heap.Ns b m → (hidT s₁.heap H).Ns b m := by
    intro b m z
    obtain ⟨o, es, ep, e, d, r⟩ := z
    exact ⟨o, es, ep, hidT_get e (free e fun _ => ⟨es, ep, d⟩), d, r⟩
  have KB : K.In (hidT s₁.heap H) := by
    intro b o e
    refine hidT_get (KX b o e) ?_
    rcases Classical.em (H b = none) with z | z
    · exact z
    · obtain ⟨rfl, q⟩ := at_a b z
      rw [q] at e
      cases e
  obtain ⟨ml, l1, l2⟩ := nol
  have M : Mod K mg (hidT s₁.heap H) := ⟨KB, nsAt gl, ⟨mb, nsAt bl, bb⟩, ⟨ml, nsAt l1, l2⟩⟩
  have E : Env0 P w K mg (hidT s₁.heap H) callerA [] s₁ H := by
    refine ⟨rfl, M, fun b o e => of_hidT e, Nat.le_of_eq (hidT_size _ _), True.intro, fun b hb => ?_, hok, .of_eq ng⟩
    exact nomatch (show b ∈ ([] : List Addr) from hb)
  refine codeAny_mono ((F _ KB (nsAt gl)).go callerA [] s₁ H ⟨[.ref a], []⟩ [.ref a] [.ref a] _ rfl hr E (bt s₁ (.ref a)) (.cons rfl .nil) h) ?_
  intro r s' z
  match r, z with
  | .ok .next, z => exact False.elim z
  | .ok .brk, z => exact False.elim z
  | .ok .cont, z => exact False.elim z
  | .error _, z => exact False.elim z
  | .ok (.ret u), ⟨v, H', os, bare, un, hok', rv, q⟩ =>
    have q : v = .bl true := q
    subst q
    have ru : u = Value.bool true := rv
    subst ru
    refine ⟨rfl, OldK.of_keep fun b o e => ?_, os, bare⟩
    rcases only b with n | ⟨ob, xs, n⟩
    · exact un.keep b o e n (fun m => nomatch (show b ∈ ([] : List Addr) from m)) (fun m => nomatch m)
    · have f1 := hok b _ n
      have f2 := hok' b _ (un.frzs b ob _ n)
      have g1 : s₁.heap.get? b = some ob := f1.1
      have g2 : s'.heap.get? b = some ob := f2.1
      rw [e] at g1
      cases g1
      exact g2
theorem law_callG (KX : K.In s₁.heap) (gl : s₁.heap.Ns mainGlobals mg) (bl : s₁.heap.Ns builtinsNs mb) (bb : ∀ y : Str, y ≠ "__name__" → mb y = bootBuiltins y)
    (nol : s₁.heap.NoLimit) (ng : s₁.gens = #[]) (oa : s₁.heap.get? a = some { cls := .type "list", data := .seq vs.toArray }) (hi : IntsAre vs ns) (hl : ns.length ≤ sizeLine) (hr : Room k callerA)
    (F : ∀ base : Heap, K.In base → base.Ns mainGlobals mg → FnG P w K mg base k fa fd [x] sp)
    (bt : ∀ (s : Shared) (u : Value), BindsTo s fd ⟨[u], []⟩ [(x, u)])
    (hsp : ∀ H : Hp, Only H → SqL K H a (ns.map V.int) → sp [.ref a] H (fun v _ => v = .bl true) E0) :
    codeAny (model P w) callerA (.call (.ref fa) ⟨[.ref a], []⟩)
      (fun r s' => r = .ok (.ret (.bool true)) ∧ OldK s₁.heap s'.heap ∧ s'.os = s₁.os ∧ AllBare s'.gens) s₁ := by
  have rv := vals_ints hi
  have lenV := hi.length
  by_cases hk : K.lookup a = none
  · let H : Hp := fun b => if b = a then some (.frz { cls := .type "list", data := .seq vs.toArray } (.lst (ns.map V.int))) else none
    have Ha : H a = some (.frz { cls := .type "list", data := .seq vs.toArray } (.lst (ns.map V.int))) := if_pos rfl
    have Hn : ∀ {b : Addr}, b ≠ a → H b = none := fun h => if_neg h
    have only : Only H := by
      intro b
      by_cases e : b = a
      · subst e; exact .inr ⟨_, _, Ha⟩
      · exact .inl (Hn e)
    refine top_run KX gl bl bb nol ng oa hr F bt (H := H) only ?_ ?_ (hsp H only (.inl (.inr ⟨_, Ha⟩)))
    · intro b u z
      by_cases e : b = a
      · subst e
        rw [Ha] at z
        cases z
        exact ⟨oa, by rw [List.length_map]; exact hl, vs, _, rv, oa⟩
      · rw [Hn e] at z; cases z
    · intro b z
      by_cases e : b = a
      · exact ⟨e, hk⟩
      · exact absurd (Hn e) z
  · obtain ⟨o, ho⟩ := Option.ne_none_iff_exists'.mp hk
    have e := KX a o ho
    rw [oa] at e
    cases e
    have only : Only (fun _ => none) := fun _ => .inl rfl
    refine top_run KX gl bl bb nol ng oa hr F bt (H := fun _ => none) only (fun b u z => nomatch z) (fun b z => absurd rfl z) (hsp _ only (.inr ?_))
    exact ⟨_, vs.toArray, _, ho, rfl, rfl, rfl, by rw [List.size_toArray, lenV]; exact hl, by simpa using rv⟩
end
/-- what k_head leaves, from the promise of the law's def -/
theorem walkG {l : PySem.W.OpenLaw} {n k : Nat} {q : Program} {loose : List Str} {XP : (Str → Option Value) → Heap → Prop} {YP : World → Heap → Prop} {d : DefRec} {K : Params → PySem.W.Frag} {sp : PySem.W.Frag → Sp} {x : Str}
    (hn : l.most = some n) (hn2 : n ≤ sizeLine) (hdf : d.params.defaults = []) (hr : Room k callerA)
    (hY : ∀ (w : World) (h : Heap), YP w h → (K w.params).In h)
    (F : ∀ (w : World) (mg : Str → Option Value) (fa : Addr) (h : Heap), (K w.params).In h → h.Ns mainGlobals mg → mg d.name = some (.ref fa) →
      ∃ fd : FuncData, (∀ (s : Shared) (u : Value), BindsTo s fd ⟨[u], []⟩ [(x, u)]) ∧
        ∀ base : Heap, (K w.params).In base → base.Ns mainGlobals mg → FnG l.prog w (K w.params) mg base k fa fd [x] (sp (K w.params)))
    (hsp : ∀ (K : PySem.W.Frag) (H : Hp) (a : Addr) (ns : List Int), ns.length ≤ n → SqL K H a (ns.map V.int) →
      sp K [.ref a] H (fun v _ => v = .bl true) E0) :
    PySem.W.WalkO q loose XP YP l.row.toRowW d [] (fun f vs => PySem.call f vs) := by
  refine Att.attach_call hn hdf ?_
  intro w s₀ s₁ mg mb fa o pm cd doc a vs ns G Y ho hd hcd hmg oa hi hlen ng
  have KX := hY w _ Y
  obtain ⟨fd, bt, hF⟩ := F w mg fa _ KX G.T.g hmg
  exact law_callG KX G.T.g G.T.b G.T.builtins G.T.nolimit ng oa hi (Nat.le_trans hlen hn2) hr hF bt (fun H _ hS => hsp _ H a ns hlen hS)
end Gd

set_option Elab.async false
set_option linter.all false
set_option maxRecDepth 100000
set_option maxHeartbeats 4000000
/-! a def with defaults, called with all of its arguments, or with some of them -/
namespace Gd
open PySem PySem.Spec PyProof.Rows L2
theorem room65 {k : Nat} {A : Around} (r : Room k A) : A.units + 65 < cLine := by have := r.un; omega
/-- where a def with defaults stands; ds: the values that fill up -/
structure AtX (K : PySem.W.Frag) (mg : Str → Option Value) (x : Str) (st : Stmt) (ps : List Str) (ds : List Value) : Prop where
  ex : ∃ (f : Addr) (oc : Value) (od : Option Addr) (dV kV doc pm : Value) (an : Option Addr) (cdv ct : Value) (osl : Array (Option Value)),
    K.lookup f = some ⟨oc, od, .func (PySem.W.fnOf x x (defArgs st) (defBody st) (defScope st) dV kV doc pm an cdv ct), osl⟩ ∧ PySem.W.codeIn K cdv x = true ∧ PySem.W.keepIn K (.ref f) = true ∧ mg x = some (.ref f) ∧
    Binds K (PySem.W.fnOf x x (defArgs st) (defBody st) (defScope st) dV kV doc pm an cdv ct) ps ds
section
variable {P : Program} {w : World} {K : PySem.W.Frag} {mg : Str → Option Value} {base : Heap}
theorem clX {x : Str} {st : Stmt} {N ps : List Str} {k : Nat} {sp : Sp} (a : AtX K mg x st ps []) (S : FnScope N ps (defScope st))
    (len : ∀ vs H Q E, sp vs H Q E → vs.length = ps.length)
    (hb : ∀ (f : Addr) (cdv : Value) (A : Around) (outer : List Env) (s : Shared) (H : Hp) (vs : List V) (Q : VK),
      A.guards = some [] → Room k (A.deeper (envOfC x (defScope st) s.heap.objs.size f cdv)) → sp vs H Q E0 →
      ∃ t, PSs (cxOf CX0 P w K mg base N x (defScope st) f cdv A outer s H E0).nox (defBody st) t ∧
        t { nx := fun _ H' => Q .non H', rt := Q } (start N vs) H) : Cl P w K mg base (k + 1) x sp := by
  obtain ⟨f, oc, od, dV, kV, doc, pm, an, cdv, ct, osl, lk, hcd, kp, hm, bd⟩ := a.ex
  refine ⟨f, _, ps, ⟨len, fun A outer s H args us vs Q hg hr e0 bt rv hsp => ?_⟩, hm, kp, bd⟩
  have kin : K.In s.heap := e0.mod.kin.keeps (fun b o e => (e0.bs b o e).1)
  have nol : s.heap.NoLimit := e0.mod.nolimit.keeps (fun b o e => (e0.bs b o e).1)
  have pk : ((ps.zip us).all fun y => (defScope st).names.lookup y.1 == some NameKind.local ||
      (defScope st).names.lookup y.1 == some NameKind.cell) = true := by
    rw [List.all_eq_true]
    rintro ⟨n, v⟩ hm
    have hp := S.par n (List.of_mem_zip hm).1
    rcases hp with e | e <;> simp [e]
  refine Att.call_fn kin nol lk hcd hr.depth bt pk (fun s1 ic => ?_) S.co S.gen S.kind
  obtain ⟨t, ht, hq⟩ := hb f cdv A outer s H vs Q hg (hr.deeper _) hsp
  have J := inv_start (CX := CX0) (E := E0) (P := P) (w := w) (mg := mg) (base := base) S hr.hd e0 (len _ _ _ _ hsp) rv ic
  have J' := J.wish (fun _ _ => False)
  refine wpAny_mono (ht.run [] s1 (start N vs) H _ J' hq) (fun fl s' sp' => ?_) (fun _ _ z => z.elim)
  match fl, sp' with
  | .next, ⟨σ', H', L, q⟩ => exact ⟨.non, H', L.os, L.bare, L.base, L.hok, rfl, q⟩
  | .ret u, ⟨v, σ', H', L, rr, q⟩ => exact ⟨v, H', L.os, L.bare, L.base, L.hok, rr, q⟩
  | .brk, ⟨_, _, _, q⟩ => exact False.elim q
  | .cont, ⟨_, _, _, q⟩ => exact False.elim q
end
/-- one default behind: all arguments are given -/
theorem atX_all {K : PySem.W.Frag} {h : Heap} {mg : Str → Option Value} {x : Str} {st : Stmt} {ps : List Str} {f T : Addr} {od an td : Option Addr} {sl ts : Array (Option Value)} {oc kV dc pm cd ct d : Value} {tn : Nat} (X : K.In h) (G : h.Ns mainGlobals mg)
    (a : PySem.W.nsIn K mainGlobals x = some (some (.ref f))) (l : K.lookup f = some ⟨oc, od, .func (PySem.W.fnOf x x (defArgs st) (defBody st) (defScope st) (.ref T) kV dc pm an cd ct), sl⟩) (c : PySem.W.codeIn K cd x = true) (k : PySem.W.keepIn K (.ref f) = true)
    (u : K.lookup T = some ⟨.type "tuple", td, .seq #[d] tn, ts⟩)
    (hb : ∀ (T : Addr) (kV doc pm : Value) (an : Option Addr) (cdv ct : Value) (us its : List Value), us.length = ps.length → its.length = 1 →
      ∃ k, bindArgs (PySem.W.fnOf x x (defArgs st) (defBody st) (defScope st) (.ref T) kV doc pm an cdv ct) ⟨us, []⟩ = seqItems? (.ref T) >>= k ∧ k (some its.toArray) = pure (ps.zip us)) : AtX K mg x st ps [] := by
  refine ⟨f, oc, od, .ref T, kV, dc, pm, an, cd, ct, sl, l, c, k, PySem.W.mg_of X G a, fun s us KX hl => ?_⟩
  rw [List.append_nil] at hl ⊢
  obtain ⟨g, e1, e2⟩ := hb T kV dc pm an cd ct us [d] hl rfl
  refine BindsTo.of_looks fun M => ?_
  rw [e1]
  exact looks_items (its := #[d]) KX u rfl (PySem.W.Looks.of_pure e2)
/-- a method's call within a comprehension: the constants said -/
theorem pe_bmB {X : Cx} {K0 : PySem.W.Frag} {T : String} {name : Str} {id : String} {r : V → List V → Hp → VK → Prop} {o e : Expr} {es : List Expr} {to : TE} {t : TA} {apos cpos : Pos} (hK : X.K = K0) (pa : PlainAttrs T) (slot : Slot T name id) (hty : typeOf (.builtin id) = pure (.type "method_descriptor")) (hm : MtR X id r) (ho : PE X o to) (ha : PA X (e :: es) t)
    (hbase : attributeBase o name X.env (eval o X.env) = eval o X.env := by rfl)
    (hfew : ((backTo cpos (starEach (e :: es) X.env)).all (fun x => !x.1) && (backToKw cpos (keywordEach [] X.env)).all (fun x => x.1.isSome)
      && decide ((e :: es).length + ([] : List Keyword).length + (if ([] : List Keyword).isEmpty then 0 else 1) < 30)) = true := by rfl)
    (hline : (apos.endLine == cpos.line) = true := by rfl) (hs : starEach (e :: es) X.env = (false, eval e X.env) :: starEach es X.env := by rfl) (hplain : (backTo cpos (starEach es X.env)).any (·.1) = false := by rfl) :
    PE X (.Call (.Attribute o name apos) (e :: es) [] cpos) (tBM K0 T r to t) := by
  subst hK
  exact pe_bm pa slot hty hm ho ha hbase hfew hline hs hplain
end Gd

set_option Elab.async false
set_option linter.all false
set_option maxRecDepth 100000
set_option maxHeartbeats 4000000
/-! a def with defaults, called with fewer arguments: the values that fill up come behind -/
namespace Gd
open PySem PySem.Spec PyProof.Rows L2
structure ClD (P : Program) (w : World) (K : PySem.W.Frag) (mg : Str → Option Value) (base : Heap) (k : Nat) (x : Str) (sp : Sp) (dvs : List V) : Prop where
  ex : ∃ (f : Addr) (fd : FuncData) (ps : List Str) (ds : List Value), FnG P w K mg base k f fd ps sp ∧ mg x = some (.ref f) ∧ PySem.W.keepIn K (.ref f) = true ∧ Binds K fd ps ds ∧ Vals dvs ds
section
variable {P : Program} {w : World} {K : PySem.W.Frag} {mg : Str → Option Value} {base : Heap}
theorem clXD {x : Str} {st : Stmt} {N ps : List Str} {k : Nat} {sp : Sp} {ds : List Value} {dvs : List V} (a : AtX K mg x st ps ds) (vd : Vals dvs ds) (S : FnScope N ps (defScope st))
    (len : ∀ vs H Q E, sp vs H Q E → vs.length = ps.length)
    (hb : ∀ (f : Addr) (cdv : Value) (A : Around) (outer : List Env) (s : Shared) (H : Hp) (vs : List V) (Q : VK),
      A.guards = some [] → Room k (A.deeper (envOfC x (defScope st) s.heap.objs.size f cdv)) → sp vs H Q E0 →
      ∃ t, PSs (cxOf CX0 P w K mg base N x (defScope st) f cdv A outer s H E0).nox (defBody st) t ∧
        t { nx := fun _ H' => Q .non H', rt := Q } (start N vs) H) : ClD P w K mg base (k + 1) x sp dvs := by
  obtain ⟨f, oc, od, dV, kV, doc, pm, an, cdv, ct, osl, lk, hcd, kp, hm, bd⟩ := a.ex
  refine ⟨f, _, ps, ds, ⟨len, fun A outer s H args us vs Q hg hr e0 bt rv hsp => ?_⟩, hm, kp, bd, vd⟩
  have kin : K.In s.heap := e0.mod.kin.keeps (fun b o e => (e0.bs b o e).1)
  have nol : s.heap.NoLimit := e0.mod.nolimit.keeps (fun b o e => (e0.bs b o e).1)
  have pk : ((ps.zip us).all fun y => (defScope st).names.lookup y.1 == some NameKind.local ||
      (defScope st).names.lookup y.1 == some NameKind.cell) = true := by
    rw [List.all_eq_true]
    rintro ⟨n, v⟩ hm
    have hp := S.par n (List.of_mem_zip hm).1
    rcases hp with e | e <;> simp [e]
  refine Att.call_fn kin nol lk hcd hr.depth bt pk (fun s1 ic => ?_) S.co S.gen S.kind
  obtain ⟨t, ht, hq⟩ := hb f cdv A outer s H vs Q hg (hr.deeper _) hsp
  have J := inv_start (CX := CX0) (E := E0) (P := P) (w := w) (mg := mg) (base := base) S hr.hd e0 (len _ _ _ _ hsp) rv ic
  have J' := J.wish (fun _ _ => False)
  refine wpAny_mono (ht.run [] s1 (start N vs) H _ J' hq) (fun fl s' sp' => ?_) (fun _ _ z => z.elim)
  match fl, sp' with
  | .next, ⟨σ', H', L, q⟩ => exact ⟨.non, H', L.os, L.bare, L.base, L.hok, rfl, q⟩
  | .ret u, ⟨v, σ', H', L, rr, q⟩ => exact ⟨v, H', L.os, L.bare, L.base, L.hok, rr, q⟩
  | .brk, ⟨_, _, _, q⟩ => exact False.elim q
  | .cont, ⟨_, _, _, q⟩ => exact False.elim q
end
theorem vals_append : ∀ {vs : List V} {us : List Value} {ws : List V} {zs : List Value}, Vals vs us → Vals ws zs → Vals (vs ++ ws) (us ++ zs)
  | _, _, _, _, .nil, h => h
  | _, _, _, _, .cons a b, h => .cons a (vals_append b h)
section
variable {X : Cx} {k j : Nat} {x : Str} {sp : Sp} {p pos : Pos} {e : Expr} {es : List Expr} {t : TA} {dvs : List V}
theorem run_clD {f : Addr} {fd : FuncData} {ps : List Str} {ds : List Value} {pins : List (Addr × Obj)} {σ : L2.St} {H : Hp} {s : Shared} {Q : VK} {us : List Value} {vs : List V}
    (F : FnG X.prog X.w X.K X.mg X.base k f fd ps sp) (hg : X.A.guards = some []) (hr : Room k X.A) (b : Binds X.K fd ps ds) (vd : Vals dvs ds)
    (I : Inv X pins σ H s) (rv : Vals vs us) (h : sp (vs ++ dvs) H Q E0) : wpAny (model X.prog X.w) X.A (call (.ref f) us) (EP X pins σ Q) X.xe s := by
  have ra := vals_append rv vd
  have hl : (us ++ ds).length = ps.length := ra.length.symm.trans (F.len _ _ _ _ h)
  have bt := b s us I.kIn hl
  refine wpAny_call (codeAny_mono (F.go X.A X.stack s H ⟨us, []⟩ (us ++ ds) (vs ++ dvs) Q hg hr I.env0 bt ra h) (fun r s' hq => ?_))
  match r, hq with
  | .ok (.ret u), hq => exact I.after hq
  | .ok .next, hq => exact False.elim hq
  | .ok .brk, hq => exact False.elim hq
  | .ok .cont, hq => exact False.elim hq
  | .error _, hq => exact False.elim hq
/-- f(e, ..), some arguments left out -/
theorem pe_clD (c : ClD X.prog X.w X.K X.mg X.base k x sp dvs) (hg : X.A.guards = some []) (hr : Room j X.A) (hk : k ≤ j) (gl : Gl X x) (ha : PA X (e :: es) t)
    (hd : (x == ("__debug__" : Str)) = false := by decide)
    (he : starEach (e :: es) X.env = (false, eval e X.env) :: starEach es X.env := by rfl)
    (hp : (backTo pos (starEach es X.env)).any (·.1) = false := by rfl) :
    PE X (.Call (.Name x p) (e :: es) [] pos) (tCall sp dvs E0 t) := by
  obtain ⟨f, fd, ps, ds, F, hm, kp, b, vd⟩ := c.ex
  refine ⟨fun pins s σ H Q I h => wpAny_Call_Name_kw (ld_glob I gl hm (PySem.W.callWith_K (h₀ := X.base) I.ok.mod.kin kp ?_ he hp) hd)⟩
  refine thn (ha.run pos pins s σ H _ I h) (fun us s1 z => ?_)
  obtain ⟨vs, H1, I1, rv, q⟩ := z
  exact ⟨I1.kIn, run_clD F hg (hr.mono hk) b vd I1 rv q⟩
end
/-- one default behind: it is left out -/
theorem atX_less {K : PySem.W.Frag} {h : Heap} {mg : Str → Option Value} {x : Str} {st : Stmt} {ps : List Str} {f T : Addr} {od an td : Option Addr} {sl ts : Array (Option Value)} {oc kV dc pm cd ct d : Value} {tn : Nat} (X : K.In h) (G : h.Ns mainGlobals mg)
    (a : PySem.W.nsIn K mainGlobals x = some (some (.ref f))) (l : K.lookup f = some ⟨oc, od, .func (PySem.W.fnOf x x (defArgs st) (defBody st) (defScope st) (.ref T) kV dc pm an cd ct), sl⟩) (c : PySem.W.codeIn K cd x = true) (k : PySem.W.keepIn K (.ref f) = true)
    (u : K.lookup T = some ⟨.type "tuple", td, .seq #[d] tn, ts⟩)
    (hb : ∀ (T : Addr) (kV doc pm : Value) (an : Option Addr) (cdv ct : Value) (us its : List Value), us.length + 1 = ps.length → its.length = 1 →
      ∃ k, bindArgs (PySem.W.fnOf x x (defArgs st) (defBody st) (defScope st) (.ref T) kV doc pm an cdv ct) ⟨us, []⟩ = seqItems? (.ref T) >>= k ∧ k (some its.toArray) = pure (ps.zip (us ++ its))) : AtX K mg x st ps [d] := by
  refine ⟨f, oc, od, .ref T, kV, dc, pm, an, cd, ct, sl, l, c, k, PySem.W.mg_of X G a, fun s us KX hl => ?_⟩
  obtain ⟨g, e1, e2⟩ := hb T kV dc pm an cd ct us [d] (by rw [List.length_append] at hl; exact hl) rfl
  refine BindsTo.of_looks fun M => ?_
  rw [e1]
  exact looks_items (its := #[d]) KX u rfl (PySem.W.Looks.of_pure e2)
end Gd

set_option Elab.async false
set_option linter.all false
set_option maxRecDepth 100000
set_option maxHeartbeats 4000000
namespace Rm
open PySem PySem.Spec PyProof.Rows L2 Gd

/-! ### how long a display is -/
structure Fit (L n : Nat) (d : PyData) : Prop where
  sh : d.showable = true
  dp : d.depth ≤ n
  ln : d.shown.length ≤ L
theorem Fit.mono {L n L' n' : Nat} {d : PyData} (f : Fit L n d) (h : L ≤ L') (h' : n ≤ n') : Fit L' n' d := ⟨f.sh, by have := f.dp; omega, by have := f.ln; omega⟩
theorem allSh {L n : Nat} : ∀ {ds : List PyData}, (∀ d ∈ ds, Fit L n d) → PyData.showableAll ds = true ∧ PyData.depthAll ds ≤ n ∧ piled (PyData.shownAll ds) ≤ ds.length * (L + 2)
  | [], _ => ⟨rfl, Nat.zero_le _, Nat.zero_le _⟩
  | d :: ds, h => by
    obtain ⟨a, b, c⟩ := allSh (ds := ds) fun x hx => h x (List.mem_cons_of_mem _ hx)
    have f := h d List.mem_cons_self
    refine ⟨?_, ?_, ?_⟩
    · show (d.showable && PyData.showableAll ds) = true
      rw [f.sh, a]; rfl
    · show max d.depth (PyData.depthAll ds) ≤ n
      have := f.dp
      omega
    · show piled (d.shown :: PyData.shownAll ds) ≤ _
      rw [piled_cons, List.length_cons]
      have := f.ln
      have e : (ds.length + 1) * (L + 2) = ds.length * (L + 2) + (L + 2) := Nat.succ_mul _ _
      omega
theorem listText_le (ts : List Str) : (listText ts).length ≤ piled ts + 2 := by
  cases ts with
  | nil => decide
  | cons t r =>
    have h := textFrom_length_pos r 1 (("[" : Str) ++ (if (0 : Nat) > 0 then ", " else "" : String) ++ t) (Nat.succ_pos 0)
    have e : ((("[" : Str) ++ (if (0 : Nat) > 0 then ", " else "" : String) ++ t)).length = 1 + t.length := by
      rw [strLen_append, strLen_append]; rfl
    have x : (listText (t :: r)).length = (textFrom 1 (("[" : Str) ++ (if (0 : Nat) > 0 then ", " else "" : String) ++ t) r).length + 1 := by
      show (textFrom 1 (("[" : Str) ++ (if (0 : Nat) > 0 then ", " else "" : String) ++ t) r ++ "]").length = _
      rw [strLen_append]; rfl
    rw [x, h, e, piled_cons]
    omega
theorem tupleText_le (ts : List Str) : (tupleText ts).length ≤ piled ts + 3 := by
  unfold tupleText
  rw [strLen_append, strLen_append]
  have e1 : ((("(" : String) : Str)).length = 1 := rfl
  have e3 : (((if ts.length == 1 then ",)" else ")" : String) : Str)).length ≤ 2 := by split <;> decide
  rw [e1]
  cases ts with
  | nil =>
    have : (Str.join ", " []).length = 0 := by decide
    omega
  | cons t r =>
    have := join_length_add (t :: r) (by simp)
    omega
theorem fit_list {L n : Nat} {ds : List PyData} (h : ∀ d ∈ ds, Fit L n d) : Fit (ds.length * (L + 2) + 3) (n + 1) (.list ds) := by
  obtain ⟨a, b, c⟩ := allSh h
  have := listText_le (PyData.shownAll ds)
  exact ⟨a, by show PyData.depthAll ds + 1 ≤ _; omega, by show (listText (PyData.shownAll ds)).length ≤ _; omega⟩
theorem fit_tup {L n : Nat} {ds : List PyData} (h : ∀ d ∈ ds, Fit L n d) : Fit (ds.length * (L + 2) + 3) (n + 1) (.tuple ds) := by
  obtain ⟨a, b, c⟩ := allSh h
  have := tupleText_le (PyData.shownAll ds)
  exact ⟨a, by show PyData.depthAll ds + 1 ≤ _; omega, by show (tupleText (PyData.shownAll ds)).length ≤ _; omega⟩
theorem fit_int {i : Int} (h : i.natAbs < 2 ^ 200) : Fit 210 0 (.int i) := by
  have hl : i.natAbs.log2 < 200 := PySem.Flt.log2_lt_of (by decide) h
  refine ⟨?_, Nat.le_refl _, ?_⟩
  · show decide (i.natAbs.log2 < 1920) = true
    exact decide_eq_true (by omega)
  · show (Str.ofString (toString i)).length ≤ 210
    rw [PySem.ofString_length]
    have := int_text_length_le (k := 200) (by decide) hl
    omega
theorem fit_none : Fit 210 0 .none := ⟨rfl, Nat.le_refl _, by decide +kernel⟩
theorem fit_bool (b : Bool) : Fit 210 0 (.bool b) := ⟨rfl, Nat.le_refl _, by cases b <;> decide +kernel⟩

/-! ### records -/
structure Ev where
  t : Int
  k : Int
  d : Bool
def wayS (d : Bool) : Str := if d then "down" else "up"
theorem wayS_inj {a b : Bool} : wayS a = wayS b ↔ a = b := by cases a <;> cases b <;> decide +kernel
theorem wayS_down (d : Bool) : decide (V.str (wayS d) = V.str "down") = d := by cases d <;> decide +kernel
def evD (e : Ev) : PyData := .tuple [.int e.t, .int e.k, .str (wayS e.d)]
def stD (e : Ev) : PyData := .tuple [.int e.k, .str (wayS e.d)]
def evV (e : Ev) : List V := [.int e.t, .int e.k, .str (wayS e.d)]
def stV (e : Ev) : List V := [.int e.k, .str (wayS e.d)]
def recD (es : List Ev) : PyData := .list (es.map evD)
def ordD (es : List Ev) : PyData := .list (es.map stD)
def after (h : Int → Bool) (e : Ev) : Int → Bool := fun k => if k = e.k then e.d else h k
def heldB (es : List Ev) : Int → Bool := es.foldl after fun _ => false
theorem heldB_snoc (es : List Ev) (e : Ev) : heldB (es ++ [e]) = after (heldB es) e := by unfold heldB; rw [List.foldl_append]; rfl
theorem heldB_take {es : List Ev} {i : Nat} {e : Ev} (h : es[i]? = some e) : heldB (es.take (i + 1)) = after (heldB (es.take i)) e := by
  rw [List.take_add_one, h]
  exact heldB_snoc _ _
/-- a record as the document has it -/
def Valid (es : List Ev) : Prop := ∀ (i : Nat) (e : Ev), es[i]? = some e → 0 ≤ e.k ∧ heldB (es.take i) e.k = !e.d ∧ ∀ (j : Nat) (e' : Ev), j < i → es[j]? = some e' → e'.t ≤ e.t
/-- an order: the same without ticks -/
def ValidO (es : List Ev) : Prop := ∀ (i : Nat) (e : Ev), es[i]? = some e → 0 ≤ e.k ∧ heldB (es.take i) e.k = !e.d
theorem Valid.o {es : List Ev} (h : Valid es) : ValidO es := fun i e x => ⟨(h i e x).1, (h i e x).2.1⟩
theorem Valid.nil : Valid [] := fun _ _ h => by simp at h
theorem Valid.take {es : List Ev} (h : Valid es) (n : Nat) : Valid (es.take n) := fun i e x => by
  have hi : i < n := by
    rcases Nat.lt_or_ge i n with q | q
    · exact q
    · rw [List.getElem?_eq_none (by rw [List.length_take]; omega)] at x; cases x
  rw [List.getElem?_take_of_lt hi] at x
  obtain ⟨a, b, c⟩ := h i e x
  refine ⟨a, ?_, fun j e' hj y => ?_⟩
  · rw [List.take_take, Nat.min_eq_left (by omega)]; exact b
  · rw [List.getElem?_take_of_lt (by omega)] at y
    exact c j e' hj y
theorem ValidO.take {es : List Ev} (h : ValidO es) (n : Nat) : ValidO (es.take n) := fun i e x => by
  have hi : i < n := by
    rcases Nat.lt_or_ge i n with q | q
    · exact q
    · rw [List.getElem?_eq_none (by rw [List.length_take]; omega)] at x; cases x
  rw [List.getElem?_take_of_lt hi] at x
  obtain ⟨a, b⟩ := h i e x
  exact ⟨a, by rw [List.take_take, Nat.min_eq_left (by omega)]; exact b⟩
theorem Valid.snoc {es : List Ev} {e : Ev} (h : Valid es) (h0 : 0 ≤ e.k) (hb : heldB es e.k = !e.d) (ht : ∀ e' ∈ es, e'.t ≤ e.t) : Valid (es ++ [e]) := fun i x hx => by
  rcases Nat.lt_or_ge i es.length with q | q
  · rw [List.getElem?_append_left q] at hx
    obtain ⟨a, b, c⟩ := h i x hx
    refine ⟨a, ?_, fun j e' hj y => ?_⟩
    · rw [List.take_append_of_le_length (by omega)]; exact b
    · rw [List.getElem?_append_left (by omega)] at y
      exact c j e' hj y
  · have hi : i = es.length := by
      have := (List.getElem?_eq_some_iff.mp hx).1
      rw [List.length_append] at this
      simp at this
      omega
    subst hi
    rw [List.getElem?_append_right (Nat.le_refl _), Nat.sub_self] at hx
    have ex : e = x := Option.some.inj hx
    subst ex
    refine ⟨h0, ?_, fun j e' hj y => ?_⟩
    · rw [List.take_append_of_le_length (Nat.le_refl _), List.take_length]; exact hb
    · rw [List.getElem?_append_left hj] at y
      exact ht e' (List.mem_of_getElem? y)
/-- the ticks and keys are not too great to be shown -/
def Small (es : List Ev) : Prop := ∀ e ∈ es, e.t.natAbs < 2 ^ 200 ∧ e.k.natAbs < 2 ^ 200
theorem fit_ev {e : Ev} (h : e.t.natAbs < 2 ^ 200 ∧ e.k.natAbs < 2 ^ 200) : Fit 1000 1 (evD e) := by
  refine Fit.mono (fit_tup (L := 210) (n := 0) fun d hd => ?_) (by show 3 * 212 + 3 ≤ 1000; decide) (Nat.le_refl _)
  simp only [List.mem_cons, List.mem_nil_iff, or_false] at hd
  rcases hd with rfl | rfl | rfl
  · exact fit_int h.1
  · exact fit_int h.2
  · exact ⟨rfl, Nat.le_refl _, by cases e.d <;> decide +kernel⟩
theorem fit_st {e : Ev} (h : e.k.natAbs < 2 ^ 200) : Fit 1000 1 (stD e) := by
  refine Fit.mono (fit_tup (L := 210) (n := 0) fun d hd => ?_) (by show 2 * 212 + 3 ≤ 1000; decide) (Nat.le_refl _)
  simp only [List.mem_cons, List.mem_nil_iff, or_false] at hd
  rcases hd with rfl | rfl
  · exact fit_int h
  · exact ⟨rfl, Nat.le_refl _, by cases e.d <;> decide +kernel⟩
theorem fit_rec {es : List Ev} (h : Small es) (hl : es.length ≤ 1000) : Fit 1100000 2 (recD es) := by
  refine Fit.mono (fit_list (L := 1000) (n := 1) fun d hd => ?_) (by rw [List.length_map]; omega) (Nat.le_refl _)
  obtain ⟨e, he, rfl⟩ := List.mem_map.mp hd
  exact fit_ev (h e he)
theorem fit_ord {es : List Ev} (h : Small es) (hl : es.length ≤ 1000) : Fit 1100000 2 (ordD es) := by
  refine Fit.mono (fit_list (L := 1000) (n := 1) fun d hd => ?_) (by rw [List.length_map]; omega) (Nat.le_refl _)
  obtain ⟨e, he, rfl⟩ := List.mem_map.mp hd
  exact fit_st (h e he).2

/-! ### the dict of what is held -/
structure HeldK (kvs : List (Key × V)) (h : Int → Bool) : Prop where
  fm : ∀ p ∈ kvs, ∃ (k : Int) (b : Bool), p = (Sum.inl k, V.bl b)
  nd : (kvs.map (·.1)).Nodup
  at_ : ∀ k : Int, (valV kvs (Sum.inl k)).getD (.bl false) = .bl (h k)
theorem HeldK.nil : HeldK [] fun _ => false := ⟨fun _ h => by simp at h, List.nodup_nil, fun _ => rfl⟩
theorem put_len (kvs : List (Key × V)) (k : Key) (v : V) : (putK kvs k v).length ≤ kvs.length + 1 := by
  unfold putK
  split
  · rw [List.length_map]; omega
  · rw [List.length_append]; exact Nat.le_refl _
theorem put_keys (kvs : List (Key × V)) (k : Key) (v : V) (h : (kvs.map (·.1)).Nodup) : ((putK kvs k v).map (·.1)).Nodup := by
  cases e : valV kvs k with
  | none => exact nd_putK v h e
  | some x =>
    have a : (kvs.any fun kv => decide (kv.1 = k)) = true := by rw [valV_any, e]; rfl
    unfold putK
    rw [if_pos a, List.map_map]
    have : ((fun p : Key × V => p.1) ∘ fun kv => if kv.1 = k then (kv.1, v) else kv) = (·.1) := by
      funext p
      show (if p.1 = k then (p.1, v) else p).1 = p.1
      split <;> rfl
    rw [this]
    exact h
theorem HeldK.put {kvs : List (Key × V)} {es : List Ev} {e : Ev} (h : HeldK kvs (heldB es)) : HeldK (putK kvs (Sum.inl e.k) (.bl e.d)) (heldB (es ++ [e])) := by
  refine ⟨fun p hp => ?_, put_keys _ _ _ h.nd, fun k => ?_⟩
  · unfold putK at hp
    split at hp
    · obtain ⟨q, hq, rfl⟩ := List.mem_map.mp hp
      obtain ⟨k, b, rfl⟩ := h.fm q hq
      by_cases z : (Sum.inl k : Key) = Sum.inl e.k
      · exact ⟨k, e.d, by simp [z]⟩
      · exact ⟨k, b, by simp [z]⟩
    · rcases List.mem_append.mp hp with hp | hp
      · exact h.fm p hp
      · exact ⟨e.k, e.d, List.mem_singleton.mp hp⟩
  · rw [valV_put, heldB_snoc]
    unfold after
    by_cases z : k = e.k
    · subst z; simp
    · rw [if_neg (fun q => z (Sum.inl.inj q)), if_neg z]
      exact h.at_ k
def downs (kvs : List (Key × V)) : List Int := kvs.filterMap fun p => match p with
  | (Sum.inl k, .bl true) => some k
  | _ => none
theorem downs_cons (k : Int) (b : Bool) (r : List (Key × V)) : downs ((Sum.inl k, .bl b) :: r) = if b then k :: downs r else downs r := by
  cases b <;> simp [downs, List.filterMap_cons]
theorem downs_sub : ∀ {kvs : List (Key × V)} {k : Int}, k ∈ downs kvs → (Sum.inl k : Key) ∈ kvs.map (·.1)
  | kvs, k, h => by
    obtain ⟨p, hp, e⟩ := List.mem_filterMap.mp h
    refine List.mem_map.mpr ⟨p, hp, ?_⟩
    obtain ⟨a, b⟩ := p
    cases a with
    | inr _ => cases e
    | inl k' =>
      cases b with
      | bl c => cases c <;> simp at e; rw [e]
      | non => cases e
      | int _ => cases e
      | str _ => cases e
      | byt _ => cases e
      | flt _ => cases e
      | ref _ => cases e
      | ty _ => cases e
theorem downs_nd : ∀ {kvs : List (Key × V)}, (∀ p ∈ kvs, ∃ (k : Int) (b : Bool), p = (Sum.inl k, V.bl b)) → (kvs.map (·.1)).Nodup → (downs kvs).Nodup
  | [], _, _ => List.nodup_nil
  | p :: r, fm, nd => by
    obtain ⟨k, b, rfl⟩ := fm p List.mem_cons_self
    have nd' : ((Sum.inl k : Key) :: r.map (·.1)).Nodup := nd
    obtain ⟨n1, n2⟩ := List.nodup_cons.mp nd'
    have ih := downs_nd (fun q hq => fm q (List.mem_cons_of_mem _ hq)) n2
    rw [downs_cons]
    split
    · exact List.nodup_cons.mpr ⟨fun m => n1 (downs_sub m), ih⟩
    · exact ih
theorem downs_mem : ∀ {kvs : List (Key × V)}, (∀ p ∈ kvs, ∃ (k : Int) (b : Bool), p = (Sum.inl k, V.bl b)) → (kvs.map (·.1)).Nodup → ∀ k : Int, k ∈ downs kvs ↔ valV kvs (Sum.inl k) = some (.bl true)
  | [], _, _, k => by simp [downs, valV]
  | p :: r, fm, nd, k => by
    obtain ⟨k', b, rfl⟩ := fm p List.mem_cons_self
    have nd' : ((Sum.inl k' : Key) :: r.map (·.1)).Nodup := nd
    obtain ⟨n1, n2⟩ := List.nodup_cons.mp nd'
    have ih := downs_mem (fun q hq => fm q (List.mem_cons_of_mem _ hq)) n2 k
    rw [downs_cons]
    by_cases z : k' = k
    · subst z
      rw [valV_pos rfl]
      cases b with
      | true => simp
      | false =>
        simp only [Bool.false_eq_true, if_false]
        constructor
        · intro m; exact absurd (downs_sub m) n1
        · intro m; cases m
    · rw [valV_neg (fun q => z (Sum.inl.inj q))]
      rw [← ih]
      split
      · rw [List.mem_cons]
        exact ⟨fun q => q.resolve_left fun e => z e.symm, .inr⟩
      · exact Iff.rfl
theorem HeldK.mem {kvs : List (Key × V)} {h : Int → Bool} (x : HeldK kvs h) (k : Int) : k ∈ downs kvs ↔ h k = true := by
  rw [downs_mem x.fm x.nd k]
  have q := x.at_ k
  cases e : valV kvs (Sum.inl k) with
  | none =>
    rw [e] at q
    have q : V.bl false = .bl (h k) := q
    have : h k = false := (V.bl.inj q).symm
    simp [this]
  | some v =>
    rw [e] at q
    have q : v = .bl (h k) := q
    subst q
    constructor
    · intro z
      exact V.bl.inj (Option.some.inj z)
    · intro z
      rw [z]
/-- two ascending lists of the same keys -/
theorem same_sorted {a b c d : List Int} (h : ∀ k, k ∈ a ↔ k ∈ b) (na : a.Nodup) (nb : b.Nodup) (pa : c.Perm a) (pb : d.Perm b) (sa : c.Pairwise (· ≤ ·)) (sb : d.Pairwise (· ≤ ·)) : c = d := by
  have p : a.Perm b := (List.perm_ext_iff_of_nodup na nb).mpr h
  exact List.Perm.eq_of_pairwise (fun x y _ _ h1 h2 => Int.le_antisymm h1 h2) sa sb ((pa.trans p).trans pb.symm)

/-! ### heaps that change at one address alone -/
def Off (r : Addr) (H H' : Hp) : Prop := ∀ b o, H b = some o → b ≠ r → H' b = some o
theorem Off.refl {r : Addr} (H : Hp) : Off r H H := fun _ _ h _ => h
theorem Off.trans {r : Addr} {H H1 H2 : Hp} (a : Off r H H1) (b : Off r H1 H2) : Off r H H2 := fun c o h n => b c o (a c o h n) n
theorem Off.of {r : Addr} {H H1 : Hp} (a : Same H H1) : Off r H H1 := fun c o h _ => a c o h
theorem off_upd {r : Addr} {H : Hp} {o : HO} : Off r H (upd H r o) := fun b _ h n => by rw [upd_ne n]; exact h
theorem same_upd {H : Hp} {p : Addr} {o : HO} (h : H p = none) : Same H (upd H p o) := fun b x e => by
  rw [upd_ne (ne_of_none e h)]
  exact e
/-- what is new may change -/
theorem Same.off {H H1 H2 : Hp} {p : Addr} (s : Same H H1) (h : H p = none) (o : Off p H1 H2) : Same H H2 := fun b x e => o b x (s b x e) (ne_of_none e h)

/-! ### lists of tuples -/
def Tups {α : Type} (H : Hp) (f : α → List V) (as : List Addr) (es : List α) : Prop := as.length = es.length ∧ ∀ (i : Nat) (a : Addr) (e : α), as[i]? = some a → es[i]? = some e → H a = some (.tup (f e))
def Lst {α : Type} (f : α → List V) (H : Hp) (c : Addr) (es : List α) : Prop := ∃ as : List Addr, H c = some (.lst (as.map V.ref)) ∧ Tups H f as es
section
variable {α : Type} {f : α → List V} {H H' : Hp} {c r : Addr} {as : List Addr} {es : List α}
theorem Tups.nil : Tups H f [] ([] : List α) := ⟨rfl, fun i a e h _ => by simp at h⟩
theorem Tups.same (h : Tups H f as es) (s : Same H H') : Tups H' f as es := ⟨h.1, fun i a e x y => s _ _ (h.2 i a e x y)⟩
theorem Tups.off {ys : List V} (h : Tups H f as es) (hr : H r = some (.lst ys)) (o : Off r H H') : Tups H' f as es :=
  ⟨h.1, fun i a e x y => o _ _ (h.2 i a e x y) (ne_of (h.2 i a e x y) hr (by intro z; cases z))⟩
theorem Tups.snoc {a : Addr} {e : α} (h : Tups H f as es) (ha : H a = some (.tup (f e))) : Tups H f (as ++ [a]) (es ++ [e]) := by
  refine ⟨by rw [List.length_append, List.length_append, h.1]; rfl, fun i b x hb hx => ?_⟩
  rcases Nat.lt_or_ge i as.length with q | q
  · rw [List.getElem?_append_left q] at hb
    rw [List.getElem?_append_left (by rw [← h.1]; exact q)] at hx
    exact h.2 i b x hb hx
  · have hl := h.1
    have hi : i = as.length := by
      have := (List.getElem?_eq_some_iff.mp hb).1
      rw [List.length_append] at this
      simp at this
      omega
    subst hi
    rw [List.getElem?_append_right (Nat.le_refl _), Nat.sub_self] at hb
    rw [List.getElem?_append_right (by omega), show as.length - es.length = 0 by omega] at hx
    have e1 : a = b := Option.some.inj hb
    have e2 : e = x := Option.some.inj hx
    subst e1 e2
    exact ha
theorem Tups.take (h : Tups H f as es) (n : Nat) : Tups H f (as.take n) (es.take n) := by
  refine ⟨by rw [List.length_take, List.length_take, h.1], fun i b x hb hx => ?_⟩
  have hi : i < n := by
    rcases Nat.lt_or_ge i n with q | q
    · exact q
    · rw [List.getElem?_eq_none (by rw [List.length_take]; omega)] at hb; cases hb
  rw [List.getElem?_take_of_lt hi] at hb hx
  exact h.2 i b x hb hx
theorem Tups.append {bs : List Addr} {gs : List α} (h : Tups H f as es) (h' : Tups H f bs gs) : Tups H f (as ++ bs) (es ++ gs) := by
  refine ⟨by rw [List.length_append, List.length_append, h.1, h'.1], fun i b x hb hx => ?_⟩
  have hl := h.1
  rcases Nat.lt_or_ge i as.length with q | q
  · rw [List.getElem?_append_left q] at hb
    rw [List.getElem?_append_left (by omega)] at hx
    exact h.2 i b x hb hx
  · rw [List.getElem?_append_right q] at hb
    rw [List.getElem?_append_right (by omega), ← hl] at hx
    exact h'.2 _ b x hb hx
theorem Tups.at_ (h : Tups H f as es) {i : Nat} (hi : i < es.length) : ∃ a, as[i]? = some a ∧ H a = some (.tup (f es[i])) := by
  have hl := h.1
  exact ⟨as[i], List.getElem?_eq_getElem (by omega), h.2 i _ _ (List.getElem?_eq_getElem (by omega)) (List.getElem?_eq_getElem hi)⟩
theorem Tups.map {β : Type} {g : β → α} {bs : List β} (h : Tups H f as (bs.map g)) : Tups H (fun b => f (g b)) as bs := by
  refine ⟨by rw [h.1, List.length_map], fun i a b x y => h.2 i a (g b) x (by rw [List.getElem?_map, y]; rfl)⟩
theorem Tups.map' {β : Type} {g : β → α} {bs : List β} (h : Tups H (fun b => f (g b)) as bs) : Tups H f as (bs.map g) := by
  refine ⟨by rw [h.1, List.length_map], fun i a e x y => ?_⟩
  rw [List.getElem?_map] at y
  cases z : bs[i]? with
  | none => rw [z] at y; cases y
  | some b =>
    rw [z] at y
    have y : g b = e := Option.some.inj y
    subst y
    exact h.2 i a b x z
theorem Lst.same (h : Lst f H c es) (s : Same H H') : Lst f H' c es := by
  obtain ⟨as, a, b⟩ := h
  exact ⟨as, s _ _ a, b.same s⟩
theorem Lst.off {ys : List V} (h : Lst f H c es) (hr : H r = some (.lst ys)) (n : c ≠ r) (o : Off r H H') : Lst f H' c es := by
  obtain ⟨as, a, b⟩ := h
  exact ⟨as, o _ _ a n, b.off hr o⟩
end
theorem dp_int {K : PySem.W.Frag} {H : Hp} {i : Int} : Dp K H (.int i) (.int i) := .int i
theorem dpAll_of {K : PySem.W.Frag} {H : Hp} {α : Type} {f : α → List V} {g : α → PyData} (hg : ∀ (a : Addr) (e : α), H a = some (.tup (f e)) → Dp K H (.ref a) (g e)) :
    ∀ (as : List Addr) (es : List α), Tups H f as es → DpAll K H (as.map V.ref) (es.map g)
  | [], [], _ => .nil
  | [], _ :: _, h => by have := h.1; simp at this
  | _ :: _, [], h => by have := h.1; simp at this
  | a :: as, e :: es, h => .cons (hg a e (h.2 0 a e rfl rfl)) (dpAll_of hg as es ⟨by have := h.1; simpa using this, fun i b x hb hx => h.2 (i + 1) b x (by simpa using hb) (by simpa using hx)⟩)
theorem Lst.dp {K : PySem.W.Frag} {H : Hp} {c : Addr} {es : List Ev} (h : Lst evV H c es) : Dp K H (.ref c) (recD es) := by
  obtain ⟨as, a, b⟩ := h
  refine .lst (SqL.of a) (dpAll_of (fun a e ha => ?_) as es b)
  exact .tup (SqT.of ha) (.cons (.int _) (.cons (.int _) (.cons (.str _) .nil)))
theorem Lst.dpO {K : PySem.W.Frag} {H : Hp} {c : Addr} {es : List Ev} (h : Lst stV H c es) : Dp K H (.ref c) (ordD es) := by
  obtain ⟨as, a, b⟩ := h
  refine .lst (SqL.of a) (dpAll_of (fun a e ha => ?_) as es b)
  exact .tup (SqT.of ha) (.cons (.int _) (.cons (.str _) .nil))
theorem dpInts {K : PySem.W.Frag} {H : Hp} : ∀ ns : List Int, DpAll K H (ns.map V.int) (ns.map PyData.int)
  | [] => .nil
  | n :: ns => .cons (.int n) (dpInts ns)
theorem Lst.sql {K : PySem.W.Frag} {α : Type} {f : α → List V} {H : Hp} {c : Addr} {es : List α} (h : Lst f H c es) : ∃ xs : List V, SqL K H c xs ∧ xs.length = es.length := by
  obtain ⟨as, a, b⟩ := h
  exact ⟨_, SqL.of a, by rw [List.length_map]; exact b.1⟩

theorem val_at : ∀ {kvs : List (Key × V)} {i : Nat} {k : Key} {v : V}, (kvs.map (·.1)).Nodup → kvs[i]? = some (k, v) → valV kvs k = some v
  | [], _, _, _, _, h => by simp at h
  | p :: r, 0, k, v, _, h => by
    have e : p = (k, v) := Option.some.inj h
    subst e
    exact valV_pos rfl
  | p :: r, i + 1, k, v, nd, h => by
    have nd' : (p.1 :: r.map (·.1)).Nodup := nd
    obtain ⟨n1, n2⟩ := List.nodup_cons.mp nd'
    have h' : r[i]? = some (k, v) := by simpa using h
    have m : k ∈ r.map (·.1) := List.mem_map.mpr ⟨(k, v), List.mem_of_getElem? h', rfl⟩
    rw [valV_neg (fun e => n1 (e ▸ m))]
    exact val_at n2 h'
theorem downs_append (a b : List (Key × V)) : downs (a ++ b) = downs a ++ downs b := by unfold downs; rw [List.filterMap_append]
theorem downs_take {kvs : List (Key × V)} {i : Nat} {k : Int} {b : Bool} (h : kvs[i]? = some (Sum.inl k, .bl b)) : downs (kvs.take (i + 1)) = if b then downs (kvs.take i) ++ [k] else downs (kvs.take i) := by
  rw [List.take_add_one, h, downs_append]
  cases b <;> simp [downs]
theorem downs_len (kvs : List (Key × V)) : (downs kvs).length ≤ kvs.length := by unfold downs; exact List.length_filterMap_le _ _
end Rm

set_option Elab.async false
set_option linter.all false
set_option maxRecDepth 100000
set_option maxHeartbeats 4000000
namespace Rm
open PySem PySem.Spec PyProof.Rows L2 Gd

theorem Off.new {r p : Addr} {H H1 : Hp} {o : HO} (a : Off r H H1) (n : H p = none) : Off r H (upd H1 p o) := fun b x e ne => by
  rw [upd_ne (ne_of_none e n)]
  exact a b x e ne
theorem Off.at_ {r : Addr} {H H1 : Hp} {o : HO} (a : Off r H H1) : Off r H (upd H1 r o) := a.trans off_upd
theorem Off.sameTrans {r : Addr} {H H1 H2 : Hp} (a : Off r H H1) (b : Same H1 H2) : Off r H H2 := a.trans (Off.of b)
/-- what was free stays free of it: a new address of a later heap is new for the earlier one too -/
theorem Off.free {r p : Addr} {H H1 : Hp} {o : HO} (a : Off r H H1) (hr : H1 r = some o) (n : H1 p = none) : H p = none := by
  cases e : H p with
  | none => rfl
  | some x =>
    have h : p ≠ r := fun z => by rw [z, hr] at n; cases n
    rw [a p x e h] at n
    cases n

theorem getI {ns : List Int} {d : Int} (h0 : 0 ≤ d) (h1 : d < (ns.length : Int)) : ∃ (v : Int), atI (ns.map V.int) d = some (.int v) ∧ ns[d.toNat]? = some v := by
  have hd : d.toNat < ns.length := by omega
  refine ⟨ns[d.toNat], ?_, List.getElem?_eq_getElem hd⟩
  refine at_of (j := d.toNat) (by omega) ?_
  rw [List.getElem?_map, List.getElem?_eq_getElem hd]
  rfl
theorem inv_int (k : Int) : ∀ ns : List Int, inV (.int k) (ns.map V.int) = decide (k ∈ ns)
  | [] => rfl
  | n :: ns => by
    show (eqV (.int n) (.int k) || inV (.int k) (ns.map V.int)) = _
    rw [inv_int k ns]
    have e : eqV (.int n) (.int k) = decide (n = k) := by
      by_cases z : n = k <;> simp [eqV, z]
    rw [e]
    by_cases z : n = k
    · subst z; simp
    · have z' : ¬ k = n := fun q => z q.symm
      simp [z, z']
theorem flat_ints : ∀ ns : List Int, (ns.map V.int).all flatV = true
  | [] => rfl
  | n :: ns => by
    show (flatV (.int n) && (ns.map V.int).all flatV) = true
    rw [flat_ints ns]
    rfl
theorem lay_ints : ∀ ns : List Int, PyData.canLayAll0 (ns.map PyData.int) = true ∧ PyData.depthAll (ns.map PyData.int) = 0
  | [] => ⟨rfl, rfl⟩
  | n :: ns => by
    obtain ⟨a, b⟩ := lay_ints ns
    refine ⟨?_, ?_⟩
    · show (PyData.canLay0 (.int n) && PyData.canLayAll0 (ns.map PyData.int)) = true
      rw [a]
      rfl
    · show max (PyData.depth (.int n)) (PyData.depthAll (ns.map PyData.int)) = 0
      rw [b]
      rfl
theorem shaped_ints (ns : List Int) : SeqAt.shaped (.list (ns.map PyData.int)) = true := by
  obtain ⟨a, b⟩ := lay_ints ns
  show (PyData.canLayAll0 (ns.map PyData.int) && decide (PyData.depthAll (ns.map PyData.int) + 1 ≤ 64)) = true
  rw [a, b]
  rfl
theorem eqv_nil (ds : List PyData) : PyData.eqv (.list ds) (.list []) = ds.isEmpty := by
  cases ds <;> rfl
theorem mem_eraseIdx {ns : List Int} {j : Nat} {k : Int} (nd : ns.Nodup) (h : ns[j]? = some k) (x : Int) : x ∈ ns.eraseIdx j ↔ x ≠ k ∧ x ∈ ns := by
  rw [List.mem_eraseIdx_iff_getElem?]
  constructor
  · rintro ⟨i, hi, e⟩
    refine ⟨fun z => ?_, List.mem_of_getElem? e⟩
    subst z
    exact hi (nd_ix nd e h)
  · rintro ⟨hx, hm⟩
    obtain ⟨i, e⟩ := List.getElem?_of_mem hm
    refine ⟨i, fun z => ?_, e⟩
    subst z
    rw [h] at e
    exact hx (Option.some.inj e).symm
theorem first_ix {ns : List Int} {j : Nat} {k : Int} (nd : ns.Nodup) (h : ns[j]? = some k) : ∀ m : Nat, m < j → ns[m]? ≠ some k := fun m hm e => by
  have := nd_ix nd e h
  omega

/-! ### the keys that are down, as a list -/
structure DownOk (ns : List Int) (es : List Ev) : Prop where
  nd : ns.Nodup
  mem : ∀ k, k ∈ ns ↔ heldB es k = true
theorem DownOk.nil : DownOk [] [] := ⟨List.nodup_nil, fun k => by simp [heldB]⟩
theorem DownOk.down {ns : List Int} {es : List Ev} {t k : Int} (h : DownOk ns es) (n : ¬ k ∈ ns) : DownOk (ns ++ [k]) (es ++ [⟨t, k, true⟩]) := by
  refine ⟨nd_snoc h.nd n, fun x => ?_⟩
  rw [heldB_snoc]
  unfold after
  rw [List.mem_append, List.mem_singleton, h.mem]
  by_cases z : x = k
  · subst z; simp
  · simp [z]
theorem DownOk.up {ns : List Int} {es : List Ev} {t k : Int} {j : Nat} (h : DownOk ns es) (e : ns[j]? = some k) : DownOk (ns.eraseIdx j) (es ++ [⟨t, k, false⟩]) := by
  refine ⟨h.nd.eraseIdx j, fun x => ?_⟩
  rw [heldB_snoc, mem_eraseIdx h.nd e, h.mem]
  unfold after
  by_cases z : x = k
  · subst z; simp
  · simp [z]
theorem DownOk.not {ns : List Int} {es : List Ev} {k : Int} (h : DownOk ns es) (n : ¬ k ∈ ns) : heldB es k = false := by
  cases e : heldB es k with
  | false => rfl
  | true => exact absurd ((h.mem k).mpr e) n
/-- other keys for the same -/
theorem heldB_map {f : Int → Int} (hf : ∀ a b, f a = f b → a = b) : ∀ (es : List Ev) (k : Int), heldB (es.map fun e => ⟨e.t, f e.k, e.d⟩) (f k) = heldB es k := by
  intro es k
  suffices h : ∀ (es : List Ev) (g g' : Int → Bool), (∀ k, g' (f k) = g k) → ∀ k, (es.map fun e => (⟨e.t, f e.k, e.d⟩ : Ev)).foldl after g' (f k) = es.foldl after g k from h es _ _ (fun _ => rfl) k
  intro es
  induction es with
  | nil => intro g g' h k; exact h k
  | cons e es ih =>
    intro g g' h k
    refine ih (after g e) (after g' ⟨e.t, f e.k, e.d⟩) (fun x => ?_) k
    unfold after
    by_cases z : x = e.k
    · subst z; simp
    · have z' : ¬ f x = f e.k := fun q => z (hf _ _ q)
      show (if f x = f e.k then e.d else g' (f x)) = if x = e.k then e.d else g x
      rw [if_neg z, if_neg z', h]
theorem Valid.rekey {f : Int → Int} (hf : ∀ a b, f a = f b → a = b) {es : List Ev} (h : Valid es) (h0 : ∀ e ∈ es, 0 ≤ f e.k) : Valid (es.map fun e => ⟨e.t, f e.k, e.d⟩) := fun i e x => by
  rw [List.getElem?_map] at x
  cases y : es[i]? with
  | none => rw [y] at x; cases x
  | some e' =>
    rw [y] at x
    have x : (⟨e'.t, f e'.k, e'.d⟩ : Ev) = e := Option.some.inj x
    subst x
    obtain ⟨a, b, c⟩ := h i e' y
    refine ⟨h0 e' (List.mem_of_getElem? y), ?_, fun j g hj z => ?_⟩
    · rw [← List.map_take]
      show heldB _ (f e'.k) = !e'.d
      rw [heldB_map hf]
      exact b
    · rw [List.getElem?_map] at z
      cases y2 : es[j]? with
      | none => rw [y2] at z; cases z
      | some g' =>
        rw [y2] at z
        have z : (⟨g'.t, f g'.k, g'.d⟩ : Ev) = g := Option.some.inj z
        subst z
        exact c j g' hj y2
/-- ups behind all for keys that are down -/
theorem Valid.ups {t : Int} : ∀ (ns : List Int) {es : List Ev}, Valid es → ns.Nodup → (∀ k ∈ ns, heldB es k = true ∧ 0 ≤ k) → (∀ e ∈ es, e.t ≤ t) → Valid (es ++ ns.map fun k => ⟨t, k, false⟩)
  | [], es, h, _, _, _ => by simpa using h
  | k :: ns, es, h, nd, hb, ht => by
    obtain ⟨n1, n2⟩ := List.nodup_cons.mp nd
    have h1 : Valid (es ++ [⟨t, k, false⟩]) := h.snoc (hb k List.mem_cons_self).2 (by have := (hb k List.mem_cons_self).1; simpa using this) ht
    have := Valid.ups ns h1 n2 (fun x hx => ⟨by
        rw [heldB_snoc]
        unfold after
        have z : x ≠ k := fun q => n1 (q ▸ hx)
        rw [if_neg z]
        exact (hb x (List.mem_cons_of_mem _ hx)).1, (hb x (List.mem_cons_of_mem _ hx)).2⟩) (fun e he => by
        rcases List.mem_append.mp he with he | he
        · exact ht e he
        · rw [List.mem_singleton.mp he]; exact Int.le_refl _)
    simpa using this
theorem heldB_ups {t : Int} : ∀ (ns : List Int) (es : List Ev) (k : Int), heldB (es ++ ns.map fun k => ⟨t, k, false⟩) k = (heldB es k && !decide (k ∈ ns))
  | [], es, k => by simp
  | n :: ns, es, k => by
    have e : es ++ (n :: ns).map (fun k => (⟨t, k, false⟩ : Ev)) = (es ++ [⟨t, n, false⟩]) ++ ns.map fun k => ⟨t, k, false⟩ := by simp
    rw [e, heldB_ups ns, heldB_snoc]
    unfold after
    by_cases z : k = n
    · subst z; simp
    · have : (k ∈ n :: ns) ↔ k ∈ ns := by simp [z]
      simp [z]
/-- who is down is a key of the record -/
theorem held_mem : ∀ {es : List Ev} {k : Int}, heldB es k = true → ∃ e ∈ es, e.k = k := by
  intro es k
  suffices h : ∀ (es : List Ev) (g : Int → Bool), es.foldl after g k = true → g k = true ∨ ∃ e ∈ es, e.k = k by
    intro z
    rcases h es _ z with q | q
    · cases q
    · exact q
  intro es
  induction es with
  | nil => intro g h; exact .inl h
  | cons e es ih =>
    intro g h
    rcases ih (after g e) h with q | ⟨e', he, hk⟩
    · unfold after at q
      by_cases z : k = e.k
      · exact .inr ⟨e, List.mem_cons_self, z.symm⟩
      · rw [if_neg z] at q
        exact .inl q
    · exact .inr ⟨e', List.mem_cons_of_mem _ he, hk⟩
theorem Valid.mono {es : List Ev} (h : Valid es) : ∀ (i j : Nat) (a b : Ev), i < j → es[i]? = some a → es[j]? = some b → a.t ≤ b.t := fun i j a b hij ha hb => (h j b hb).2.2 i a hij ha
theorem lay_st : ∀ es : List Ev, PyData.canLayAll0 (es.map stD) = true ∧ PyData.depthAll (es.map stD) ≤ 1
  | [] => ⟨rfl, Nat.zero_le _⟩
  | e :: es => by
    obtain ⟨a, b⟩ := lay_st es
    refine ⟨?_, ?_⟩
    · have h : PyData.canLay0 (.str (wayS e.d)) = true := by cases e.d <;> decide +kernel
      show ((true && (PyData.canLay0 (.str (wayS e.d)) && true)) && PyData.canLayAll0 (es.map stD)) = true
      rw [a, h]
      rfl
    · show max (PyData.depth (stD e)) (PyData.depthAll (es.map stD)) ≤ 1
      have : PyData.depth (stD e) = 1 := rfl
      omega
theorem shaped_ord (es : List Ev) : SeqAt.shaped (ordD es) = true := by
  obtain ⟨a, b⟩ := lay_st es
  show (PyData.canLayAll0 (es.map stD) && decide (PyData.depthAll (es.map stD) + 1 ≤ 64)) = true
  rw [a, decide_eq_true (by omega)]
  rfl
theorem shaped_nil : SeqAt.shaped (.list []) = true := rfl
end Rm

set_option Elab.async false
set_option linter.all false
set_option maxRecDepth 100000
set_option maxHeartbeats 4000000
/-! a list's slice with a step -/
namespace Gd
open PySem PySem.Spec PyProof.Rows L2
def stepIx (n : Nat) (lo hi : Option Int) (k : Int) : List Nat :=
  let b := sliceBounds lo hi (some k) n
  sliceRange b.1 b.2.1 b.2.2
def stepV {α : Type} (xs : List α) (lo hi : Option Int) (k : Int) : List α := (stepIx xs.length lo hi k).filterMap fun i => xs[i]?
def tSlK (K : PySem.W.Frag) (te : TE) (tl th ts : TO) : TE := fun σ H Q => te σ H fun x H1 => tl σ H1 fun l H2 => th σ H2 fun u H3 => ts σ H3 fun y H4 =>
  ∃ (a : Addr) (xs : List V) (k : Int), x = .ref a ∧ y = some k ∧ k ≠ 0 ∧ SqL K H4 a xs ∧ (stepV xs l u k).length ≤ xs.length ∧ ∀ p, H4 p = none → Q (.ref p) (upd H4 p (.lst (stepV xs l u k)))
theorem vals_pick {xs : List V} {us : List Value} (r : Vals xs us) : ∀ is : List Nat, Vals (is.filterMap fun i => xs[i]?) (is.filterMap fun i => us[i]?)
  | [] => .nil
  | i :: is => by
    have ih := vals_pick r is
    rw [List.filterMap_cons, List.filterMap_cons]
    cases h : xs[i]? with
    | none =>
      have : us[i]? = none := by
        rw [List.getElem?_eq_none_iff] at h ⊢
        rw [← r.length]; exact h
      rw [this]
      exact ih
    | some x =>
      obtain ⟨u, hu, ru⟩ := r.get h
      rw [hu]
      exact .cons ru ih
section
variable {X : Cx} {e : Expr} {lo hi : Option Expr} {st : Expr} {p2 pos : Pos} {te : TE} {tl th ts : TO}
theorem pe_slk (he : PE X e te) (hl : PO X lo tl) (hu : PO X hi th) (hs : PO X (some st) ts) : PE X (.Subscript e (.Slice lo hi (some st) p2) pos) (tSlK X.K te tl th ts) := by
  refine ⟨fun pins s σ H Q I h => Subscript_ (thn (he.run pins s σ H _ I h) fun v s1 z1 => ?_)⟩
  obtain ⟨x, H1, I1, r1, q1⟩ := z1
  refine wpAny_Slice (thn (hl.run pins s1 σ H1 _ I1 q1) fun vl s2 z2 => ?_)
  obtain ⟨l, H2, I2, pl, q2⟩ := z2
  refine thn (hu.run pins s2 σ H2 _ I2 q2) fun vu s3 z3 => ?_
  obtain ⟨u, H3, I3, pu, q3⟩ := z3
  refine thn (hs.run pins s3 σ H3 _ I3 q3) fun vs s4 z4 => ?_
  obtain ⟨y, H4, I4, ps, a, xs, k, rfl, rfl, k0, hx, hlen, q⟩ := z4
  have I5 : Inv X pins σ H4 { s4 with heap := s4.heap.push { cls := .type "slice", data := .fields #[vl, vu, vs] } } := I4.kept (t' := s4.toks) fun b o m => Heap.get?_push_of_some _ m
  cases r1
  obtain ⟨its, r, ht, hz⟩ := I5.list hx
  have hn := r.length
  refine tail_any (ops := [.ref a, .ref s4.heap.objs.size]) ht.isList.typeIs slot_list_getitem.lookup ?_ (by with_unfolding_all rfl)
  refine wpAny_getItem_list_slice ht.isList (Heap.IsSliceOf.new ..) pl pu ps (fun m => k0 (Option.some.inj m)) ?_ (by rw [List.size_toArray, ← hn]; exact hz)
  have er : (slicePick its.toArray l u (some k)).toList = (stepIx xs.length l u k).filterMap fun i => its[i]? := by
    unfold slicePick stepIx
    rw [List.size_toArray, hn]
    simp
  have rv := vals_pick r (stepIx xs.length l u k)
  have I6 := I5.laid (t' := s4.toks) (a := (s4.heap.push { cls := .type "slice", data := .fields #[vl, vu, vs] }).objs.size) (o := .lst (stepV xs l u k)) (h' := (s4.heap.push { cls := .type "slice", data := .fields #[vl, vu, vs] }).push { cls := .type "list", data := .seq (slicePick its.toArray l u (some k)) }) (fun b o m => Heap.get?_push_of_some _ m) (Nat.le_refl _)
    ⟨Nat.le_trans hlen (by rw [hn]; omega), _, 0, rv, by rw [← er, Array.toArray_toList]; exact Heap.get?_push_size _ rfl⟩
  exact ⟨.ref _, _, I6, rfl, q _ (I5.hok.fresh (Nat.le_refl _))⟩
end
end Gd

set_option Elab.async false
set_option linter.all false
set_option maxRecDepth 100000
set_option maxHeartbeats 8000000
/-! set(xs) of a list of ints -/
namespace Gd
open PySem PySem.Spec PyProof.Rows L2
/-- a set as it begins -/
abbrev set0 (w : World) : Obj :=
  { cls := .type "set", dict := none,
    data := .set #[] 0 (.fresh 0 0 (!w.params.followText "set-order")) }
section
variable {P : Program} {w : World} {A : Around} {E : Value → Shared → Prop} {s : Shared}
/-- the loop of set.update over a list of ints, from an empty set at S -/
theorem fill_set {h1 : Heap} {l S : Addr} {its : Array Value} {ns : List Int} {g : Array GenState} {d : Drawn} {tk : Nat} {os : OsState}
    (free : A.handled = none) (hS : h1.get? S = some (set0 w)) (hl : h1.IsList l its) (ne : S ≠ l) (hit : IntsAre its.toList ns) (small : ns.length + 1 < scanBound) :
    codeAny (model P w) A (.builtin "set.update.loop" ⟨[.ref S, .ref h1.objs.size], []⟩)
      (fun r s' => ∃ (h' : Heap) (t c : Nat), r = .ok (.ret .none) ∧ s' = ⟨h', g, d, t, os⟩ ∧ SetR w h' S (fun j => decide (j ∈ ns)) c ∧ c ≤ ns.length ∧ ∀ b o, b ≠ S → h1.get? b = some o → h'.get? b = some o)
      ⟨h1.push { cls := .type "list_iterator", data := .fields #[.ref l, .int 0 0] }, g, d, tk, os⟩ := by
  have len : its.size = ns.length := by
    have e := IntsAre.length hit
    rwa [Array.length_toList] at e
  have lS : S < h1.objs.size := Heap.lt_size hS
  obtain ⟨ol, hol, _⟩ := id hl
  have ll : l < h1.objs.size := Heap.lt_size hol
  have out : S ∉ [h1.objs.size, l] := by
    intro m
    rcases List.mem_cons.mp m with e | m
    · exact Nat.ne_of_lt lS e
    · exact ne (List.mem_singleton.mp m)
  have at_ : ∀ (i : Nat) (v : Value), its[i]? = some v → ∃ k t, ns[i]? = some k ∧ v = .int k t := by
    intro i v e
    have hi : i < ns.length := len ▸ (Array.getElem?_eq_some_iff.mp e).1
    obtain ⟨t, z⟩ := IntsAre.int_at hit i v (by rw [Array.getElem?_toList]; exact e)
    exact ⟨ns[i], t, List.getElem?_eq_getElem hi, by rw [z, List.getD_eq_getElem?_getD, List.getElem?_eq_getElem hi]; rfl⟩
  have W := (Walks.list (prog := P) (w := w) (A := A.in1) (by simp [free]) h1.objs.size l (Nat.ne_of_lt ll) its).toS
  refine set_update_ints W S out ns len small at_ its.size 0 _ (by omega) (Nat.zero_le _) ⟨⟨_, Heap.get?_push_size _ rfl, rfl, rfl⟩, hl.push _⟩ ⟨0, Nat.le_refl _, setR_new_at (Heap.get?_push_of_some _ hS)⟩ (fun s' c m hc hR => ?_)
  obtain ⟨h', g', d', t', os'⟩ := s'
  obtain rfl : g' = g := m.gens
  obtain rfl : d' = d := m.drawn
  obtain rfl : os' = os := m.os
  refine ⟨h', t', c, rfl, rfl, hR, by omega, fun b o nb e => ?_⟩
  refine m.heap b o (fun z => ?_) (Heap.get?_push_of_some _ e)
  rcases List.mem_cons.mp z with z | z
  · exact nb z
  · have := Heap.lt_size e
    rw [List.mem_singleton.mp z] at this
    exact Nat.lt_irrefl _ this
theorem set_of_list {l : Addr} {its : Array Value} {ns : List Int} {Q : Value → Shared → Prop} (free : A.handled = none) (hl : s.heap.IsList l its) (hit : IntsAre its.toList ns) (small : ns.length + 1 < scanBound)
    (q : ∀ (h' : Heap) (t c : Nat), SetR w h' s.heap.objs.size (fun j => decide (j ∈ ns)) c → c ≤ ns.length → (∀ b o, s.heap.get? b = some o → h'.get? b = some o) →
      Q (.ref s.heap.objs.size) { s with heap := h', toks := t }) : wpAny (model P w) A (call (.type "set") [.ref l]) Q E s := by
  have K := F.called_set
  obtain ⟨_, _, mro⟩ := K.mro
  have made := K.made
  have sub := K.sub
  have nt := K.notType
  have can := K.canCreate
  have tc := F.typeCall_set_1 (.ref l)
  have look := K.init.lookup
  have bnd := K.init.bind (.ref s.heap.objs.size)
  refine wpAny_call (codeAny_of_tree (show wpAny _ _ (callAny (.type "set") _) _ _ _ from wpAny_pure ⟨Code.quiet_builtin _ (by decide +kernel), codeAny_builtin F.entry_type_call ?_⟩))
  rw [Around.under_plain (weight_type_call_type "set" [.ref l] []) rfl]
  repeat (any_goals (first | assumption | wp_step))
  refine codeAny_mono (code_set_led1 (.ref l) (E := E) (Q₁ := fun o s1 => o = .ref s.heap.objs.size ∧ s1 = { s with heap := s.heap.push (set0 w) }) ⟨rfl, rfl⟩) fun r s1 hr => ?_
  match r, hr with
  | .error _, hr => exact hr
  | .ok .next, hr => exact hr.elim
  | .ok .brk, hr => exact hr.elim
  | .ok .cont, hr => exact hr.elim
  | .ok (.ret o), hr =>
    obtain ⟨e1, e2⟩ := hr
    subst e1 e2
    have hS : (s.heap.push (set0 w)).get? s.heap.objs.size = some (set0 w) := Heap.get?_push_size _ rfl
    have tS : Shared.TypeIs { s with heap := s.heap.push (set0 w) } (.ref s.heap.objs.size) "set" := ⟨_, hS, rfl⟩
    have keep0 : ∀ b o, s.heap.get? b = some o → (s.heap.push (set0 w)).get? b = some o := fun b o e => Heap.get?_push_of_some _ e
    have hl1 := hl.push (set0 w)
    repeat (any_goals (first | assumption | wp_step))
    refine codeAny_mono (codeAny_call_builtin (R := fun r s2 => ∃ (h' : Heap) (t c : Nat), r = .ok (.ret .none) ∧ s2 = ⟨h', s.gens, s.drawn, t, s.os⟩ ∧ SetR w h' s.heap.objs.size (fun j => decide (j ∈ ns)) c ∧ c ≤ ns.length ∧ ∀ b o, s.heap.get? b = some o → h'.get? b = some o)
      K.init.plain F.entry_set_init (check_set_init_1 tS ?_)) (fun r2 s2 hr2 => ?_)
    · obtain ⟨⟨ocls, odict, odata, oslots⟩, hol, hcl, nl, hdl⟩ := id hl1
      have nd : (Value.type "list" == Value.type "dict") = false := by decide
      have s1 := F.sub_list_set
      have s2 := F.sub_list_frozenset
      simp only at hcl hdl
      subst hcl
      subst hdl
      unfold Builtin.«set.__init__» noKeywords Builtin.Frozenset.updateFrom
      generalize hI : pyIter = iter
      wp_walk
      subst hI
      have nSl : s.heap.objs.size ≠ l := by
        obtain ⟨ol, z, _⟩ := hl
        exact Nat.ne_of_gt (Heap.lt_size z)
      refine wpAny_pyIter_list hl1 (wpAny_bind (wpAny_runValue (codeAny_mono (fill_set (A := A.in1.in1) (by simp [free]) hS hl1 nSl hit small) (fun r s' z => ?_))))
      obtain ⟨h', t, c, rfl, rfl, hR, hc, hk⟩ := z
      have old : ∀ b o, s.heap.get? b = some o → h'.get? b = some o := fun b o e => hk b o (Nat.ne_of_lt (Heap.lt_size e)) (keep0 b o e)
      exact wpAny_pure (wpAny_pure ⟨h', t, c, rfl, rfl, hR, hc, old⟩)
    · obtain ⟨h', t, c, rfl, rfl, hR, hc, hk⟩ := hr2
      repeat (any_goals (first | assumption | wp_step))
      exact q h' t c hR hc hk
end
/-- set(xs) of a list of ints: as many members as different numbers -/
def rSetL (K : PySem.W.Frag) (w : World) : List V → Hp → VK → Prop := fun xs H Q => ∃ (l : Addr) (ns : List Int), xs = [.ref l] ∧ SqL K H l (ns.map V.int) ∧ ns.length ≤ 1000 ∧
  ∀ (a : Addr) (c : Nat), H a = none → (∀ ds : List Int, (∀ k ∈ ns, k ∈ ds) → c ≤ ds.length) → Q (.ref a) (upd H a (SetO w a (fun j => decide (j ∈ ns)) c))
theorem setR_few {w : World} {h : Heap} {a : Addr} {ns : List Int} {c : Nat} (R : SetR w h a (fun j => decide (j ∈ ns)) c) (ds : List Int) (hd : ∀ k ∈ ns, k ∈ ds) : c ≤ ds.length := by
  obtain ⟨o, es, ep, t, _, _, _, _, nd, mem, _, _, n, _⟩ := R
  rw [← n, ← Array.length_toList, ← List.length_map (f := keyOf)]
  refine List.Nodup.length_le_of_subset nd fun k hk => ?_
  exact hd k (of_decide_eq_true ((mem k).mpr hk))
theorem cr_setL {X : Cx} (hc : X.calm = true) : CallR X (.type "set") (rSetL X.K X.w) := by
  intro pins s σ H xs us Q I r h
  obtain ⟨l, ns, rfl, hx, hn, q⟩ := h
  rw [Vals.ref1 r]
  obtain ⟨its, rv, pl, _⟩ := I.list hx
  refine set_of_list (I.ok.hd hc) pl.isList (by simpa using rv.ints) (by unfold scanBound; omega) fun h' t c R _ k => ?_
  exact ⟨.ref s.heap.objs.size, _, I.laid (t' := t) k (Nat.le_refl _) (setO_new R), rfl, q _ c (I.hok.fresh (Nat.le_refl _)) (setR_few R)⟩
end Gd

set_option Elab.async false
set_option linter.all false
set_option maxRecDepth 100000
set_option maxHeartbeats 4000000
/-! the lengths of presses -/
namespace Rm
open PySem PySem.Spec PyProof.Rows L2 Gd
/-- the tick of the next event of this key -/
def nextT (k : Int) (es : List Ev) : Option Int := (es.find? fun e => e.k == k).map (·.t)
theorem nextT_snoc {k : Int} {es : List Ev} {e : Ev} : nextT k (es ++ [e]) = match nextT k es with
    | some t => some t
    | none => if e.k = k then some e.t else none := by
  unfold nextT
  rw [List.find?_append]
  cases h : es.find? fun e => e.k == k with
  | some x => rfl
  | none =>
    by_cases z : e.k = k
    · simp [z]
    · simp [z]
/-- what the press at i is, seen from n events -/
def lenN (es : List Ev) (n i : Nat) : Option Int := match es[i]? with
  | some e => if e.d = true ∧ i < n then (nextT e.k ((es.take n).drop (i + 1))).map (· - e.t) else none
  | none => none
def lens (es : List Ev) : List (Option Int) := (List.range es.length).map fun i => lenN es es.length i
/-- the down at d is the last event of key k among the first n -/
structure Open (es : List Ev) (n : Nat) (k : Int) (d : Nat) : Prop where
  lt : d < n
  ev : ∃ e, es[d]? = some e ∧ e.k = k ∧ e.d = true
  no : nextT k ((es.take n).drop (d + 1)) = none
theorem nextT_mem {k : Int} {es : List Ev} (h : nextT k es = none) : ∀ e ∈ es, e.k ≠ k := fun e he z => by
  unfold nextT at h
  have h := Option.map_eq_none_iff.mp h
  have := List.find?_eq_none.mp h e he
  simp [z] at this
theorem Open.uniq {es : List Ev} {n : Nat} {k : Int} {d d' : Nat} (a : Open es n k d) (b : Open es n k d') : d = d' := by
  have key : ∀ x y : Nat, Open es n k x → Open es n k y → ¬ x < y := fun x y hx hy l => by
    obtain ⟨e, he, hk, _⟩ := hy.ev
    refine nextT_mem hx.no e ?_ hk
    refine List.mem_of_getElem? (i := y - (x + 1)) ?_
    rw [List.getElem?_drop, show x + 1 + (y - (x + 1)) = y by omega, List.getElem?_take_of_lt hy.lt]
    exact he
  have := key d d' a b
  have := key d' d b a
  omega
theorem drop_take_succ {es : List Ev} {n i : Nat} {e : Ev} (he : es[n]? = some e) (hi : i < n) : (es.take (n + 1)).drop (i + 1) = (es.take n).drop (i + 1) ++ [e] := by
  have hn := (List.getElem?_eq_some_iff.mp he).1
  rw [List.take_add_one, he]
  show (es.take n ++ [e]).drop (i + 1) = _
  rw [List.drop_append_of_le_length (by rw [List.length_take]; omega)]
/-- who is down has an open press -/
theorem Open.step {es : List Ev} {n : Nat} {e : Ev} (he : es[n]? = some e) {k : Int} {d : Nat} (h : Open es n k d) (hk : e.k ≠ k) : Open es (n + 1) k d := by
  refine ⟨Nat.lt_succ_of_lt h.lt, h.ev, ?_⟩
  rw [drop_take_succ he h.lt, nextT_snoc, h.no]
  exact if_neg hk
theorem Open.new {es : List Ev} {n : Nat} {e : Ev} (he : es[n]? = some e) (hd : e.d = true) : Open es (n + 1) e.k n := by
  refine ⟨Nat.lt_succ_self _, ⟨e, he, rfl, hd⟩, ?_⟩
  rw [List.drop_eq_nil_of_le (by rw [List.length_take]; omega)]
  rfl
/-- an open press is one of a key that is down -/
theorem Open.held {es : List Ev} : ∀ {n : Nat} {k : Int} {d : Nat}, n ≤ es.length → Open es n k d → heldB (es.take n) k = true
  | 0, _, _, _, h => absurd h.lt (by omega)
  | n + 1, k, d, hn, h => by
    have he : es[n]? = some es[n] := List.getElem?_eq_getElem (by omega)
    rw [heldB_take he]
    unfold after
    by_cases z : k = es[n].k
    · rw [if_pos z]
      by_cases y : d = n
      · obtain ⟨e, h1, _, h3⟩ := h.ev
        rw [y, he] at h1
        rw [Option.some.inj h1]
        exact h3
      · have hl := h.lt
        have hno := h.no
        rw [drop_take_succ he (by omega), nextT_snoc] at hno
        cases q : nextT k ((es.take n).drop (d + 1)) with
        | some t => rw [q] at hno; cases hno
        | none =>
          rw [q] at hno
          have hno : (if es[n].k = k then some es[n].t else none) = none := hno
          rw [if_pos z.symm] at hno
          cases hno
    · rw [if_neg z]
      have hl := h.lt
      have dn : d ≠ n := fun y => by
        obtain ⟨e, h1, h2, _⟩ := h.ev
        rw [y, he] at h1
        have := Option.some.inj h1
        subst this
        exact z h2.symm
      refine Open.held (by omega) ⟨by omega, h.ev, ?_⟩
      have hno := h.no
      rw [drop_take_succ he (by omega), nextT_snoc] at hno
      cases q : nextT k ((es.take n).drop (d + 1)) with
      | some t => rw [q] at hno; cases hno
      | none => rfl
/-- an up fills the open press of its key alone; a down fills none -/
theorem lenN_down {es : List Ev} {n : Nat} {e : Ev} (hV : Valid es) (he : es[n]? = some e) (hd : e.d = true) (i : Nat) : lenN es (n + 1) i = lenN es n i := by
  unfold lenN
  cases h : es[i]? with
  | none => rfl
  | some x =>
    by_cases z : x.d = true ∧ i < n
    · show (if x.d = true ∧ i < n + 1 then _ else none) = if x.d = true ∧ i < n then _ else none
      rw [if_pos z, if_pos ⟨z.1, by omega⟩, drop_take_succ he z.2, nextT_snoc]
      cases q : nextT x.k ((es.take n).drop (i + 1)) with
      | some t => rfl
      | none =>
        have hn := (List.getElem?_eq_some_iff.mp he).1
        have := Open.held (by omega) (⟨z.2, ⟨x, h, rfl, z.1⟩, q⟩ : Open es n x.k i)
        by_cases y : e.k = x.k
        · have v := (hV n e he).2.1
          rw [y, this, hd] at v
          cases v
        · show Option.map _ (if e.k = x.k then some e.t else none) = _
          rw [if_neg y]
    · show (if x.d = true ∧ i < n + 1 then _ else none) = if x.d = true ∧ i < n then _ else none
      rw [if_neg z]
      by_cases y : x.d = true ∧ i < n + 1
      · have : i = n := by
          rcases Nat.lt_or_ge i n with l | l
          · exact absurd ⟨y.1, l⟩ z
          · omega
        subst this
        rw [if_pos y, List.drop_eq_nil_of_le (by rw [List.length_take]; omega)]
        rfl
      · rw [if_neg y]
theorem lenN_up {es : List Ev} {n d : Nat} {e x : Ev} (he : es[n]? = some e) (hd : e.d = false) (o : Open es n e.k d) (hx : es[d]? = some x) (i : Nat) : lenN es (n + 1) i = if i = d then some (e.t - x.t) else lenN es n i := by
  have hn := (List.getElem?_eq_some_iff.mp he).1
  unfold lenN
  by_cases z : i = d
  · subst z
    rw [if_pos rfl, hx]
    obtain ⟨y, h1, h2, h3⟩ := o.ev
    rw [hx] at h1
    have h1 := Option.some.inj h1
    subst h1
    show (if x.d = true ∧ i < n + 1 then _ else none) = _
    rw [if_pos ⟨h3, Nat.lt_succ_of_lt o.lt⟩, drop_take_succ he o.lt, nextT_snoc, h2, o.no]
    show Option.map _ (if e.k = e.k then some e.t else none) = _
    rw [if_pos rfl]
    rfl
  · rw [if_neg z]
    cases h : es[i]? with
    | none => rfl
    | some y =>
      show (if y.d = true ∧ i < n + 1 then _ else none) = if y.d = true ∧ i < n then _ else none
      by_cases v : y.d = true ∧ i < n
      · rw [if_pos v, if_pos ⟨v.1, by omega⟩, drop_take_succ he v.2, nextT_snoc]
        cases q : nextT y.k ((es.take n).drop (i + 1)) with
        | some t => rfl
        | none =>
          show Option.map _ (if e.k = y.k then some e.t else none) = _
          by_cases u : e.k = y.k
          · exact absurd (Open.uniq (⟨v.2, ⟨y, h, u.symm, v.1⟩, u ▸ q⟩ : Open es n e.k i) o) z
          · rw [if_neg u]
      · rw [if_neg v]
        by_cases u : y.d = true ∧ i < n + 1
        · have : i = n := by
            rcases Nat.lt_or_ge i n with l | l
            · exact absurd ⟨u.1, l⟩ v
            · omega
          subst this
          rw [he] at h
          have := Option.some.inj h
          subst this
          rw [hd] at u
          cases u.1
        · rw [if_neg u]
end Rm

set_option Elab.async false
set_option linter.all false
set_option maxRecDepth 100000
set_option maxHeartbeats 4000000
/-! the numbers of the events of one key -/
namespace Rm
open PySem PySem.Spec PyProof.Rows L2 Gd
theorem pick_all {α : Type} {xs : List α} : ∀ {is : List Nat}, (∀ i ∈ is, i < xs.length) → (is.filterMap fun i => xs[i]?).length = is.length ∧ ∀ m : Nat, (is.filterMap fun i => xs[i]?)[m]? = (is[m]?).bind fun i => xs[i]?
  | [], _ => ⟨rfl, fun m => by simp⟩
  | i :: is, h => by
    obtain ⟨a, b⟩ := pick_all (is := is) fun j hj => h j (List.mem_cons_of_mem _ hj)
    have hlt := h i List.mem_cons_self
    have hi : xs[i]? = some xs[i] := List.getElem?_eq_getElem hlt
    have e : ((i :: is).filterMap fun i => xs[i]?) = xs[i] :: is.filterMap fun i => xs[i]? := by rw [List.filterMap_cons, hi]
    rw [e]
    refine ⟨by rw [List.length_cons, a, List.length_cons], fun m => ?_⟩
    cases m with
    | zero => simp [hi]
    | succ m => simpa using b m
theorem ix_even (n : Nat) : stepIx n none none 2 = (List.range ((n + 1) / 2)).map fun m => 2 * m := by
  unfold stepIx sliceBounds sliceRange
  simp only [Option.getD_some, show (2 : Int) > 0 by decide, if_true]
  have e : (if (0 : Int) < (n : Int) then ((n : Int) - 0 + 2 - 1) / 2 else 0).toNat = (n + 1) / 2 := by split <;> omega
  rw [e]
  refine List.map_congr_left fun m _ => ?_
  omega
theorem ix_odd (n : Nat) : stepIx n (some 1) none 2 = (List.range (n / 2)).map fun m => 2 * m + 1 := by
  unfold stepIx sliceBounds sliceRange
  simp only [Option.getD_some, show (2 : Int) > 0 by decide, if_true, show ¬ (1 : Int) < 0 by decide, if_false]
  have e : (if max 0 (min 1 (n : Int)) < (n : Int) then ((n : Int) - max 0 (min 1 (n : Int)) + 2 - 1) / 2 else 0).toNat = n / 2 := by
    rcases Nat.lt_or_ge n 1 with q | q
    · have : n = 0 := by omega
      subst this
      rfl
    · have m1 : max 0 (min 1 (n : Int)) = 1 := by omega
      rw [m1]
      split <;> omega
  rw [e]
  refine List.map_congr_left fun m hm => ?_
  have hm := List.mem_range.mp hm
  have m1 : max 0 (min 1 (n : Int)) = 1 := by omega
  rw [m1]
  omega
theorem even_at {α : Type} (xs : List α) : (stepV xs none none 2).length = (xs.length + 1) / 2 ∧ ∀ m : Nat, m < (xs.length + 1) / 2 → (stepV xs none none 2)[m]? = xs[2 * m]? := by
  unfold stepV
  rw [ix_even]
  obtain ⟨a, b⟩ := pick_all (xs := xs) (is := (List.range ((xs.length + 1) / 2)).map fun m => 2 * m) fun i hi => by
    obtain ⟨m, hm, rfl⟩ := List.mem_map.mp hi
    have := List.mem_range.mp hm
    omega
  refine ⟨by rw [a, List.length_map, List.length_range], fun m hm => ?_⟩
  rw [b, List.getElem?_map, List.getElem?_range hm]
  rfl
theorem odd_at {α : Type} (xs : List α) : (stepV xs (some 1) none 2).length = xs.length / 2 ∧ ∀ m : Nat, m < xs.length / 2 → (stepV xs (some 1) none 2)[m]? = xs[2 * m + 1]? := by
  unfold stepV
  rw [ix_odd]
  obtain ⟨a, b⟩ := pick_all (xs := xs) (is := (List.range (xs.length / 2)).map fun m => 2 * m + 1) fun i hi => by
    obtain ⟨m, hm, rfl⟩ := List.mem_map.mp hi
    have := List.mem_range.mp hm
    omega
  refine ⟨by rw [a, List.length_map, List.length_range], fun m hm => ?_⟩
  rw [b, List.getElem?_map, List.getElem?_range hm]
  rfl
/-- the numbers of the events of key k among the first n -/
def ownN (es : List Ev) (k : Int) : Nat → List Nat
  | 0 => []
  | n + 1 => match es[n]? with
    | some e => if e.k = k then ownN es k n ++ [n] else ownN es k n
    | none => ownN es k n
theorem ownN_succ {es : List Ev} {k : Int} {n : Nat} {e : Ev} (he : es[n]? = some e) : ownN es k (n + 1) = if e.k = k then ownN es k n ++ [n] else ownN es k n := by
  show (match es[n]? with
    | some e => if e.k = k then ownN es k n ++ [n] else ownN es k n
    | none => ownN es k n) = _
  rw [he]
structure OwnOk (es : List Ev) (k : Int) (n : Nat) (o : List Nat) : Prop where
  odd : o.length % 2 = 1 ↔ heldB (es.take n) k = true
  pair : ∀ m i j, o[2 * m]? = some i → o[2 * m + 1]? = some j → ∃ x y, es[i]? = some x ∧ es[j]? = some y ∧ lenN es n i = some (y.t - x.t)
  last : ∀ m i, o.length = 2 * m + 1 → o[2 * m]? = some i → Open es n k i
  up : ∀ m i, o[2 * m + 1]? = some i → lenN es n i = none
  nd : o.Nodup
  mem : ∀ i, i ∈ o ↔ i < n ∧ ∃ e, es[i]? = some e ∧ e.k = k
theorem Open.len0 {es : List Ev} {n : Nat} {k : Int} {d : Nat} (h : Open es n k d) : lenN es n d = none := by
  obtain ⟨e, h1, h2, h3⟩ := h.ev
  unfold lenN
  rw [h1]
  show (if e.d = true ∧ d < n then _ else none) = none
  rw [if_pos ⟨h3, h.lt⟩, h2, h.no]
  rfl
theorem lenN_new {es : List Ev} {n : Nat} : lenN es n n = none := by
  unfold lenN
  cases es[n]? with
  | none => rfl
  | some e => exact if_neg (fun z => Nat.lt_irrefl _ z.2)
theorem held_open {es : List Ev} {k : Int} : ∀ n, n ≤ es.length → heldB (es.take n) k = true → ∃ d, Open es n k d
  | 0, _, h => by cases h
  | n + 1, hn, h => by
    have he : es[n]? = some es[n] := List.getElem?_eq_getElem (by omega)
    rw [heldB_take he] at h
    unfold after at h
    by_cases z : k = es[n].k
    · rw [if_pos z] at h
      exact ⟨n, z ▸ Open.new he h⟩
    · rw [if_neg z] at h
      obtain ⟨d, o⟩ := held_open n (by omega) h
      exact ⟨d, o.step he fun q => z q.symm⟩
theorem lenN_other {es : List Ev} {n i : Nat} {e x : Ev} {k : Int} (hV : Valid es) (he : es[n]? = some e) (hk : e.k ≠ k) (hx : es[i]? = some x) (hxk : x.k = k) : lenN es (n + 1) i = lenN es n i := by
  have hn := (List.getElem?_eq_some_iff.mp he).1
  cases hd : e.d with
  | true => exact lenN_down hV he hd i
  | false =>
    have v := (hV n e he).2.1
    rw [hd] at v
    obtain ⟨d, o⟩ := held_open n (by omega) v
    obtain ⟨y, h1, h2, _⟩ := o.ev
    rw [lenN_up he hd o h1, if_neg]
    intro q
    subst q
    rw [hx] at h1
    have := Option.some.inj h1
    subst this
    exact hk (h2.symm.trans hxk)
theorem own_ok {es : List Ev} (hV : Valid es) (k : Int) : ∀ n, n ≤ es.length → OwnOk es k n (ownN es k n)
  | 0, _ => ⟨by simp [ownN, heldB], fun m i j h => by simp [ownN] at h, fun m i h => by simp [ownN] at h, fun m i h => by simp [ownN] at h, by simp [ownN], fun i => by simp [ownN]⟩
  | n + 1, hn => by
    have ih := own_ok hV k n (by omega)
    have he : es[n]? = some es[n] := List.getElem?_eq_getElem (by omega)
    have v := (hV n _ he).2.1
    generalize ho : ownN es k n = o at ih
    have lo : ∀ i ∈ o, i < n := fun i hi => ((ih.mem i).mp hi).1
    rw [ownN_succ he, ho]
    by_cases z : es[n].k = k
    · rw [if_pos z]
      rw [z] at v
      have hb : heldB (es.take (n + 1)) k = es[n].d := by
        rw [heldB_take he]
        unfold after
        rw [if_pos z.symm]
      have mem : ∀ i, i ∈ o ++ [n] ↔ i < n + 1 ∧ ∃ e, es[i]? = some e ∧ e.k = k := fun i => by
        rw [List.mem_append, List.mem_singleton, ih.mem]
        constructor
        · rintro (⟨a, b⟩ | rfl)
          · exact ⟨by omega, b⟩
          · exact ⟨by omega, _, he, z⟩
        · rintro ⟨a, b⟩
          by_cases q : i = n
          · exact .inr q
          · exact .inl ⟨by omega, b⟩
      have nd : (o ++ [n]).Nodup := nd_snoc ih.nd (fun q => Nat.lt_irrefl _ (lo n q))
      cases hd : es[n].d with
      | true =>
        rw [hd] at v hb
        have ev : o.length % 2 = 0 := by
          have := ih.odd
          rw [v] at this
          simp at this
          omega
        refine ⟨by rw [hb, List.length_append]; simp; omega, fun m i j h1 h2 => ?_, fun m i hl h1 => ?_, fun m i h1 => ?_, nd, mem⟩
        · have l2 := (List.getElem?_eq_some_iff.mp h2).1
          rw [List.length_append] at l2
          simp at l2
          rw [List.getElem?_append_left (by omega)] at h1 h2
          obtain ⟨x, y, a, b, c⟩ := ih.pair m i j h1 h2
          exact ⟨x, y, a, b, by rw [lenN_down hV he hd]; exact c⟩
        · rw [List.length_append] at hl
          simp at hl
          rw [List.getElem?_append_right (by omega), show 2 * m - o.length = 0 by omega] at h1
          have : n = i := Option.some.inj h1
          subst this
          rw [← z]
          exact Open.new he hd
        · have l2 := (List.getElem?_eq_some_iff.mp h1).1
          rw [List.length_append] at l2
          simp at l2
          rw [lenN_down hV he hd]
          rcases Nat.lt_or_ge (2 * m + 1) o.length with q | q
          · rw [List.getElem?_append_left q] at h1
            exact ih.up m i h1
          · omega
      | false =>
        rw [hd] at v hb
        have od : o.length % 2 = 1 := ih.odd.mpr v
        obtain ⟨m0, hm0⟩ : ∃ m, o.length = 2 * m + 1 := ⟨o.length / 2, by omega⟩
        have hd0 : o[2 * m0]? = some o[2 * m0] := List.getElem?_eq_getElem (by omega)
        have op := ih.last m0 _ hm0 hd0
        obtain ⟨x0, hx0, _, _⟩ := op.ev
        have up := fun i => lenN_up (i := i) he hd (by rw [z]; exact op) hx0
        refine ⟨by rw [hb, List.length_append]; simp; omega, fun m i j h1 h2 => ?_, fun m i hl h1 => ?_, fun m i h1 => ?_, nd, mem⟩
        · have l2 := (List.getElem?_eq_some_iff.mp h2).1
          rw [List.length_append] at l2
          simp at l2
          rw [List.getElem?_append_left (by omega)] at h1
          by_cases q : m = m0
          · subst q
            rw [List.getElem?_append_right (by omega), show 2 * m + 1 - o.length = 0 by omega] at h2
            have e1 : n = j := Option.some.inj h2
            have e2 := Option.some.inj (h1.symm.trans hd0)
            subst e1
            subst e2
            exact ⟨x0, _, hx0, he, by rw [up, if_pos rfl]⟩
          · rw [List.getElem?_append_left (by omega)] at h2
            obtain ⟨x, y, a, b, c⟩ := ih.pair m i j h1 h2
            refine ⟨x, y, a, b, ?_⟩
            rw [up, if_neg, c]
            intro y'
            rw [y'] at c
            rw [op.len0] at c
            cases c
        · rw [List.length_append] at hl
          simp at hl
          omega
        · have l2 := (List.getElem?_eq_some_iff.mp h1).1
          rw [List.length_append] at l2
          simp at l2
          by_cases q : m = m0
          · subst q
            rw [List.getElem?_append_right (by omega), show 2 * m + 1 - o.length = 0 by omega] at h1
            have e1 : n = i := Option.some.inj h1
            subst e1
            rw [up, if_neg (fun y => by have := op.lt; omega), lenN_new]
          · rw [List.getElem?_append_left (by omega)] at h1
            have c := ih.up m i h1
            rw [up, if_neg, c]
            intro y
            rw [y] at h1
            have := nd_ix ih.nd h1 hd0
            omega
    · rw [if_neg z]
      have hb : heldB (es.take (n + 1)) k = heldB (es.take n) k := by
        rw [heldB_take he]
        unfold after
        rw [if_neg (fun q => z q.symm)]
      have same : ∀ i ∈ o, lenN es (n + 1) i = lenN es n i := fun i hi => by
        obtain ⟨_, e, h1, h2⟩ := (ih.mem i).mp hi
        exact lenN_other hV he z h1 h2
      refine ⟨by rw [hb]; exact ih.odd, fun m i j h1 h2 => ?_, fun m i hl h1 => (ih.last m i hl h1).step he z, fun m i h1 => ?_, ih.nd, fun i => ?_⟩
      · obtain ⟨x, y, a, b, c⟩ := ih.pair m i j h1 h2
        exact ⟨x, y, a, b, by rw [same i (List.mem_of_getElem? h1)]; exact c⟩
      · rw [same i (List.mem_of_getElem? h1)]
        exact ih.up m i h1
      · rw [ih.mem]
        constructor
        · rintro ⟨a, b⟩
          exact ⟨by omega, b⟩
        · rintro ⟨a, e, b, c⟩
          refine ⟨?_, e, b, c⟩
          by_cases q : i = n
          · subst q
            rw [he] at b
            have := Option.some.inj b
            subst this
            exact absurd c z
          · omega
end Rm

set_option Elab.async false
set_option linter.all false
set_option maxRecDepth 100000
set_option maxHeartbeats 4000000
namespace K06
open PySem PySem.Spec PyProof.Rows L2 Gd Rm
def topS (i : Nat) : Stmt := PySem.Challenge.pw_holdtap_k06_orders_and_lengths.main.body.getD i (.Pass ⟨0, 0, 0, 0⟩)
abbrev s_is_an_integer : Stmt := topS 4
abbrev n_is_an_integer : List Str := ["value"]
theorem sc_is_an_integer : FnScope n_is_an_integer ["value"] (defScope s_is_an_integer) := ⟨rfl, rfl, rfl, by decide +kernel, rfl, by decide +kernel, by decide +kernel⟩
-- 0 value
abbrev s_is_whole : Stmt := topS 7
abbrev n_is_whole : List Str := ["record"]
theorem sc_is_whole : FnScope n_is_whole ["record"] (defScope s_is_whole) := ⟨rfl, rfl, rfl, by decide +kernel, rfl, by decide +kernel, by decide +kernel⟩
-- 0 record
abbrev s_order_of : Stmt := topS 8
abbrev n_order_of : List Str := ["record", "tick", "key", "way"]
theorem sc_order_of : FnScope n_order_of ["record"] (defScope s_order_of) := ⟨rfl, rfl, rfl, by decide +kernel, rfl, by decide +kernel, by decide +kernel⟩
-- 0 record, 1 tick*, 2 key*, 3 way*
abbrev s_lengths : Stmt := topS 9
abbrev n_lengths : List Str := ["record", "found", "downs", "index", "tick", "key", "way", "down"]
theorem sc_lengths : FnScope n_lengths ["record"] (defScope s_lengths) := ⟨rfl, rfl, rfl, by decide +kernel, rfl, by decide +kernel, by decide +kernel⟩
-- 0 record, 1 found, 2 downs, 3 index, 4 tick, 5 key, 6 way, 7 down
abbrev s_held_keys : Stmt := topS 10
abbrev n_held_keys : List Str := ["record", "held", "tick", "key", "way"]
theorem sc_held_keys : FnScope n_held_keys ["record"] (defScope s_held_keys) := ⟨rfl, rfl, rfl, by decide +kernel, rfl, by decide +kernel, by decide +kernel⟩
-- 0 record, 1 held*, 2 tick, 3 key, 4 way
abbrev s_check_record : Stmt := topS 11
abbrev n_check_record : List Str := ["value", "many", "held", "index", "event"]
theorem sc_check_record : FnScope n_check_record ["value", "many"] (defScope s_check_record) := ⟨rfl, rfl, rfl, by decide +kernel, rfl, by decide +kernel, by decide +kernel⟩
-- 0 value, 1 many, 2 held, 3 index, 4 event
abbrev s_is_short_list : Stmt := topS 12
abbrev n_is_short_list : List Str := ["value"]
theorem sc_is_short_list : FnScope n_is_short_list ["value"] (defScope s_is_short_list) := ⟨rfl, rfl, rfl, by decide +kernel, rfl, by decide +kernel, by decide +kernel⟩
-- 0 value
abbrev s_is_event : Stmt := topS 13
abbrev n_is_event : List Str := ["value", "tick", "key", "way"]
theorem sc_is_event : FnScope n_is_event ["value"] (defScope s_is_event) := ⟨rfl, rfl, rfl, by decide +kernel, rfl, by decide +kernel, by decide +kernel⟩
-- 0 value, 1 tick, 2 key, 3 way
abbrev s_is_step : Stmt := topS 14
abbrev n_is_step : List Str := ["value", "key", "way"]
theorem sc_is_step : FnScope n_is_step ["value"] (defScope s_is_step) := ⟨rfl, rfl, rfl, by decide +kernel, rfl, by decide +kernel, by decide +kernel⟩
-- 0 value, 1 key, 2 way
abbrev s_is_below : Stmt := topS 15
abbrev n_is_below : List Str := ["key", "many"]
theorem sc_is_below : FnScope n_is_below ["key", "many"] (defScope s_is_below) := ⟨rfl, rfl, rfl, by decide +kernel, rfl, by decide +kernel, by decide +kernel⟩
-- 0 key, 1 many
abbrev s_can_follow : Stmt := topS 16
abbrev n_can_follow : List Str := ["event", "last", "held"]
theorem sc_can_follow : FnScope n_can_follow ["event", "last", "held"] (defScope s_can_follow) := ⟨rfl, rfl, rfl, by decide +kernel, rfl, by decide +kernel, by decide +kernel⟩
-- 0 event, 1 last, 2 held
abbrev s_takes_turn : Stmt := topS 17
abbrev n_takes_turn : List Str := ["held", "key", "way", "goes_down"]
theorem sc_takes_turn : FnScope n_takes_turn ["held", "key", "way"] (defScope s_takes_turn) := ⟨rfl, rfl, rfl, by decide +kernel, rfl, by decide +kernel, by decide +kernel⟩
-- 0 held, 1 key, 2 way, 3 goes_down
abbrev s__law_reel : Stmt := topS 19
abbrev n__law_reel : List Str := ["_law_script", "_law_index", "_law_mixed", "_law_cell"]
theorem sc__law_reel : FnScope n__law_reel ["_law_script", "_law_index"] (defScope s__law_reel) := ⟨rfl, rfl, rfl, by decide +kernel, rfl, by decide +kernel, by decide +kernel⟩
-- 0 _law_script, 1 _law_index, 2 _law_mixed, 3 _law_cell
abbrev s__law_spin : Stmt := topS 20
abbrev n__law_spin : List Str := ["_law_reel_here", "_law_size", "_law_digit", "_law_wide"]
theorem sc__law_spin : FnScope n__law_spin ["_law_reel_here", "_law_size"] (defScope s__law_spin) := ⟨rfl, rfl, rfl, by decide +kernel, rfl, by decide +kernel, by decide +kernel⟩
-- 0 _law_reel_here, 1 _law_size, 2 _law_digit, 3 _law_wide
abbrev s__law_record : Stmt := topS 21
abbrev n__law_record : List Str := ["_law_reel_here", "_law_keys", "_law_size", "_law_gaps", "_law_found", "_law_down", "_law_tick", "_law_turn", "_law_key"]
theorem sc__law_record : FnScope n__law_record ["_law_reel_here", "_law_keys", "_law_size", "_law_gaps"] (defScope s__law_record) := ⟨rfl, rfl, rfl, by decide +kernel, rfl, by decide +kernel, by decide +kernel⟩
-- 0 _law_reel_here, 1 _law_keys, 2 _law_size, 3 _law_gaps, 4 _law_found, 5 _law_down, 6 _law_tick, 7 _law_turn, 8 _law_key
abbrev s__law_crowd : Stmt := topS 22
abbrev n__law_crowd : List Str := ["_law_reel_here", "_law_keys", "_law_found", "_law_down", "_law_tick", "_law_turn", "_law_key"]
theorem sc__law_crowd : FnScope n__law_crowd ["_law_reel_here"] (defScope s__law_crowd) := ⟨rfl, rfl, rfl, by decide +kernel, rfl, by decide +kernel, by decide +kernel⟩
-- 0 _law_reel_here, 1 _law_keys, 2 _law_found, 3 _law_down, 4 _law_tick, 5 _law_turn, 6 _law_key
abbrev s__law_right : Stmt := topS 23
abbrev n__law_right : List Str := ["_law_record_here", "_law_kept", "_law_due", "_law_left", "_law_key", "_law_own", "_law_first", "_law_last", "_law_order", "_law_turn", "_law_told", "_law_sizes", "_law_event", "_law_at"]
theorem sc__law_right : FnScope n__law_right ["_law_record_here"] (defScope s__law_right) := ⟨rfl, rfl, rfl, by decide +kernel, rfl, by decide +kernel, by decide +kernel⟩
-- 0 _law_record_here, 1 _law_kept, 2 _law_due, 3 _law_left, 4 _law_key*, 5 _law_own, 6 _law_first, 7 _law_last, 8 _law_order, 9 _law_turn, 10 _law_told, 11 _law_sizes, 12 _law_event*, 13 _law_at*
abbrev s_law : Stmt := topS 24
abbrev n_law : List Str := ["_law_script", "_law_index", "_law_reel_here", "_law_turn", "_law_keys", "_law_record_here", "_law_crowd_here", "_law_some", "_law_beginning", "_law_tick", "_law_key", "_law_way"]
theorem sc_law : FnScope n_law ["_law_script"] (defScope s_law) := ⟨rfl, rfl, rfl, by decide +kernel, rfl, by decide +kernel, by decide +kernel⟩
-- 0 _law_script, 1 _law_index, 2 _law_reel_here, 3 _law_turn, 4 _law_keys, 5 _law_record_here, 6 _law_crowd_here, 7 _law_some, 8 _law_beginning, 9 _law_tick*, 10 _law_key*, 11 _law_way*


/-! ### the reel -/
def Reel (H : Hp) (r : Addr) (n : Nat) : Prop := ∃ x y z : Int, H r = some (.lst [.int x, .int y, .int z]) ∧ 0 ≤ x ∧ 0 ≤ y ∧ y < 10 ^ 42 ∧ 0 ≤ z ∧ z ≤ (n : Int)
theorem Reel.mono {H : Hp} {r : Addr} {n m : Nat} (h : Reel H r n) (l : n ≤ m) : Reel H r m := by
  obtain ⟨x, y, z, a, b, c, d, e, f⟩ := h
  exact ⟨x, y, z, a, b, c, d, e, by omega⟩
theorem Reel.same {H H' : Hp} {r : Addr} {n : Nat} (h : Reel H r n) (l : Same H H') : Reel H' r n := by
  obtain ⟨x, y, z, a, b⟩ := h
  exact ⟨x, y, z, l _ _ a, b⟩
/-- the draws so far are fewer than this -/
abbrev most : Nat := 1000000000
def spSpin : Sp := fun vs H Q _ => ∃ (r : Addr) (m : Int) (n : Nat), vs = [.ref r, .int m] ∧ 0 < m ∧ m < 10 ^ 40 ∧ n < most ∧ Reel H r n ∧
  ∀ d H', 0 ≤ d → d < m → Reel H' r (n + 1) → Off r H H' → Q (.int d) H'
structure Bt (mg : Str → Option Value) : Prop where
  m_len : mg "len" = none
  m_abs : mg "abs" = none
  m_max : mg "max" = none
  m_repr : mg "repr" = none
  m_sorted : mg "sorted" = none
  m_isinstance : mg "isinstance" = none
  m_all : mg "all" = none
  m_list : mg "list" = none
  m_tuple : mg "tuple" = none
  m_int : mg "int" = none
  m_bool : mg "bool" = none
  m_str : mg "str" = none
  m_range : mg "range" = none
  m_enumerate : mg "enumerate" = none
  m_zip : mg "zip" = none
  m_min : mg "min" = none
  m_set : mg "set" = none
section
variable {P : Program} {w : World} {K : PySem.W.Frag} {mg : Str → Option Value} {base : Heap}
theorem p43 : (10 : Int) ^ (43 : Int).toNat + 57 = 10 ^ 43 + 57 := rfl
theorem ok__law_spin (a : At K mg "_law_spin" s__law_spin ["_law_reel_here", "_law_size"]) : Cl P w K mg base 1 "_law_spin" spSpin := by
  refine clG a sc__law_spin (fun vs H Q E h => ?_) (fun f cdv A outer s H vs Q hg hr h => ?_)
  · obtain ⟨r, m, n, rfl, _⟩ := h
    rfl
  · obtain ⟨r, m, n, rfl, hm, hm2, hn0, ⟨x, y, z, hR, hx, hy, hy2, hz, hz2⟩, q⟩ := h
    have hn : n < 1000000000 := hn0
    refine ⟨_, (pss_cons (ps_if (pt_cmpR op_gt (pe_ix ix_list (pv 0) pe_int (fun _ _ => rfl)) pe_int (nomark _)) (pss_cons (ps_set (i := 2) sc__law_spin.nd rfl (Or.inl rfl) (pe_op op_mod (pe_ix ix_list (pv 0) pe_int (fun _ _ => rfl)) (pv 1)))
      (pss_cons (ps_asg (pe_op op_fdivW (pe_ix ix_list (pv 0) pe_int (fun _ _ => rfl)) (pv 1)) (pg_sub (pv 0) pe_int set_list))
      (pss_one (ps_ret (pv 2))))) pss_nil)
      (pss_cons (ps_asg (pe_op op_add (pe_ix ix_list (pv 0) pe_int (fun _ _ => rfl)) pe_int) (pg_sub (pv 0) pe_int set_list))
      (pss_cons (ps_set (i := 3) sc__law_spin.nd rfl (Or.inl rfl) (pe_op op_mod (pe_op op_powW (pe_op op_add (pe_ix ix_list (pv 0) pe_int (fun _ _ => rfl)) (pe_op op_mulW pe_int (pe_ix ix_list (pv 0) pe_int (fun _ _ => rfl)))) pe_int) (pe_op op_add (pe_op op_powW pe_int pe_int) pe_int)))
      (pss_cons (ps_set (i := 3) sc__law_spin.nd rfl (Or.inl rfl) (pe_op op_mod (pe_op op_powW (pe_op op_add (pv 3) (pe_op op_mulW pe_int (pe_ix ix_list (pv 0) pe_int (fun _ _ => rfl)))) pe_int) (pe_op op_add (pe_op op_powW pe_int pe_int) pe_int)))
      (pss_one (ps_ret (pe_op op_mod (pe_op op_fdivW (pv 3) pe_int) (pv 1)))))))), ?_⟩
    refine ⟨_, rfl, r, _, 0, _, rfl, rfl, SqL.of hR, atI_nat (j := 0) rfl, ?_⟩
    refine ⟨_, _, rfl, rfl, _, rfl, ite2 (fun e => ?_) (fun e => ?_)⟩
    · -- a digit of the great number
      have e0 : 0 < x := of_decide_eq_true e
      refine ⟨_, rfl, r, _, 0, _, rfl, rfl, SqL.of hR, atI_nat (j := 0) rfl, _, rfl, _, _, rfl, rfl, hm, ?_⟩
      refine ⟨_, rfl, r, _, 0, _, rfl, rfl, SqL.of hR, atI_nat (j := 0) rfl, _, rfl, _, _, rfl, rfl, wide_div (b := 140) hm (by omega) (by decide) (by decide), ?_⟩
      refine ⟨_, rfl, r, _, 0, 0, rfl, rfl, hR, rfl, ?_⟩
      refine ⟨_, rfl, q _ _ (Int.emod_nonneg _ (by omega)) (Int.emod_lt_of_pos _ hm) ⟨x / m, y, z, upd_same, Int.ediv_nonneg hx (by omega), hy, hy2, hz, by omega⟩ off_upd⟩
    · refine ⟨_, rfl, r, _, 2, _, rfl, rfl, SqL.of hR, atI_nat (j := 2) rfl, _, _, rfl, rfl, ?_⟩
      refine ⟨_, rfl, r, _, 2, 2, rfl, rfl, hR, rfl, ?_⟩
      have hR1 : upd H r (.lst [.int x, .int y, .int (z + 1)]) r = some (.lst [.int x, .int y, .int (z + 1)]) := upd_same
      refine ⟨_, rfl, r, _, 1, _, rfl, rfl, SqL.of hR1, atI_nat (j := 1) rfl, ?_⟩
      refine ⟨_, rfl, r, _, 2, _, rfl, rfl, SqL.of hR1, atI_nat (j := 2) rfl, ?_⟩
      have b1 : (z + 1).natAbs < 2 ^ 40 := by omega
      have b2 : (49979687 * (z + 1)).natAbs < 2 ^ 80 := by omega
      refine ⟨_, _, rfl, rfl, wide_mul (a := 40) (b := 40) (by decide) b1 (by decide) (by decide) (by decide), ?_⟩
      refine ⟨_, _, rfl, rfl, ?_⟩
      have b3 : (y + 49979687 * (z + 1)).natAbs < 2 ^ 150 := by omega
      refine ⟨_, _, rfl, rfl, powW (n := 150) (k := 3) b3 (by decide), ?_⟩
      refine ⟨_, _, rfl, rfl, powW (n := 40) (k := 43) (by decide) (by decide), ?_⟩
      refine ⟨_, _, rfl, rfl, _, _, rfl, rfl, (show (0 : Int) < 10 ^ 43 + 57 by decide), ?_⟩
      have c1 : 0 ≤ (y + 49979687 * (z + 1)) ^ 3 % (10 ^ 43 + 57) := Int.emod_nonneg _ (by decide)
      have c2 : (y + 49979687 * (z + 1)) ^ 3 % (10 ^ 43 + 57) < 10 ^ 43 + 57 := Int.emod_lt_of_pos _ (by decide)
      generalize hu : (y + 49979687 * (z + 1)) ^ 3 % (10 ^ 43 + 57) = u at c1 c2
      refine ⟨.int u, congrArg (fun v => some (some (V.int v))) hu, ?_⟩
      refine ⟨_, rfl, r, _, 2, _, rfl, rfl, SqL.of hR1, atI_nat (j := 2) rfl, ?_⟩
      have b4 : (22801763 * (z + 1)).natAbs < 2 ^ 80 := by omega
      refine ⟨_, _, rfl, rfl, wide_mul (a := 40) (b := 40) (by decide) b1 (by decide) (by decide) (by decide), ?_⟩
      have b5 : (u + 22801763 * (z + 1)).natAbs < 2 ^ 150 := by omega
      refine ⟨_, _, rfl, rfl, _, _, rfl, rfl, powW (n := 150) (k := 5) b5 (by decide), ?_⟩
      refine ⟨_, _, rfl, rfl, powW (n := 40) (k := 40) (by decide) (by decide), ?_⟩
      refine ⟨_, _, rfl, rfl, _, _, rfl, rfl, (show (0 : Int) < 10 ^ 40 + 121 by decide), ?_⟩
      refine ⟨_, rfl, _, _, rfl, rfl, wide_div (b := 40) (by decide) (by decide) (by decide) (by decide), ?_⟩
      refine ⟨_, rfl, _, _, rfl, rfl, hm, ?_⟩
      exact q _ _ (Int.emod_nonneg _ (by omega)) (Int.emod_lt_of_pos _ hm) ⟨x, y, z + 1, upd_same, hx, hy, hy2, by omega, by omega⟩ off_upd
def spReel (K : PySem.W.Frag) : Sp := fun vs H Q _ => ∃ (s : Addr) (ns : List Int) (i : Nat), vs = [.ref s, .int (i : Int)] ∧ SqL K H s (ns.map V.int) ∧ ns.length ≤ 63 ∧ i < 100 ∧
  ∀ r H', Same H H' → H r = none → Reel H' r 0 → Q (.ref r) H'
theorem ok__law_reel (bt : Bt mg) (a : At K mg "_law_reel" s__law_reel ["_law_script", "_law_index"]) : Cl P w K mg base 1 "_law_reel" (spReel K) := by
  refine clG a sc__law_reel (fun vs H Q E h => ?_) (fun f cdv A outer s H vs Q hg hr h => ?_)
  · obtain ⟨r, m, n, rfl, _⟩ := h
    rfl
  · obtain ⟨sc, ns, i, rfl, hS, hl, hi, q⟩ := h
    refine ⟨_, (pss_cons (ps_set (i := 2) sc__law_reel.nd rfl (Or.inl rfl) (pe_op op_add pe_int (pe_op op_mulW pe_int (pv 1))))
      (pss_cons (ps_for PassesOwn.never rfl (pi_list (pv 0)) (pg_name (i := 3) sc__law_reel.nd rfl (Or.inl rfl)) (pss_one (ps_set (i := 2) sc__law_reel.nd rfl (Or.inl rfl) (pe_op op_mod (pe_op op_add (pe_op op_mulW (pv 2) pe_int) (pe_op op_mod (pv 3) (pe_op op_add (pe_op op_powW pe_int pe_int) pe_int))) (pe_op op_add (pe_op op_powW pe_int pe_int) pe_int)))))
      (pss_cons (ps_set (i := 3) sc__law_reel.nd rfl (Or.inl rfl) (pe_ifExp (pt_cmpR op_lt (pv 1) (pe_callB call_len_seq (by rfl) bt.m_len (by decide +kernel) (pa_cons (pv 0) pa_nil)) (nomark _)) (pe_callB call_abs (by rfl) bt.m_abs (by decide +kernel) (pa_cons (pe_ix ix_list (pv 0) (pv 1) (fun _ _ => rfl)) pa_nil)) pe_int))
      (pss_one (ps_ret (pe_lst (pa_cons (pe_callB (call_max2 rfl) (by rfl) bt.m_max (by decide +kernel) (pa_cons pe_int (pa_cons (pe_op op_sub (pv 3) (pe_op op_powW pe_int pe_int)) pa_nil))) (pa_cons (pv 2) (pa_cons pe_int pa_nil))))))))), ?_⟩
    -- mixed = 60013 + 53 * index
    refine ⟨_, rfl, _, _, rfl, rfl, wide_mul (a := 40) (b := 40) (by decide) (by omega) (by decide) (by decide) (by decide), _, _, rfl, rfl, ?_⟩
    refine ⟨_, rfl, sc, rfl, ⟨_, hS⟩, for_it (walk_list (xs := ns.map V.int)) (fun _ σ H' => H' = H ∧ ∃ m y3, σ = [some (.ref sc), some (.int (i : Int)), some (.int m), y3] ∧ 0 ≤ m ∧ m < 10 ^ 42)
      ⟨rfl, _, _, rfl, by omega, by omega⟩ (fun _ _ H' _ p => by obtain ⟨rfl, _⟩ := p; exact hS) (fun j x σ H1 H2 hj p y => ?_) (fun σ H1 p => ?_)⟩
    · obtain ⟨rfl, m, y3, rfl, m0, m1⟩ := p
      obtain ⟨rfl, hx⟩ := y
      obtain ⟨c, hc, rfl⟩ : ∃ c, ns[j]? = some c ∧ V.int c = x := by
        rw [List.getElem?_map] at hx
        cases e : ns[j]? with
        | none => rw [e] at hx; cases hx
        | some c => rw [e] at hx; exact ⟨c, rfl, Option.some.inj hx⟩
      have b1 : m.natAbs < 2 ^ 140 := by omega
      refine ⟨_, rfl, _, _, rfl, rfl, wide_mul (a := 140) (b := 40) b1 (by decide) (by decide) (by decide) (by decide), ?_⟩
      refine ⟨_, rfl, _, _, rfl, rfl, powW (n := 40) (k := 43) (by decide) (by decide), _, _, rfl, rfl, ?_⟩
      refine ⟨_, _, rfl, rfl, (show (0 : Int) < 10 ^ 43 + 57 by decide), _, _, rfl, rfl, _, _, rfl, rfl, powW (n := 40) (k := 41) (by decide) (by decide), ?_⟩
      refine ⟨_, _, rfl, rfl, _, _, rfl, rfl, (show (0 : Int) < 10 ^ 41 + 37 by decide), ?_⟩
      have c1 := Int.emod_nonneg (m * 8675311 + c % (10 ^ 43 + 57)) (b := 10 ^ 41 + 37) (by decide)
      have c2 := Int.emod_lt_of_pos (m * 8675311 + c % (10 ^ 43 + 57)) (b := 10 ^ 41 + 37) (by decide)
      refine ⟨rfl, _, _, rfl, c1, ?_⟩
      exact Int.lt_trans c2 (by decide)
    · obtain ⟨rfl, m, y3, rfl, m0, m1⟩ := p
      refine ⟨_, rfl, .ref sc, rfl, sc, _, rfl, .inl hS, _, _, rfl, rfl, _, rfl, ite2 (fun e => ?_) (fun e => ?_)⟩
      · have e0 : (i : Int) < ((ns.map V.int).length : Nat) := of_decide_eq_true e
        rw [List.length_map] at e0
        have hlt : i < ns.length := by omega
        have g : (ns.map V.int)[i]? = some (.int ns[i]) := by
          rw [List.getElem?_map, List.getElem?_eq_getElem hlt]; rfl
        refine ⟨_, rfl, _, rfl, sc, _, (i : Int), _, rfl, rfl, hS, atI_nat g, _, rfl, ?_⟩
        refine ⟨_, rfl, _, _, rfl, rfl, powW (n := 40) (k := 18) (by decide) (by decide), _, _, rfl, rfl, _, _, rfl, .int m, rfl, (by show 3 ≤ sizeLine; decide), fun p np => ?_⟩
        exact q p _ (same_upd np) np ⟨_, m, 0, upd_same, by split <;> omega, m0, m1, by decide, by decide⟩
      · refine ⟨_, rfl, _, _, rfl, rfl, powW (n := 40) (k := 18) (by decide) (by decide), _, _, rfl, rfl, _, _, rfl, .int m, rfl, (by show 3 ≤ sizeLine; decide), fun p np => ?_⟩
        exact q p _ (same_upd np) np ⟨_, m, 0, upd_same, by split <;> omega, m0, m1, by decide, by decide⟩
end
end K06

set_option Elab.async false
set_option linter.all false
set_option maxRecDepth 100000
set_option maxHeartbeats 4000000
namespace K06
open PySem PySem.Spec PyProof.Rows L2 Gd Rm
section
variable {P : Program} {w : World} {K : PySem.W.Frag} {mg : Str → Option Value} {base : Heap}
/-! ### the program's small tests -/
def spInt : Sp := fun vs H Q _ => ∃ i : Int, vs = [.int i] ∧ Q (.bl true) H
theorem ok_is_an_integer (bt : Bt mg) (a : At K mg "is_an_integer" s_is_an_integer ["value"]) : Cl P w K mg base 1 "is_an_integer" spInt := by
  refine clG a sc_is_an_integer (fun vs H Q E h => ?_) (fun f cdv A outer s H vs Q hg hr h => ?_)
  · obtain ⟨i, rfl, _⟩ := h
    rfl
  · obtain ⟨i, rfl, q⟩ := h
    refine ⟨_, (pss_one (ps_ret (pe_and (pe_callB call_isi (by rfl) bt.m_isinstance (by decide +kernel) (pa_cons (pv 0) (pa_cons (pe_bltn (v := .ty "int") (by rfl) bt.m_int (by decide +kernel) rfl) pa_nil))) (pe_one (pe_not (pe_callB call_isi (by rfl) bt.m_isinstance (by decide +kernel) (pa_cons (pv 0) (pa_cons (pe_bltn (v := .ty "bool") (by rfl) bt.m_bool (by decide +kernel) rfl) pa_nil)))))))), ?_⟩
    refine ⟨_, rfl, _, _, _, _, true, rfl, .ty "int", .base (.int i), kit_ty (by decide +kernel), _, rfl, iteT ?_⟩
    exact ⟨_, rfl, _, _, _, _, false, rfl, .ty "bool", .base (.int i), kit_ty (by decide +kernel), _, rfl, q⟩
theorem down_or_up (d : Bool) : inV (.str (wayS d)) [.str "down", .str "up"] = true := by cases d <;> decide +kernel
def spStep : Sp := fun vs H Q _ => ∃ (a : Addr) (e : Ev), vs = [.ref a] ∧ H a = some (.tup (stV e)) ∧ 0 ≤ e.k ∧ ∀ H', Same H H' → Q (.bl true) H'
theorem ok_is_step (bt : Bt mg) (a : At K mg "is_step" s_is_step ["value"]) (c_is_an_integer : Cl P w K mg base 1 "is_an_integer" spInt) : Cl P w K mg base 2 "is_step" spStep := by
  refine clG a sc_is_step (fun vs H Q E h => ?_) (fun f cdv A outer s H vs Q hg hr h => ?_)
  · obtain ⟨a, e, rfl, _⟩ := h
    rfl
  · obtain ⟨a, e, rfl, ha, h0, q⟩ := h
    refine ⟨_, (pss_cons (ps_if (PW.pt (pw_or (pt_not (pt_val (pe_callB call_isi (by rfl) bt.m_isinstance (by decide +kernel) (pa_cons (pv 0) (pa_cons (pe_bltn (v := .ty "tuple") (by rfl) bt.m_tuple (by decide +kernel) rfl) pa_nil))))) (pw_or1 (pt_cmpR op_ne (pe_callB call_len_seq (by rfl) bt.m_len (by decide +kernel) (pa_cons (pv 0) pa_nil)) pe_int (nomark _))))) (pss_one (ps_ret pe_bl)) pss_nil)
      (pss_cons (ps_asg (pv 0) (pg_tup rfl (pgs_cons (pg_name (i := 1) sc_is_step.nd rfl (Or.inl rfl)) (pgs_cons (pg_name (i := 2) sc_is_step.nd rfl (Or.inl rfl)) pgs_nil))))
      (pss_one (ps_ret (pe_and (pe_cl c_is_an_integer hg hr (by decide) (by rfl) (pa_cons (pv 1) pa_nil)) (pe_and (pe_cmpR op_ge (pv 1) pe_int (nomark _)) (pe_and (pe_callB call_isi (by rfl) bt.m_isinstance (by decide +kernel) (pa_cons (pv 2) (pa_cons (pe_bltn (v := .ty "str") (by rfl) bt.m_str (by decide +kernel) rfl) pa_nil))) (pe_one (pe_cmpR op_in_seq (pv 2) (pe_tup (pa_cons pe_str (pa_cons pe_str pa_nil))) (by rfl)))))))))), ?_⟩
    refine ⟨_, rfl, _, _, _, _, true, rfl, .ty "tuple", .base (.tup ha), kit_ty (by decide +kernel), _, rfl, iteF ?_⟩
    refine ⟨_, rfl, a, _, rfl, .inr (SqT.of ha), rfl, _, rfl, iteF ?_⟩
    refine ⟨_, rfl, a, _, rfl, SqT.of ha, rfl, _, _, rfl, _, _, rfl, rfl, ?_⟩
    refine ⟨_, rfl, _, rfl, _, rfl, iteT ?_⟩
    refine ⟨_, rfl, _, _, rfl, rfl, true, congrArg V.bl (decide_eq_true h0), iteT ?_⟩
    refine ⟨_, rfl, _, _, _, _, true, rfl, .ty "str", .base (.str _), kit_ty (by decide +kernel), _, rfl, iteT ?_⟩
    refine ⟨_, rfl, (by show 2 ≤ sizeLine; decide), fun p np => ?_⟩
    refine ⟨p, _, rfl, .inr (SqT.of upd_same), rfl, rfl, ?_⟩
    have hd := down_or_up e.d
    show Q (.bl (inV (.str (wayS e.d)) [.str "down", .str "up"])) _
    rw [hd]
    exact q _ (same_upd np)
def spEvent : Sp := fun vs H Q _ => ∃ (a : Addr) (e : Ev), vs = [.ref a] ∧ H a = some (.tup (evV e)) ∧ 0 ≤ e.k ∧ ∀ H', Same H H' → Q (.bl true) H'
theorem ok_is_event (bt : Bt mg) (a : At K mg "is_event" s_is_event ["value"]) (c_is_an_integer : Cl P w K mg base 1 "is_an_integer" spInt) (c_is_step : Cl P w K mg base 2 "is_step" spStep) : Cl P w K mg base 3 "is_event" spEvent := by
  refine clG a sc_is_event (fun vs H Q E h => ?_) (fun f cdv A outer s H vs Q hg hr h => ?_)
  · obtain ⟨a, e, rfl, _⟩ := h
    rfl
  · obtain ⟨a, e, rfl, ha, h0, q⟩ := h
    refine ⟨_, (pss_cons (ps_if (PW.pt (pw_or (pt_not (pt_val (pe_callB call_isi (by rfl) bt.m_isinstance (by decide +kernel) (pa_cons (pv 0) (pa_cons (pe_bltn (v := .ty "tuple") (by rfl) bt.m_tuple (by decide +kernel) rfl) pa_nil))))) (pw_or1 (pt_cmpR op_ne (pe_callB call_len_seq (by rfl) bt.m_len (by decide +kernel) (pa_cons (pv 0) pa_nil)) pe_int (nomark _))))) (pss_one (ps_ret pe_bl)) pss_nil)
      (pss_cons (ps_asg (pv 0) (pg_tup rfl (pgs_cons (pg_name (i := 1) sc_is_event.nd rfl (Or.inl rfl)) (pgs_cons (pg_name (i := 2) sc_is_event.nd rfl (Or.inl rfl)) (pgs_cons (pg_name (i := 3) sc_is_event.nd rfl (Or.inl rfl)) pgs_nil)))))
      (pss_one (ps_ret (pe_and (pe_cl c_is_an_integer hg hr (by decide) (by rfl) (pa_cons (pv 1) pa_nil)) (pe_one (pe_cl c_is_step hg hr (by decide) (by rfl) (pa_cons (pe_tup (pa_cons (pv 2) (pa_cons (pv 3) pa_nil))) pa_nil)))))))), ?_⟩
    refine ⟨_, rfl, _, _, _, _, true, rfl, .ty "tuple", .base (.tup ha), kit_ty (by decide +kernel), _, rfl, iteF ?_⟩
    refine ⟨_, rfl, a, _, rfl, .inr (SqT.of ha), rfl, _, rfl, iteF ?_⟩
    refine ⟨_, rfl, a, _, rfl, SqT.of ha, rfl, _, _, rfl, _, _, rfl, _, _, rfl, rfl, ?_⟩
    refine ⟨_, rfl, _, rfl, _, rfl, iteT ?_⟩
    refine ⟨_, rfl, _, rfl, (by show 2 ≤ sizeLine; decide), fun p np => ?_⟩
    exact ⟨p, e, rfl, upd_same, h0, fun H' s' => q H' ((same_upd np).trans s')⟩
def spShort : Sp := fun vs H Q _ => ∃ (a : Addr) (xs : List V), vs = [.ref a] ∧ H a = some (.lst xs) ∧ xs.length ≤ 400 ∧ Q (.bl true) H
theorem ok_is_short_list (bt : Bt mg) (tk : Tok) (m_MOST_EVENTS : mg "MOST_EVENTS" = some (.int 400 tk)) (a : At K mg "is_short_list" s_is_short_list ["value"]) : Cl P w K mg base 1 "is_short_list" spShort := by
  refine clG a sc_is_short_list (fun vs H Q E h => ?_) (fun f cdv A outer s H vs Q hg hr h => ?_)
  · obtain ⟨a, xs, rfl, _⟩ := h
    rfl
  · obtain ⟨a, xs, rfl, ha, hl, q⟩ := h
    refine ⟨_, (pss_one (ps_ret (pe_and (pe_callB call_isi (by rfl) bt.m_isinstance (by decide +kernel) (pa_cons (pv 0) (pa_cons (pe_bltn (v := .ty "list") (by rfl) bt.m_list (by decide +kernel) rfl) pa_nil))) (pe_one (pe_cmpR op_le (pe_callB call_len_seq (by rfl) bt.m_len (by decide +kernel) (pa_cons (pv 0) pa_nil)) (pe_glob (v := .int 400) (by rfl) m_MOST_EVENTS ⟨_, rfl⟩) (nomark _)))))), ?_⟩
    refine ⟨_, rfl, _, _, _, _, true, rfl, .ty "list", .base (.lst ha), kit_ty (by decide +kernel), _, rfl, iteT ?_⟩
    refine ⟨_, rfl, a, _, rfl, .inl (SqL.of ha), _, _, rfl, rfl, ?_⟩
    show Q (.bl (decide ((xs.length : Int) ≤ 400))) H
    rw [decide_eq_true (show (xs.length : Int) ≤ 400 by omega)]
    exact q
def spTurn : Sp := fun vs H Q _ => ∃ (d : Addr) (kvs : List (Key × V)) (k : Int) (b : Bool), vs = [.ref d, .int k, .str (wayS b)] ∧ H d = some (.dK kvs) ∧ kvs.length < sizeLine ∧
  (valV kvs (Sum.inl k)).getD (.bl false) = .bl (!b) ∧ Q (.bl true) (upd H d (.dK (putK kvs (Sum.inl k) (.bl b))))
theorem ok_takes_turn (a : At K mg "takes_turn" s_takes_turn ["held", "key", "way"]) : Cl P w K mg base 1 "takes_turn" spTurn := by
  refine clG a sc_takes_turn (fun vs H Q E h => ?_) (fun f cdv A outer s H vs Q hg hr h => ?_)
  · obtain ⟨d, kvs, k, b, rfl, _⟩ := h
    rfl
  · obtain ⟨d, kvs, k, b, rfl, hd, hl, hv, q⟩ := h
    refine ⟨_, (pss_cons (ps_set (i := 3) sc_takes_turn.nd rfl (Or.inl rfl) (pe_cmpR op_eq (pv 2) pe_str (nomark _)))
      (pss_cons (ps_if (pt_cmpR op_eq (pe_dget2 (hu_of hr) (pv 0) (pv 1) pe_bl ⟨rfl, rfl, rfl, rfl⟩) (pv 3) (nomark _)) (pss_one (ps_ret pe_bl)) pss_nil)
      (pss_cons (ps_dput (hu_of hr) (pv 0) (pv 1) (pv 3) rfl)
      (pss_one (ps_ret pe_bl))))), ?_⟩
    refine ⟨_, rfl, rfl, ?_⟩
    refine ⟨_, rfl, d, rfl, .inl ⟨kvs, .inl hd⟩, _, rfl, _, DGet.k (k := Sum.inl k) hd, ?_⟩
    rw [wayS_down, hv]
    refine ⟨_, rfl, rfl, _, rfl, ?_⟩
    rw [decide_eq_false (fun z => by have := V.bl.inj z; cases b <;> cases this)]
    refine iteF ?_
    exact ⟨_, rfl, _, rfl, _, rfl, d, _, rfl, DPut.k (k := Sum.inl k) hd hl, q⟩
def spBelow : Sp := fun vs H Q _ => ∃ k : Int, vs = [.int k, .non] ∧ Q (.bl true) H
theorem ok_is_below (a : At K mg "is_below" s_is_below ["key", "many"]) : Cl P w K mg base 1 "is_below" spBelow := by
  refine clG a sc_is_below (fun vs H Q E h => ?_) (fun f cdv A outer s H vs Q hg hr h => ?_)
  · obtain ⟨k, rfl, _⟩ := h
    rfl
  · obtain ⟨k, rfl, q⟩ := h
    refine ⟨_, (pss_one (ps_ret (pe_or (pe_cmpR op_isN (pv 1) pe_non (nomark _)) (pe_one (pe_cmpR op_lt (pv 0) (pv 1) (nomark _)))))), ?_⟩
    exact ⟨_, rfl, rfl, _, rfl, iteT q⟩
def spFollow : Sp := fun vs H Q _ => ∃ (b d : Addr) (e : Ev) (l : V) (kvs : List (Key × V)), vs = [.ref b, l, .ref d] ∧ H b = some (.tup (evV e)) ∧
  (l = .non ∨ ∃ (b' : Addr) (e' : Ev), l = .ref b' ∧ H b' = some (.tup (evV e')) ∧ e'.t ≤ e.t) ∧ H d = some (.dK kvs) ∧ kvs.length < sizeLine ∧
  (valV kvs (Sum.inl e.k)).getD (.bl false) = .bl (!e.d) ∧ Q (.bl true) (upd H d (.dK (putK kvs (Sum.inl e.k) (.bl e.d))))
theorem ok_can_follow (a : At K mg "can_follow" s_can_follow ["event", "last", "held"]) (c_takes_turn : Cl P w K mg base 1 "takes_turn" spTurn) : Cl P w K mg base 2 "can_follow" spFollow := by
  refine clG a sc_can_follow (fun vs H Q E h => ?_) (fun f cdv A outer s H vs Q hg hr h => ?_)
  · obtain ⟨b, d, e, l, kvs, rfl, _⟩ := h
    rfl
  · obtain ⟨b, d, e, l, kvs, rfl, hb, hl, hd, hz, hv, q⟩ := h
    refine ⟨_, (pss_cons (ps_if (PW.pt (pw_and (pt_cmpR op_notN (pv 1) pe_non (nomark _)) (pw_and1 (pt_cmpR op_lt (pe_ix ix_tup (pv 0) pe_int (fun _ _ => rfl)) (pe_ix ix_tup (pv 1) pe_int (fun _ _ => rfl)) (nomark _))))) (pss_one (ps_ret pe_bl)) pss_nil)
      (pss_one (ps_ret (pe_cl c_takes_turn hg hr (by decide) (by rfl) (pa_cons (pv 2) (pa_cons (pe_ix ix_tup (pv 0) pe_int (fun _ _ => rfl)) (pa_cons (pe_ix ix_tup (pv 0) pe_int (fun _ _ => rfl)) pa_nil))))))), ?_⟩
    rcases hl with rfl | ⟨b', e', rfl, hb', hle⟩
    · refine ⟨_, rfl, rfl, _, rfl, iteF ?_⟩
      refine ⟨_, rfl, _, rfl, b, _, _, _, rfl, rfl, SqT.of hb, atI_nat (j := 1) rfl, _, rfl, b, _, _, _, rfl, rfl, SqT.of hb, atI_nat (j := 2) rfl, ?_⟩
      exact ⟨d, kvs, e.k, e.d, rfl, hd, hz, hv, q⟩
    · refine ⟨_, rfl, rfl, _, rfl, iteT ?_⟩
      refine ⟨_, rfl, b, _, _, _, rfl, rfl, SqT.of hb, atI_nat (j := 0) rfl, _, rfl, b', _, _, _, rfl, rfl, SqT.of hb', atI_nat (j := 0) rfl, _, _, rfl, rfl, _, rfl, ite2 (fun z => ?_) (fun z => ?_)⟩
      · have z0 : e.t < e'.t := of_decide_eq_true z
        omega
      · refine ⟨_, rfl, _, rfl, b, _, _, _, rfl, rfl, SqT.of hb, atI_nat (j := 1) rfl, _, rfl, b, _, _, _, rfl, rfl, SqT.of hb, atI_nat (j := 2) rfl, ?_⟩
        exact ⟨d, kvs, e.k, e.d, rfl, hd, hz, hv, q⟩
def spCheck : Sp := fun vs H Q _ => ∃ (c : Addr) (es : List Ev), vs = [.ref c, .non] ∧ Lst evV H c es ∧ Valid es ∧ es.length ≤ 400 ∧ ∀ H', Same H H' → Q .non H'
theorem ok_check_record (bt : Bt mg) (a : AtX K mg "check_record" s_check_record ["value", "many"] [.none]) (c_is_short_list : Cl P w K mg base 1 "is_short_list" spShort) (c_is_event : Cl P w K mg base 3 "is_event" spEvent) (c_can_follow : Cl P w K mg base 2 "can_follow" spFollow) (c_is_below : Cl P w K mg base 1 "is_below" spBelow) :
    ClD P w K mg base 4 "check_record" spCheck [.non] := by
  refine clXD a (.cons rfl .nil) sc_check_record (fun vs H Q E h => ?_) (fun f cdv A outer s H vs Q hg hr h => ?_)
  · obtain ⟨a, e, rfl, _⟩ := h
    rfl
  · obtain ⟨c, es, rfl, hL, hV, hl, q⟩ := h
    refine ⟨_, (pss_cons (ps_if (pt_not (pt_val (pe_cl c_is_short_list hg hr (by decide) (by rfl) (pa_cons (pv 0) pa_nil)))) pss_never pss_nil)
      (pss_cons (ps_set (i := 2) sc_check_record.nd rfl (Or.inl rfl) pe_dnewK)
      (pss_one (ps_for PassesOwn.never rfl (pi_enum (by rfl) bt.m_enumerate (pa_cons (pv 0) pa_nil)) (pg_tup rfl (pgs_cons (pg_name (i := 3) sc_check_record.nd rfl (Or.inl rfl)) (pgs_cons (pg_name (i := 4) sc_check_record.nd rfl (Or.inl rfl)) pgs_nil))) (pss_cons (ps_if (PW.pt (pw_or (pt_not (pt_val (pe_cl c_is_event hg hr (by decide) (by rfl) (pa_cons (pv 4) pa_nil)))) (pw_or1 (pt_not (pt_truth (pe_cl c_is_below hg hr (by decide) (by rfl) (pa_cons (pe_ix ix_tup (pv 4) pe_int (fun _ _ => rfl)) (pa_cons (pv 1) pa_nil))) (by intro _; rfl)))))) pss_never pss_nil)
      (pss_one (ps_if (pt_not (pt_val (pe_cl c_can_follow hg hr (by decide) (by rfl) (pa_cons (pv 4) (pa_cons (pe_ifExp (pt_cmpR op_gt (pv 3) pe_int (nomark _)) (pe_ix ix_list (pv 0) (pe_op op_sub (pv 3) pe_int) (fun _ _ => rfl)) pe_non) (pa_cons (pv 2) pa_nil)))))) pss_never pss_nil))))))), ?_⟩
    obtain ⟨as, hc, hT⟩ := hL
    have hlen : (as.map V.ref).length = es.length := by rw [List.length_map]; exact hT.1
    refine ⟨_, rfl, c, _, rfl, hc, by omega, _, rfl, iteF ?_⟩
    intro d nd
    refine ⟨_, rfl, c, _, rfl, SqL.of ((same_upd nd) _ _ hc), for_it (walk_enum (xs := as.map V.ref))
      (fun i σ H' => Same H H' ∧ ∃ kvs y2 y3, σ = [some (.ref c), some .non, some (.ref d), y2, y3] ∧ H' d = some (.dK kvs) ∧ kvs.length ≤ i ∧ HeldK kvs (heldB (es.take i)))
      ⟨same_upd nd, _, _, _, rfl, upd_same, Nat.le_refl _, HeldK.nil⟩ (fun _ _ H' _ p => SqL.of (p.1 _ _ hc)) (fun i x σ H1 H2 hi p y => ?_) (fun σ H1 p => ?_)⟩
    · obtain ⟨s1, kvs, y2, y3, rfl, hd, hkl, hk⟩ := p
      obtain ⟨T, u, v, rfl, nT, rfl, e1, e2⟩ := y
      have hi' : i < es.length := by omega
      obtain ⟨b, hb, hbt⟩ := hT.at_ hi'
      have he : es[i]? = some es[i] := List.getElem?_eq_getElem hi'
      obtain ⟨v1, v2, v3⟩ := hV i _ he
      have e2' : v = .ref b := by
        have e2 : (as.map V.ref)[i]? = some v := e2
        rw [List.getElem?_map, hb] at e2
        exact (Option.some.inj e2).symm
      subst e2'
      have e1' : u = .int (i : Nat) := (Option.some.inj e1).symm
      subst e1'
      have s2 : Same H (upd H1 T (.tup [.int (i : Nat), .ref b])) := s1.trans (same_upd nT)
      have hb2 := s2 _ _ hbt
      refine ⟨T, _, rfl, SqT.of upd_same, rfl, _, _, rfl, _, _, rfl, rfl, ?_⟩
      refine ⟨_, rfl, b, _, rfl, hb2, v1, fun H3 s3 => ?_⟩
      have s4 := s2.trans s3
      have hb4 := s4 _ _ hbt
      refine ⟨_, rfl, iteF ?_⟩
      refine ⟨_, rfl, b, _, _, _, rfl, rfl, SqT.of hb4, atI_nat (j := 1) rfl, _, rfl, es[i].k, rfl, _, rfl, iteF ?_⟩
      have hd4 : H3 d = some (.dK kvs) := s3 _ _ ((same_upd nT) _ _ hd)
      have fin : Same H (upd H3 d (.dK (putK kvs (Sum.inl es[i].k) (.bl es[i].d)))) ∧ ∃ kvs' y2 y3, [some (V.ref c), some V.non, some (V.ref d), some (V.int (i : Nat)), some (V.ref b)] = [some (V.ref c), some V.non, some (V.ref d), y2, y3] ∧
          upd H3 d (.dK (putK kvs (Sum.inl es[i].k) (.bl es[i].d))) d = some (.dK kvs') ∧ kvs'.length ≤ i + 1 ∧ HeldK kvs' (heldB (es.take (i + 1))) := by
        refine ⟨Same.off s4 nd off_upd, _, _, _, rfl, upd_same, ?_, ?_⟩
        · have := put_len kvs (Sum.inl es[i].k) (.bl es[i].d); omega
        · rw [List.take_add_one, he]
          exact hk.put
      have hv : (valV kvs (Sum.inl es[i].k)).getD (.bl false) = .bl (!es[i].d) := by rw [hk.at_, v2]
      have hz : kvs.length < sizeLine := small1000 (by omega)
      refine ⟨_, rfl, _, rfl, _, _, rfl, rfl, _, rfl, ite2 (fun e => ?_) (fun e => ?_)⟩
      · have e0 : (0 : Int) < (i : Nat) := of_decide_eq_true e
        obtain ⟨b', hb', hbt'⟩ := hT.at_ (i := i - 1) (by omega)
        have hle := v3 (i - 1) _ (by omega) (List.getElem?_eq_getElem (by omega))
        have g : (as.map V.ref)[i - 1]? = some (.ref b') := by rw [List.getElem?_map, hb']; rfl
        refine ⟨_, rfl, _, rfl, _, _, rfl, rfl, c, _, _, .ref b', rfl, rfl, SqL.of (s4 _ _ hc), at_of (j := i - 1) (by omega) g, _, rfl, ?_⟩
        exact ⟨b, d, es[i], .ref b', kvs, rfl, hb4, .inr ⟨b', _, rfl, s4 _ _ hbt', hle⟩, hd4, hz, hv, _, rfl, iteF fin⟩
      · exact ⟨_, rfl, b, d, es[i], .non, kvs, rfl, hb4, .inl rfl, hd4, hz, hv, _, rfl, iteF fin⟩
    · exact q _ p.1
end
end K06

set_option Elab.async false
set_option linter.all false
set_option maxRecDepth 100000
set_option maxHeartbeats 4000000
namespace K06
open PySem PySem.Spec PyProof.Rows L2 Gd Rm
theorem small400 {n : Nat} (h : n ≤ 1000) : n ≤ sizeLine := Nat.le_of_lt (small1000 h)
theorem get_map_ref {as : List Addr} {i : Nat} {b : Addr} (h : as[i]? = some b) : (as.map V.ref)[i]? = some (.ref b) := by rw [List.getElem?_map, h]; rfl
theorem get_map_int {ns : List Int} {i : Nat} {b : Int} (h : ns[i]? = some b) : (ns.map V.int)[i]? = some (.int b) := by rw [List.getElem?_map, h]; rfl
theorem atI_end {xs : List V} {v : V} (h : xs[xs.length - 1]? = some v) : atI xs (-1) = some v := by
  have hn : xs ≠ [] := by
    intro e
    subst e
    simp at h
  have e := List.getLast?_eq_getElem? (l := xs)
  rw [h] at e
  have hz : xs.dropLast ++ [v] = xs := by
    have := List.dropLast_concat_getLast hn
    rw [List.getLast?_eq_some_getLast hn] at e
    rw [← Option.some.inj e]
    exact this
  rw [← hz]
  exact atI_last _ _
/-- a new list of new tuples, one more -/
structure Grown {α : Type} (f : α → List V) (H0 : Hp) (L : Addr) (es : List α) (H : Hp) : Prop where
  same : Same H0 H
  ls : Lst f H L es
theorem Grown.start {α : Type} {f : α → List V} {H0 : Hp} {L : Addr} (n : H0 L = none) : Grown f H0 L [] (upd H0 L (.lst [])) := ⟨same_upd n, [], upd_same, Tups.nil⟩
theorem Grown.more {α : Type} {f : α → List V} {H0 H : Hp} {L p : Addr} {es : List α} {e : α} (g : Grown f H0 L es H) (n : H0 L = none) (np : H p = none) :
    ∃ acc : List V, upd H p (.tup (f e)) L = some (.lst acc) ∧ acc.length = es.length ∧ Grown f H0 L (es ++ [e]) (upd (upd H p (.tup (f e))) L (.lst (acc ++ [.ref p]))) := by
  obtain ⟨s, as, h, t⟩ := g
  have pl : L ≠ p := ne_of_none h np
  have h1 : upd H p (.tup (f e)) L = some (.lst (as.map V.ref)) := (same_upd np) _ _ h
  refine ⟨as.map V.ref, h1, by rw [List.length_map]; exact t.1, Same.off (s.trans (same_upd np)) n off_upd, as ++ [p], ?_, ?_⟩
  · rw [upd_same, List.map_append]; rfl
  · refine Tups.snoc ((t.same (same_upd np)).off h1 off_upd) ?_
    rw [upd_ne pl.symm]
    exact upd_same
section
variable {P : Program} {w : World} {K : PySem.W.Frag} {mg : Str → Option Value} {base : Heap}
def spHeld : Sp := fun vs H Q _ => ∃ (c : Addr) (es : List Ev), vs = [.ref c] ∧ Lst evV H c es ∧ es.length ≤ 1000 ∧
  ∀ (H' : Hp) (p : Addr) (ns : List Int), Same H H' → H p = none → H' p = some (.lst (ns.map V.int)) → ns.Pairwise (· ≤ ·) → ns.Nodup → (∀ k, k ∈ ns ↔ heldB es k = true) → ns.length ≤ es.length → Q (.ref p) H'
theorem ok_held_keys (bt : Bt mg) (a : At K mg "held_keys" s_held_keys ["record"]) : Cl P w K mg base 1 "held_keys" spHeld := by
  refine clG a sc_held_keys (fun vs H Q E h => ?_) (fun f cdv A outer s H vs Q hg hr h => ?_)
  · obtain ⟨a, e, rfl, _⟩ := h
    rfl
  · obtain ⟨c, es, rfl, hL, hl, q⟩ := h
    refine ⟨_, (pss_cons (ps_set (i := 1) sc_held_keys.nd rfl (Or.inr rfl) pe_dnewK)
      (pss_cons (ps_for PassesOwn.never rfl (pi_list (pv 0)) (pg_tup rfl (pgs_cons (pg_name (i := 2) sc_held_keys.nd rfl (Or.inl rfl)) (pgs_cons (pg_name (i := 3) sc_held_keys.nd rfl (Or.inl rfl)) (pgs_cons (pg_name (i := 4) sc_held_keys.nd rfl (Or.inl rfl)) pgs_nil)))) (pss_one (ps_dput (hu_of hr) (pv 1) (pv 3) (pe_cmpR op_eq (pv 4) pe_str (nomark _)) rfl)))
      (pss_one (ps_ret (pe_callB cr_sortedI (by rfl) bt.m_sorted (by decide +kernel) (pa_cons (pe_lock (pe_lc (own := [("key", 3)]) (g := (gName 3)) (by rfl) sc_held_keys.nd (pi_keys (pv 1)) (blkOk_by (N := n_held_keys) (sc := defScope s_held_keys) (by decide +kernel)) (fun _ _ _ _ _ => (pg_name (i := 3) sc_held_keys.nd rfl (Or.inl rfl))) (fun _ _ _ _ _ => (pts_one (pt_val (pe_dget (hu_of hr) (pv 1) (pv 3) (fun _ _ => rfl))))) (fun _ _ _ _ _ => (pv 3)))) pa_nil)))))), ?_⟩
    obtain ⟨as, hc, hT⟩ := hL
    have hlen : (as.map V.ref).length = es.length := by rw [List.length_map]; exact hT.1
    intro d nd
    refine ⟨_, rfl, c, rfl, ⟨_, SqL.of ((same_upd nd) _ _ hc)⟩, for_it (walk_list (xs := as.map V.ref))
      (fun i σ H' => Same H H' ∧ ∃ kvs y2 y3 y4, σ = [some (.ref c), some (.ref d), y2, y3, y4] ∧ H' d = some (.dK kvs) ∧ kvs.length ≤ i ∧ HeldK kvs (heldB (es.take i)))
      ⟨same_upd nd, _, _, _, _, rfl, upd_same, Nat.le_refl _, HeldK.nil⟩ (fun _ _ H' _ p => SqL.of (p.1 _ _ hc)) (fun i x σ H1 H2 hi p y => ?_) (fun σ H1 p => ?_)⟩
    · obtain ⟨s1, kvs, y2, y3, y4, rfl, hd, hkl, hk⟩ := p
      obtain ⟨rfl, e2⟩ := y
      have hi' : i < es.length := by omega
      obtain ⟨b, hb, hbt⟩ := hT.at_ hi'
      have he : es[i]? = some es[i] := List.getElem?_eq_getElem hi'
      have e2' : x = .ref b := Option.some.inj (e2.symm.trans (get_map_ref hb))
      subst e2'
      have hb1 := s1 _ _ hbt
      refine ⟨b, _, rfl, SqT.of hb1, rfl, _, _, rfl, _, _, rfl, _, _, rfl, rfl, ?_⟩
      refine ⟨_, rfl, rfl, ?_⟩
      rw [wayS_down]
      refine ⟨_, rfl, _, rfl, d, _, rfl, DPut.k (k := Sum.inl es[i].k) hd (small1000 (by omega)), Same.off s1 nd off_upd, _, _, _, _, rfl, upd_same, ?_, ?_⟩
      · have := put_len kvs (Sum.inl es[i].k) (.bl es[i].d); omega
      · rw [List.take_add_one, he]
        exact hk.put
    · obtain ⟨s1, kvs, y2, y3, y4, rfl, hd, hkl, hk⟩ := p
      rw [hlen] at hkl hk
      rw [List.take_length] at hk
      refine ⟨d, _, hd, True.intro, fun od => ?_⟩
      refine ⟨_, rfl, d, od, rfl, .inl ⟨kvs, upd_same, fun L nL => ?_⟩⟩
      have dL : d ≠ L := ne_of_none (upd_same (H := H1) (a := d) (o := .frz od (.dK kvs))) nL
      refine lc_it walk_keys (fun i H' => H' = upd (upd H1 d (.frz od (.dK kvs))) L (.lst ((downs (kvs.take i)).map V.int))) rfl (fun i H' _ p => by subst p; rw [upd_ne dL]; exact upd_same) (fun i x H2 H3 hi p y => ?_) (fun H2 p => ?_)
      · obtain ⟨rfl, k, v, hkv, rfl⟩ := y
        subst p
        obtain ⟨kk, b, hp⟩ := hk.fm _ (List.mem_of_getElem? hkv)
        obtain ⟨rfl, rfl⟩ := Prod.mk.inj hp
        have hv := val_at hk.nd hkv
        have ht := downs_take hkv
        have hfr : upd (upd H1 d (.frz od (.dK kvs))) L (.lst ((downs (kvs.take i)).map V.int)) d = some (.frz od (.dK kvs)) := by rw [upd_ne dL]; exact upd_same
        refine ⟨rfl, _, rfl, _, rfl, d, _, rfl, .inl ⟨kvs, Sum.inl kk, .inr ⟨od, hfr⟩, rfl, hv.symm⟩, b, rfl, ?_⟩
        cases b with
        | true =>
          refine iteT ⟨_, rfl, _, upd_same, ?_, ?_⟩
          · rw [List.length_map]
            have := downs_len (kvs.take i)
            rw [List.length_take] at this
            exact small1000 (by omega)
          · rw [upd_upd, ht]
            simp [kV]
        | false =>
          refine iteF ?_
          rw [ht]
          rfl
      · subst p
        rw [List.take_length]
        refine ⟨by rw [upd_ne dL]; exact upd_same, L, downs kvs, rfl, ?_, fun ns p hp ho np => ?_⟩
        · refine SqL.of ?_
          rw [upd_ne dL.symm]
          exact upd_same
        · have S : Same H (upd (upd (upd H1 d (.frz od (.dK kvs))) L (.lst ((downs kvs).map V.int))) d (.dK kvs)) :=
            Same.off s1 nd (Off.trans off_upd (Off.trans (Off.of (same_upd nL)) off_upd))
          have hn := downs_nd hk.fm hk.nd
          refine q _ p ns (S.trans (same_upd np)) (S.free np) upd_same ho (hp.nodup_iff.mpr hn) (fun k => ?_) ?_
          · rw [hp.mem_iff, hk.mem]
          · rw [hp.length_eq]
            have := downs_len kvs
            omega
end
end K06

set_option Elab.async false
set_option linter.all false
set_option maxRecDepth 100000
set_option maxHeartbeats 4000000
namespace K06
open PySem PySem.Spec PyProof.Rows L2 Gd Rm
section
variable {P : Program} {w : World} {K : PySem.W.Frag} {mg : Str → Option Value} {base : Heap}
structure RecOk (keys : Int) (size : Nat) (es : List Ev) : Prop where
  valid : Valid es
  len : es.length = size
  key : ∀ e ∈ es, 0 ≤ e.k ∧ e.k < keys
  tick : ∀ e ∈ es, -(10 ^ 20) < e.t ∧ e.t < 10 ^ 20
def spRec : Sp := fun vs H Q _ => ∃ (r g : Addr) (n size : Nat) (keys : Int) (gs : List Int), vs = [.ref r, .int keys, .int (size : Int), .ref g] ∧ Reel H r n ∧ n + 2000 < most ∧ 0 < keys ∧ keys ≤ 1000 ∧ size ≤ 200 ∧
  H g = some (.lst (gs.map V.int)) ∧ g ≠ r ∧ 0 < gs.length ∧ gs.length ≤ 10 ∧ (∀ x ∈ gs, 0 ≤ x ∧ x ≤ 10 ^ 10) ∧
  ∀ (H' : Hp) (p : Addr) (es : List Ev), Off r H H' → H p = none → Reel H' r (n + 1000) → Lst evV H' p es → RecOk keys size es → Q (.ref p) H'
structure RecIn (H0 : Hp) (r g F Dn : Addr) (gs : List Int) (m : Nat) (keys : Int) (i : Nat) (tick : Int) (es : List Ev) (ns : List Int) (H : Hp) : Prop where
  Fr : F ≠ r
  Dr : Dn ≠ r
  FD : F ≠ Dn
  gr : g ≠ r
  nF : H0 F = none
  nD : H0 Dn = none
  gap0 : H0 g = some (.lst (gs.map V.int))
  off : Off r H0 H
  reel : Reel H r m
  gap : H g = some (.lst (gs.map V.int))
  found : Lst evV H F es
  down : H Dn = some (.lst (ns.map V.int))
  ok : RecOk keys i es
  dn : DownOk ns es
  key : ∀ k ∈ ns, 0 ≤ k ∧ k < keys
  nl : ns.length ≤ i
  last : ∀ e ∈ es, e.t ≤ tick
  tk : -(10 ^ 16) ≤ tick ∧ tick ≤ 10 ^ 16 + i * 10 ^ 10
section
variable {H0 H H' : Hp} {r g F Dn : Addr} {gs : List Int} {m m' : Nat} {keys : Int} {i : Nat} {tick : Int} {es : List Ev} {ns : List Int}
theorem RecIn.go (h : RecIn H0 r g F Dn gs m keys i tick es ns H) (o : Off r H H') (R : Reel H' r m') : RecIn H0 r g F Dn gs m' keys i tick es ns H' := by
  obtain ⟨x, y, z, hr, _⟩ := id h.reel
  exact { h with off := h.off.trans o, reel := R, gap := o _ _ h.gap h.gr, found := h.found.off hr h.Fr o, down := o _ _ h.down h.Dr }
theorem RecIn.same (h : RecIn H0 r g F Dn gs m keys i tick es ns H) (o : Same H H') : RecIn H0 r g F Dn gs m keys i tick es ns H' := h.go (Off.of o) (h.reel.same o)
theorem RecIn.push {p : Addr} {ns' : List Int} {e : Ev} (h : RecIn H0 r g F Dn gs m keys i tick es ns H) (np : upd H Dn (.lst (ns'.map V.int)) p = none)
    (dn : DownOk ns' (es ++ [e])) (hv : Valid (es ++ [e])) (hk : 0 ≤ e.k ∧ e.k < keys) (hns : ∀ k ∈ ns', 0 ≤ k ∧ k < keys) (nl : ns'.length ≤ i + 1) (ht : tick ≤ e.t) (tk : e.t ≤ 10 ^ 16 + ((i + 1 : Nat) : Int) * 10 ^ 10) (hi : i < 1000) :
    ∃ as : List Addr, upd (upd H Dn (.lst (ns'.map V.int))) p (.tup (evV e)) F = some (.lst (as.map V.ref)) ∧ as.length = i ∧
      RecIn H0 r g F Dn gs m keys (i + 1) e.t (es ++ [e]) ns' (upd (upd (upd H Dn (.lst (ns'.map V.int))) p (.tup (evV e))) F (.lst (as.map V.ref ++ [.ref p]))) := by
  obtain ⟨x, y, z, hr, hb⟩ := id h.reel
  obtain ⟨as, hF, hT⟩ := h.found
  have gD : g ≠ Dn := ne_of_none h.gap0 h.nD
  have gF : g ≠ F := ne_of_none h.gap0 h.nF
  have hr1 : upd H Dn (.lst (ns'.map V.int)) r = some (.lst [.int x, .int y, .int z]) := by rw [upd_ne h.Dr.symm]; exact hr
  have hF1 : upd H Dn (.lst (ns'.map V.int)) F = some (.lst (as.map V.ref)) := by rw [upd_ne h.FD]; exact hF
  have hg1 : upd H Dn (.lst (ns'.map V.int)) g = some (.lst (gs.map V.int)) := by rw [upd_ne gD]; exact h.gap
  have hT1 : Tups (upd H Dn (.lst (ns'.map V.int))) evV as es := hT.off h.down off_upd
  have hD1 : upd H Dn (.lst (ns'.map V.int)) Dn = some (.lst (ns'.map V.int)) := upd_same
  have o1 : Off r H0 (upd H Dn (.lst (ns'.map V.int))) := h.off.new h.nD
  generalize upd H Dn (.lst (ns'.map V.int)) = H1 at *
  have hF2 := (same_upd (o := .tup (evV e)) np) _ _ hF1
  have hr2 := (same_upd (o := .tup (evV e)) np) _ _ hr1
  have hg2 := (same_upd (o := .tup (evV e)) np) _ _ hg1
  have hD2 := (same_upd (o := .tup (evV e)) np) _ _ hD1
  have hp : upd H1 p (.tup (evV e)) p = some (.tup (evV e)) := upd_same
  have pF : p ≠ F := (ne_of_none hF1 np).symm
  have hl := h.ok.len
  have hal := hT.1
  refine ⟨as, hF2, by omega, ?_⟩
  refine { h with off := (o1.sameTrans (same_upd np)).new h.nF, reel := ⟨x, y, z, by rw [upd_ne h.Fr.symm]; exact hr2, hb⟩, gap := by rw [upd_ne gF]; exact hg2,
                  found := ⟨as ++ [p], by rw [upd_same, List.map_append]; rfl, Tups.snoc ((hT1.same (same_upd np)).off hF2 off_upd) (by rw [upd_ne pF]; exact hp)⟩,
                  down := by rw [upd_ne h.FD.symm]; exact hD2, ok := ⟨hv, by rw [List.length_append, hl]; rfl, fun x hx => ?_, fun x hx => ?_⟩, dn := dn, key := hns, nl := nl, last := fun x hx => ?_, tk := ⟨by have := h.tk.1; omega, tk⟩ }
  · rcases List.mem_append.mp hx with hx | hx
    · exact h.ok.key x hx
    · rw [List.mem_singleton.mp hx]; exact hk
  · rcases List.mem_append.mp hx with hx | hx
    · exact h.ok.tick x hx
    · rw [List.mem_singleton.mp hx]
      have := h.tk.1
      exact ⟨by omega, by omega⟩
  · rcases List.mem_append.mp hx with hx | hx
    · have := h.last x hx; omega
    · rw [List.mem_singleton.mp hx]; exact Int.le_refl _
theorem RecIn.mono (h : RecIn H0 r g F Dn gs m keys i tick es ns H) (l : m ≤ m') : RecIn H0 r g F Dn gs m' keys i tick es ns H := { h with reel := h.reel.mono l }
end
theorem ok__law_record (bt : Bt mg) (a : At K mg "_law_record" s__law_record ["_law_reel_here", "_law_keys", "_law_size", "_law_gaps"]) (c__law_spin : Cl P w K mg base 1 "_law_spin" spSpin) : Cl P w K mg base 2 "_law_record" spRec := by
  refine clG a sc__law_record (fun vs H Q E h => ?_) (fun f cdv A outer s H vs Q hg hr h => ?_)
  · obtain ⟨r, g, n, size, keys, gs, rfl, _⟩ := h
    rfl
  · obtain ⟨r, g, n, size, keys, gs, rfl, hR, hn, hk0, hk1, hs, hG, gr, g0, g1, g2, q⟩ := h
    have hn' : n + 2000 < 1000000000 := hn
    refine ⟨_, (pss_cons (ps_par3 (i := 4) (j := 5) (l := 6) rfl sc__law_record.nd rfl rfl rfl (by decide) (by decide) (by decide) rfl rfl rfl (pa_cons (pe_lst pa_nil) (pa_cons (pe_lst pa_nil) (pa_cons (pe_ix ix_list (pe_lst (pa_cons pe_int (pa_cons (pe_op op_sub pe_int (pe_op op_powW pe_int pe_int)) (pa_cons (pe_cl c__law_spin hg hr (by decide) (by rfl) (pa_cons (pv 0) (pa_cons (pe_op op_powW pe_int pe_int) pa_nil))) pa_nil)))) (pe_cl c__law_spin hg hr (by decide) (by rfl) (pa_cons (pv 0) (pa_cons pe_int pa_nil))) (fun _ _ => rfl)) pa_nil))) (by rfl))
      (pss_cons (ps_for PassesOwn.never rfl (pi_range1 (by rfl) bt.m_range (pa_cons (pv 2) pa_nil)) (pg_name (i := 7) sc__law_record.nd rfl (Or.inl rfl)) (pss_cons (ps_set (i := 8) sc__law_record.nd rfl (Or.inl rfl) (pe_cl c__law_spin hg hr (by decide) (by rfl) (pa_cons (pv 0) (pa_cons (pv 1) pa_nil))))
      (C8.pss_cut (ps_if (PW.pt (pw_and (pt_cmpR (op_neD hr.units) (pv 5) (pe_lst pa_nil) (nomark _)) (pw_and1 (pt_cmpR op_eq (pe_cl c__law_spin hg hr (by decide) (by rfl) (pa_cons (pv 0) (pa_cons pe_int pa_nil))) pe_int (nomark _))))) (pss_one (ps_set (i := 8) sc__law_record.nd rfl (Or.inl rfl) (pe_ix ix_list (pv 5) (pe_cl c__law_spin hg hr (by decide) (by rfl) (pa_cons (pv 0) (pa_cons (pe_callB call_len_seq (by rfl) bt.m_len (by decide +kernel) (pa_cons (pv 5) pa_nil)) pa_nil))) (fun _ _ => rfl)))) pss_nil)
      (pss_cons (ps_set (i := 6) sc__law_record.nd rfl (Or.inl rfl) (pe_op op_add (pv 6) (pe_ix ix_list (pv 3) (pe_cl c__law_spin hg hr (by decide) (by rfl) (pa_cons (pv 0) (pa_cons (pe_callB call_len_seq (by rfl) bt.m_len (by decide +kernel) (pa_cons (pv 3) pa_nil)) pa_nil))) (fun _ _ => rfl))))
      (pss_one (ps_if (pt_cmpR op_in_seq (pv 8) (pv 5) (by rfl)) (pss_cons (ps_expr (pe_bm PySem.F.plainAttrs_list PySem.F.slot_list_remove PySem.F.type_list_remove mt_remove (pv 5) (pa_cons (pv 8) pa_nil)))
      (pss_one (ps_expr (pe_bm PySem.F.plainAttrs_list PySem.F.slot_list_append PySem.F.type_list_append mt_append (pv 4) (pa_cons (pe_tup (pa_cons (pv 6) (pa_cons (pv 8) (pa_cons pe_str pa_nil)))) pa_nil))))) (pss_cons (ps_expr (pe_bm PySem.F.plainAttrs_list PySem.F.slot_list_append PySem.F.type_list_append mt_append (pv 5) (pa_cons (pv 8) pa_nil)))
      (pss_one (ps_expr (pe_bm PySem.F.plainAttrs_list PySem.F.slot_list_append PySem.F.type_list_append mt_append (pv 4) (pa_cons (pe_tup (pa_cons (pv 6) (pa_cons (pv 8) (pa_cons pe_str pa_nil)))) pa_nil)))))))))))
      (pss_one (ps_ret (pv 4))))), ?_⟩
    refine ⟨Nat.zero_le _, fun F nF => ⟨Nat.zero_le _, fun Dn nD => ?_⟩⟩
    have FD : F ≠ Dn := ne_of_none upd_same nD
    have s1 : Same H (upd (upd H F (.lst [])) Dn (.lst [])) := (same_upd nF).trans (same_upd nD)
    have hF1 : upd (upd H F (.lst [])) Dn (.lst []) F = some (.lst []) := by rw [upd_ne FD]; exact upd_same
    have hD1 : upd (upd H F (.lst [])) Dn (.lst []) Dn = some (.lst []) := upd_same
    have nD0 : H Dn = none := (same_upd nF).free nD
    obtain ⟨rx, ry, rz, hr0, _⟩ := id hR
    have Fr : F ≠ r := (ne_of_none hr0 nF).symm
    have Dr : Dn ≠ r := (ne_of_none hr0 nD0).symm
    have Fg : F ≠ g := (ne_of_none hG nF).symm
    have Dg : Dn ≠ g := (ne_of_none hG nD0).symm
    have hR1 := hR.same s1
    generalize upd (upd H F (.lst [])) Dn (.lst []) = H1 at s1 hF1 hD1 hR1
    -- [0, 0 - 10 ** 15, spin][spin]
    refine ⟨_, _, rfl, rfl, powW (n := 40) (k := 15) (by decide) (by decide), _, _, rfl, rfl, ?_⟩
    refine ⟨_, rfl, _, _, rfl, rfl, powW (n := 40) (k := 14) (by decide) (by decide), r, _, n, rfl, by decide, by decide, by show n < 1000000000; omega, hR1, fun d1 H2 d10 d11 hR2 o2 => ?_⟩
    refine ⟨by show 3 ≤ sizeLine; decide, fun L nL => ?_⟩
    refine ⟨_, rfl, r, 3, n + 1, rfl, by decide, by decide, by show n + 1 < 1000000000; omega, hR2.same (same_upd nL), fun d2 H3 d20 d21 hR3 o3 => ?_⟩
    have Lr : L ≠ r := by
      obtain ⟨_, _, _, hr2, _⟩ := id hR2
      exact (ne_of_none hr2 nL).symm
    have hL3 : H3 L = some (.lst ([0, 0 - 10 ^ 15, d1].map V.int)) := o3 _ _ upd_same Lr
    obtain ⟨t0, at0, m0⟩ := getI (ns := [0, 0 - 10 ^ 15, d1]) d20 (by show d2 < 3; exact d21)
    have bt0 : -(10 ^ 16) ≤ t0 ∧ t0 ≤ 10 ^ 16 + ((0 : Nat) : Int) * 10 ^ 10 := by
      have hm := List.mem_of_getElem? m0
      have d11' : d1 < 10 ^ 14 := d11
      simp only [List.mem_cons, List.mem_nil_iff, or_false] at hm
      omega
    have hF3 : Lst evV H3 F [] := by
      obtain ⟨_, _, _, hr2, _⟩ := id hR2
      refine ⟨[], ?_, Tups.nil⟩
      exact o3 _ _ ((same_upd nL) _ _ (o2 _ _ hF1 Fr)) Fr
    have hD3 : H3 Dn = some (.lst (([] : List Int).map V.int)) := o3 _ _ ((same_upd nL) _ _ (o2 _ _ hD1 Dr)) Dr
    have hG3 : H3 g = some (.lst (gs.map V.int)) := o3 _ _ ((same_upd nL) _ _ (o2 _ _ (s1 _ _ hG) gr)) gr
    have I0 : RecIn H r g F Dn gs (n + 2 + 4 * 0) keys 0 t0 [] [] H3 :=
      ⟨Fr, Dr, FD, gr, nF, nD0, hG, (Off.of s1).trans (o2.trans ((Off.of (same_upd nL)).trans o3)), hR3, hG3, hF3, hD3,
        ⟨Valid.nil, rfl, fun e h => by simp at h, fun e h => by simp at h⟩, DownOk.nil, fun k h => by simp at h, Nat.le_refl _, fun e h => by simp at h, bt0⟩
    refine ⟨L, _, d2, .int t0, rfl, rfl, SqL.of hL3, at0, _, _, _, rfl, ?_⟩
    refine ⟨_, rfl, (size : Int), rfl, by omega, by omega, for_it walk_range (fun i σ H' => ∃ tick es ns y7 y8, σ = [some (.ref r), some (.int keys), some (.int (size : Int)), some (.ref g), some (.ref F), some (.ref Dn), some (.int tick), y7, y8] ∧
      RecIn H r g F Dn gs (n + 2 + 4 * i) keys i tick es ns H') ⟨t0, [], [], _, _, rfl, I0⟩ (fun _ _ _ _ _ => True.intro) (fun i x σ H4 H5 hi p y => ?_) (fun σ H4 p => ?_)⟩
    · obtain ⟨tick, es, ns, y7, y8, rfl, R⟩ := p
      obtain ⟨rfl, rfl⟩ := y
      have hi' : i < size := by omega
      -- key = spin(reel, keys)
      refine ⟨_, rfl, _, rfl, r, keys, n + 2 + 4 * i, rfl, hk0, Int.lt_of_le_of_lt hk1 (by decide), by show _ < 1000000000; omega, R.reel, fun k H5 k0 k1 R5 o5 => ?_⟩
      have R1 := R.go o5 R5
      clear R R5 o5
      refine ⟨fun σ' H' => ∃ k : Int, σ' = [some (.ref r), some (.int keys), some (.int (size : Int)), some (.ref g), some (.ref F), some (.ref Dn), some (.int tick), some (.int (0 + (i : Int))), some (.int k)] ∧ 0 ≤ k ∧ k < keys ∧ RecIn H r g F Dn gs (n + 2 + 4 * i + 3) keys i tick es ns H', ?_, ?_⟩
      · -- if down != [] and spin(reel, 2) == 0
        refine ⟨_, rfl, Nat.zero_le _, fun e ne => ?_⟩
        have R2 := R1.same (same_upd (o := .lst []) ne)
        refine ⟨_, _, .lst (SqL.of R2.down) (dpInts ns), .lst (SqL.of upd_same) .nil, shaped_ints ns, shaped_nil, _, rfl, ?_⟩
        rw [eqv_nil]
        cases ns with
        | nil => exact iteF (iteF ⟨k, rfl, k0, k1, R2.mono (by omega)⟩)
        | cons d0 dr =>
          refine iteT ⟨_, rfl, r, 2, n + 2 + 4 * i + 1, rfl, by decide, by decide, by show _ < 1000000000; omega, R2.reel, fun b H6 b0 b1 R6 o6 => ⟨rfl, _, rfl, ite2 (fun z => ?_) (fun z => ?_)⟩⟩
          · have R3 := R2.go o6 R6
            refine ⟨_, rfl, _, rfl, _, rfl, Dn, _, rfl, .inl (SqL.of R3.down), r, _, n + 2 + 4 * i + 1 + 1, rfl, ?_, ?_, by show _ < 1000000000; omega, R3.reel, fun c H7 c0 c1 R7 o7 => ?_⟩
            · rw [List.length_map, List.length_cons]; omega
            · have := R3.nl
              rw [List.length_map]
              have h2 : (10 : Int) ^ 40 > 1000 := by decide
              omega
            · have R4 := R3.go o7 R7
              rw [List.length_map] at c1
              obtain ⟨k', ak, mk⟩ := getI (ns := d0 :: dr) c0 c1
              have hk' := R4.key k' (List.mem_of_getElem? mk)
              exact ⟨Dn, _, c, _, rfl, rfl, SqL.of R4.down, ak, k', rfl, hk'.1, hk'.2, R4.mono (by omega)⟩
          · exact ⟨k, rfl, k0, k1, (R2.go o6 R6).mono (by omega)⟩
      · rintro σ' H' ⟨k, rfl, k0, k1, R⟩
        refine ⟨_, rfl, _, rfl, _, rfl, _, rfl, g, _, rfl, .inl (SqL.of R.gap), r, _, n + 2 + 4 * i + 3, rfl, ?_, ?_, by show _ < 1000000000; omega, R.reel, fun c H6 c0 c1 R6 o6 => ?_⟩
        · rw [List.length_map]; omega
        · rw [List.length_map]
          have h2 : (10 : Int) ^ 40 > 1000 := by decide
          omega
        · have R2 := R.go o6 R6
          rw [List.length_map] at c1
          obtain ⟨dv, adv, mdv⟩ := getI (ns := gs) c0 c1
          have hdv := g2 dv (List.mem_of_getElem? mdv)
          refine ⟨g, _, c, _, rfl, rfl, SqL.of R2.gap, adv, _, _, rfl, rfl, ?_⟩
          have htk := R2.tk
          have hup : tick + dv ≤ 10 ^ 16 + ((i + 1 : Nat) : Int) * 10 ^ 10 := by
            have e : ((i + 1 : Nat) : Int) * 10 ^ 10 = (i : Int) * 10 ^ 10 + 10 ^ 10 := by rw [Int.natCast_add, Int.add_mul]; rfl
            omega
          refine ⟨_, rfl, _, rfl, Dn, _, rfl, .inl (SqL.of R2.down), rfl, flat_ints ns, _, rfl, ?_⟩
          show (if inV (.int k) (ns.map V.int) = true then _ else _)
          rw [inv_int]
          have hlast : ∀ e' ∈ es, e'.t ≤ tick + dv := fun e' he => by have := R2.last e' he; omega
          have eqm : n + 2 + 4 * (i + 1) = n + 2 + 4 * i + 3 + 1 := by omega
          refine ite2 (fun z => ?_) (fun z => ?_)
          · have zm : k ∈ ns := of_decide_eq_true z
            obtain ⟨j, hj⟩ := List.getElem?_of_mem zm
            refine ⟨_, rfl, .inl ⟨rfl, _, SqL.of R2.down⟩, _, rfl, Dn, ns, k, j, rfl, rfl, R2.down, hj, first_ix R2.dn.nd hj, ?_⟩
            have hF := R2.found
            refine ⟨_, rfl, ?_, _, rfl, _, rfl, (by show 3 ≤ sizeLine; decide), fun p np => ?_⟩
            · obtain ⟨as, hFa, _⟩ := hF
              exact .inl ⟨rfl, _, SqL.of (by rw [upd_ne R2.FD]; exact hFa)⟩
            · obtain ⟨as, h1, h2, R3⟩ := R2.push (e := ⟨tick + dv, k, false⟩) np (R2.dn.up hj) (R2.ok.valid.snoc k0 ((R2.dn.mem k).mp zm) hlast) ⟨k0, k1⟩
                (fun x hx => R2.key x ((mem_eraseIdx R2.dn.nd hj x).mp hx).2) (by have := R2.nl; have := List.length_eraseIdx_le ns j; omega) (by show tick ≤ tick + dv; omega) hup (by omega)
              refine ⟨F, _, .ref p, rfl, rfl, h1, by rw [List.length_map, h2]; exact small1000 (by omega), tick + dv, es ++ [⟨tick + dv, k, false⟩], ns.eraseIdx j, _, _, rfl, ?_⟩
              rw [eqm]
              exact R3
          · have zm : ¬ k ∈ ns := fun q => z (decide_eq_true q)
            refine ⟨_, rfl, .inl ⟨rfl, _, SqL.of R2.down⟩, _, rfl, Dn, _, .int k, rfl, rfl, R2.down, by rw [List.length_map]; have := R2.nl; exact small1000 (by omega), ?_⟩
            have hF := R2.found
            have emap : (ns.map V.int) ++ [V.int k] = (ns ++ [k]).map V.int := by rw [List.map_append]; rfl
            rw [emap]
            refine ⟨_, rfl, ?_, _, rfl, _, rfl, (by show 3 ≤ sizeLine; decide), fun p np => ?_⟩
            · obtain ⟨as, hFa, _⟩ := hF
              exact .inl ⟨rfl, _, SqL.of (by rw [upd_ne R2.FD]; exact hFa)⟩
            · obtain ⟨as, h1, h2, R3⟩ := R2.push (e := ⟨tick + dv, k, true⟩) np (R2.dn.down zm) (R2.ok.valid.snoc k0 (R2.dn.not zm) hlast) ⟨k0, k1⟩
                (fun x hx => by
                  rcases List.mem_append.mp hx with hx | hx
                  · exact R2.key x hx
                  · rw [List.mem_singleton.mp hx]; exact ⟨k0, k1⟩) (by rw [List.length_append]; have := R2.nl; simp; omega) (by show tick ≤ tick + dv; omega) hup (by omega)
              refine ⟨F, _, .ref p, rfl, rfl, h1, by rw [List.length_map, h2]; exact small1000 (by omega), tick + dv, es ++ [⟨tick + dv, k, true⟩], ns ++ [k], _, _, rfl, ?_⟩
              rw [eqm]
              exact R3
    · obtain ⟨tick, es, ns, y7, y8, rfl, R⟩ := p
      have e : ((size : Int)).toNat = size := Int.toNat_natCast size
      rw [e] at R
      exact ⟨_, rfl, q H4 F es R.off nF (R.reel.mono (by omega)) R.found R.ok⟩
end
end K06

set_option Elab.async false
set_option linter.all false
set_option maxRecDepth 100000
set_option maxHeartbeats 4000000
namespace K06
open PySem PySem.Spec PyProof.Rows L2 Gd Rm
/-! ### a crowd -/
structure CrH (H0 : Hp) (r Ks F Dn : Addr) (m : Nat) (ks : List Int) (es : List Ev) (ns : List Int) (H : Hp) : Prop where
  Fr : F ≠ r
  Dr : Dn ≠ r
  Kr : Ks ≠ r
  FD : F ≠ Dn
  KF : Ks ≠ F
  KD : Ks ≠ Dn
  nF : H0 F = none
  nD : H0 Dn = none
  nK : H0 Ks = none
  off : Off r H0 H
  reel : Reel H r m
  keys : H Ks = some (.lst (ks.map V.int))
  found : Lst evV H F es
  down : H Dn = some (.lst (ns.map V.int))
section
variable {H0 H H' : Hp} {r Ks F Dn : Addr} {m m' : Nat} {ks ns ns' ks' : List Int} {es : List Ev}
theorem CrH.go (h : CrH H0 r Ks F Dn m ks es ns H) (o : Off r H H') (R : Reel H' r m') : CrH H0 r Ks F Dn m' ks es ns H' := by
  obtain ⟨x, y, z, hr, _⟩ := id h.reel
  exact { h with off := h.off.trans o, reel := R, keys := o _ _ h.keys h.Kr, found := h.found.off hr h.Fr o, down := o _ _ h.down h.Dr }
theorem CrH.same (h : CrH H0 r Ks F Dn m ks es ns H) (o : Same H H') : CrH H0 r Ks F Dn m ks es ns H' := h.go (Off.of o) (h.reel.same o)
theorem CrH.mono (h : CrH H0 r Ks F Dn m ks es ns H) (l : m ≤ m') : CrH H0 r Ks F Dn m' ks es ns H := { h with reel := h.reel.mono l }
theorem CrH.setDown (h : CrH H0 r Ks F Dn m ks es ns H) : CrH H0 r Ks F Dn m ks es ns' (upd H Dn (.lst (ns'.map V.int))) := by
  obtain ⟨x, y, z, hr, hb⟩ := id h.reel
  exact { h with off := h.off.new h.nD, reel := ⟨x, y, z, by rw [upd_ne h.Dr.symm]; exact hr, hb⟩, keys := by rw [upd_ne h.KD]; exact h.keys,
                 found := h.found.off h.down h.FD off_upd, down := upd_same }
theorem CrH.setKeys (h : CrH H0 r Ks F Dn m ks es ns H) : CrH H0 r Ks F Dn m ks' es ns (upd H Ks (.lst (ks'.map V.int))) := by
  obtain ⟨x, y, z, hr, hb⟩ := id h.reel
  exact { h with off := h.off.new h.nK, reel := ⟨x, y, z, by rw [upd_ne h.Kr.symm]; exact hr, hb⟩, down := by rw [upd_ne h.KD.symm]; exact h.down,
                 found := h.found.off h.keys h.KF.symm off_upd, keys := upd_same }
theorem CrH.append {p : Addr} {e : Ev} (h : CrH H0 r Ks F Dn m ks es ns H) (np : H p = none) : ∃ as : List Addr, upd H p (.tup (evV e)) F = some (.lst (as.map V.ref)) ∧ as.length = es.length ∧
    CrH H0 r Ks F Dn m ks (es ++ [e]) ns (upd (upd H p (.tup (evV e))) F (.lst (as.map V.ref ++ [.ref p]))) := by
  obtain ⟨as, hF, hT⟩ := h.found
  have h1 := h.same (same_upd (o := .tup (evV e)) np)
  obtain ⟨x, y, z, hr, hb⟩ := id h1.reel
  have hF1 := (same_upd (o := .tup (evV e)) np) _ _ hF
  have pF : p ≠ F := (ne_of_none hF np).symm
  refine ⟨as, hF1, hT.1, { h1 with off := h1.off.new h.nF, reel := ⟨x, y, z, by rw [upd_ne h.Fr.symm]; exact hr, hb⟩, keys := by rw [upd_ne h.KF]; exact h1.keys, down := (by rw [upd_ne h.FD.symm]; exact h1.down), found := ⟨as ++ [p], by rw [upd_same, List.map_append]; rfl, Tups.snoc ((hT.same (same_upd np)).off hF1 off_upd) (by rw [upd_ne pF]; exact upd_same)⟩ }⟩
end
structure CrOk (ks : List Int) (i : Nat) (tick : Int) (es : List Ev) (ns : List Int) : Prop where
  inks : ∀ e ∈ es, e.k ∈ ks
  valid : Valid es
  dn : DownOk ns es
  sub : ∀ k, heldB es k = true → k ∈ ks.take i
  len : es.length ≤ 2 * i
  nl : ns.length ≤ i
  key : ∀ e ∈ es, 0 ≤ e.k ∧ e.k < 10 ^ 31
  last : ∀ e ∈ es, e.t ≤ tick
  low : ∀ e ∈ es, -(10 ^ 20) < e.t
  tk : -(10 ^ 16) ≤ tick ∧ tick ≤ 10 * (i : Int)
theorem eraseIdx_map (f : Int → V) : ∀ (ns : List Int) (j : Nat), (ns.map f).eraseIdx j = (ns.eraseIdx j).map f
  | [], _ => rfl
  | _ :: _, 0 => rfl
  | n :: ns, j + 1 => by
    show f n :: (ns.map f).eraseIdx j = f n :: (ns.eraseIdx j).map f
    rw [eraseIdx_map f ns j]
theorem CrOk.down {ks : List Int} {i : Nat} {tick d : Int} {es : List Ev} {ns : List Int} {k : Int} (h : CrOk ks i tick es ns) (nd : ks.Nodup) (hk : ks[i]? = some k) (k0 : 0 ≤ k ∧ k < 10 ^ 31) (d0 : 0 ≤ d) (d1 : d < 5) (hi : i < 100) :
    ¬ k ∈ ns ∧ Valid (es ++ [⟨tick + d, k, true⟩]) ∧ DownOk (ns ++ [k]) (es ++ [⟨tick + d, k, true⟩]) ∧ (∀ x, heldB (es ++ [⟨tick + d, k, true⟩]) x = true → x ∈ ks.take (i + 1)) ∧ (∀ e ∈ es ++ [⟨tick + d, k, true⟩], (0 ≤ e.k ∧ e.k < 10 ^ 31) ∧ e.t ≤ tick + d ∧ -(10 ^ 20) < e.t) ∧
    (es ++ [(⟨tick + d, k, true⟩ : Ev)]).length ≤ 2 * i + 1 ∧ (ns ++ [k]).length ≤ i + 1 ∧ -(10 ^ 16) ≤ tick + d ∧ tick + d ≤ 10 * ((i + 1 : Nat) : Int) := by
  have hb : heldB es k = false := by
    cases e : heldB es k with
    | false => rfl
    | true =>
      obtain ⟨j, hj⟩ := List.getElem?_of_mem (h.sub k e)
      have hji : j < i := by
        rcases Nat.lt_or_ge j i with q | q
        · exact q
        · rw [List.getElem?_eq_none (by rw [List.length_take]; omega)] at hj; cases hj
      rw [List.getElem?_take_of_lt hji] at hj
      have := nd_ix nd hj hk
      omega
  have nk : ¬ k ∈ ns := fun m => by rw [(h.dn.mem k).mp m] at hb; cases hb
  have hl : ∀ e ∈ es, e.t ≤ tick + d := fun e he => by have := h.last e he; omega
  have htk := h.tk
  refine ⟨nk, h.valid.snoc k0.1 (by show heldB es k = !true; rw [hb]; rfl) hl, h.dn.down nk, fun x hx => ?_, fun e he => ?_, ?_, ?_, by omega, by omega⟩
  · rw [heldB_snoc] at hx
    unfold after at hx
    rw [List.take_add_one, hk]
    by_cases z : x = k
    · subst z; simp
    · rw [if_neg (show ¬ x = (⟨tick + d, k, true⟩ : Ev).k from z)] at hx
      exact List.mem_append.mpr (.inl (h.sub x hx))
  · rcases List.mem_append.mp he with he | he
    · exact ⟨h.key e he, hl e he, h.low e he⟩
    · rw [List.mem_singleton.mp he]
      exact ⟨k0, Int.le_refl _, by show -(10 ^ 20) < tick + d; omega⟩
  · rw [List.length_append]; have := h.len; simp; omega
  · rw [List.length_append]; have := h.nl; simp; omega
def Pk (j : Nat) (k : Int) : Prop := k = 7 * (j : Int) ∨ k = 10 ^ 12 + (j : Int) ∨ k = 10 ^ 30 - 1 - (j : Int)
theorem pk_inj {j j' : Nat} {k : Int} (h : Pk j k) (h' : Pk j' k) (a : j < 60) (b : j' < 60) : j = j' := by
  unfold Pk at h h'
  omega
structure KsOk (i : Nat) (ks : List Int) : Prop where
  nd : ks.Nodup
  len : ks.length = i
  at_ : ∀ k ∈ ks, ∃ j, j < i ∧ Pk j k
theorem KsOk.insert {i a : Nat} {ks : List Int} {k : Int} (h : KsOk i ks) (hk : Pk i k) (hi : i < 60) : KsOk (i + 1) (ks.take a ++ [k] ++ ks.drop a) := by
  have p : (ks.take a ++ [k] ++ ks.drop a).Perm (k :: ks) := by
    have e : ks.take a ++ [k] ++ ks.drop a = ks.take a ++ k :: ks.drop a := by simp
    rw [e]
    refine List.perm_middle.trans ?_
    rw [List.take_append_drop]
  refine ⟨p.nodup_iff.mpr (List.nodup_cons.mpr ⟨fun m => ?_, h.nd⟩), by rw [p.length_eq, List.length_cons, h.len], fun x hx => ?_⟩
  · obtain ⟨j, hj, hp⟩ := h.at_ k m
    have := pk_inj hk hp hi (by omega)
    omega
  · rcases List.mem_cons.mp (p.mem_iff.mp hx) with rfl | hx
    · exact ⟨i, by omega, hk⟩
    · obtain ⟨j, hj, hp⟩ := h.at_ x hx
      exact ⟨j, by omega, hp⟩
theorem pk_bound {j : Nat} {k : Int} (h : Pk j k) (a : j < 60) : 0 ≤ k ∧ k < 10 ^ 31 := by
  unfold Pk at h
  omega
section
variable {P : Program} {w : World} {K : PySem.W.Frag} {mg : Str → Option Value} {base : Heap}
structure CrowdOk (es : List Ev) : Prop where
  few : ∃ ds : List Int, ds.length < 64 ∧ ∀ e ∈ es, e.k ∈ ds
  valid : Valid es
  len : es.length ≤ 150
  key : ∀ e ∈ es, 0 ≤ e.k ∧ e.k < 10 ^ 31
  tick : ∀ e ∈ es, -(10 ^ 20) < e.t ∧ e.t < 10 ^ 20
def spCrowd : Sp := fun vs H Q _ => ∃ (r : Addr) (n : Nat), vs = [.ref r] ∧ Reel H r n ∧ n + 2000 < most ∧
  ∀ (H' : Hp) (p : Addr) (es : List Ev), Off r H H' → H p = none → Reel H' r (n + 1000) → Lst evV H' p es → CrowdOk es → Q (.ref p) H'
theorem ok__law_crowd (bt : Bt mg) (a : At K mg "_law_crowd" s__law_crowd ["_law_reel_here"]) (c__law_spin : Cl P w K mg base 1 "_law_spin" spSpin) : Cl P w K mg base 2 "_law_crowd" spCrowd := by
  refine clG a sc__law_crowd (fun vs H Q E h => ?_) (fun f cdv A outer s H vs Q hg hr h => ?_)
  · obtain ⟨r, n, rfl, _⟩ := h
    rfl
  · obtain ⟨r, n, rfl, hR, hn, q⟩ := h
    have hn' : n + 2000 < 1000000000 := hn
    refine ⟨_, (pss_cons (ps_asg (pe_tup (pa_cons (pe_lst pa_nil) (pa_cons (pe_lst pa_nil) (pa_cons (pe_lst pa_nil) (pa_cons (pe_op op_sub pe_int (pe_cl c__law_spin hg hr (by decide) (by rfl) (pa_cons (pv 0) (pa_cons (pe_op op_powW pe_int pe_int) pa_nil)))) pa_nil))))) (pg_tup rfl (pgs_cons (pg_name (i := 1) sc__law_crowd.nd rfl (Or.inl rfl)) (pgs_cons (pg_name (i := 2) sc__law_crowd.nd rfl (Or.inl rfl)) (pgs_cons (pg_name (i := 3) sc__law_crowd.nd rfl (Or.inl rfl)) (pgs_cons (pg_name (i := 4) sc__law_crowd.nd rfl (Or.inl rfl)) pgs_nil))))))
      (pss_cons (ps_for PassesOwn.never rfl (pi_range1 (by rfl) bt.m_range (pa_cons (pe_op op_add pe_int (pe_cl c__law_spin hg hr (by decide) (by rfl) (pa_cons (pv 0) (pa_cons pe_int pa_nil)))) pa_nil)) (pg_name (i := 5) sc__law_crowd.nd rfl (Or.inl rfl)) (pss_one (ps_expr (pe_bm PySem.F.plainAttrs_list PySem.F.slot_list_insert PySem.F.type_list_insert mt_insert (pv 1) (pa_cons (pe_cl c__law_spin hg hr (by decide) (by rfl) (pa_cons (pv 0) (pa_cons (pe_op op_add (pv 5) pe_int) pa_nil))) (pa_cons (pe_ix ix_list (pe_lst (pa_cons (pe_op op_mulW pe_int (pv 5)) (pa_cons (pe_op op_add (pe_op op_powW pe_int pe_int) (pv 5)) (pa_cons (pe_op op_sub (pe_op op_sub (pe_op op_powW pe_int pe_int) pe_int) (pv 5)) pa_nil)))) (pe_cl c__law_spin hg hr (by decide) (by rfl) (pa_cons (pv 0) (pa_cons pe_int pa_nil))) (fun _ _ => rfl)) pa_nil))))))
      (pss_cons (ps_for PassesOwn.never rfl (pi_list (pv 1)) (pg_name (i := 6) sc__law_crowd.nd rfl (Or.inl rfl)) (pss_cons (ps_set (i := 4) sc__law_crowd.nd rfl (Or.inl rfl) (pe_op op_add (pv 4) (pe_cl c__law_spin hg hr (by decide) (by rfl) (pa_cons (pv 0) (pa_cons pe_int pa_nil)))))
      (pss_cons (ps_expr (pe_bm PySem.F.plainAttrs_list PySem.F.slot_list_append PySem.F.type_list_append mt_append (pv 2) (pa_cons (pe_tup (pa_cons (pv 4) (pa_cons (pv 6) (pa_cons pe_str pa_nil)))) pa_nil)))
      (pss_cons (ps_expr (pe_bm PySem.F.plainAttrs_list PySem.F.slot_list_append PySem.F.type_list_append mt_append (pv 3) (pa_cons (pv 6) pa_nil)))
      (pss_one (ps_if (pt_cmpR op_eq (pe_cl c__law_spin hg hr (by decide) (by rfl) (pa_cons (pv 0) (pa_cons pe_int pa_nil))) pe_int (nomark _)) (pss_one (ps_expr (pe_bm PySem.F.plainAttrs_list PySem.F.slot_list_append PySem.F.type_list_append mt_append (pv 2) (pa_cons (pe_tup (pa_cons (pv 4) (pa_cons (pe_bm PySem.F.plainAttrs_list PySem.F.slot_list_pop PySem.F.type_list_pop mt_popAt (pv 3) (pa_cons (pe_cl c__law_spin hg hr (by decide) (by rfl) (pa_cons (pv 0) (pa_cons (pe_callB call_len_seq (by rfl) bt.m_len (by decide +kernel) (pa_cons (pv 3) pa_nil)) pa_nil))) pa_nil)) (pa_cons pe_str pa_nil)))) pa_nil)))) pss_nil))))))
      (pss_one (ps_ret (pv 2)))))), ?_⟩
    refine ⟨Nat.zero_le _, fun Ks nK => ⟨Nat.zero_le _, fun F nF => ⟨Nat.zero_le _, fun Dn nD => ?_⟩⟩⟩
    have nF0 : H F = none := (same_upd nK).free nF
    have s2 : Same H (upd (upd H Ks (.lst [])) F (.lst [])) := (same_upd nK).trans (same_upd nF)
    have nD0 : H Dn = none := s2.free nD
    have KF : Ks ≠ F := ne_of_none upd_same nF
    have FD : F ≠ Dn := ne_of_none upd_same nD
    have KD : Ks ≠ Dn := ne_of_none ((same_upd nF) _ _ upd_same) nD
    obtain ⟨rx, ry, rz, hr0, _⟩ := id hR
    have Fr : F ≠ r := (ne_of_none hr0 nF0).symm
    have Dr : Dn ≠ r := (ne_of_none hr0 nD0).symm
    have Kr : Ks ≠ r := (ne_of_none hr0 nK).symm
    have C0 : CrH H r Ks F Dn n [] [] [] (upd (upd (upd H Ks (.lst [])) F (.lst [])) Dn (.lst [])) :=
      ⟨Fr, Dr, Kr, FD, KF, KD, nF0, nD0, nK, Off.of (s2.trans (same_upd nD)), hR.same (s2.trans (same_upd nD)), (by rw [upd_ne KD, upd_ne KF]; exact upd_same), ⟨[], by rw [upd_ne FD]; exact upd_same, Tups.nil⟩, upd_same⟩
    generalize upd (upd (upd H Ks (.lst [])) F (.lst [])) Dn (.lst []) = H1 at C0
    refine ⟨_, rfl, _, _, rfl, rfl, powW (n := 40) (k := 15) (by decide) (by decide), r, _, n, rfl, by decide, by decide, by show n < 1000000000; omega, C0.reel, fun d1 H2 d10 d11 R2 o2 => ⟨_, _, rfl, rfl, (by show 4 ≤ sizeLine; decide), fun T nT => ⟨T, _, rfl, SqT.of upd_same, rfl, _, _, rfl, _, _, rfl, _, _, rfl, _, _, rfl, rfl, ?_⟩⟩⟩
    have d11' : d1 < 10 ^ 15 := d11
    have C1 := (C0.go o2 R2).same (same_upd (o := .tup [.ref Ks, .ref F, .ref Dn, .int (0 - d1)]) nT)
    generalize upd H2 T (.tup [.ref Ks, .ref F, .ref Dn, .int (0 - d1)]) = H3 at C1
    refine ⟨_, rfl, r, 60, n + 1, rfl, by decide, by decide, by show n + 1 < 1000000000; omega, C1.reel, fun cnt H4 c0 c1 R4 o4 => ⟨_, _, rfl, rfl, 1 + cnt, rfl, by omega, by omega, ?_⟩⟩
    have C2 := C1.go o4 R4
    have eN : (1 + cnt).toNat ≤ 60 := by omega
    generalize (1 + cnt).toNat = N at eN
    refine for_it walk_range (fun i σ H' => ∃ ks y5 y6, σ = [some (.ref r), some (.ref Ks), some (.ref F), some (.ref Dn), some (.int (0 - d1)), y5, y6] ∧ CrH H r Ks F Dn (n + 2 + 2 * i) ks [] [] H' ∧ KsOk i ks) ⟨[], _, _, rfl, C2, List.nodup_nil, rfl, fun k h => by simp at h⟩ (fun _ _ _ _ _ => True.intro) (fun i x σ H5 H6 hi p y => ?_) (fun σ H5 p => ?_)
    · obtain ⟨ks, y5, y6, rfl, C, kk⟩ := p
      obtain ⟨rfl, rfl⟩ := y
      refine ⟨_, rfl, .inl ⟨rfl, _, SqL.of C.keys⟩, _, rfl, _, rfl, _, _, rfl, rfl, r, _, n + 2 + 2 * i, rfl, by omega, ?_, by show _ < 1000000000; omega, C.reel, fun ia H6 a0 a1 R6 o6 => ?_⟩
      · have h2 : (10 : Int) ^ 40 > 1000 := by decide
        omega
      · have C3 := C.go o6 R6
        have ja : ((0 : Int) + (i : Int) + 1) = ((i + 1 : Nat) : Int) := by omega
        refine ⟨_, rfl, _, _, rfl, rfl, wide_mul (i := 7) (j := 0 + (i : Int)) (a := 40) (b := 40) (by decide) (by omega) (by decide) (by decide) (by decide), _, _, rfl, rfl, powW (i := 10) (n := 40) (k := 12) (by decide) (by decide), _, rfl, _, _, rfl, rfl, _, _, rfl, rfl, powW (i := 10) (n := 40) (k := 30) (by decide) (by decide), _, _, rfl, rfl, _, rfl, _, _, rfl, rfl, (by show 3 ≤ sizeLine; decide), fun L nL => ?_⟩
        have C4 := C3.same (same_upd (o := .lst [.int (7 * (0 + (i : Int))), .int (10 ^ 12 + (0 + (i : Int))), .int (10 ^ 30 - 1 - (0 + (i : Int)))]) nL)
        refine ⟨_, rfl, r, 3, n + 2 + 2 * i + 1, rfl, by decide, by decide, by show _ < 1000000000; omega, C4.reel, fun b H7 b0 b1 R7 o7 => ?_⟩
        have C5 := C4.go o7 R7
        have Lr : L ≠ r := by
          obtain ⟨_, _, _, hr2, _⟩ := id C3.reel
          exact (ne_of_none hr2 nL).symm
        have hL : H7 L = some (.lst ([7 * (0 + (i : Int)), 10 ^ 12 + (0 + (i : Int)), 10 ^ 30 - 1 - (0 + (i : Int))].map V.int)) := o7 _ _ upd_same Lr
        obtain ⟨k, ak, mk⟩ := getI (ns := [7 * (0 + (i : Int)), 10 ^ 12 + (0 + (i : Int)), 10 ^ 30 - 1 - (0 + (i : Int))]) b0 (by show b < 3; exact b1)
        have pk : Pk i k := by
          have hm := List.mem_of_getElem? mk
          simp only [List.mem_cons, List.mem_nil_iff, or_false] at hm
          unfold Pk
          omega
        refine ⟨L, _, b, .int k, rfl, rfl, SqL.of hL, ak, Ks, _, ia, .int k, rfl, rfl, C5.keys, by rw [List.length_map, kk.len]; exact small1000 (by omega), a0, by omega, ?_⟩
        have em : (ks.map V.int).take ia.toNat ++ [V.int k] ++ (ks.map V.int).drop ia.toNat = (ks.take ia.toNat ++ [k] ++ ks.drop ia.toNat).map V.int := by
          rw [List.map_append, List.map_append, List.map_take, List.map_drop]; rfl
        rw [em]
        refine ⟨ks.take ia.toNat ++ [k] ++ ks.drop ia.toNat, _, _, rfl, ?_, kk.insert pk (by omega)⟩
        have e2 : n + 2 + 2 * (i + 1) = n + 2 + 2 * i + 1 + 1 := by omega
        rw [e2]
        exact C5.setKeys
    · obtain ⟨ks, y5, y6, rfl, C, kk⟩ := p
      refine ⟨_, rfl, Ks, rfl, ⟨_, SqL.of C.keys⟩, for_it (walk_list (xs := ks.map V.int)) (fun i σ H' => ∃ tick es ns y5 y6, σ = [some (.ref r), some (.ref Ks), some (.ref F), some (.ref Dn), some (.int tick), y5, y6] ∧ CrH H r Ks F Dn (n + 200 + 4 * i) ks es ns H' ∧ CrOk ks i tick es ns)
        ⟨_, [], [], _, _, rfl, C.mono (by omega), fun e h => by simp at h, Valid.nil, DownOk.nil, fun k h => by simp [heldB] at h, Nat.zero_le _, Nat.zero_le _, fun e h => by simp at h, fun e h => by simp at h, fun e h => by simp at h, by omega, by omega⟩ (fun i σ H' _ p => by obtain ⟨_, _, _, _, _, _, C, _⟩ := p; exact SqL.of C.keys) (fun i x σ H6 H7 hi p y => ?_) (fun σ H6 p => ?_)⟩
      · obtain ⟨tick, es, ns, y5, y6, rfl, C, O⟩ := p
        obtain ⟨rfl, hx⟩ := y
        have hi' : i < ks.length := by rw [List.length_map] at hi; exact hi
        have hN : ks.length ≤ 60 := by rw [kk.len]; exact eN
        have hx' := List.getElem?_eq_getElem hi'
        have ex : V.int ks[i] = x := Option.some.inj ((get_map_int hx').symm.trans hx)
        subst ex
        generalize hk : ks[i] = k at hx'
        obtain ⟨j, hj, pk⟩ := kk.at_ k (List.mem_of_getElem? hx')
        have bk := pk_bound pk (by omega)
        refine ⟨_, rfl, _, rfl, r, 5, n + 200 + 4 * i, rfl, by decide, by decide, by show _ < 1000000000; omega, C.reel, fun d H7 d0 d1 R7 o7 => ⟨_, _, rfl, rfl, ?_⟩⟩
        have C1 := C.go o7 R7
        obtain ⟨nk, hv, hdn, hsub, hall, hlen, hnl, tk1, tk2⟩ := O.down kk.nd hx' bk d0 d1 (by omega)
        have inD : ∀ e ∈ es ++ [⟨tick + d, k, true⟩], e.k ∈ ks := fun e he => by
          rcases List.mem_append.mp he with he | he
          · exact O.inks e he
          · rw [List.mem_singleton.mp he]; exact List.mem_of_getElem? hx'
        obtain ⟨as0, hF0, _⟩ := C1.found
        refine ⟨_, rfl, .inl ⟨rfl, _, SqL.of hF0⟩, _, rfl, _, rfl, (by show 3 ≤ sizeLine; decide), fun p np => ?_⟩
        obtain ⟨as, h1, h2, C2⟩ := C1.append (e := ⟨tick + d, k, true⟩) np
        have hol := O.len
        have honl := O.nl
        refine ⟨F, _, .ref p, rfl, rfl, h1, by rw [List.length_map, h2]; exact small1000 (by omega), ?_⟩
        refine ⟨_, rfl, .inl ⟨rfl, _, SqL.of C2.down⟩, _, rfl, Dn, _, .int k, rfl, rfl, C2.down, by rw [List.length_map]; exact small1000 (by omega), ?_⟩
        have emap : (ns.map V.int) ++ [V.int k] = (ns ++ [k]).map V.int := by rw [List.map_append]; rfl
        rw [emap]
        have C3 := C2.setDown (ns' := ns ++ [k])
        refine ⟨_, rfl, r, 3, n + 200 + 4 * i + 1, rfl, by decide, by decide, by show _ < 1000000000; omega, C3.reel, fun b H8 b0 b1 R8 o8 => ⟨rfl, _, rfl, ite2 (fun z => ?_) (fun z => ?_)⟩⟩
        · have C4 := C3.go o8 R8
          obtain ⟨as4, hF4, _⟩ := C4.found
          refine ⟨_, rfl, .inl ⟨rfl, _, SqL.of hF4⟩, _, rfl, _, rfl, .inl ⟨rfl, _, SqL.of C4.down⟩, _, rfl, _, rfl, Dn, _, rfl, .inl (SqL.of C4.down), r, _, n + 200 + 4 * i + 1 + 1, rfl, ?_, ?_, by show _ < 1000000000; omega, C4.reel, fun c H9 c0 c1 R9 o9 => ?_⟩
          · rw [List.length_map, List.length_append, List.length_singleton]; omega
          · have h2 : (10 : Int) ^ 40 > 1000 := by decide
            rw [List.length_map]
            omega
          · have C5 := C4.go o9 R9
            rw [List.length_map] at c1
            obtain ⟨k2, ak, mk⟩ := getI (ns := ns ++ [k]) c0 c1
            obtain ⟨j2, s1, s2, s3, s4, s5⟩ := atI_get ak
            have sj : j2 = c.toNat := by
              have := seqIndex_of c0 (n := ((ns ++ [k]).map V.int).length) (by rw [List.length_map]; exact c1)
              rw [s1] at this
              exact Option.some.inj this
            subst sj
            refine ⟨Dn, _, c, c.toNat, .int k2, rfl, rfl, C5.down, by omega, by omega, s1, s2, ?_⟩
            rw [eraseIdx_map]
            have C6 := C5.setDown (ns' := (ns ++ [k]).eraseIdx c.toNat)
            refine ⟨(by show 3 ≤ sizeLine; decide), fun p2 np2 => ?_⟩
            obtain ⟨as2, g1, g2, C7⟩ := C6.append (e := ⟨tick + d, k2, false⟩) np2
            have hk2 : heldB (es ++ [⟨tick + d, k, true⟩]) k2 = true := (hdn.mem k2).mp (List.mem_of_getElem? mk)
            obtain ⟨e2, he2, ek2⟩ := held_mem hk2
            have bk2 := (hall e2 he2).1
            rw [ek2] at bk2
            refine ⟨F, _, .ref p2, rfl, rfl, g1, by rw [List.length_map, g2]; exact small1000 (by omega), tick + d, es ++ [⟨tick + d, k, true⟩] ++ [⟨tick + d, k2, false⟩], (ns ++ [k]).eraseIdx c.toNat, _, _, rfl, ?_, ?_⟩
            · rw [show n + 200 + 4 * (i + 1) = n + 200 + 4 * i + 1 + 1 + 1 + 1 by omega]
              exact C7.mono (by omega)
            · have inD2 : ∀ e ∈ es ++ [⟨tick + d, k, true⟩] ++ [⟨tick + d, k2, false⟩], e.k ∈ ks := fun e he => by
                rcases List.mem_append.mp he with he | he
                · exact inD e he
                · rw [List.mem_singleton.mp he]
                  show k2 ∈ ks
                  rw [← ek2]
                  exact inD e2 he2
              refine ⟨inD2, hv.snoc bk2.1 hk2 (fun e he => (hall e he).2.1), hdn.up mk, fun x hx => ?_, ?_, ?_, fun e he => ?_, fun e he => ?_, fun e he => ?_, tk1, tk2⟩
              · rw [heldB_snoc] at hx
                unfold after at hx
                by_cases z2 : x = k2
                · subst z2
                  simp at hx
                · rw [if_neg (show ¬ x = (⟨tick + d, k2, false⟩ : Ev).k from z2)] at hx
                  exact hsub x hx
              · rw [List.length_append]; simp only [List.length_cons, List.length_nil]; omega
              · have := List.length_eraseIdx_le (ns ++ [k]) c.toNat; omega
              · rcases List.mem_append.mp he with he | he
                · exact (hall e he).1
                · rw [List.mem_singleton.mp he]; exact bk2
              · rcases List.mem_append.mp he with he | he
                · exact (hall e he).2.1
                · rw [List.mem_singleton.mp he]; exact Int.le_refl _
              · rcases List.mem_append.mp he with he | he
                · exact (hall e he).2.2
                · rw [List.mem_singleton.mp he]; show -(10 ^ 20) < tick + d; omega
        · refine ⟨tick + d, es ++ [⟨tick + d, k, true⟩], ns ++ [k], _, _, rfl, ?_, ?_⟩
          · exact (C3.go o8 R8).mono (by omega)
          · exact ⟨inD, hv, hdn, hsub, by omega, hnl, fun e he => (hall e he).1, fun e he => (hall e he).2.1, fun e he => (hall e he).2.2, tk1, tk2⟩
      · obtain ⟨tick, es, ns, y5, y6, rfl, C, O⟩ := p
        rw [List.length_map] at C O
        have hN : ks.length ≤ 60 := by rw [kk.len]; exact eN
        have h1 := O.len
        have h2 := O.tk
        refine ⟨_, rfl, q H6 F es C.off nF0 (C.reel.mono (by omega)) C.found ⟨⟨ks, by omega, O.inks⟩, O.valid, by omega, O.key, fun e he => ⟨O.low e he, ?_⟩⟩⟩
        have := O.last e he
        omega
end
end K06

set_option Elab.async false
set_option linter.all false
set_option maxRecDepth 100000
set_option maxHeartbeats 8000000
namespace K06
open PySem PySem.Spec PyProof.Rows L2 Gd Rm
def optV : Option Int → V
  | none => .non
  | some t => .int t
def optD : Option Int → PyData
  | none => .none
  | some t => .int t
def lensN (es : List Ev) (n : Nat) : List (Option Int) := (List.range es.length).map fun i => lenN es n i
theorem lensN_len (es : List Ev) (n : Nat) : (lensN es n).length = es.length := by unfold lensN; rw [List.length_map, List.length_range]
theorem lensN_at {es : List Ev} {n i : Nat} (h : i < es.length) : (lensN es n)[i]? = some (lenN es n i) := by
  unfold lensN
  rw [List.getElem?_map, List.getElem?_range h]
  rfl
theorem lensN_zero (es : List Ev) : lensN es 0 = List.replicate es.length none := by
  refine List.ext_getElem? fun i => ?_
  rcases Nat.lt_or_ge i es.length with q | q
  · rw [lensN_at q, List.getElem?_replicate, if_pos q]
    unfold lenN
    rw [List.getElem?_eq_getElem q]
    show some (if es[i].d = true ∧ i < 0 then _ else none) = _
    rw [if_neg (by omega)]
  · rw [List.getElem?_eq_none (by rw [lensN_len]; exact q), List.getElem?_eq_none (by rw [List.length_replicate]; exact q)]
theorem lensN_up {es : List Ev} {n d : Nat} {e x : Ev} (he : es[n]? = some e) (hd : e.d = false) (o : Open es n e.k d) (hx : es[d]? = some x) : lensN es (n + 1) = (lensN es n).set d (some (e.t - x.t)) := by
  refine List.ext_getElem? fun i => ?_
  rcases Nat.lt_or_ge i es.length with q | q
  · rw [lensN_at q, lenN_up he hd o hx, List.getElem?_set]
    by_cases z : d = i
    · subst z
      rw [if_pos rfl, if_pos rfl, if_pos (by rw [lensN_len]; exact q)]
    · rw [if_neg (fun y => z y.symm), if_neg z, lensN_at q]
  · rw [List.getElem?_eq_none (by rw [lensN_len]; exact q), List.getElem?_eq_none (by rw [List.length_set, lensN_len]; exact q)]
theorem lensN_down {es : List Ev} {n : Nat} {e : Ev} (hV : Valid es) (he : es[n]? = some e) (hd : e.d = true) : lensN es (n + 1) = lensN es n := by
  unfold lensN
  refine List.map_congr_left fun i _ => lenN_down hV he hd i
section
variable {P : Program} {w : World} {K : PySem.W.Frag} {mg : Str → Option Value} {base : Heap}
def spWhole : Sp := fun vs H Q _ => ∃ (c : Addr) (es : List Ev) (b : Bool), vs = [.ref c] ∧ Lst evV H c es ∧ Valid es ∧ es.length ≤ 400 ∧ (b = true ↔ ∀ k, heldB es k = false) ∧ ∀ H', Same H H' → Q (.bl b) H'
theorem ok_is_whole (bt : Bt mg) (a : At K mg "is_whole" s_is_whole ["record"]) (c_check_record : ClD P w K mg base 4 "check_record" spCheck [.non]) (c_held_keys : Cl P w K mg base 1 "held_keys" spHeld) : Cl P w K mg base 5 "is_whole" spWhole := by
  refine clG a sc_is_whole (fun vs H Q E h => ?_) (fun f cdv A outer s H vs Q hg hr h => ?_)
  · obtain ⟨c, es, b, rfl, _⟩ := h
    rfl
  · obtain ⟨c, es, b, rfl, hL, hV, hl, hb, q⟩ := h
    refine ⟨_, (pss_cons (ps_expr (pe_clD c_check_record hg hr (by decide) (by rfl) (pa_cons (pv 0) pa_nil)))
      (pss_one (ps_ret (pe_cmpR (op_eqD hr.units) (pe_cl c_held_keys hg hr (by decide) (by rfl) (pa_cons (pv 0) pa_nil)) (pe_lst pa_nil) (nomark _))))), ?_⟩
    refine ⟨_, rfl, c, es, rfl, hL, hV, hl, fun H1 s1 => ?_⟩
    refine ⟨_, rfl, c, es, rfl, hL.same s1, by omega, fun H2 p ns s2 np hp hs hn hm hlen => ⟨Nat.zero_le _, fun Z nZ => ?_⟩⟩
    refine ⟨_, _, .lst (SqL.of ((same_upd nZ) _ _ hp)) (dpInts ns), .lst (SqL.of upd_same) .nil, shaped_ints ns, shaped_nil, ?_⟩
    have e : PyData.eqv (.list (ns.map PyData.int)) (.list []) = b := by
      rw [eqv_nil]
      cases ns with
      | nil =>
        refine (hb.mpr fun k => ?_).symm
        cases z : heldB es k with
        | false => rfl
        | true => exact absurd ((hm k).mpr z) (by simp)
      | cons n ns =>
        cases b with
        | false => rfl
        | true =>
          have := hb.mp rfl n
          rw [(hm n).mp List.mem_cons_self] at this
          cases this
    rw [e]
    exact q _ ((s1.trans s2).trans (same_upd nZ))
def spOrder : Sp := fun vs H Q _ => ∃ (c : Addr) (es : List Ev), vs = [.ref c] ∧ Lst evV H c es ∧ Valid es ∧ es.length ≤ 400 ∧ ∀ H' p, Same H H' → H p = none → Lst stV H' p es → Q (.ref p) H'
theorem ok_order_of (bt : Bt mg) (a : At K mg "order_of" s_order_of ["record"]) (c_check_record : ClD P w K mg base 4 "check_record" spCheck [.non]) : Cl P w K mg base 5 "order_of" spOrder := by
  refine clG a sc_order_of (fun vs H Q E h => ?_) (fun f cdv A outer s H vs Q hg hr h => ?_)
  · obtain ⟨c, es, rfl, _⟩ := h
    rfl
  · obtain ⟨c, es, rfl, hL, hV, hl, q⟩ := h
    refine ⟨_, (pss_cons (ps_expr (pe_clD c_check_record hg hr (by decide) (by rfl) (pa_cons (pv 0) pa_nil)))
      (pss_one (ps_ret (pe_lc (own := [("tick", 1), ("key", 2), ("way", 3)]) (g := (gTup K 3 (gCons (gName 1) (gCons (gName 2) (gCons (gName 3) gNil))))) (by rfl) sc_order_of.nd (pi_list (pv 0)) (blkOk_by (N := n_order_of) (sc := defScope s_order_of) (by decide +kernel)) (fun _ _ _ _ _ => (pg_tup rfl (pgs_cons (pg_name (i := 1) sc_order_of.nd rfl (Or.inl rfl)) (pgs_cons (pg_name (i := 2) sc_order_of.nd rfl (Or.inl rfl)) (pgs_cons (pg_name (i := 3) sc_order_of.nd rfl (Or.inl rfl)) pgs_nil))))) (fun _ _ _ _ _ => pts_nil) (fun _ _ _ _ _ => (pe_tup (pa_cons (pv 2) (pa_cons (pv 3) pa_nil)))))))), ?_⟩
    refine ⟨_, rfl, c, es, rfl, hL, hV, hl, fun H1 s1 => ?_⟩
    obtain ⟨as, hc, hT⟩ := hL.same s1
    have hal := hT.1
    refine ⟨_, rfl, c, rfl, ⟨_, SqL.of hc⟩, fun M nM => lc_it (walk_list (xs := as.map V.ref)) (fun i H' => Grown stV H1 M (es.take i) H') (Grown.start nM) (fun i H' _ p => SqL.of (p.same _ _ hc)) (fun i x Hx H3 hi p y => ?_) (fun H3 p => ?_)⟩
    · obtain ⟨rfl, e2⟩ := y
      have hi' : i < es.length := by rw [List.length_map] at hi; omega
      obtain ⟨b, hb, hbt⟩ := hT.at_ hi'
      have e2' : x = .ref b := Option.some.inj (e2.symm.trans (get_map_ref hb))
      subst e2'
      refine ⟨b, _, rfl, SqT.of (p.same _ _ hbt), rfl, _, _, rfl, _, _, rfl, _, _, rfl, rfl, rfl, ⟨_, rfl, _, rfl, (by show 2 ≤ sizeLine; decide), fun p' np => ?_⟩⟩
      obtain ⟨acc, ha, hal', hg'⟩ := p.more (e := es[i]) nM np
      refine ⟨acc, ha, ?_, ?_⟩
      · rw [hal', List.length_take]; exact small1000 (by omega)
      · rw [List.take_add_one, List.getElem?_eq_getElem hi']
        exact hg'
    · rw [List.length_map, hal, List.take_length] at p
      exact q _ M (s1.trans p.same) (s1.free nM) p.ls
def spLens : Sp := fun vs H Q _ => ∃ (c : Addr) (es : List Ev), vs = [.ref c] ∧ Lst evV H c es ∧ Valid es ∧ es.length ≤ 400 ∧ ∀ H' p, Same H H' → H p = none → H' p = some (.lst ((lens es).map optV)) → Q (.ref p) H'
theorem ok_lengths (bt : Bt mg) (a : At K mg "lengths" s_lengths ["record"]) (c_check_record : ClD P w K mg base 4 "check_record" spCheck [.non]) : Cl P w K mg base 5 "lengths" spLens := by
  refine clG a sc_lengths (fun vs H Q E h => ?_) (fun f cdv A outer s H vs Q hg hr h => ?_)
  · obtain ⟨c, es, rfl, _⟩ := h
    rfl
  · obtain ⟨c, es, rfl, hL, hV, hl, q⟩ := h
    refine ⟨_, (pss_cons (ps_expr (pe_clD c_check_record hg hr (by decide) (by rfl) (pa_cons (pv 0) pa_nil)))
      (pss_cons (ps_set (i := 1) sc_lengths.nd rfl (Or.inl rfl) (pe_op op_rep (pe_lst (pa_cons pe_non pa_nil)) (pe_callB call_len_seq (by rfl) bt.m_len (by decide +kernel) (pa_cons (pv 0) pa_nil))))
      (pss_cons (ps_set (i := 2) sc_lengths.nd rfl (Or.inl rfl) pe_dnewK)
      (pss_cons (ps_for PassesOwn.never rfl (pi_enum (by rfl) bt.m_enumerate (pa_cons (pv 0) pa_nil)) (pg_tup rfl (pgs_cons (pg_name (i := 3) sc_lengths.nd rfl (Or.inl rfl)) (pgs_cons (pg_tup rfl (pgs_cons (pg_name (i := 4) sc_lengths.nd rfl (Or.inl rfl)) (pgs_cons (pg_name (i := 5) sc_lengths.nd rfl (Or.inl rfl)) (pgs_cons (pg_name (i := 6) sc_lengths.nd rfl (Or.inl rfl)) pgs_nil)))) pgs_nil))) (pss_one (ps_if (pt_cmpR op_eq (pv 6) pe_str (nomark _)) (pss_one (ps_dput (hu_of hr) (pv 2) (pv 5) (pv 3) rfl)) (pss_cons (ps_set (i := 7) sc_lengths.nd rfl (Or.inl rfl) (pe_dget (hu_of hr) (pv 2) (pv 5) (fun _ _ => rfl)))
      (pss_one (ps_asg (pe_op op_sub (pv 4) (pe_ix ix_tup (pe_ix ix_list (pv 0) (pv 7) (fun _ _ => rfl)) pe_int (fun _ _ => rfl))) (pg_sub (pv 1) (pv 7) set_list)))))))
      (pss_one (ps_ret (pv 1))))))), ?_⟩
    refine ⟨_, rfl, c, es, rfl, hL, hV, hl, fun H1 s1 => ?_⟩
    obtain ⟨as, hc, hT⟩ := hL.same s1
    have hal := hT.1
    refine ⟨(by show 1 ≤ sizeLine; decide), fun Z nZ => ⟨_, rfl, c, _, rfl, .inl (SqL.of ((same_upd nZ) _ _ hc)), Z, _, _, rfl, rfl, upd_same, ?_, ?_, ?_, fun F nF => ?_⟩⟩
    · rw [List.length_map, hal]; omega
    · rw [List.length_map, hal]; omega
    · rw [List.length_map, hal, Int.toNat_natCast]
      show 1 * es.length ≤ sizeLine
      rw [sizeLine_eq]; omega
    have hF0 : (List.replicate (((as.map V.ref).length : Nat) : Int).toNat [V.non]).flatten = (lensN es 0).map optV := by
      rw [List.length_map, hal, Int.toNat_natCast, lensN_zero, List.map_replicate]
      clear hV hL hl hal hT
      induction es.length with
      | zero => rfl
      | succ m ih => rw [List.replicate_succ, List.flatten_cons, ih, List.replicate_succ]; rfl
    rw [hF0]
    intro D nD
    have sZ := same_upd (o := .lst [.non]) nZ
    have sF := same_upd (o := .lst ((lensN es 0).map optV)) nF
    have sD := same_upd (o := .dK []) nD
    have nF1 : H1 F = none := sZ.free nF
    have nD1 : H1 D = none := (sZ.trans sF).free nD
    have FD : F ≠ D := ne_of_none upd_same nD
    have hc0 := ((sZ.trans sF).trans sD) _ _ hc
    refine ⟨_, rfl, c, _, rfl, SqL.of hc0, for_it (walk_enum (xs := as.map V.ref)) (fun n σ H' => Same H1 H' ∧ ∃ kvs y3 y4 y5 y6 y7, σ = [some (.ref c), some (.ref F), some (.ref D), y3, y4, y5, y6, y7] ∧ H' F = some (.lst ((lensN es n).map optV)) ∧ H' D = some (.dK kvs) ∧ kvs.length ≤ n ∧
        ∀ k, heldB (es.take n) k = true → ∃ d : Nat, valV kvs (Sum.inl k) = some (.int (d : Int)) ∧ Open es n k d)
      ⟨(sZ.trans sF).trans sD, _, _, _, _, _, _, rfl, sD _ _ upd_same, upd_same, Nat.le_refl _, fun k h => by cases h⟩ (fun _ _ H' _ p => SqL.of (p.1 _ _ hc)) (fun n x σ H2 H3 hi p y => ?_) (fun σ H2 p => ?_)⟩
    · obtain ⟨s2, kvs, y3, y4, y5, y6, y7, rfl, hF, hD, hkl, hop⟩ := p
      obtain ⟨T, u, v, rfl, nT, rfl, e1, e2⟩ := y
      have hn : n < es.length := by rw [List.length_map] at hi; omega
      obtain ⟨b, hb, hbt⟩ := hT.at_ hn
      have he : es[n]? = some es[n] := List.getElem?_eq_getElem hn
      have e2' : v = .ref b := Option.some.inj ((show (as.map V.ref)[n]? = some v from e2).symm.trans (get_map_ref hb))
      subst e2'
      have e1' : u = .int (n : Nat) := (Option.some.inj e1).symm
      subst e1'
      have sT := same_upd (o := .tup [.int (n : Nat), .ref b]) nT
      have hF3 := sT _ _ hF
      have hD3 := sT _ _ hD
      have s3 := s2.trans sT
      obtain ⟨v1, v2, _⟩ := hV n _ he
      have hsz : kvs.length < sizeLine := small1000 (by omega)
      refine ⟨T, _, rfl, SqT.of upd_same, rfl, _, _, rfl, _, _, rfl, ⟨b, _, rfl, SqT.of (s3 _ _ hbt), rfl, _, _, rfl, _, _, rfl, _, _, rfl, rfl, rfl, ?_⟩⟩
      refine ⟨_, rfl, rfl, _, rfl, ite2 (fun z => ?_) (fun z => ?_)⟩
      · rw [wayS_down] at z
        refine ⟨_, rfl, _, rfl, _, rfl, D, _, rfl, DPut.k (k := Sum.inl es[n].k) hD3 hsz, Same.off s3 nD1 off_upd, putK kvs (Sum.inl es[n].k) (.int (n : Int)), _, _, _, _, _, rfl, ?_, upd_same, ?_, fun k hk => ?_⟩
        · rw [upd_ne FD, lensN_down hV he z]; exact hF3
        · have := put_len kvs (Sum.inl es[n].k) (.int (n : Int)); omega
        · rw [valV_put]
          by_cases y : k = es[n].k
          · subst y
            rw [if_pos rfl]
            exact ⟨n, rfl, Open.new he z⟩
          · rw [if_neg (fun q => y (Sum.inl.inj q))]
            rw [heldB_take he] at hk
            unfold after at hk
            rw [if_neg y] at hk
            obtain ⟨d, h1, h2⟩ := hop k hk
            exact ⟨d, h1, h2.step he (fun q => y q.symm)⟩
      · rw [wayS_down] at z
        have hd : es[n].d = false := by
          cases q : es[n].d with
          | false => rfl
          | true => exact absurd q z
        rw [hd] at v2
        obtain ⟨d, hv, ho⟩ := hop es[n].k v2
        obtain ⟨x, hx, hxk, hxd⟩ := ho.ev
        have dl := ho.lt
        obtain ⟨bd, hbd, hbdt⟩ := hT.at_ (i := d) (by omega)
        have ex : es[d] = x := by
          rw [List.getElem?_eq_getElem (by omega)] at hx
          exact Option.some.inj hx
        rw [ex] at hbdt
        have hix : ixN ((lensN es n).map optV).length (d : Int) = some d := by
          unfold ixN
          rw [List.length_map, lensN_len, if_pos (by omega), if_pos (by omega)]
          rfl
        have dg : DGet (upd H2 T (.tup [.int (n : Nat), .ref b])) D (.int es[n].k) (some (.int (d : Int))) := hv ▸ DGet.k (k := Sum.inl es[n].k) hD3
        refine ⟨_, rfl, _, rfl, D, _, rfl, dg, ?_⟩
        refine ⟨_, rfl, _, rfl, _, rfl, c, _, (d : Int), .ref bd, rfl, rfl, SqL.of (s3 _ _ hc), atI_nat (get_map_ref hbd), bd, _, 0, .int x.t, rfl, rfl, SqT.of (s3 _ _ hbdt), atI_nat (j := 0) rfl, _, _, rfl, rfl, _, rfl, _, rfl, F, _, (d : Int), d, rfl, rfl, hF3, hix, ?_⟩
        refine ⟨Same.off s3 nF1 off_upd, kvs, _, _, _, _, _, rfl, ?_, ?_, by omega, fun k hk => ?_⟩
        · rw [upd_same, lensN_up he hd ho hx, List.map_set]
          rfl
        · rw [upd_ne FD.symm]; exact hD3
        · rw [heldB_take he] at hk
          unfold after at hk
          by_cases y : k = es[n].k
          · rw [if_pos y, hd] at hk
            cases hk
          · rw [if_neg y] at hk
            obtain ⟨d', h1, h2⟩ := hop k hk
            exact ⟨d', h1, h2.step he (fun q => y q.symm)⟩
    · obtain ⟨s2, kvs, y3, y4, y5, y6, y7, rfl, hF, hD, hkl, hop⟩ := p
      rw [List.length_map, hal] at hF
      exact ⟨_, rfl, q _ F (s1.trans s2) (s1.free nF1) hF⟩
end
end K06

set_option Elab.async false
set_option linter.all false
set_option maxRecDepth 100000
set_option maxHeartbeats 8000000
namespace K06
open PySem PySem.Spec PyProof.Rows L2 Gd Rm
structure Rp (d : PyData) : Prop where
  sh : d.showable = true
  dp : d.depth ≤ 50
  ln : d.shown.length ≤ sizeLine
theorem rp {d : PyData} {L n : Nat} (f : Fit L n d) (hL : L ≤ 16777216) (hn : n ≤ 50) : Rp d :=
  ⟨f.sh, by have := f.dp; omega, by have := f.ln; rw [sizeLine_eq]; omega⟩
structure Few (es : List Ev) : Prop where
  key : ∀ e ∈ es, 0 ≤ e.k ∧ e.k < 10 ^ 31
  tick : ∀ e ∈ es, -(10 ^ 20) < e.t ∧ e.t < 10 ^ 20
  ks : ∃ ds : List Int, ds.length < 64 ∧ ∀ e ∈ es, e.k ∈ ds
theorem Few.small {es : List Ev} (h : Few es) : Small es := fun e he => by
  obtain ⟨a, b⟩ := h.key e he
  obtain ⟨c, d⟩ := h.tick e he
  have e1 : (10 : Nat) ^ 31 < 2 ^ 200 := by decide
  omega
theorem nextT_in {k : Int} {es : List Ev} {t : Int} (h : Rm.nextT k es = some t) : ∃ e ∈ es, e.t = t := by
  unfold Rm.nextT at h
  cases q : es.find? fun e => e.k == k with
  | none => rw [q] at h; cases h
  | some e => rw [q] at h; exact ⟨e, List.mem_of_find?_eq_some q, Option.some.inj h⟩
theorem lenN_bound {es : List Ev} (hF : Few es) {n i : Nat} {v : Int} (h : lenN es n i = some v) : v.natAbs < 2 ^ 200 := by
  unfold lenN at h
  cases q : es[i]? with
  | none => rw [q] at h; cases h
  | some x =>
    rw [q] at h
    have h : (if x.d = true ∧ i < n then (Rm.nextT x.k ((es.take n).drop (i + 1))).map (· - x.t) else none) = some v := h
    by_cases z : x.d = true ∧ i < n
    · rw [if_pos z] at h
      cases y : Rm.nextT x.k ((es.take n).drop (i + 1)) with
      | none => rw [y] at h; cases h
      | some t =>
        rw [y] at h
        have h : t - x.t = v := Option.some.inj h
        obtain ⟨e, he, ht⟩ := nextT_in y
        have a := hF.tick e (List.mem_of_mem_take (List.mem_of_mem_drop he))
        have b := hF.tick x (List.mem_of_getElem? q)
        have e1 : (2 : Nat) ^ 200 > 10 ^ 31 := by decide
        omega
    · rw [if_neg z] at h; cases h
theorem fit_opts {xs : List (Option Int)} (h : ∀ v, some v ∈ xs → v.natAbs < 2 ^ 200) (hl : xs.length ≤ 1000) : Fit 1100000 2 (.list (xs.map optD)) := by
  refine Fit.mono (fit_list (L := 210) (n := 0) fun d hd => ?_) (by rw [List.length_map]; omega) (by omega)
  obtain ⟨x, hx, rfl⟩ := List.mem_map.mp hd
  cases x with
  | none => exact fit_none
  | some v => exact fit_int (h v hx)
theorem dpOpts {K : PySem.W.Frag} {H : Hp} : ∀ xs : List (Option Int), DpAll K H (xs.map optV) (xs.map optD)
  | [] => .nil
  | none :: xs => .cons .non (dpOpts xs)
  | some v :: xs => .cons (.int v) (dpOpts xs)
theorem fit_three {a b c : PyData} (ha : Fit 210 0 a) (hb : Fit 1100000 2 b) (hc : Fit 1100000 2 c) : Fit 3400000 3 (.list [a, b, c]) := by
  refine Fit.mono (fit_list (L := 1100000) (n := 2) fun d hd => ?_) (by show 3 * 1100002 + 3 ≤ _; omega) (Nat.le_refl _)
  simp only [List.mem_cons, List.mem_nil_iff, or_false] at hd
  rcases hd with rfl | rfl | rfl
  · exact ha.mono (by decide) (by decide)
  · exact hb
  · exact hc
open Classical in
/-- what is due once the keys Ks are done, and m pairs of the numbers o -/
noncomputable def dueN (es : List Ev) (Ks : List Int) (o : List Nat) (m : Nat) : List (Option Int) := (List.range es.length).map fun i =>
  if (∃ e, es[i]? = some e ∧ e.k ∈ Ks) ∨ (∃ m', m' < m ∧ o[2 * m']? = some i) then lenN es es.length i else none
open Classical in
theorem dueN_at {es : List Ev} {Ks : List Int} {o : List Nat} {m i : Nat} (h : i < es.length) : (dueN es Ks o m)[i]? = some (if (∃ e, es[i]? = some e ∧ e.k ∈ Ks) ∨ (∃ m', m' < m ∧ o[2 * m']? = some i) then lenN es es.length i else none) := by
  unfold dueN
  rw [List.getElem?_map, List.getElem?_range h]
  rfl
theorem dueN_len (es : List Ev) (Ks : List Int) (o : List Nat) (m : Nat) : (dueN es Ks o m).length = es.length := by unfold dueN; rw [List.length_map, List.length_range]
theorem ext_due {es : List Ev} {xs ys : List (Option Int)} (hx : xs.length = es.length) (hy : ys.length = es.length) (h : ∀ i, i < es.length → xs[i]? = ys[i]?) : xs = ys := by
  refine List.ext_getElem? fun i => ?_
  rcases Nat.lt_or_ge i es.length with q | q
  · exact h i q
  · rw [List.getElem?_eq_none (by omega), List.getElem?_eq_none (by omega)]
theorem dueN_pair {es : List Ev} {Ks : List Int} {o : List Nat} {m i : Nat} {v : Int} (hi : i < es.length) (ho : o[2 * m]? = some i) (hv : lenN es es.length i = some v) : dueN es Ks o (m + 1) = (dueN es Ks o m).set i (some v) := by
  refine ext_due (es := es) (dueN_len _ _ _ _) (by rw [List.length_set, dueN_len]) fun j hj => ?_
  rw [dueN_at hj, List.getElem?_set]
  by_cases z : i = j
  · subst z
    rw [if_pos rfl, if_pos (.inr ⟨m, Nat.lt_succ_self m, ho⟩), if_pos (by rw [dueN_len]; exact hi), hv]
  · rw [if_neg z, dueN_at hj]
    congr 1
    by_cases y : (∃ e, es[j]? = some e ∧ e.k ∈ Ks) ∨ (∃ m', m' < m ∧ o[2 * m']? = some j)
    · rw [if_pos y, if_pos (y.imp id fun ⟨m', a, b⟩ => ⟨m', by omega, b⟩)]
    · rw [if_neg y, if_neg]
      rintro (a | ⟨m', a, b⟩)
      · exact y (.inl a)
      · by_cases u : m' = m
        · subst u
          rw [ho] at b
          exact z (Option.some.inj b)
        · exact y (.inr ⟨m', by omega, b⟩)
theorem dueN_done {es : List Ev} {Ks : List Int} {k : Int} {o : List Nat} (O : OwnOk es k es.length o) : dueN es Ks o (o.length / 2) = dueN es (Ks ++ [k]) [] 0 := by
  refine ext_due (es := es) (dueN_len _ _ _ _) (dueN_len _ _ _ _) fun j hj => ?_
  rw [dueN_at hj, dueN_at hj]
  congr 1
  have he : es[j]? = some es[j] := List.getElem?_eq_getElem hj
  have r : ((∃ e, es[j]? = some e ∧ e.k ∈ Ks ++ [k]) ∨ (∃ m', m' < 0 ∧ ([] : List Nat)[2 * m']? = some j)) ↔ (es[j].k ∈ Ks ∨ es[j].k = k) := by
    constructor
    · rintro (⟨e, a, b⟩ | ⟨m', a, _⟩)
      · rw [he] at a
        have := Option.some.inj a
        subst this
        rcases List.mem_append.mp b with q | q
        · exact .inl q
        · exact .inr (List.mem_singleton.mp q)
      · omega
    · intro q
      refine .inl ⟨_, he, ?_⟩
      rcases q with q | q
      · exact List.mem_append_left _ q
      · exact List.mem_append_right _ (List.mem_singleton.mpr q)
  by_cases z : es[j].k = k
  · rw [if_pos (r.mpr (.inr z))]
    obtain ⟨t, ht⟩ := List.getElem?_of_mem ((O.mem j).mpr ⟨hj, _, he, z⟩)
    have tl := (List.getElem?_eq_some_iff.mp ht).1
    by_cases y : (∃ e, es[j]? = some e ∧ e.k ∈ Ks) ∨ (∃ m', m' < o.length / 2 ∧ o[2 * m']? = some j)
    · rw [if_pos y]
    · rw [if_neg y]
      obtain ⟨m, hm | hm⟩ : ∃ m, t = 2 * m ∨ t = 2 * m + 1 := ⟨t / 2, by omega⟩
      · subst hm
        rcases Nat.lt_or_ge m (o.length / 2) with q | q
        · exact absurd (.inr ⟨m, q, ht⟩) y
        · exact ((O.last m j (by omega) ht).len0).symm
      · subst hm
        exact (O.up m j ht).symm
  · have no : ∀ m', ¬ o[2 * m']? = some j := fun m' q => by
      obtain ⟨_, e, a, b⟩ := (O.mem j).mp (List.mem_of_getElem? q)
      rw [he] at a
      have := Option.some.inj a
      subst this
      exact z b
    by_cases y : es[j].k ∈ Ks
    · rw [if_pos (.inl ⟨_, he, y⟩), if_pos (r.mpr (.inl y))]
    · rw [if_neg, if_neg]
      · rw [r]
        rintro (q | q)
        · exact y q
        · exact z q
      · rintro (⟨e, a, b⟩ | ⟨m', _, b⟩)
        · rw [he] at a
          have := Option.some.inj a
          subst this
          exact y b
        · exact no m' b
theorem dueN_o {es : List Ev} {Ks : List Int} {o : List Nat} : dueN es Ks o 0 = dueN es Ks [] 0 := by
  refine ext_due (es := es) (dueN_len _ _ _ _) (dueN_len _ _ _ _) fun j hj => ?_
  rw [dueN_at hj, dueN_at hj]
  congr 1
  have e : (∃ m', m' < 0 ∧ o[2 * m']? = some j) ↔ (∃ m', m' < 0 ∧ ([] : List Nat)[2 * m']? = some j) := ⟨fun ⟨_, a, _⟩ => absurd a (Nat.not_lt_zero _), fun ⟨_, a, _⟩ => absurd a (Nat.not_lt_zero _)⟩
  simp only [e]
theorem dueN_start (es : List Ev) : dueN es [] [] 0 = List.replicate es.length none := by
  refine ext_due (es := es) (dueN_len _ _ _ _) List.length_replicate fun j hj => ?_
  rw [dueN_at hj, List.getElem?_replicate, if_pos hj, if_neg]
  rintro (⟨e, _, b⟩ | ⟨m', a, _⟩)
  · simp at b
  · omega
theorem dueN_all {es : List Ev} {Ks : List Int} (h : ∀ e ∈ es, e.k ∈ Ks) : dueN es Ks [] 0 = lens es := by
  refine ext_due (es := es) (dueN_len _ _ _ _) (by unfold lens; rw [List.length_map, List.length_range]) fun j hj => ?_
  rw [dueN_at hj, if_pos (.inl ⟨_, List.getElem?_eq_getElem hj, h _ (List.getElem_mem hj)⟩)]
  unfold lens
  rw [List.getElem?_map, List.getElem?_range hj]
  rfl
end K06

set_option Elab.async false
set_option linter.all false
set_option maxRecDepth 100000
set_option maxHeartbeats 8000000
namespace K06
open PySem PySem.Spec PyProof.Rows L2 Gd Rm
abbrev natV (i : Nat) : V := .int (i : Int)
section
variable {P : Program} {w : World} {K : PySem.W.Frag} {mg : Str → Option Value} {base : Heap}
def spRight : Sp := fun vs H Q _ => ∃ (c : Addr) (es : List Ev), vs = [.ref c] ∧ Lst evV H c es ∧ Valid es ∧ es.length ≤ 200 ∧ Few es ∧ ∀ (H' : Hp), Same H H' → Q (.bl true) H'
theorem ok__law_right (bt : Bt mg) (a : At K mg "_law_right" s__law_right ["_law_record_here"]) (c_is_whole : Cl P w K mg base 5 "is_whole" spWhole) (c_order_of : Cl P w K mg base 5 "order_of" spOrder) (c_lengths : Cl P w K mg base 5 "lengths" spLens) : Cl P w K mg base 6 "_law_right" spRight := by
  refine clG a sc__law_right (fun vs H Q E h => ?_) (fun f cdv A outer s H vs Q hg hr h => ?_)
  · obtain ⟨c, es, rfl, _⟩ := h
    rfl
  · obtain ⟨c, es, rfl, hL, hV, hl, hF, q⟩ := h
    have R1 : Rp (recD es) := rp (fit_rec hF.small (by omega)) (by decide) (by decide)
    have R2 : ∀ b : Bool, Rp (.list [.bool b, ordD es, .list ((lens es).map optD)]) := fun b => rp (fit_three (fit_bool b) (fit_ord hF.small (by omega)) (fit_opts (fun v hv => by
      unfold lens at hv
      obtain ⟨i, _, e⟩ := List.mem_map.mp hv
      exact lenN_bound hF e) (by unfold lens; rw [List.length_map, List.length_range]; omega))) (by decide) (by decide)
    refine ⟨_, (pss_cons (ps_par3 (i := 1) (j := 2) (l := 3) rfl sc__law_right.nd rfl rfl rfl (by decide) (by decide) (by decide) rfl rfl rfl (pa_cons (pe_callB (call_rep hg hr) (by rfl) bt.m_repr (by decide +kernel) (pa_cons (pv 0) pa_nil)) (pa_cons (pe_op op_rep (pe_lst (pa_cons pe_non pa_nil)) (pe_callB call_len_seq (by rfl) bt.m_len (by decide +kernel) (pa_cons (pv 0) pa_nil))) (pa_cons pe_bl pa_nil))) (by rfl))
      (pss_cons (ps_for PassesOwn.never rfl (pi_list (pe_callB (cr_sortedSet rfl) (by rfl) bt.m_sorted (by decide +kernel) (pa_cons (pe_callTy (cr_setL rfl) (by rfl) bt.m_set (by decide +kernel) (pa_cons (pe_lc (own := [("_law_event", 12)]) (g := (gName 12)) (by rfl) sc__law_right.nd (pi_list (pv 0)) (blkOk_by (N := n__law_right) (sc := defScope s__law_right) (by decide +kernel)) (fun _ _ _ _ _ => (pg_name (i := 12) sc__law_right.nd rfl (Or.inl rfl))) (fun _ _ _ _ _ => pts_nil) (fun _ _ _ _ _ => (pe_ix (r := rIxT K) ix_tup (pv 12) pe_int (fun _ _ => rfl)))) pa_nil)) pa_nil))) (pg_name (i := 4) sc__law_right.nd rfl (Or.inr rfl)) (pss_cons (ps_setLc (i := 5) (own := [("_law_at", 13), ("_law_event", 12)]) (g := (gTup K 2 (gCons (gName 13) (gCons (gName 12) gNil)))) (by rfl) sc__law_right.nd rfl rfl (sw_true rfl rfl rfl (by decide +kernel)) (pi_enum (by rfl) bt.m_enumerate (pa_cons (pv 0) pa_nil)) (blkOk_by (N := n__law_right) (sc := defScope s__law_right) (by decide +kernel)) (fun _ _ _ _ _ => (pg_tup rfl (pgs_cons (pg_name (i := 13) sc__law_right.nd rfl (Or.inl rfl)) (pgs_cons (pg_name (i := 12) sc__law_right.nd rfl (Or.inl rfl)) pgs_nil)))) (fun _ _ _ _ _ => (pts_one (pt_cmpR op_eq (pe_ix (r := rIxT K) ix_tup (pv 12) pe_int (fun _ _ => rfl)) (pv 4) (nomark _)))) (fun _ _ _ _ _ => (pv 13)))
      (pss_cons (ps_for PassesOwn.never rfl (pi_zip (by rfl) bt.m_zip (pa_cons (pe_slk (pv 5) po_none po_none (po_some pe_int)) (pa_cons (pe_slk (pv 5) (po_some pe_int) po_none (po_some pe_int)) pa_nil))) (pg_tup rfl (pgs_cons (pg_name (i := 6) sc__law_right.nd rfl (Or.inl rfl)) (pgs_cons (pg_name (i := 7) sc__law_right.nd rfl (Or.inl rfl)) pgs_nil))) (pss_one (ps_asg (pe_op op_sub (pe_ix ix_tup (pe_ix ix_list (pv 0) (pv 7) (fun _ _ => rfl)) pe_int (fun _ _ => rfl)) (pe_ix ix_tup (pe_ix ix_list (pv 0) (pv 6) (fun _ _ => rfl)) pe_int (fun _ _ => rfl))) (pg_sub (pv 2) (pv 6) set_list))))
      (pss_one (ps_set (i := 3) sc__law_right.nd rfl (Or.inl rfl) (pe_or (pv 3) (pe_one (pe_cmpR op_eq (pe_op op_mod (pe_callB call_len_seq (by rfl) bt.m_len (by decide +kernel) (pa_cons (pv 5) pa_nil)) pe_int) pe_int (nomark _)))))))))
      (pss_cons (ps_setLc (i := 8) (own := [("_law_event", 12)]) (g := (gName 12)) (by rfl) sc__law_right.nd rfl rfl (sw_true rfl rfl rfl (by decide +kernel)) (pi_list (pv 0)) (blkOk_by (N := n__law_right) (sc := defScope s__law_right) (by decide +kernel)) (fun _ _ _ _ _ => (pg_name (i := 12) sc__law_right.nd rfl (Or.inl rfl))) (fun _ _ _ _ _ => pts_nil) (fun _ _ _ _ _ => (pe_slice (r := rSlT K) sl_tup (pv 12) (po_some pe_int) po_none)))
      (pss_cons (ps_for PassesOwn.never rfl (pi_range1 (by rfl) bt.m_range (pa_cons pe_int pa_nil)) (pg_name (i := 9) sc__law_right.nd rfl (Or.inl rfl)) (pss_cons (ps_par (i := 10) (j := 11) rfl sc__law_right.nd rfl rfl (by decide) rfl rfl (pa_cons (pe_cl c_order_of hg hr (by decide) (by rfl) (pa_cons (pv 0) pa_nil)) (pa_cons (pe_cl c_lengths hg hr (by decide) (by rfl) (pa_cons (pv 0) pa_nil)) pa_nil)) (by rfl))
      (pss_cons (ps_if (PW.pt (pw_or (pt_cmpR op_ne (pe_callB (call_rep hg hr) (by rfl) bt.m_repr (by decide +kernel) (pa_cons (pe_lst (pa_cons (pe_cl c_is_whole hg hr (by decide) (by rfl) (pa_cons (pv 0) pa_nil)) (pa_cons (pv 10) (pa_cons (pv 11) pa_nil)))) pa_nil)) (pe_callB (call_rep hg hr) (by rfl) bt.m_repr (by decide +kernel) (pa_cons (pe_lst (pa_cons (pe_not (pv 3)) (pa_cons (pv 8) (pa_cons (pv 2) pa_nil)))) pa_nil)) (nomark _)) (pw_or1 (pt_cmpR op_ne (pe_callB (call_rep hg hr) (by rfl) bt.m_repr (by decide +kernel) (pa_cons (pv 0) pa_nil)) (pv 1) (nomark _))))) (pss_one (ps_ret pe_bl)) pss_nil)
      (pss_cons (ps_expr (pe_bm PySem.F.plainAttrs_list PySem.F.slot_list_append PySem.F.type_list_append mt_append (pv 10) (pa_cons pe_non pa_nil)))
      (pss_cons (ps_expr (pe_bm0 PySem.F.plainAttrs_list PySem.F.slot_list_reverse PySem.F.type_list_reverse mt_reverse (pv 11)))
      (pss_one (ps_expr (pe_bm PySem.F.plainAttrs_list PySem.F.slot_list_append PySem.F.type_list_append mt_append (pv 11) (pa_cons pe_non pa_nil)))))))))
      (pss_one (ps_ret pe_bl)))))), ?_⟩
    obtain ⟨as, hc, hT⟩ := id hL
    have hal := hT.1
    have hcl : (as.map V.ref).length = es.length := by rw [List.length_map]; exact hal
    refine ⟨_, rfl, c, _, rfl, hL.dp, R1.sh, R1.dp, R1.ln, (by show 1 ≤ sizeLine; decide), fun Z nZ => ⟨_, rfl, c, _, rfl, .inl (SqL.of ((same_upd nZ) _ _ hc)), Z, _, _, rfl, rfl, upd_same, ?_, ?_, ?_, fun D nD => ⟨_, _, _, rfl, ?_⟩⟩⟩
    · rw [hcl]; omega
    · rw [hcl]; omega
    · rw [hcl, Int.toNat_natCast]
      show 1 * es.length ≤ sizeLine
      rw [sizeLine_eq]; omega
    have hF0 : (List.replicate (((as.map V.ref).length : Nat) : Int).toNat [V.non]).flatten = (dueN es [] [] 0).map optV := by
      rw [hcl, Int.toNat_natCast, dueN_start, List.map_replicate]
      clear hV hL hl hal hT R2 R1 hF hcl
      induction es.length with
      | zero => rfl
      | succ m ih => rw [List.replicate_succ, List.flatten_cons, ih, List.replicate_succ]; rfl
    rw [hF0]
    have sD := (same_upd (o := .lst [.non]) nZ).trans (same_upd (o := .lst ((dueN es [] [] 0).map optV)) nD)
    have nD0 : H D = none := (same_upd (o := .lst [.non]) nZ).free nD
    have hD0 : upd (upd H Z (.lst [.non])) D (.lst ((dueN es [] [] 0).map optV)) D = some (.lst ((dueN es [] [] 0).map optV)) := upd_same
    generalize upd (upd H Z (.lst [.non])) D (.lst ((dueN es [] [] 0).map optV)) = H1 at sD hD0
    have hc1 := sD _ _ hc
    have hT1 := hT.same sD
    refine ⟨_, rfl, c, rfl, ⟨_, SqL.of hc1⟩, fun M nM => lc_it (walk_list (xs := as.map V.ref)) (fun i H' => H' = upd H1 M (.lst (((es.take i).map (·.k)).map V.int))) rfl (fun i H' _ p => by subst p; exact SqL.of ((same_upd nM) _ _ hc1)) (fun i x H2 H3 hi p y => ?_) (fun H2 p => ?_)⟩
    · obtain ⟨rfl, e2⟩ := y
      subst p
      have hi' : i < es.length := by omega
      obtain ⟨b, hb, hbt⟩ := hT1.at_ hi'
      have e2' : x = .ref b := Option.some.inj (e2.symm.trans (get_map_ref hb))
      subst e2'
      refine ⟨rfl, ⟨_, rfl, b, _, 1, .int es[i].k, rfl, rfl, SqT.of ((same_upd nM) _ _ hbt), atI_nat (j := 1) rfl, _, upd_same, ?_, ?_⟩⟩
      · rw [List.length_map, List.length_map, List.length_take]; exact small1000 (by omega)
      · rw [upd_upd, List.take_add_one, List.getElem?_eq_getElem hi', List.map_append, List.map_append]; rfl
    · rw [hcl, List.take_length] at p
      have sM : Same H1 H2 := by subst p; exact same_upd nM
      have hM : H2 M = some (.lst ((es.map (·.k)).map V.int)) := by subst p; exact upd_same
      clear p
      refine ⟨M, es.map (·.k), rfl, SqL.of hM, by rw [List.length_map]; omega, fun S cc nS few => ?_⟩
      obtain ⟨ds, dl, hds⟩ := hF.ks
      have ccl := few ds fun k hk => by
        obtain ⟨e, he, rfl⟩ := List.mem_map.mp hk
        exact hds e he
      refine ⟨S, _, cc, rfl, upd_same, by omega, fun ns L0 hs hm hnl np => ?_⟩
      have hns : ∀ k, k ∈ ns ↔ ∃ e ∈ es, e.k = k := fun k => by
        rw [hm k]
        simp
      have sS := same_upd (o := SetO w S (fun j => decide (j ∈ es.map (·.k))) cc) nS
      have sp := same_upd (o := .lst (ns.map V.int)) np
      have s2 := ((sD.trans sM).trans sS).trans sp
      have pD : L0 ≠ D := (ne_of_none ((sM.trans sS) _ _ hD0) np).symm
      refine ⟨L0, rfl, ⟨_, SqL.of upd_same⟩, for_it (walk_list (xs := ns.map V.int)) (fun i σ H' => Same H H' ∧ H' L0 = some (.lst (ns.map V.int)) ∧ H' D = some (.lst ((dueN es (ns.take i) [] 0).map optV)) ∧
          ∃ y4 y5 y6 y7 y8 y9 y10 y11 y12 y13, σ = [some (.ref c), some (.str (recD es).shown), some (.ref D), some (.bl ((ns.take i).any (heldB es))), y4, y5, y6, y7, y8, y9, y10, y11, y12, y13])
        ⟨s2, upd_same, ((sM.trans sS).trans sp) _ _ hD0, _, _, _, _, _, _, _, _, _, _, rfl⟩ (fun _ _ H' _ p => SqL.of p.2.1) (fun i x σ Hx H3 hi p y => ?_) (fun σ H3 p => ?_)⟩
      · obtain ⟨s3, hp3, hD3, y4, y5, y6, y7, y8, y9, y10, y11, y12, y13, rfl⟩ := p
        obtain ⟨rfl, hx⟩ := y
        have hi' : i < ns.length := by rw [List.length_map] at hi; exact hi
        have hx' := List.getElem?_eq_getElem hi'
        have ex : V.int ns[i] = x := Option.some.inj ((get_map_int hx').symm.trans hx)
        subst ex
        generalize hk : ns[i] = k at hx'
        have tk : ns.take (i + 1) = ns.take i ++ [k] := by rw [List.take_add_one, hx']; rfl
        have O := own_ok hV k es.length (Nat.le_refl _)
        have hc3 := s3 _ _ hc
        refine ⟨_, rfl, c, _, rfl, SqL.of hc3, fun Ow nO => lc_it (walk_enum (xs := as.map V.ref)) (fun n H' => Same H3 H' ∧ H' Ow = some (.lst ((ownN es k n).map natV)) ∧ (ownN es k n).length ≤ n) ⟨same_upd nO, upd_same, Nat.le_refl _⟩ (fun n H' _ p => SqL.of (p.1 _ _ hc3)) (fun n x H4 H5 hn p y => ?_) (fun H4 p => ?_)⟩
        · obtain ⟨s4, hO4, ol⟩ := p
          obtain ⟨T, u, v, rfl, nT, rfl, e1, e2⟩ := y
          have hn' : n < es.length := by omega
          obtain ⟨b, hb, hbt⟩ := hT.at_ hn'
          have he : es[n]? = some es[n] := List.getElem?_eq_getElem hn'
          have e2' : v = .ref b := Option.some.inj ((show (as.map V.ref)[n]? = some v from e2).symm.trans (get_map_ref hb))
          subst e2'
          have e1' : u = .int (n : Nat) := (Option.some.inj e1).symm
          subst e1'
          have sT := same_upd (o := .tup [.int (n : Nat), .ref b]) nT
          have hb5 := sT _ _ (s4 _ _ (s3 _ _ hbt))
          have os := ownN_succ (k := k) he
          refine ⟨T, _, rfl, SqT.of upd_same, rfl, _, _, rfl, _, _, rfl, rfl, rfl, ?_⟩
          refine ⟨_, rfl, b, _, 1, .int es[n].k, rfl, rfl, SqT.of hb5, atI_nat (j := 1) rfl, _, rfl, rfl, _, rfl, ite2 (fun z => ?_) (fun z => ?_)⟩
          · have z' : es[n].k = k := V.int.inj (of_decide_eq_true z)
            rw [if_pos z'] at os
            refine ⟨_, rfl, _, sT _ _ hO4, by rw [List.length_map]; exact small1000 (by omega), ?_, ?_, ?_⟩
            · exact Same.off (s4.trans sT) nO off_upd
            · rw [upd_same, os, List.map_append]; rfl
            · rw [os, List.length_append]; show _ + 1 ≤ _; omega
          · have z' : ¬ es[n].k = k := fun q => z (by rw [q]; exact decide_eq_true rfl)
            rw [if_neg z'] at os
            rw [os]
            exact ⟨s4.trans sT, sT _ _ hO4, by omega⟩
        · rw [hcl] at p
          obtain ⟨s4, hO4, ol⟩ := p
          generalize ho : ownN es k es.length = o at O hO4 ol
          have hp4 := s4 _ _ hp3
          have hD4 := s4 _ _ hD3
          have s34 := s3.trans s4
          obtain ⟨ev1, ev2⟩ := even_at (o.map natV)
          obtain ⟨od1, od2⟩ := odd_at (o.map natV)
          rw [List.length_map] at ev1 ev2 od1 od2
          refine ⟨_, rfl, 2, rfl, Ow, _, 2, rfl, rfl, by decide, SqL.of hO4, by rw [ev1, List.length_map]; omega, fun E1 nE => ?_⟩
          have sE := same_upd (o := .lst (stepV (o.map natV) none none 2)) nE
          refine ⟨_, rfl, 1, rfl, 2, rfl, Ow, _, 2, rfl, rfl, by decide, SqL.of (sE _ _ hO4), by rw [od1, List.length_map]; omega, fun G1 nG => ?_⟩
          have sG := same_upd (o := .lst (stepV (o.map natV) (some 1) none 2)) nG
          have hE5 := sG _ _ (upd_same (H := H4) (a := E1) (o := .lst (stepV (o.map natV) none none 2)))
          have ED : E1 ≠ D := (ne_of_none hD4 nE).symm
          have GD : G1 ≠ D := (ne_of_none (sE _ _ hD4) nG).symm
          have OD : Ow ≠ D := (ne_of_none hD3 nO).symm
          refine ⟨E1, G1, _, _, rfl, SqL.of hE5, SqL.of upd_same, for_it (walk_zip (n := o.length / 2) (xs := stepV (o.map natV) none none 2) (ys := stepV (o.map natV) (some 1) none 2) (by rw [ev1, od1]; omega)) (fun m σ H' => Same H H' ∧ H' L0 = some (.lst (ns.map V.int)) ∧ H' Ow = some (.lst (o.map natV)) ∧ H' E1 = some (.lst (stepV (o.map natV) none none 2)) ∧ H' G1 = some (.lst (stepV (o.map natV) (some 1) none 2)) ∧
              H' D = some (.lst ((dueN es (ns.take i) o m).map optV)) ∧ ∃ y6 y7, σ = [some (.ref c), some (.str (recD es).shown), some (.ref D), some (.bl ((ns.take i).any (heldB es))), some (.int k), some (.ref Ow), y6, y7, y8, y9, y10, y11, y12, y13])
            ⟨s34.trans (sE.trans sG), (sE.trans sG) _ _ hp4, (sE.trans sG) _ _ hO4, hE5, upd_same, by rw [dueN_o]; exact (sE.trans sG) _ _ hD4, _, _, rfl⟩ (fun m σ H' _ p => ⟨SqL.of p.2.2.2.1, SqL.of p.2.2.2.2.1⟩) (fun m x σ H6 H7 hm6 p y => ?_) (fun σ H6 p => ?_)⟩
          · obtain ⟨s6, p6, O6, E6, G6, D6, y6, y7, rfl⟩ := p
            obtain ⟨T, u, v, rfl, nT, rfl, e1, e2⟩ := y
            have e1 : (stepV (o.map natV) none none 2)[m]? = some u := e1
            have e2 : (stepV (o.map natV) (some 1) none 2)[m]? = some v := e2
            rw [ev2 m (by omega), List.getElem?_map] at e1
            rw [od2 m (by omega), List.getElem?_map] at e2
            have l1 : 2 * m < o.length := by omega
            have l2 : 2 * m + 1 < o.length := by omega
            have g1 : o[2 * m]? = some o[2 * m] := List.getElem?_eq_getElem l1
            have g2 : o[2 * m + 1]? = some o[2 * m + 1] := List.getElem?_eq_getElem l2
            rw [g1] at e1
            rw [g2] at e2
            generalize o[2 * m] = i1 at g1 e1
            generalize o[2 * m + 1] = i2 at g2 e2
            have e1 : natV i1 = u := Option.some.inj e1
            have e2 : natV i2 = v := Option.some.inj e2
            subst e1 e2
            obtain ⟨xe, ye, hxe, hye, hle⟩ := O.pair m i1 i2 g1 g2
            obtain ⟨q1, q1'⟩ := List.getElem?_eq_some_iff.mp hxe
            obtain ⟨q2, q2'⟩ := List.getElem?_eq_some_iff.mp hye
            obtain ⟨b1, hb1, hbt1⟩ := hT.at_ q1
            obtain ⟨b2, hb2, hbt2⟩ := hT.at_ q2
            rw [q1'] at hbt1
            rw [q2'] at hbt2
            have sT := same_upd (o := .tup [natV i1, natV i2]) nT
            have s7 := s6.trans sT
            have hix : ixN ((dueN es (ns.take i) o m).map optV).length (i1 : Int) = some i1 := by
              unfold ixN
              rw [List.length_map, dueN_len, if_pos (by omega), if_pos (by omega)]
              rfl
            refine ⟨T, _, rfl, SqT.of upd_same, rfl, _, _, rfl, _, _, rfl, rfl, ?_⟩
            refine ⟨_, rfl, _, rfl, c, _, (i2 : Int), .ref b2, rfl, rfl, SqL.of (s7 _ _ hc), atI_nat (get_map_ref hb2), b2, _, 0, .int ye.t, rfl, rfl, SqT.of (s7 _ _ hbt2), atI_nat (j := 0) rfl,
              _, rfl, _, rfl, c, _, (i1 : Int), .ref b1, rfl, rfl, SqL.of (s7 _ _ hc), atI_nat (get_map_ref hb1), b1, _, 0, .int xe.t, rfl, rfl, SqT.of (s7 _ _ hbt1), atI_nat (j := 0) rfl, _, _, rfl, rfl, _, rfl, _, rfl, D, _, (i1 : Int), i1, rfl, rfl, sT _ _ D6, hix, ?_⟩
            refine ⟨Same.off s7 nD0 off_upd, by rw [upd_ne pD]; exact sT _ _ p6, by rw [upd_ne OD]; exact sT _ _ O6, by rw [upd_ne ED]; exact sT _ _ E6, by rw [upd_ne GD]; exact sT _ _ G6, ?_, _, _, rfl⟩
            rw [upd_same, dueN_pair q1 g1 hle, List.map_set]
            rfl
          · obtain ⟨s6, p6, O6, E6, G6, D6, y6, y7, rfl⟩ := p
            rw [dueN_done O] at D6
            have hb : ((ns.take (i + 1)).any (heldB es)) = ((ns.take i).any (heldB es) || heldB es k) := by
              rw [tk, List.any_append]
              simp
            have odd : (decide (V.int ((o.length : Int) % 2) = V.int 1)) = heldB es k := by
              have q1 := O.odd
              rw [List.take_length] at q1
              cases hh : heldB es k with
              | true =>
                have := q1.mpr hh
                exact decide_eq_true (congrArg V.int (by omega))
              | false =>
                rw [hh] at q1
                refine decide_eq_false fun y => ?_
                have := V.int.inj y
                have := q1.mp (by omega)
                cases this
            refine ⟨_, rfl, (ns.take i).any (heldB es), rfl, ?_⟩
            have fin : ∀ b : Bool, b = (ns.take (i + 1)).any (heldB es) → Same H H6 ∧ H6 L0 = some (.lst (ns.map V.int)) ∧ H6 D = some (.lst ((dueN es (ns.take (i + 1)) [] 0).map optV)) ∧
                ∃ z4 z5 z6 z7 z8 z9 z10 z11 z12 z13, [some (V.ref c), some (.str (recD es).shown), some (.ref D), some (.bl b), some (.int k), some (.ref Ow), y6, y7, y8, y9, y10, y11, y12, y13] = [some (V.ref c), some (.str (recD es).shown), some (.ref D), some (.bl ((ns.take (i + 1)).any (heldB es))), z4, z5, z6, z7, z8, z9, z10, z11, z12, z13] := fun b e => by
              subst e
              exact ⟨s6, p6, by rw [tk]; exact D6, _, _, _, _, _, _, _, _, _, _, rfl⟩
            cases hq : (ns.take i).any (heldB es) with
            | true => exact iteT (fin true (by rw [hb, hq]; rfl))
            | false =>
              refine iteF ⟨_, rfl, Ow, _, rfl, .inl (SqL.of O6), _, _, rfl, rfl, (show (0 : Int) < 2 by decide), rfl, ?_⟩
              rw [List.length_map]
              refine (show _ from ?_)
              have := fin (decide (V.int ((o.length : Int) % 2) = V.int 1)) (by rw [odd, hb, hq]; rfl)
              exact this
      · obtain ⟨s3, _, hD3, y4, y5, y6, y7, y8, y9, y10, y11, y12, y13, rfl⟩ := p
        rw [List.length_map, List.take_length, dueN_all (fun e he => (hns e.k).mpr ⟨e, he, rfl⟩)] at hD3
        rw [List.length_map, List.take_length]
        have hb : (!(ns.any (heldB es))) = true ↔ ∀ k, heldB es k = false := by
          constructor
          · intro z k
            cases hh : heldB es k with
            | false => rfl
            | true =>
              obtain ⟨e, he, hk⟩ := held_mem hh
              have : ns.any (heldB es) = true := List.any_eq_true.mpr ⟨k, (hns k).mpr ⟨e, he, hk⟩, hh⟩
              rw [this] at z
              cases z
          · intro z
            have : ns.any (heldB es) = false := List.any_eq_false.mpr fun k _ => by rw [z k]; decide
            rw [this]
            rfl
        generalize ns.any (heldB es) = bl at hb
        have hc3 := s3 _ _ hc
        refine ⟨_, rfl, c, rfl, ⟨_, SqL.of hc3⟩, fun Or nO => lc_it (walk_list (xs := as.map V.ref)) (fun i H' => Grown stV H3 Or (es.take i) H') (Grown.start nO) (fun i H' _ p => SqL.of (p.same _ _ hc3)) (fun i x Hx H5 hi p y => ?_) (fun H4 p => ?_)⟩
        · obtain ⟨rfl, e2⟩ := y
          have hi' : i < es.length := by omega
          obtain ⟨b, hb, hbt⟩ := hT.at_ hi'
          have e2' : x = .ref b := Option.some.inj (e2.symm.trans (get_map_ref hb))
          subst e2'
          refine ⟨rfl, ⟨_, rfl, 1, rfl, b, _, rfl, SqT.of (p.same _ _ (s3 _ _ hbt)), (fun z => absurd z.1 (show ¬ HT.sIx 3 0 (some 1) = 0 by decide)), fun p' np => ?_⟩⟩
          obtain ⟨acc, ha, hal', hg'⟩ := p.more (e := es[i]) nO np
          refine ⟨acc, ha, ?_, ?_⟩
          · rw [hal', List.length_take]; exact small1000 (by omega)
          · rw [List.take_add_one, List.getElem?_eq_getElem hi']
            exact hg'
        · rw [hcl, List.take_length] at p
          have s4 := s3.trans p.same
          have hD4 := p.same _ _ hD3
          have hO4 := p.ls
          have ll : (lens es).length = es.length := by unfold lens; rw [List.length_map, List.length_range]
          refine ⟨2, rfl, by decide, by decide, for_it walk_range (fun t σ H' => Same H4 H' ∧ ∃ y9 y10 y11, σ = [some (.ref c), some (.str (recD es).shown), some (.ref D), some (.bl bl), y4, y5, y6, y7, some (.ref Or), y9, y10, y11, y12, y13]) ⟨Same.refl _, _, _, _, rfl⟩ (fun _ _ _ _ _ => True.intro) (fun t x σ Hx H5 ht p y => ?_) (fun σ H5 p => ?_)⟩
          · obtain ⟨s5, y9, y10, y11, rfl⟩ := p
            obtain ⟨rfl, rfl⟩ := y
            refine ⟨_, rfl, c, es, rfl, hL.same (s4.trans s5), hV, by omega, fun H6 tp s6 ntp htp => ?_⟩
            refine ⟨_, rfl, c, es, rfl, hL.same ((s4.trans s5).trans s6), hV, by omega, fun H7 sz s7 nsz hsz => ⟨_, _, rfl, ?_⟩⟩
            refine ⟨_, rfl, c, es, !bl, rfl, hL.same (((s4.trans s5).trans s6).trans s7), hV, by omega, hb, fun H8 s8 => ⟨_, rfl, _, rfl, (by show 3 ≤ sizeLine; decide), fun N1 n1 => ?_⟩⟩
            have k1 := same_upd (o := .lst [.bl (!bl), .ref tp, .ref sz]) n1
            have R3 := R2 (!bl)
            refine ⟨N1, _, rfl, .lst (SqL.of upd_same) (.cons (.bl _) (.cons ((htp.same (s7.trans s8)).same k1).dpO (.cons (.lst (SqL.of ((s8.trans k1) _ _ hsz)) (dpOpts _)) .nil))), R3.sh, R3.dp, R3.ln, ?_⟩
            have s58 := (s6.trans s7).trans (s8.trans k1)
            refine ⟨_, rfl, bl, rfl, _, rfl, _, rfl, (by show 3 ≤ sizeLine; decide), fun N2 n2 => ?_⟩
            have k2 := same_upd (o := .lst [.bl (!bl), .ref Or, .ref D]) n2
            have s48 := (s5.trans s58).trans k2
            refine ⟨N2, _, rfl, .lst (SqL.of upd_same) (.cons (.bl _) (.cons (hO4.same s48).dpO (.cons (.lst (SqL.of (s48 _ _ hD4)) (dpOpts _)) .nil))), R3.sh, R3.dp, R3.ln, rfl, _, rfl, iteNS rfl ?_⟩
            refine ⟨_, rfl, c, _, rfl, (hL.same (s4.trans s48)).dp, R1.sh, R1.dp, R1.ln, _, rfl, rfl, _, rfl, iteNS rfl ?_⟩
            obtain ⟨at_, htp9, hTp⟩ := (htp.same (s7.trans s8)).same (k1.trans k2)
            have hsz9 := (s8.trans (k1.trans k2)) _ _ hsz
            obtain ⟨w0, z0, _⟩ := id htp
            have tz : tp ≠ sz := ne_of_none z0 nsz
            have nsz5 := s6.free nsz
            refine ⟨_, rfl, .inl ⟨rfl, _, SqL.of htp9⟩, tp, _, .non, rfl, rfl, htp9, ?_, ?_⟩
            · rw [List.length_map, hTp.1]; exact small1000 (by omega)
            have hszA := hsz9
            refine ⟨_, rfl, .inl ⟨rfl, _, SqL.of (show upd _ tp _ sz = _ from by rw [upd_ne tz.symm]; exact hszA)⟩, sz, _, rfl, rfl, (show upd _ tp _ sz = _ from by rw [upd_ne tz.symm]; exact hszA), ?_⟩
            refine ⟨_, rfl, .inl ⟨rfl, _, SqL.of upd_same⟩, sz, _, .non, rfl, rfl, upd_same, ?_, ?_, _, _, _, rfl⟩
            · rw [List.length_reverse, List.length_map, ll]; exact small1000 (by omega)
            · have w1 := Same.off (s58.trans k2) ntp (off_upd (o := .lst (at_.map V.ref ++ [.non])))
              exact s5.trans (Same.off w1 nsz5 (off_upd.trans off_upd))
          · obtain ⟨s5, y9, y10, y11, rfl⟩ := p
            exact q _ (s4.trans s5)
end
end K06

set_option Elab.async false
set_option linter.all false
set_option maxRecDepth 100000
set_option maxHeartbeats 8000000
namespace K06
open PySem PySem.Spec PyProof.Rows L2 Gd Rm
theorem keepL {α : Type} {f : α → List V} {H H' : Hp} {r c : Addr} {m : Nat} {es : List α} (R : Reel H r m) (n : c ≠ r) (o : Off r H H') (h : Lst f H c es) : Lst f H' c es := by
  obtain ⟨x, y, z, hr, _⟩ := R
  exact h.off hr n o
theorem cut1 (e : Ev) : cutV (evV e) (some 1) none = stV e := rfl
theorem cutTake {xs : List V} {d : Int} (h0 : 0 ≤ d) (h1 : d ≤ (xs.length : Int)) : cutV xs none (some d) = xs.take d.toNat := by
  unfold cutV
  rw [HT.sIx_none]
  have e : d = ((d.toNat : Nat) : Int) := by omega
  rw [e, show HT.sIx xs.length xs.length (some ((d.toNat : Nat) : Int)) = min d.toNat xs.length from HT.sIx_nat xs.length xs.length d.toNat]
  rw [List.drop_zero, Nat.sub_zero, Int.toNat_natCast]
  rw [Nat.min_eq_left (by omega)]
theorem Few.take {es : List Ev} (h : Few es) (n : Nat) : Few (es.take n) := ⟨fun e he => h.key e (List.mem_of_mem_take he), fun e he => h.tick e (List.mem_of_mem_take he), by
  obtain ⟨ds, a, b⟩ := h.ks
  exact ⟨ds, a, fun e he => b e (List.mem_of_mem_take he)⟩⟩
structure Good (H : Hp) (c : Addr) (es : List Ev) : Prop where
  ls : Lst evV H c es
  valid : Valid es
  len : es.length ≤ 200
  few : Few es
theorem Good.keep {H H' : Hp} {r c : Addr} {m : Nat} {es : List Ev} (h : Good H c es) (R : Reel H r m) (n : c ≠ r) (o : Off r H H') : Good H' c es := { h with ls := keepL R n o h.ls }
theorem Good.same {H H' : Hp} {c : Addr} {es : List Ev} (h : Good H c es) (o : Same H H') : Good H' c es := { h with ls := h.ls.same o }
theorem Good.ne {H : Hp} {r c : Addr} {m : Nat} {es : List Ev} (h : Good H c es) (R : Reel H r m) : c ≠ r := by
  obtain ⟨x, y, z, hr, _⟩ := R
  obtain ⟨as, ha, _⟩ := h.ls
  refine ne_of ha hr fun z => ?_
  have z := HO.lst.inj z
  cases as with
  | nil => cases z
  | cons a as => cases z
theorem Good.upd {H : Hp} {c p : Addr} {es : List Ev} {ys : List V} {o : HO} (h : Good H c es) (hp : H p = some (.lst ys)) (n : c ≠ p) : Good (L2.upd H p o) c es := { h with ls := h.ls.off hp n off_upd }

def rekey (e : Ev) : Ev := ⟨e.t, 10 ^ 30 - e.k, e.d⟩
theorem lay_ev : ∀ es : List Ev, PyData.canLayAll0 (es.map evD) = true ∧ PyData.depthAll (es.map evD) ≤ 1
  | [] => ⟨rfl, Nat.zero_le _⟩
  | e :: es => by
    obtain ⟨a, b⟩ := lay_ev es
    refine ⟨?_, ?_⟩
    · have h : PyData.canLay0 (.str (wayS e.d)) = true := by cases e.d <;> decide +kernel
      show ((true && (true && (PyData.canLay0 (.str (wayS e.d)) && true))) && PyData.canLayAll0 (es.map evD)) = true
      rw [a, h]
      rfl
    · show max (PyData.depth (evD e)) (PyData.depthAll (es.map evD)) ≤ 1
      have : PyData.depth (evD e) = 1 := rfl
      omega
theorem shaped_rec (es : List Ev) : SeqAt.shaped (recD es) = true := by
  obtain ⟨a, b⟩ := lay_ev es
  show (PyData.canLayAll0 (es.map evD) && decide (PyData.depthAll (es.map evD) + 1 ≤ 64)) = true
  rw [a, decide_eq_true (by omega)]
  rfl
theorem few_low {es : List Ev} {n : Int} (h : ∀ e ∈ es, 0 ≤ e.k ∧ e.k < n) (hn : n ≤ 17) : ∃ ds : List Int, ds.length < 64 ∧ ∀ e ∈ es, e.k ∈ ds := by
  refine ⟨(List.range 17).map fun i : Nat => (i : Int), by decide, fun e he => ?_⟩
  obtain ⟨a, b⟩ := h e he
  exact List.mem_map.mpr ⟨e.k.toNat, List.mem_range.mpr (by omega), by omega⟩
section
variable {P : Program} {w : World} {K : PySem.W.Frag} {mg : Str → Option Value} {base : Heap}
def spLaw (K : PySem.W.Frag) : Sp := fun vs H Q _ => ∃ (a : Addr) (ns : List Int), vs = [.ref a] ∧ SqL K H a (ns.map V.int) ∧ ns.length ≤ 63 ∧ ∀ H', Q (.bl true) H'
theorem ok_law {f : Addr} {fd : FuncData} (bt : Bt mg) (a : Fun K "law" "law" s_law f fd) (c__law_reel : Cl P w K mg base 1 "_law_reel" (spReel K)) (c__law_spin : Cl P w K mg base 1 "_law_spin" spSpin) (c__law_record : Cl P w K mg base 2 "_law_record" spRec)
    (c__law_crowd : Cl P w K mg base 2 "_law_crowd" spCrowd) (c__law_right : Cl P w K mg base 6 "_law_right" spRight) (c_lengths : Cl P w K mg base 5 "lengths" spLens) : FnG P w K mg base 7 f fd ["_law_script"] (spLaw K) := by
  refine fnG a sc_law (fun vs H Q E h => ?_) (fun cdv A outer s H vs Q hg hr h => ?_)
  · obtain ⟨a, e, rfl, _⟩ := h
    rfl
  · obtain ⟨sc, ns, rfl, hS, hl, q⟩ := h
    refine ⟨_, (pss_cons (ps_for PassesOwn.never rfl (pi_range1 (by rfl) bt.m_range (pa_cons (pe_callB (call_max2 rfl) (by rfl) bt.m_max (by decide +kernel) (pa_cons pe_int (pa_cons (pe_callB (call_min2 rfl) (by rfl) bt.m_min (by decide +kernel) (pa_cons pe_int (pa_cons (pe_callB call_len_seq (by rfl) bt.m_len (by decide +kernel) (pa_cons (pv 0) pa_nil)) pa_nil))) pa_nil))) pa_nil)) (pg_name (i := 1) sc_law.nd rfl (Or.inl rfl)) (pss_cons (ps_set (i := 2) sc_law.nd rfl (Or.inl rfl) (pe_cl c__law_reel hg hr (by decide) (by rfl) (pa_cons (pv 0) (pa_cons (pv 1) pa_nil))))
      (pss_one (ps_for PassesOwn.never rfl (pi_range1 (by rfl) bt.m_range (pa_cons pe_int pa_nil)) (pg_name (i := 3) sc_law.nd rfl (Or.inl rfl)) (pss_cons (ps_set (i := 4) sc_law.nd rfl (Or.inl rfl) (pe_op op_add pe_int (pe_cl c__law_spin hg hr (by decide) (by rfl) (pa_cons (pv 2) (pa_cons (pe_ix ix_list (pe_lst (pa_cons pe_int (pa_cons pe_int pa_nil))) (pe_op op_mod (pv 3) pe_int) (fun _ _ => rfl)) pa_nil)))))
      (pss_cons (ps_set (i := 5) sc_law.nd rfl (Or.inl rfl) (pe_cl c__law_record hg hr (by decide) (by rfl) (pa_cons (pv 2) (pa_cons (pv 4) (pa_cons (pe_ix ix_list (pe_lst (pa_cons (pe_cl c__law_spin hg hr (by decide) (by rfl) (pa_cons (pv 2) (pa_cons pe_int pa_nil))) (pa_cons (pe_cl c__law_spin hg hr (by decide) (by rfl) (pa_cons (pv 2) (pa_cons pe_int pa_nil))) pa_nil))) (pe_op op_mod (pv 3) pe_int) (fun _ _ => rfl)) (pa_cons (pe_lst (pa_cons pe_int (pa_cons pe_int (pa_cons pe_int (pa_cons (pe_op op_powW pe_int pe_int) pa_nil))))) pa_nil))))))
      (C8.pss_cut (ps_if (pt_cmpR op_eq (pv 3) pe_int (nomark _)) (pss_one (ps_setLc (i := 5) (own := [("_law_tick", 9), ("_law_key", 10), ("_law_way", 11)]) (g := (gTup K 3 (gCons (gName 9) (gCons (gName 10) (gCons (gName 11) gNil))))) (by rfl) sc_law.nd rfl rfl (sw_true rfl rfl rfl (by decide +kernel)) (pi_list (pv 5)) (blkOk_by (N := n_law) (sc := defScope s_law) (by decide +kernel)) (fun _ _ _ _ _ => (pg_tup rfl (pgs_cons (pg_name (i := 9) sc_law.nd rfl (Or.inl rfl)) (pgs_cons (pg_name (i := 10) sc_law.nd rfl (Or.inl rfl)) (pgs_cons (pg_name (i := 11) sc_law.nd rfl (Or.inl rfl)) pgs_nil))))) (fun _ _ _ _ _ => pts_nil) (fun _ _ _ _ _ => (pe_tup (pa_cons (pv 9) (pa_cons (pe_op op_sub (pe_op op_powW pe_int pe_int) (pv 10)) (pa_cons (pv 11) pa_nil))))))) pss_nil)
      (pss_cons (ps_set (i := 6) sc_law.nd rfl (Or.inl rfl) (pe_cl c__law_crowd hg hr (by decide) (by rfl) (pa_cons (pv 2) pa_nil)))
      (pss_cons (ps_set (i := 7) sc_law.nd rfl (Or.inl rfl) (pe_lst (pa_cons (pv 6) (pa_cons (pe_slice sl_list (pv 6) po_none (po_some (pe_cl c__law_spin hg hr (by decide) (by rfl) (pa_cons (pv 2) (pa_cons (pe_op op_add (pe_callB call_len_seq (by rfl) bt.m_len (by decide +kernel) (pa_cons (pv 6) pa_nil)) pe_int) pa_nil))))) (pa_cons (pe_lst pa_nil) pa_nil)))))
      (pss_cons (ps_for PassesOwn.never rfl (pi_list (pe_op op_cat (pe_lst (pa_cons (pv 5) (pa_cons (pe_slice sl_list (pv 5) po_none (po_some (pe_cl c__law_spin hg hr (by decide) (by rfl) (pa_cons (pv 2) (pa_cons (pe_op op_add (pe_callB call_len_seq (by rfl) bt.m_len (by decide +kernel) (pa_cons (pv 5) pa_nil)) pe_int) pa_nil))))) pa_nil))) (pv 7))) (pg_name (i := 8) sc_law.nd rfl (Or.inl rfl)) (pss_one (ps_if (pt_not (pt_val (pe_cl c__law_right hg hr (by decide) (by rfl) (pa_cons (pv 8) pa_nil)))) (pss_one (ps_ret pe_bl)) pss_nil)))
      (pss_one (ps_if (pt_cmpR (op_neD hr.units) (pv 5) (pe_lst pa_nil) (nomark _)) (pss_cons (ps_expr (pe_bm0 PySem.F.plainAttrs_list PySem.F.slot_list_pop PySem.F.type_list_pop mt_pop (pv 5)))
      (pss_one (ps_if (pt_not (pt_val (pe_cl c__law_right hg hr (by decide) (by rfl) (pa_cons (pv 5) pa_nil)))) (pss_one (ps_ret pe_bl)) pss_nil))) pss_nil))))))))))))
      (pss_one (ps_ret (pe_cmpR (op_eqD hr.units) (pe_cl c_lengths hg hr (by decide) (by rfl) (pa_cons (pe_lst (pa_cons (pe_tup (pa_cons (pe_un un_neg pe_int) (pa_cons pe_int (pa_cons pe_str pa_nil)))) (pa_cons (pe_tup (pa_cons pe_int (pa_cons pe_int (pa_cons pe_str pa_nil)))) (pa_cons (pe_tup (pa_cons pe_int (pa_cons pe_int (pa_cons pe_str pa_nil)))) pa_nil)))) pa_nil)) (pe_lst (pa_cons pe_int (pa_cons pe_non (pa_cons pe_non pa_nil)))) (nomark _))))), ?_⟩
    refine ⟨_, rfl, sc, _, rfl, .inl hS, _, _, rfl, ?_⟩
    refine ⟨1, _, rfl, _, rfl, ?_, ?_, ?_⟩
    · (repeat' split) <;> omega
    · (repeat' split) <;> omega
    refine for_it walk_range (fun i σ H' => Same H H' ∧ ∃ y1 y2 y3 y4 y5 y6 y7 y8 y9 y10 y11, σ = [some (.ref sc), y1, y2, y3, y4, y5, y6, y7, y8, y9, y10, y11]) ⟨Same.refl _, _, _, _, _, _, _, _, _, _, _, _, rfl⟩ (fun _ _ _ _ _ => True.intro) (fun i x σ Hx H1 hi p y => ?_) (fun σ H1 p => ?_)
    · obtain ⟨s1, y1, y2, y3, y4, y5, y6, y7, y8, y9, y10, y11, rfl⟩ := p
      obtain ⟨rfl, hx⟩ := y
      have hx : x = .int (0 + (i : Int)) := hx
      subst hx
      have hi4 : i < 100 := by
        refine Nat.lt_of_lt_of_le hi ?_
        (repeat' split) <;> omega
      have hS1 : SqL K H1 sc (ns.map V.int) := s1.seq hS
      have e0 : (0 : Int) + (i : Int) = ((i : Nat) : Int) := Int.zero_add _
      refine ⟨_, rfl, _, rfl, sc, ns, i, (show [V.ref sc, V.int (0 + (i : Int))] = [V.ref sc, V.int (i : Int)] from by rw [e0]), hS1, hl, hi4, fun r H2 s2 nr R2 => ?_⟩
      refine ⟨4, rfl, by decide, by decide, for_it walk_range (fun j σ H' => Off r H2 H' ∧ Reel H' r (10000 * j) ∧ ∃ y3 y4 y5 y6 y7 y8 y9 y10 y11, σ = [some (.ref sc), some (.int (0 + (i : Int))), some (.ref r), y3, y4, y5, y6, y7, y8, y9, y10, y11]) ⟨Off.refl _, R2, _, _, _, _, _, _, _, _, _, rfl⟩ (fun _ _ _ _ _ => True.intro) (fun j x σ Hx H3 hj p y => ?_) (fun σ H3 p => ?_)⟩
      · obtain ⟨o3, R3, y3, y4, y5, y6, y7, y8, y9, y10, y11, rfl⟩ := p
        obtain ⟨rfl, hx⟩ := y
        have hx : x = .int (0 + (j : Int)) := hx
        subst hx
        have hj4 : j < 4 := hj
        refine ⟨_, rfl, (by show 2 ≤ sizeLine; decide), fun L nL => ⟨_, rfl, _, _, rfl, rfl, (show (0 : Int) < 2 by decide), ?_⟩⟩
        have b0 : 0 ≤ (0 + (j : Int)) % 2 := Int.emod_nonneg _ (by decide)
        have b1 : (0 + (j : Int)) % 2 < 2 := Int.emod_lt_of_pos _ (by decide)
        obtain ⟨kv, ak, mk⟩ := getI (ns := [2, 16]) b0 b1
        have bk : 2 ≤ kv ∧ kv ≤ 16 := by
          have hm := List.mem_of_getElem? mk
          simp only [List.mem_cons, List.mem_nil_iff, or_false] at hm
          omega
        refine ⟨L, _, _, .int kv, rfl, rfl, SqL.of upd_same, ak, r, kv, 10000 * j, rfl, by omega, ?_, by show _ < 1000000000; omega, R3.same (same_upd nL), fun kd H4 k0 k1 R4 o4 => ⟨_, _, rfl, rfl, ?_⟩⟩
        · exact Int.lt_of_le_of_lt bk.2 (by decide)
        have o34 : Off r H2 H4 := (o3.sameTrans (same_upd nL)).trans o4
        refine ⟨_, rfl, _, rfl, _, rfl, r, 10, 10000 * j + 1, rfl, by decide, by decide, by show _ < 1000000000; omega, R4, fun a1 H5 a10 a11 R5 o5 => ?_⟩
        refine ⟨_, rfl, r, 201, 10000 * j + 2, rfl, by decide, by decide, by show _ < 1000000000; omega, R5, fun a2 H6 a20 a21 R6 o6 => ⟨(by show 2 ≤ sizeLine; decide), fun M2 nL2 => ?_⟩⟩
        obtain ⟨sv, as, ms⟩ := getI (ns := [a1, a2]) b0 b1
        have bs : 0 ≤ sv ∧ sv ≤ 200 := by
          have hm := List.mem_of_getElem? ms
          simp only [List.mem_cons, List.mem_nil_iff, or_false] at hm
          omega
        obtain ⟨sz, hsz⟩ : ∃ sz : Nat, sv = (sz : Int) := ⟨sv.toNat, by omega⟩
        subst hsz
        refine ⟨_, rfl, _, _, rfl, rfl, (show (0 : Int) < 2 by decide), M2, _, _, .int (sz : Int), rfl, rfl, SqL.of upd_same, as, _, _, rfl, rfl, powW (i := 10) (n := 40) (k := 9) (by decide) (by decide), (by show 4 ≤ sizeLine; decide), fun g ng => ?_⟩
        have R6' : Reel (upd H6 M2 (.lst [.int a1, .int a2])) r (10000 * j + 3) := R6.same (same_upd nL2)
        have gr : g ≠ r := by
          obtain ⟨_, _, _, hr2, _⟩ := id R6'
          exact (ne_of_none hr2 ng).symm
        refine ⟨r, g, 10000 * j + 3, sz, 1 + kd, [0, 1, 3, 10 ^ 9], rfl, R6'.same (same_upd ng), by show _ < 1000000000; omega, by omega, by omega, by omega, upd_same, gr, by decide, by decide, by decide, fun H7 c es o7 nc R7 hL hO => ?_⟩
        have o2g : Off r H2 _ := ((((o34.trans o5).trans o6).sameTrans (same_upd nL2)).sameTrans (same_upd (o := .lst ([0, 1, 3, 10 ^ 9].map V.int)) ng))
        obtain ⟨_, _, _, hr6, _⟩ := id (R6'.same (same_upd (o := .lst ([0, 1, 3, 10 ^ 9].map V.int)) ng))
        have nc2 : H2 c = none := o2g.free hr6 nc
        have o37 : Off r H2 H7 := o2g.trans o7
        clear o3 o4 o5 o6 o7 o34 R3 R4 R5 R6 R6' gr o2g
        have G7 : Good H7 c es := ⟨hL, hO.valid, by have := hO.len; omega, ⟨fun e he => by have := hO.key e he; have : (10 : Int) ^ 31 > 1000 := by decide
                                                                                           omega, hO.tick, few_low hO.key (by omega)⟩⟩
        have hkey : ∀ e ∈ es, e.k < 17 := fun e he => by have := hO.key e he; omega
        refine ⟨fun σ' H' => ∃ c es y9 y10 y11, σ' = [some (.ref sc), some (.int (0 + (i : Int))), some (.ref r), some (.int (0 + (j : Int))), some (.int (1 + kd)), some (.ref c), y6, y7, y8, y9, y10, y11] ∧ Off r H2 H' ∧ Reel H' r (10000 * j + 1100) ∧ Good H' c es ∧ H2 c = none, ?_, ?_⟩
        · refine ⟨_, rfl, rfl, _, rfl, ite2 (fun z => ?_) (fun z => ⟨c, es, _, _, _, rfl, o37, R7.mono (by omega), G7, nc2⟩)⟩
          obtain ⟨as, hc, hT⟩ := hL
          refine ⟨_, rfl, c, rfl, ⟨_, SqL.of hc⟩, fun M nM => lc_it (walk_list (xs := as.map V.ref)) (fun i H' => Grown evV H7 M ((es.take i).map rekey) H') (Grown.start nM) (fun i H' _ p => SqL.of (p.same _ _ hc)) (fun i x Hx H8 hi p y => ?_) (fun H8 p => ?_)⟩
          · obtain ⟨rfl, e2⟩ := y
            have hal := hT.1
            have hi' : i < es.length := by rw [List.length_map] at hi; omega
            obtain ⟨b, hb, hbt⟩ := hT.at_ hi'
            have he : es[i]? = some es[i] := List.getElem?_eq_getElem hi'
            have e2' : x = .ref b := Option.some.inj (e2.symm.trans (get_map_ref hb))
            subst e2'
            have hle := G7.len
            refine ⟨b, _, rfl, SqT.of (p.same _ _ hbt), rfl, _, _, rfl, _, _, rfl, _, _, rfl, rfl, rfl, ⟨_, rfl, _, _, rfl, rfl, powW (i := 10) (n := 40) (k := 30) (by decide) (by decide), _, rfl, _, _, rfl, rfl, _, rfl, (by show 3 ≤ sizeLine; decide), fun p' np => ?_⟩⟩
            obtain ⟨acc, ha, hal', hg'⟩ := p.more (e := rekey es[i]) nM np
            refine ⟨acc, ha, ?_, ?_⟩
            · rw [hal', List.length_map, List.length_take]; exact small1000 (by omega)
            · rw [List.take_add_one, he, List.map_append]
              exact hg'
          · rw [List.length_map, hT.1, List.take_length] at p
            obtain ⟨_, _, _, hr7, _⟩ := id R7
            refine ⟨M, es.map rekey, _, _, _, rfl, o37.sameTrans p.same, (R7.mono (by omega)).same p.same, ⟨p.ls, ?_, by rw [List.length_map]; exact G7.len, ⟨fun e he => ?_, fun e he => ?_, ?_⟩⟩, o37.free hr7 nM⟩
            · exact Valid.rekey (f := fun k => 10 ^ 30 - k) (fun a b h => by have h : (10 : Int) ^ 30 - a = 10 ^ 30 - b := h; omega) G7.valid (fun e he => by have := hkey e he; show 0 ≤ (10 : Int) ^ 30 - e.k; omega)
            · obtain ⟨e', he', rfl⟩ := List.mem_map.mp he
              have h1 := hkey e' he'
              have h2 := (G7.few.key e' he').1
              exact ⟨by show 0 ≤ (10 : Int) ^ 30 - e'.k; omega, by show (10 : Int) ^ 30 - e'.k < 10 ^ 31; omega⟩
            · obtain ⟨e', he', rfl⟩ := List.mem_map.mp he
              exact G7.few.tick e' he'
            · obtain ⟨ds, d1, d2⟩ := G7.few.ks
              refine ⟨ds.map fun k => 10 ^ 30 - k, by rw [List.length_map]; exact d1, fun e he => ?_⟩
              obtain ⟨e', he', rfl⟩ := List.mem_map.mp he
              exact List.mem_map.mpr ⟨e'.k, d2 e' he', rfl⟩
        · clear hL hO G7 hkey R7 o37 nc nc2
          rintro σ' H8 ⟨c, es, y9, y10, y11, rfl, o8, R8, G8, nc2⟩
          obtain ⟨_, _, _, hr2', _⟩ := id R2
          have cr : c ≠ r := (ne_of_none hr2' nc2).symm
          refine ⟨_, rfl, r, 10000 * j + 1100, rfl, R8, by show _ < 1000000000; omega, fun H15 cc ec o15 ncc R15 hLc hOc => ?_⟩
          have G15 := G8.keep R8 cr o15
          obtain ⟨_, _, _, hr8, _⟩ := id R8
          have ccr : cc ≠ r := (ne_of_none hr8 ncc).symm
          have Gc : Good H15 cc ec := ⟨hLc, hOc.valid, by have := hOc.len; omega, ⟨hOc.key, hOc.tick, hOc.few⟩⟩
          have o215 := o8.trans o15
          obtain ⟨asc, hcc, hTc⟩ := id Gc.ls
          have halc := hTc.1
          have hlc := Gc.len
          refine ⟨_, rfl, _, rfl, _, rfl, _, rfl, cc, _, rfl, .inl (SqL.of hcc), _, _, rfl, rfl, r, _, 10000 * j + 2100, rfl, by omega, ?_, by show _ < 1000000000; omega, R15, fun d H16 d0 d1 R16 o16 => ?_⟩
          · have h2 : (10 : Int) ^ 40 > 1000 := by decide
            rw [List.length_map]
            omega
          have G16 := G15.keep R15 cr o16
          have Gc16 := Gc.keep R15 ccr o16
          have o216 := o215.trans o16
          have hcc16 := o16 _ _ hcc ccr
          rw [List.length_map] at d1
          refine ⟨d, rfl, cc, _, rfl, SqL.of hcc16, fun cs ncs => ?_⟩
          rw [cutTake d0 (by rw [List.length_map]; omega)]
          have Gs : Good (upd H16 cs (.lst ((asc.map V.ref).take d.toNat))) cs (ec.take d.toNat) := by
            obtain ⟨as2, hc2, hT2⟩ := id Gc16.ls
            rw [hcc16] at hc2
            have e : as2.map V.ref = asc.map V.ref := (HO.lst.inj (Option.some.inj hc2)).symm
            exact ⟨⟨as2.take d.toNat, by rw [upd_same, List.map_take, e], (hT2.take _).same (same_upd ncs)⟩, Gc.valid.take _, by rw [List.length_take]; omega, Gc.few.take _⟩
          refine ⟨Nat.zero_le _, fun E0 nE => ⟨(by show 3 ≤ sizeLine; decide), fun Sm nSm => ?_⟩⟩
          have sE := same_upd (o := .lst []) nE
          have sSm := same_upd (o := .lst [.ref cc, .ref cs, .ref E0]) nSm
          have sS := ((same_upd (o := .lst ((asc.map V.ref).take d.toNat)) ncs).trans sE).trans sSm
          have hSm : upd (upd (upd H16 cs (.lst ((asc.map V.ref).take d.toNat))) E0 (.lst [])) Sm (.lst [.ref cc, .ref cs, .ref E0]) Sm = some (.lst [.ref cc, .ref cs, .ref E0]) := upd_same
          have Gs17 := (Gs.same sE).same sSm
          have hE17 := sSm _ _ (upd_same (a := E0) (o := .lst []))
          have Ge17 : Good _ E0 [] := ⟨⟨[], hE17, Tups.nil⟩, Valid.nil, by decide, ⟨fun e h => by simp at h, fun e h => by simp at h, [], by decide, fun e h => by simp at h⟩⟩
          have Smr : Sm ≠ r := by
            obtain ⟨_, _, _, hr2, _⟩ := id (R16.same ((same_upd (o := .lst ((asc.map V.ref).take d.toNat)) ncs).trans sE))
            exact (ne_of_none hr2 nSm).symm
          have csr : cs ≠ r := by
            obtain ⟨_, _, _, hr2, _⟩ := id R16
            exact (ne_of_none hr2 ncs).symm
          have Er : E0 ≠ r := by
            obtain ⟨_, _, _, hr2, _⟩ := id (R16.same (same_upd (o := .lst ((asc.map V.ref).take d.toNat)) ncs))
            exact (ne_of_none hr2 nE).symm
          have G17 := G16.same sS
          have Gc17 := Gc16.same sS
          have R17 := R16.same sS
          have o217 := o216.sameTrans sS
          refine (fun (G : ∀ H17 : Hp, H17 Sm = some (.lst [.ref cc, .ref cs, .ref E0]) → Good H17 cs (ec.take d.toNat) → Good H17 E0 [] → Good H17 c es → Good H17 cc ec → Reel H17 r (10000 * j + 2100 + 1) → Off r H2 H17 → _) => G _ hSm Gs17 Ge17 G17 Gc17 R17 o217) (fun H17 hSm Gs17 Ge17 G17 Gc17 R17 o217 => ?_)
          obtain ⟨asr, hcr, hTr⟩ := id G17.ls
          have halr := hTr.1
          have hlr := G17.len
          refine ⟨_, rfl, _, rfl, _, rfl, _, rfl, c, _, rfl, .inl (SqL.of hcr), _, _, rfl, rfl, r, _, 10000 * j + 2101, rfl, by omega, ?_, by show _ < 1000000000; omega, R17, fun d' H18 d'0 d'1 R18 o18 => ?_⟩
          · have h2 : (10 : Int) ^ 40 > 1000 := by decide
            rw [List.length_map]
            omega
          have G18 := G17.keep R17 cr o18
          have Gc18 := Gc17.keep R17 ccr o18
          have Gs18 := Gs17.keep R17 csr o18
          have Ge18 := Ge17.keep R17 Er o18
          have hSm18 := o18 _ _ hSm Smr
          have o218 := o217.trans o18
          have hcr18 := o18 _ _ hcr cr
          rw [List.length_map] at d'1
          refine ⟨d', rfl, c, _, rfl, SqL.of hcr18, fun c2 nc2' => ?_⟩
          rw [cutTake d'0 (by rw [List.length_map]; omega)]
          have G2 : Good (upd H18 c2 (.lst ((asr.map V.ref).take d'.toNat))) c2 (es.take d'.toNat) := by
            obtain ⟨as2, hc2, hT2⟩ := id G18.ls
            rw [hcr18] at hc2
            have e : as2.map V.ref = asr.map V.ref := (HO.lst.inj (Option.some.inj hc2)).symm
            exact ⟨⟨as2.take d'.toNat, by rw [upd_same, List.map_take, e], (hT2.take _).same (same_upd nc2')⟩, G18.valid.take _, by rw [List.length_take]; omega, G18.few.take _⟩
          refine ⟨(by show 2 ≤ sizeLine; decide), fun Bg nBg => ⟨_, rfl, Bg, Sm, _, _, rfl, rfl, upd_same, (same_upd nBg) _ _ ((same_upd nc2') _ _ hSm18), (by show 2 + 3 ≤ sizeLine; decide), fun W nW => ?_⟩⟩
          have kB := same_upd (o := .lst [.ref c, .ref c2]) nBg
          have kW := same_upd (o := .lst ([.ref c, .ref c2] ++ [.ref cc, .ref cs, .ref E0])) nW
          have sW := ((same_upd (o := .lst ((asr.map V.ref).take d'.toNat)) nc2').trans kB).trans kW
          have G2W := (G2.same kB).same kW
          have hW : upd (upd (upd H18 c2 (.lst ((asr.map V.ref).take d'.toNat))) Bg (.lst [.ref c, .ref c2])) W (.lst ([.ref c, .ref c2] ++ [.ref cc, .ref cs, .ref E0])) W = some (.lst [.ref c, .ref c2, .ref cc, .ref cs, .ref E0]) := upd_same
          have G19 := G18.same sW
          have Gc19 := Gc18.same sW
          have Gs19 := Gs18.same sW
          have Ge19 := Ge18.same sW
          have R19 := R18.same sW
          have o219 := o218.sameTrans sW
          refine (fun (G : ∀ H19 : Hp, H19 W = some (.lst [.ref c, .ref c2, .ref cc, .ref cs, .ref E0]) → Good H19 c2 (es.take d'.toNat) → Good H19 c es → Good H19 cc ec → Good H19 cs (ec.take d.toNat) → Good H19 E0 [] → Reel H19 r (10000 * j + 2101 + 1) → Off r H2 H19 → _) => G _ hW G2W G19 Gc19 Gs19 Ge19 R19 o219) (fun H19 hW G2W G19 Gc19 Gs19 Ge19 R19 o219 => ?_)
          refine ⟨W, rfl, ⟨_, SqL.of hW⟩, for_it (walk_list (xs := [V.ref c, V.ref c2, V.ref cc, V.ref cs, V.ref E0])) (fun k σ H' => Same H19 H' ∧ ∃ y8, σ = [some (.ref sc), some (.int (0 + (i : Int))), some (.ref r), some (.int (0 + (j : Int))), some (.int (1 + kd)), some (.ref c), some (.ref cc), some (.ref Sm), y8, y9, y10, y11])
            ⟨Same.refl _, _, rfl⟩ (fun _ _ H' _ p => SqL.of (p.1 _ _ hW)) (fun k x σ Hx H20 hk p y => ?_) (fun σ H20 p => ?_)⟩
          · obtain ⟨s20, y8, rfl⟩ := p
            obtain ⟨rfl, hx⟩ := y
            obtain ⟨xa, ex, rfl, gx⟩ : ∃ xa ex, x = .ref xa ∧ Good H19 xa ex := by
              have hm := List.mem_of_getElem? hx
              simp only [List.mem_cons, List.mem_nil_iff, or_false] at hm
              rcases hm with rfl | rfl | rfl | rfl | rfl
              · exact ⟨_, _, rfl, G19⟩
              · exact ⟨_, _, rfl, G2W⟩
              · exact ⟨_, _, rfl, Gc19⟩
              · exact ⟨_, _, rfl, Gs19⟩
              · exact ⟨_, _, rfl, Ge19⟩
            have g20 := gx.same s20
            exact ⟨_, rfl, xa, ex, rfl, g20.ls, g20.valid, g20.len, g20.few, fun H21 s21 => ⟨_, rfl, iteF ⟨s20.trans s21, _, rfl⟩⟩⟩
          · obtain ⟨s20, y8, rfl⟩ := p
            have G20 := G19.same s20
            have R20 := R19.same s20
            have o220 := o219.sameTrans s20
            refine ⟨_, rfl, Nat.zero_le _, fun Zn nZ => ⟨_, _, (G20.ls.same (same_upd nZ)).dp, .lst (SqL.of upd_same) .nil, shaped_rec es, shaped_nil, _, rfl, ?_⟩⟩
            have kZ := same_upd (o := .lst []) nZ
            have G21 := G20.same kZ
            have R21 := R20.same kZ
            have o221 := o220.sameTrans kZ
            generalize upd H20 Zn (.lst []) = H21 at G21 R21 o221
            have eo : PyData.eqv (recD es) (.list []) = (es.map evD).isEmpty := eqv_nil _
            rw [eo]
            by_cases hz : es = []
            · have hb : (es.map evD).isEmpty = true := by rw [hz]; rfl
              rw [hb]
              exact iteF ⟨o221, R21.mono (by omega), _, _, _, _, _, _, _, _, _, rfl⟩
            · have hb : (es.map evD).isEmpty = false := by
                cases es with
                | nil => exact absurd rfl hz
                | cons e0 er => rfl
              have hpos : 0 < es.length := by
                cases es with
                | nil => exact absurd rfl hz
                | cons e0 er => exact Nat.succ_pos _
              rw [hb]
              obtain ⟨aso, hOo, hTo⟩ := id G21.ls
              have halo := hTo.1
              obtain ⟨bo, hbo, _⟩ := hTo.at_ (i := es.length - 1) (by omega)
              have hlast : (aso.map V.ref)[(aso.map V.ref).length - 1]? = some (.ref bo) := by rw [List.length_map, halo]; exact get_map_ref hbo
              refine iteT ⟨_, rfl, .inl ⟨rfl, _, SqL.of hOo⟩, c, _, .ref bo, rfl, rfl, hOo, hlast, ?_⟩
              have G23 : Good (upd H21 c (.lst (aso.map V.ref).dropLast)) c es.dropLast := by
                refine ⟨⟨aso.dropLast, by rw [upd_same, List.map_dropLast], ?_⟩, by rw [List.dropLast_eq_take]; exact G21.valid.take _, by rw [List.length_dropLast]; have := G21.len; omega, by rw [List.dropLast_eq_take]; exact G21.few.take _⟩
                have q1 : Tups H21 evV aso.dropLast es.dropLast := by
                  rw [List.dropLast_eq_take, List.dropLast_eq_take, halo]
                  exact hTo.take _
                exact q1.off hOo off_upd
              obtain ⟨rx, ry, rz, hrr, hrb⟩ := id R21
              have R23 : Reel (upd H21 c (.lst (aso.map V.ref).dropLast)) r (10000 * j + 2101 + 1) := ⟨rx, ry, rz, by rw [upd_ne cr.symm]; exact hrr, hrb⟩
              refine ⟨_, rfl, c, _, rfl, G23.ls, G23.valid, G23.len, G23.few, fun H24 s24 => ⟨_, rfl, iteF ?_⟩⟩
              exact ⟨(o221.new nc2).sameTrans s24, (R23.same s24).mono (by omega), _, _, _, _, _, _, _, _, _, rfl⟩
      · obtain ⟨o3, R3, y3, y4, y5, y6, y7, y8, y9, y10, y11, rfl⟩ := p
        exact ⟨Same.off (s1.trans s2) (s1.free nr) o3, _, _, _, _, _, _, _, _, _, _, _, rfl⟩
    · obtain ⟨s1, y1, y2, y3, y4, y5, y6, y7, y8, y9, y10, y11, rfl⟩ := p
      refine ⟨3, rfl, (by show 3 ≤ sizeLine; decide), fun T1 m1 => ⟨(by show 3 ≤ sizeLine; decide), fun T2 m2 => ⟨(by show 3 ≤ sizeLine; decide), fun T3 m3 => ⟨(by show 3 ≤ sizeLine; decide), fun C m4 => ?_⟩⟩⟩⟩
      have k2 := same_upd (o := .tup [.int 0, .int 0, .str "down"]) m2
      have k3 := same_upd (o := .tup [.int 4, .int 1, .str "up"]) m3
      have k4 := same_upd (o := .lst [.ref T1, .ref T2, .ref T3]) m4
      have x1 := ((k2.trans k3).trans k4) T1 (.tup [.int (-3), .int 1, .str "down"]) upd_same
      have x2 := (k3.trans k4) T2 (.tup [.int 0, .int 0, .str "down"]) upd_same
      have x3 := k4 T3 (.tup [.int 4, .int 1, .str "up"]) upd_same
      have vB : Valid [⟨-3, 1, true⟩, ⟨0, 0, true⟩, ⟨4, 1, false⟩] := by
        have v1 : Valid ([] ++ [(⟨-3, 1, true⟩ : Ev)]) := Valid.nil.snoc (by decide) (by decide) (fun e h => by simp at h)
        have v2 := v1.snoc (e := ⟨0, 0, true⟩) (by decide) (by decide) (fun e h => by
          rw [List.mem_singleton.mp h]; decide)
        have v3 := v2.snoc (e := ⟨4, 1, false⟩) (by decide) (by decide) (fun e h => by
          simp only [List.nil_append, List.mem_append, List.mem_singleton] at h
          rcases h with rfl | rfl <;> decide)
        exact v3
      refine ⟨C, [⟨-3, 1, true⟩, ⟨0, 0, true⟩, ⟨4, 1, false⟩], rfl, ⟨[T1, T2, T3], upd_same, rfl, fun i a e ha he => ?_⟩, vB, by decide, fun H7 p7 s7 np7 hp7 => ?_⟩
      · match i, ha, he with
        | 0, ha, he =>
          have e1 : T1 = a := Option.some.inj ha
          have e2 : (⟨-3, 1, true⟩ : Ev) = e := Option.some.inj he
          subst e1 e2
          exact x1
        | 1, ha, he =>
          have e1 : T2 = a := Option.some.inj ha
          have e2 : (⟨0, 0, true⟩ : Ev) = e := Option.some.inj he
          subst e1 e2
          exact x2
        | 2, ha, he =>
          have e1 : T3 = a := Option.some.inj ha
          have e2 : (⟨4, 1, false⟩ : Ev) = e := Option.some.inj he
          subst e1 e2
          exact x3
        | i + 3, ha, he => simp at ha
      · refine ⟨(by show 3 ≤ sizeLine; decide), fun D m5 => ?_⟩
        have k5 := same_upd (o := .lst [.int 7, .non, .non]) m5
        refine ⟨_, _, .lst (SqL.of (k5 _ _ hp7)) (dpOpts _), .lst (SqL.of upd_same) (.cons (.int _) (.cons .non (.cons .non .nil))), by decide +kernel, by decide +kernel, ?_⟩
        exact q _
end
end K06

set_option Elab.async false
set_option linter.all false
set_option maxRecDepth 100000
set_option maxHeartbeats 8000000
namespace K06
open PySem PySem.Spec PyProof.Rows L2 Gd Rm
theorem at_mk {K : PySem.W.Frag} {h : Heap} {mg : Str → Option Value} {x : Str} {st : Stmt} {ps : List Str} {f : Addr} {od an : Option Addr} {sl : Array (Option Value)} {oc kV dc pm cd ct : Value} (X : K.In h) (G : h.Ns mainGlobals mg)
    (a : PySem.W.nsIn K mainGlobals x = some (some (.ref f))) (l : K.lookup f = some ⟨oc, od, .func (PySem.W.fnOf x x (defArgs st) (defBody st) (defScope st) .none kV dc pm an cd ct), sl⟩) (c : PySem.W.codeIn K cd x = true) (k : PySem.W.keepIn K (.ref f) = true)
    (hb : ∀ (kV doc pm : Value) (an : Option Addr) (cdv ct : Value) (us : List Value), us.length = ps.length → bindArgs (PySem.W.fnOf x x (defArgs st) (defBody st) (defScope st) .none kV doc pm an cdv ct) ⟨us, []⟩ = pure (ps.zip us)) : At K mg x st ps :=
  ⟨_, _, fun_mk l c k, PySem.W.mg_of X G a, (fun_mk l c k).binds hb⟩
theorem all_mk {l : PySem.W.OpenLaw} {w : World} {K : PySem.W.Frag} {h : Heap} {mg : Str → Option Value} {fa : Addr} (X : K.In h) (G : h.Ns mainGlobals mg) (hfa : mg "law" = some (.ref fa))
    {f0 : Addr} {od0 an0 : Option Addr} {sl0 : Array (Option Value)} {oc0 kV0 dc0 pm0 cd0 ct0 : Value}
    {f1 : Addr} {od1 an1 : Option Addr} {sl1 : Array (Option Value)} {oc1 kV1 dc1 pm1 cd1 ct1 : Value}
    {f2 : Addr} {od2 an2 : Option Addr} {sl2 : Array (Option Value)} {oc2 kV2 dc2 pm2 cd2 ct2 : Value}
    {f3 : Addr} {od3 an3 : Option Addr} {sl3 : Array (Option Value)} {oc3 kV3 dc3 pm3 cd3 ct3 : Value}
    {f4 : Addr} {od4 an4 : Option Addr} {sl4 : Array (Option Value)} {oc4 kV4 dc4 pm4 cd4 ct4 : Value}
    {f5 : Addr} {od5 an5 : Option Addr} {sl5 : Array (Option Value)} {oc5 kV5 dc5 pm5 cd5 ct5 : Value}
    {f6 : Addr} {od6 an6 : Option Addr} {sl6 : Array (Option Value)} {oc6 kV6 dc6 pm6 cd6 ct6 : Value}
    {f7 : Addr} {od7 an7 : Option Addr} {sl7 : Array (Option Value)} {oc7 kV7 dc7 pm7 cd7 ct7 : Value}
    {T7 : Addr} {td7 : Option Addr} {ts7 : Array (Option Value)} {tn7 : Nat}
    {f8 : Addr} {od8 an8 : Option Addr} {sl8 : Array (Option Value)} {oc8 kV8 dc8 pm8 cd8 ct8 : Value}
    {f9 : Addr} {od9 an9 : Option Addr} {sl9 : Array (Option Value)} {oc9 kV9 dc9 pm9 cd9 ct9 : Value}
    {f10 : Addr} {od10 an10 : Option Addr} {sl10 : Array (Option Value)} {oc10 kV10 dc10 pm10 cd10 ct10 : Value}
    {f11 : Addr} {od11 an11 : Option Addr} {sl11 : Array (Option Value)} {oc11 kV11 dc11 pm11 cd11 ct11 : Value}
    {f12 : Addr} {od12 an12 : Option Addr} {sl12 : Array (Option Value)} {oc12 kV12 dc12 pm12 cd12 ct12 : Value}
    {f13 : Addr} {od13 an13 : Option Addr} {sl13 : Array (Option Value)} {oc13 kV13 dc13 pm13 cd13 ct13 : Value}
    {f14 : Addr} {od14 an14 : Option Addr} {sl14 : Array (Option Value)} {oc14 kV14 dc14 pm14 cd14 ct14 : Value}
    {f15 : Addr} {od15 an15 : Option Addr} {sl15 : Array (Option Value)} {oc15 kV15 dc15 pm15 cd15 ct15 : Value}
    {f16 : Addr} {od16 an16 : Option Addr} {sl16 : Array (Option Value)} {oc16 kV16 dc16 pm16 cd16 ct16 : Value}
    {f17 : Addr} {od17 an17 : Option Addr} {sl17 : Array (Option Value)} {oc17 kV17 dc17 pm17 cd17 ct17 : Value}
    {tk0 : Tok}
    (a0 : PySem.W.nsIn K mainGlobals "is_an_integer" = some (some (.ref f0))) (l0 : K.lookup f0 = some ⟨oc0, od0, .func (PySem.W.fnOf "is_an_integer" "is_an_integer" (defArgs s_is_an_integer) (defBody s_is_an_integer) (defScope s_is_an_integer) .none kV0 dc0 pm0 an0 cd0 ct0), sl0⟩) (c0 : PySem.W.codeIn K cd0 "is_an_integer" = true) (k0 : PySem.W.keepIn K (.ref f0) = true)
    (a1 : PySem.W.nsIn K mainGlobals "is_step" = some (some (.ref f1))) (l1 : K.lookup f1 = some ⟨oc1, od1, .func (PySem.W.fnOf "is_step" "is_step" (defArgs s_is_step) (defBody s_is_step) (defScope s_is_step) .none kV1 dc1 pm1 an1 cd1 ct1), sl1⟩) (c1 : PySem.W.codeIn K cd1 "is_step" = true) (k1 : PySem.W.keepIn K (.ref f1) = true)
    (a2 : PySem.W.nsIn K mainGlobals "is_event" = some (some (.ref f2))) (l2 : K.lookup f2 = some ⟨oc2, od2, .func (PySem.W.fnOf "is_event" "is_event" (defArgs s_is_event) (defBody s_is_event) (defScope s_is_event) .none kV2 dc2 pm2 an2 cd2 ct2), sl2⟩) (c2 : PySem.W.codeIn K cd2 "is_event" = true) (k2 : PySem.W.keepIn K (.ref f2) = true)
    (a3 : PySem.W.nsIn K mainGlobals "is_short_list" = some (some (.ref f3))) (l3 : K.lookup f3 = some ⟨oc3, od3, .func (PySem.W.fnOf "is_short_list" "is_short_list" (defArgs s_is_short_list) (defBody s_is_short_list) (defScope s_is_short_list) .none kV3 dc3 pm3 an3 cd3 ct3), sl3⟩) (c3 : PySem.W.codeIn K cd3 "is_short_list" = true) (k3 : PySem.W.keepIn K (.ref f3) = true)
    (a4 : PySem.W.nsIn K mainGlobals "takes_turn" = some (some (.ref f4))) (l4 : K.lookup f4 = some ⟨oc4, od4, .func (PySem.W.fnOf "takes_turn" "takes_turn" (defArgs s_takes_turn) (defBody s_takes_turn) (defScope s_takes_turn) .none kV4 dc4 pm4 an4 cd4 ct4), sl4⟩) (c4 : PySem.W.codeIn K cd4 "takes_turn" = true) (k4 : PySem.W.keepIn K (.ref f4) = true)
    (a5 : PySem.W.nsIn K mainGlobals "can_follow" = some (some (.ref f5))) (l5 : K.lookup f5 = some ⟨oc5, od5, .func (PySem.W.fnOf "can_follow" "can_follow" (defArgs s_can_follow) (defBody s_can_follow) (defScope s_can_follow) .none kV5 dc5 pm5 an5 cd5 ct5), sl5⟩) (c5 : PySem.W.codeIn K cd5 "can_follow" = true) (k5 : PySem.W.keepIn K (.ref f5) = true)
    (a6 : PySem.W.nsIn K mainGlobals "is_below" = some (some (.ref f6))) (l6 : K.lookup f6 = some ⟨oc6, od6, .func (PySem.W.fnOf "is_below" "is_below" (defArgs s_is_below) (defBody s_is_below) (defScope s_is_below) .none kV6 dc6 pm6 an6 cd6 ct6), sl6⟩) (c6 : PySem.W.codeIn K cd6 "is_below" = true) (k6 : PySem.W.keepIn K (.ref f6) = true)
    (a7 : PySem.W.nsIn K mainGlobals "check_record" = some (some (.ref f7))) (l7 : K.lookup f7 = some ⟨oc7, od7, .func (PySem.W.fnOf "check_record" "check_record" (defArgs s_check_record) (defBody s_check_record) (defScope s_check_record) (.ref T7) kV7 dc7 pm7 an7 cd7 ct7), sl7⟩) (c7 : PySem.W.codeIn K cd7 "check_record" = true) (k7 : PySem.W.keepIn K (.ref f7) = true) (u_7 : K.lookup T7 = some ⟨.type "tuple", td7, .seq #[.none] tn7, ts7⟩)
    (a8 : PySem.W.nsIn K mainGlobals "held_keys" = some (some (.ref f8))) (l8 : K.lookup f8 = some ⟨oc8, od8, .func (PySem.W.fnOf "held_keys" "held_keys" (defArgs s_held_keys) (defBody s_held_keys) (defScope s_held_keys) .none kV8 dc8 pm8 an8 cd8 ct8), sl8⟩) (c8 : PySem.W.codeIn K cd8 "held_keys" = true) (k8 : PySem.W.keepIn K (.ref f8) = true)
    (a9 : PySem.W.nsIn K mainGlobals "is_whole" = some (some (.ref f9))) (l9 : K.lookup f9 = some ⟨oc9, od9, .func (PySem.W.fnOf "is_whole" "is_whole" (defArgs s_is_whole) (defBody s_is_whole) (defScope s_is_whole) .none kV9 dc9 pm9 an9 cd9 ct9), sl9⟩) (c9 : PySem.W.codeIn K cd9 "is_whole" = true) (k9 : PySem.W.keepIn K (.ref f9) = true)
    (a10 : PySem.W.nsIn K mainGlobals "order_of" = some (some (.ref f10))) (l10 : K.lookup f10 = some ⟨oc10, od10, .func (PySem.W.fnOf "order_of" "order_of" (defArgs s_order_of) (defBody s_order_of) (defScope s_order_of) .none kV10 dc10 pm10 an10 cd10 ct10), sl10⟩) (c10 : PySem.W.codeIn K cd10 "order_of" = true) (k10 : PySem.W.keepIn K (.ref f10) = true)
    (a11 : PySem.W.nsIn K mainGlobals "lengths" = some (some (.ref f11))) (l11 : K.lookup f11 = some ⟨oc11, od11, .func (PySem.W.fnOf "lengths" "lengths" (defArgs s_lengths) (defBody s_lengths) (defScope s_lengths) .none kV11 dc11 pm11 an11 cd11 ct11), sl11⟩) (c11 : PySem.W.codeIn K cd11 "lengths" = true) (k11 : PySem.W.keepIn K (.ref f11) = true)
    (a12 : PySem.W.nsIn K mainGlobals "_law_spin" = some (some (.ref f12))) (l12 : K.lookup f12 = some ⟨oc12, od12, .func (PySem.W.fnOf "_law_spin" "_law_spin" (defArgs s__law_spin) (defBody s__law_spin) (defScope s__law_spin) .none kV12 dc12 pm12 an12 cd12 ct12), sl12⟩) (c12 : PySem.W.codeIn K cd12 "_law_spin" = true) (k12 : PySem.W.keepIn K (.ref f12) = true)
    (a13 : PySem.W.nsIn K mainGlobals "_law_reel" = some (some (.ref f13))) (l13 : K.lookup f13 = some ⟨oc13, od13, .func (PySem.W.fnOf "_law_reel" "_law_reel" (defArgs s__law_reel) (defBody s__law_reel) (defScope s__law_reel) .none kV13 dc13 pm13 an13 cd13 ct13), sl13⟩) (c13 : PySem.W.codeIn K cd13 "_law_reel" = true) (k13 : PySem.W.keepIn K (.ref f13) = true)
    (a14 : PySem.W.nsIn K mainGlobals "_law_record" = some (some (.ref f14))) (l14 : K.lookup f14 = some ⟨oc14, od14, .func (PySem.W.fnOf "_law_record" "_law_record" (defArgs s__law_record) (defBody s__law_record) (defScope s__law_record) .none kV14 dc14 pm14 an14 cd14 ct14), sl14⟩) (c14 : PySem.W.codeIn K cd14 "_law_record" = true) (k14 : PySem.W.keepIn K (.ref f14) = true)
    (a15 : PySem.W.nsIn K mainGlobals "_law_crowd" = some (some (.ref f15))) (l15 : K.lookup f15 = some ⟨oc15, od15, .func (PySem.W.fnOf "_law_crowd" "_law_crowd" (defArgs s__law_crowd) (defBody s__law_crowd) (defScope s__law_crowd) .none kV15 dc15 pm15 an15 cd15 ct15), sl15⟩) (c15 : PySem.W.codeIn K cd15 "_law_crowd" = true) (k15 : PySem.W.keepIn K (.ref f15) = true)
    (a16 : PySem.W.nsIn K mainGlobals "_law_right" = some (some (.ref f16))) (l16 : K.lookup f16 = some ⟨oc16, od16, .func (PySem.W.fnOf "_law_right" "_law_right" (defArgs s__law_right) (defBody s__law_right) (defScope s__law_right) .none kV16 dc16 pm16 an16 cd16 ct16), sl16⟩) (c16 : PySem.W.codeIn K cd16 "_law_right" = true) (k16 : PySem.W.keepIn K (.ref f16) = true)
    (a17 : PySem.W.nsIn K mainGlobals "law" = some (some (.ref f17))) (l17 : K.lookup f17 = some ⟨oc17, od17, .func (PySem.W.fnOf "law" "law" (defArgs s_law) (defBody s_law) (defScope s_law) .none kV17 dc17 pm17 an17 cd17 ct17), sl17⟩) (c17 : PySem.W.codeIn K cd17 "law" = true) (k17 : PySem.W.keepIn K (.ref f17) = true)
    (v0 : PySem.W.nsIn K mainGlobals "MOST_EVENTS" = some (some (.int 400 tk0)))
    (z0 : PySem.W.nsIn K mainGlobals "len" = some none)
    (z1 : PySem.W.nsIn K mainGlobals "abs" = some none)
    (z2 : PySem.W.nsIn K mainGlobals "max" = some none)
    (z3 : PySem.W.nsIn K mainGlobals "repr" = some none)
    (z4 : PySem.W.nsIn K mainGlobals "sorted" = some none)
    (z5 : PySem.W.nsIn K mainGlobals "isinstance" = some none)
    (z6 : PySem.W.nsIn K mainGlobals "all" = some none)
    (z7 : PySem.W.nsIn K mainGlobals "list" = some none)
    (z8 : PySem.W.nsIn K mainGlobals "tuple" = some none)
    (z9 : PySem.W.nsIn K mainGlobals "int" = some none)
    (z10 : PySem.W.nsIn K mainGlobals "bool" = some none)
    (z11 : PySem.W.nsIn K mainGlobals "str" = some none)
    (z12 : PySem.W.nsIn K mainGlobals "range" = some none)
    (z13 : PySem.W.nsIn K mainGlobals "enumerate" = some none)
    (z14 : PySem.W.nsIn K mainGlobals "zip" = some none)
    (z15 : PySem.W.nsIn K mainGlobals "min" = some none)
    (z16 : PySem.W.nsIn K mainGlobals "set" = some none) :
    ∃ fd : FuncData, (∀ (s : Shared) (u : Value), BindsTo s fd ⟨[u], []⟩ [("_law_script", u)]) ∧ ∀ base : Heap, K.In base → base.Ns mainGlobals mg → FnG l.prog w K mg base 7 fa fd ["_law_script"] (spLaw K) := by
  have e := hfa.symm.trans (PySem.W.mg_of X G a17)
  cases e
  have A_is_an_integer : At K mg "is_an_integer" s_is_an_integer ["value"] := at_mk X G a0 l0 c0 k0 fun _ _ _ _ _ _ us hl => match us, hl with | [_], _ => rfl
  have A_is_step : At K mg "is_step" s_is_step ["value"] := at_mk X G a1 l1 c1 k1 fun _ _ _ _ _ _ us hl => match us, hl with | [_], _ => rfl
  have A_is_event : At K mg "is_event" s_is_event ["value"] := at_mk X G a2 l2 c2 k2 fun _ _ _ _ _ _ us hl => match us, hl with | [_], _ => rfl
  have A_is_short_list : At K mg "is_short_list" s_is_short_list ["value"] := at_mk X G a3 l3 c3 k3 fun _ _ _ _ _ _ us hl => match us, hl with | [_], _ => rfl
  have A_takes_turn : At K mg "takes_turn" s_takes_turn ["held", "key", "way"] := at_mk X G a4 l4 c4 k4 fun _ _ _ _ _ _ us hl => match us, hl with | [_, _, _], _ => rfl
  have A_can_follow : At K mg "can_follow" s_can_follow ["event", "last", "held"] := at_mk X G a5 l5 c5 k5 fun _ _ _ _ _ _ us hl => match us, hl with | [_, _, _], _ => rfl
  have A_is_below : At K mg "is_below" s_is_below ["key", "many"] := at_mk X G a6 l6 c6 k6 fun _ _ _ _ _ _ us hl => match us, hl with | [_, _], _ => rfl
  have A_check_record : AtX K mg "check_record" s_check_record ["value", "many"] [.none] := atX_less X G a7 l7 c7 k7 u_7 fun _ _ _ _ _ _ _ us its hl hi => match us, its, hl, hi with | [_], [_], _, _ => ⟨_, rfl, rfl⟩
  have A_held_keys : At K mg "held_keys" s_held_keys ["record"] := at_mk X G a8 l8 c8 k8 fun _ _ _ _ _ _ us hl => match us, hl with | [_], _ => rfl
  have A_is_whole : At K mg "is_whole" s_is_whole ["record"] := at_mk X G a9 l9 c9 k9 fun _ _ _ _ _ _ us hl => match us, hl with | [_], _ => rfl
  have A_order_of : At K mg "order_of" s_order_of ["record"] := at_mk X G a10 l10 c10 k10 fun _ _ _ _ _ _ us hl => match us, hl with | [_], _ => rfl
  have A_lengths : At K mg "lengths" s_lengths ["record"] := at_mk X G a11 l11 c11 k11 fun _ _ _ _ _ _ us hl => match us, hl with | [_], _ => rfl
  have A__law_spin : At K mg "_law_spin" s__law_spin ["_law_reel_here", "_law_size"] := at_mk X G a12 l12 c12 k12 fun _ _ _ _ _ _ us hl => match us, hl with | [_, _], _ => rfl
  have A__law_reel : At K mg "_law_reel" s__law_reel ["_law_script", "_law_index"] := at_mk X G a13 l13 c13 k13 fun _ _ _ _ _ _ us hl => match us, hl with | [_, _], _ => rfl
  have A__law_record : At K mg "_law_record" s__law_record ["_law_reel_here", "_law_keys", "_law_size", "_law_gaps"] := at_mk X G a14 l14 c14 k14 fun _ _ _ _ _ _ us hl => match us, hl with | [_, _, _, _], _ => rfl
  have A__law_crowd : At K mg "_law_crowd" s__law_crowd ["_law_reel_here"] := at_mk X G a15 l15 c15 k15 fun _ _ _ _ _ _ us hl => match us, hl with | [_], _ => rfl
  have A__law_right : At K mg "_law_right" s__law_right ["_law_record_here"] := at_mk X G a16 l16 c16 k16 fun _ _ _ _ _ _ us hl => match us, hl with | [_], _ => rfl
  have A_law : At K mg "law" s_law ["_law_script"] := at_mk X G a17 l17 c17 k17 fun _ _ _ _ _ _ us hl => match us, hl with | [_], _ => rfl
  have m_MOST_EVENTS := PySem.W.mg_of X G v0
  have bt : Bt mg := ⟨PySem.W.mg_none_of X G z0, PySem.W.mg_none_of X G z1, PySem.W.mg_none_of X G z2, PySem.W.mg_none_of X G z3, PySem.W.mg_none_of X G z4, PySem.W.mg_none_of X G z5, PySem.W.mg_none_of X G z6, PySem.W.mg_none_of X G z7, PySem.W.mg_none_of X G z8, PySem.W.mg_none_of X G z9, PySem.W.mg_none_of X G z10, PySem.W.mg_none_of X G z11, PySem.W.mg_none_of X G z12, PySem.W.mg_none_of X G z13, PySem.W.mg_none_of X G z14, PySem.W.mg_none_of X G z15, PySem.W.mg_none_of X G z16⟩
  refine ⟨PySem.W.fnOf "law" "law" (defArgs s_law) (defBody s_law) (defScope s_law) .none kV17 dc17 pm17 an17 cd17 ct17, fun s u => .of_eq rfl, fun base _ _ => ?_⟩
  have C1 := ok_is_an_integer (P := l.prog) (w := w) (base := base) bt A_is_an_integer
  have C2 := ok_is_step bt A_is_step C1
  have C3 := ok_is_event bt A_is_event C1 C2
  have C4 := ok_is_short_list (P := l.prog) (w := w) (base := base) bt _ m_MOST_EVENTS A_is_short_list
  have C5 := ok_takes_turn (P := l.prog) (w := w) (base := base) A_takes_turn
  have C5b := ok_is_below (P := l.prog) (w := w) (base := base) A_is_below
  have C5c := ok_can_follow A_can_follow C5
  have C6 := ok_check_record bt A_check_record C4 C3 C5c C5b
  have C7 := ok_held_keys (P := l.prog) (w := w) (base := base) bt A_held_keys
  have C8 := ok_is_whole bt A_is_whole C6 C7
  have C9 := ok_order_of bt A_order_of C6
  have C10 := ok_lengths bt A_lengths C6
  have D1 := ok__law_spin (P := l.prog) (w := w) (base := base) A__law_spin
  have D2 := ok__law_reel (P := l.prog) (w := w) (base := base) bt A__law_reel
  have D3 := ok__law_record bt A__law_record D1
  have D4 := ok__law_crowd bt A__law_crowd D1
  have D5 := ok__law_right bt A__law_right C8 C9 C10
  exact ok_law bt (fun_mk l17 c17 k17) D2 D1 D3 D4 D5 C10
end K06
open PySem PySem.W PyProof.Rows
set_option maxHeartbeats 0 in
theorem PySem.Challenge.cw_holdtap_k06_orders_and_lengths_holds : PySem.Challenge.rw_holdtap_k06_orders_and_lengths.Holds := by
  w_on; o_law; k_head; (case hw => w_witness2)
  k_fill
  refine Gd.walkG (l := PySem.Challenge.rw_holdtap_k06_orders_and_lengths) (n := 63) (k := 7) (x := "_law_script") (sp := fun K => K06.spLaw K) rfl (by decide) rfl ⟨rfl, by decide, by decide⟩ (fun w h Y => PySem.W.kIn_of Y) ?F (fun _ _ a ns hl hS => ⟨a, ns, rfl, hS, hl, fun _ => rfl⟩)
  case F =>
    intro w mg fa h KX G hmg
    refine' K06.all_mk KX G hmg ?a0 ?l0 ?c0 ?k0 ?a1 ?l1 ?c1 ?k1 ?a2 ?l2 ?c2 ?k2 ?a3 ?l3 ?c3 ?k3 ?a4 ?l4 ?c4 ?k4 ?a5 ?l5 ?c5 ?k5 ?a6 ?l6 ?c6 ?k6 ?a7 ?l7 ?c7 ?k7 ?u_7 ?a8 ?l8 ?c8 ?k8 ?a9 ?l9 ?c9 ?k9 ?a10 ?l10 ?c10 ?k10 ?a11 ?l11 ?c11 ?k11 ?a12 ?l12 ?c12 ?k12 ?a13 ?l13 ?c13 ?k13 ?a14 ?l14 ?c14 ?k14 ?a15 ?l15 ?c15 ?k15 ?a16 ?l16 ?c16 ?k16 ?a17 ?l17 ?c17 ?k17 ?v0 ?z0 ?z1 ?z2 ?z3 ?z4 ?z5 ?z6 ?z7 ?z8 ?z9 ?z10 ?z11 ?z12 ?z13 ?z14 ?z15 ?z16
    (case a0 => k_is); (case l0 => k_is); (case c0 => k_is); (case k0 => k_is); (case a1 => k_is); (case l1 => k_is); (case c1 => k_is); (case k1 => k_is); (case a2 => k_is); (case l2 => k_is); (case c2 => k_is); (case k2 => k_is); (case a3 => k_is); (case l3 => k_is); (case c3 => k_is); (case k3 => k_is); (case a4 => k_is); (case l4 => k_is); (case c4 => k_is); (case k4 => k_is); (case a5 => k_is); (case l5 => k_is); (case c5 => k_is); (case k5 => k_is); (case a6 => k_is); (case l6 => k_is); (case c6 => k_is); (case k6 => k_is); (case a7 => k_is); (case l7 => k_is); (case c7 => k_is); (case k7 => k_is); (case u_7 => k_is); (case a8 => k_is); (case l8 => k_is); (case c8 => k_is); (case k8 => k_is); (case a9 => k_is); (case l9 => k_is); (case c9 => k_is); (case k9 => k_is); (case a10 => k_is); (case l10 => k_is); (case c10 => k_is); (case k10 => k_is); (case a11 => k_is); (case l11 => k_is); (case c11 => k_is); (case k11 => k_is); (case a12 => k_is); (case l12 => k_is); (case c12 => k_is); (case k12 => k_is); (case a13 => k_is); (case l13 => k_is); (case c13 => k_is); (case k13 => k_is); (case a14 => k_is); (case l14 => k_is); (case c14 => k_is); (case k14 => k_is); (case a15 => k_is); (case l15 => k_is); (case c15 => k_is); (case k15 => k_is); (case a16 => k_is); (case l16 => k_is); (case c16 => k_is); (case k16 => k_is); (case a17 => k_is); (case l17 => k_is); (case c17 => k_is); (case k17 => k_is); (case v0 => k_is); (case z0 => k_is); (case z1 => k_is); (case z2 => k_is); (case z3 => k_is); (case z4 => k_is); (case z5 => k_is); (case z6 => k_is); (case z7 => k_is); (case z8 => k_is); (case z9 => k_is); (case z10 => k_is); (case z11 => k_is); (case z12 => k_is); (case z13 => k_is); (case z14 => k_is); (case z15 => k_is); (case z16 => k_is)

